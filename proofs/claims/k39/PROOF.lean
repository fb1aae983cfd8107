import PyProof.Rows.All
import Wide.All
import OpenK.AllK
import Wide.FinOn
import Lean
import PyProof.EqAt
import PyProof.EqKinds
import PyProof.TupleCall
import KE.KIntText
import PyProof.StrCalls2
import PyProof.StrLawsTight
import PyProof.StrLawsChain
import PyProof.Rows.Range3
import KE.KTryMore
import PyProof.NsDelKeeps
import PyProof.ExcBaseAll.ValueError
import PySem.Challenge.RW_slowshift_k39_tables_of_states
set_option Elab.async false
set_option linter.all false
set_option maxRecDepth 100000
set_option genSizeOf false
set_option genSizeOfSpec false
set_option genInjectivity false
set_option maxHeartbeats 4000000
noncomputable section
namespace L2
open PySem PySem.Spec PyProof.Rows
abbrev Key:=Sum Int Str
def hX:Key->Value->Bool
 | .inl k,v=>Value.isInt k v
 | .inr x,v=>Value.isStrOf x v
def Cq(w:World):Key->Int
 | .inl k=>hashInt k
 | .inr x=>hashStr w x
theorem br:∀{k:Key}{v:Value},hX k v=true->(∃ i t,k=Sum.inl i/\v=Value.int i t)∨(∃ x t,k=Sum.inr x/\v=Value.str x t)
 | .inl i,v,h=>by
   obtain⟨t,e⟩:=Value.isInt_shape (k:=i) (v:=v) h;exact .inl ⟨i,t,rfl,e⟩
 | .inr x,v,h=>by
   obtain⟨t,e⟩:=Value.isStrOf_shape (x:=x) (v:=v) h;exact .inr ⟨x,t,rfl,e⟩
theorem pV(i:Int)(t:Tok):hX (.inl i) (.int i t)=true:=by simp[hX,Value.isInt]
theorem qp(x:Str)(t:Tok):hX (.inr x) (.str x t)=true:=by simp[hX,Value.isStrOf]
theorem yK(a b:Int):decide ((Sum.inl a:Key)=Sum.inl b)=(a == b):=by
 by_cases e:a=b
 . subst e;simp
 have h:¬ (Sum.inl a:Key)=Sum.inl b:=fun q=>e (Sum.inl.inj q);rw[decide_eq_false h];exact(beq_eq_false_iff_ne.mpr e).symm
theorem yM(a b:Str):decide ((Sum.inr a:Key)=Sum.inr b)=decide (a=b):=by
 by_cases e:a=b
 . subst e;simp
 have h:¬ (Sum.inr a:Key)=Sum.inr b:=fun q=>e (Sum.inr.inj q);rw[decide_eq_false h,decide_eq_false e]
theorem yo(a:Int)(b:Str):decide ((Sum.inl a:Key)=Sum.inr b)=false:=decide_eq_false (fun q=>nomatch q)
theorem xx(a:Str)(b:Int):decide ((Sum.inr a:Key)=Sum.inl b)=false:=decide_eq_false (fun q=>nomatch q)
def aO(prog:Program)(w:World):PySem.KeyKind prog w Key where
 is:=hX
 hash:=Cq w
 inj:=fun v a b ha hb=>by
  rcases br ha with ⟨i,t,rfl,rfl⟩ | ⟨x,t,rfl,rfl⟩
  . rcases br hb with ⟨j,u,rfl,e⟩ | ⟨y,u,rfl,e⟩
    . injection e with e1 _;rw[e1]
    exact nomatch e
  rcases br hb with ⟨j,u,rfl,e⟩ | ⟨y,u,rfl,e⟩
  . exact nomatch e
  injection e with e1 _;rw[e1]
 byValue:=fun k v h=>by
  rcases br h with ⟨i,t,rfl,rfl⟩ | ⟨x,t,rfl,rfl⟩ <;> rfl
 pyHash:=fun hv h=>by
  rcases br hv with ⟨i,t,rfl,rfl⟩ | ⟨x,t,rfl,rfl⟩
  . exact wpAny_pyHash_int h
  exact wpAny_pyHash_str h
 eqBool:=fun hu hv h=>by
  rcases br hu with ⟨i,t,rfl,rfl⟩ | ⟨x,t,rfl,rfl⟩
  . rcases br hv with ⟨j,u,rfl,rfl⟩ | ⟨y,u,rfl,rfl⟩
    . rw[yK]at h;exact wpAny_eqBool_int h
    rw[yo]at h;exact SeqAt.EqAt.int_str i t y u _ _ _ _ h
  rcases br hv with ⟨j,u,rfl,rfl⟩ | ⟨y,u,rfl,rfl⟩
  . rw[xx]at h;exact SeqAt.EqAt.str_int x t j u _ _ _ _ h
  rw[yM]at h;exact wpAny_eqBool_str h
 «strs»:=fun k x t v h=>by
  rcases br h with ⟨i,u,rfl,e⟩ | ⟨y,u,rfl,e⟩
  . exact nomatch e
  injection e with e1 _;subst e1;cases v <;> rfl
theorem h_(prog:Program)(w:World)(i:Int)(t:Tok):(aO prog w).is (.inl i) (.int i t)=true:=pV i t
theorem mU(prog:Program)(w:World)(x:Str)(t:Tok):(aO prog w).is (.inr x) (.str x t)=true:=qp x t
end L2
namespace L2
open PySem PySem.Spec PyProof.Rows
set_option genInjectivity true in
inductive V where
 | non | bl (b:Bool) | int (i:Int) | str (x:Str) | byt (b:Array UInt8) | flt (b:UInt64) | ref (a:Addr) | ty (n:String)
 deriving DecidableEq
def aI:V->Value->Prop
 | .non,u=>u=Value.none
 | .bl b,u=>u=Value.bool b
 | .int i,u=>∃ t,u=Value.int i t
 | .str x,u=>∃ t,u=Value.str x t
 | .byt b,u=>∃ t,u=Value.bytes b t
 | .flt b,u=>∃ t,u=Value.float b t
 | .ref a,u=>u=Value.ref a
 | .ty n,u=>u=Value.type n
abbrev aC:List V->List Value->Prop:=Paired aI
theorem aC.length{xs:List V}{us:List Value}(r:aC xs us):xs.length=us.length:=Paired.length r
theorem aC.get:∀{xs:List V}{us:List Value}{i:Nat}{x:V},aC xs us->xs[i]?=some x -> ∃ u,us[i]?=some u/\aI x u
 | _,_,_,_,.nil,e=>by simp at e
 | _,_,0,_,.cons r _,e=>by simp at e;subst e;exact⟨_,rfl,r⟩
 | _,_,i+1,x,.cons _ t,e=>by
   obtain⟨u,h1,h2⟩:=aC.get (i:=i) (x:=x) t (by simpa using e)
   exact⟨u,by simpa using h1,h2⟩
theorem aC.set{x:V}{u:Value}(r:aI x u):∀{xs:List V}{us:List Value} (i:Nat),aC xs us->aC (xs.set i x) (us.set i u)
 | _,_,_,.nil=>.nil
 | _,_,0,.cons _ t=>.cons r t
 | _,_,i+1,.cons q t=>.cons q (aC.set r i t)
theorem aC.append:∀{xs ys:List V}{us ws:List Value},aC xs us->aC ys ws->aC (xs++ys) (us++ws)
 | _,_,_,_,.nil,s=>s
 | _,_,_,_,.cons r t,s=>.cons r (aC.append t s)
theorem aC.take:∀{xs:List V}{us:List Value} (n:Nat),aC xs us->aC (xs.take n) (us.take n)
 | _,_,0,_=>.nil
 | _,_,_+1,.nil=>.nil
 | _,_,n+1,.cons r t=>.cons r (aC.take n t)
theorem aC.drop:∀{xs:List V}{us:List Value} (n:Nat),aC xs us->aC (xs.drop n) (us.drop n)
 | _,_,0,r=>r
 | _,_,_+1,.nil=>.nil
 | _,_,n+1,.cons _ t=>aC.drop n t
def eK:Option V->Option Value->Prop
 | some v,some u=>aI v u
 | none,none=>True
 | _,_=>False
def KV{κ:Type}:List (κ × V)->List (κ × Value)->Prop:=Paired fun(p:κ × V) (q:κ × Value)=>p.1=q.1/\aI p.2 q.2
def kV:Key->V
 | .inl i=>.int i
 | .inr x=>.str x
inductive HO where
 | lst (xs:List V)
 | tup (xs:List V)
 | dK (kvs:List (Key×V)) | dT (kvs:List (List Key×V))
 | set (S:Int->Bool) (n:Nat)
 | ins (C dx:Addr) (fs:List (Str×V))
 | own (x:Addr)
 | xd (fs:List (Str×V))
 | met (f x:Addr)
 | rng (lo hi:Int)
 | frz (o:Obj) (u:HO)
 | tbl (ps:Array Value)
 | ext (φ:Heap->Prop)
abbrev Hp:=Addr->Option HO
def upd(H:Hp)(a:Addr)(o:HO):Hp:=fun b=>if b=a then some o else H b
theorem aa{H:Hp}{a:Addr}{o:HO}:upd H a o a=some o:=by unfold upd;rw[if_pos rfl]
theorem ag{H:Hp}{a b:Addr}{o:HO}(h:b≠a):upd H a o b=H b:=by unfold upd;rw[if_neg h]
theorem iz{H:Hp}{a:Addr}{o u:HO}:upd (upd H a o) a u=upd H a u:=by
 funext b;unfold upd;split <;> rfl
theorem aA{H:Hp}{a b:Addr}{o u:HO}(h:H a=some o)(h':H b=some u)(d:o≠u):a≠b:=by
 intro e;subst e;rw[h]at h';exact d (Option.some.inj h')
theorem ai{H:Hp}{a b:Addr}{o:HO}(h:H a=some o)(h':H b=none):a≠b:=by
 intro e;subst e;rw[h]at h';cases h'
section
variable(P:Program)(w:World)
def a_(H:Hp)(h:Heap)(a:Addr):HO->Prop
 | .lst xs=>xs.length<=sizeLine /\ ∃(its:List Value) (n:Nat),aC xs its/\h.get? a=some { cls:=.type "list",data:=.seq its.toArray n }
 | .tup xs=>xs.length<=sizeLine /\ ∃ its:List Value,aC xs its/\IsTup h a its.toArray
 | .dK kvs=>kvs.length<=sizeLine/\(a == sysModules)=false /\ ∃ vs,KV kvs vs/\h.DictOf (aO P w) a vs
 | .dT kvs=>kvs.length<=sizeLine/\(a == sysModules)=false /\ ∃ xs:List (List Key×Addr×Value),
  Paired (fun(p:List Key×V) (q:List Key×Addr×Value)=>p.1=q.1/\H q.2.1=some (.tup (p.1.map kV))/\aI p.2 q.2.2) kvs xs /\
  ∃ o es ep,h.get? a=some o/\o.ExactDict/\o.data=.dict es ep/\es.toList=xs.map (entryOfKey (tupleKind (aO P w)))/\(xs.map (·.1)).Nodup
 | .set S n=>h.SetOf (intKind P w) a S n
 | .ins C dx fs=>H dx=some (.own a)/\fs.length<=1000/\dx≠a/\h.get? a=some (W.instObj C dx) /\
  ∃ mA,h.Ns1 dx mA/\(∀ f,eK (fs.lookup f) (mA f))/\PySem.Within mA (fs.map (·.1))
 | .own _=>∃ o,h.get? a=some o
 | .xd fs=>∃ mA,h.Ns1 a mA /\ ∀ f,eK (fs.lookup f) (mA f)
 | .rng lo hi=>∃ t u v,h.get? a=some { cls:=.type "range",data:=.fields #[.int lo t,.int hi u,.int 1 v] }
 | .frz o u=>h.get? a=some o/\a_ H h a u
 | .tbl ps=>h.get? a=some { cls:=.none,data:=.fields ps }
 | .met f x=>h.get? a=some (W.methodObj (.ref f) (.ref x))
 | .ext φ=>φ h/\(∃ o,h.get? a=some o) /\ ∀ h1 h2:Heap,φ h1->(∀ o,h1.get? a=some o->h2.get? a=some o) -> φ h2
def HOk(H:Hp)(h:Heap):Prop:=∀ a o,H a=some o->a_ P w H h a o
end
section
variable{P:Program}{w:World}{H H':Hp}{h h':Heap}{a:Addr}{o:HO}
theorem a_.lt(x:a_ P w H h a o):a < h.objs.size:=by
 cases o with
 | lst xs=>obtain⟨_,_,_,_,e⟩:=x;exact Heap.lt_size e
 | tup xs=>obtain⟨_,_,_,p⟩:=x;exact p.lt
 | dK kvs=>obtain⟨_,_,_,_,o,_,_,e,_⟩:=x;exact Heap.lt_size e
 | dT kvs=>obtain⟨_,_,_,_,o,_,_,e,_⟩:=x;exact Heap.lt_size e
 | set S n=>obtain⟨o,_,_,_,e,_⟩:=x;exact Heap.lt_size e
 | ins C dx fs=>obtain⟨_,_,_,e,_⟩:=x;exact Heap.lt_size e
 | own y=>obtain⟨_,e⟩:=x;exact Heap.lt_size e
 | xd fs=>obtain⟨_,⟨_,_,_,e,_⟩,_⟩:=x;exact Heap.lt_size e
 | rng lo hi=>obtain⟨_,_,_,e⟩:=x;exact Heap.lt_size e
 | frz ob u=>obtain⟨e,_⟩:=x;exact Heap.lt_size e
 | tbl ps=>exact Heap.lt_size (show h.get? a=some _ from x)
 | met f y=>exact Heap.lt_size (show h.get? a=some _ from x)
 | ext φ=>obtain⟨_,⟨_,e⟩,_⟩:=x;exact Heap.lt_size e
theorem Paired.mapP{α β:Type}{F G:α -> β -> Prop}:∀{l₁:List α}{l₂:List β},Paired F l₁ l₂ -> (∀ a b,F a b->G a b)->Paired G l₁ l₂
 | _,_,.nil,_=>.nil
 | _,_,.cons r t,f=>.cons (f _ _ r) (Paired.mapP t f)
theorem a_.stay(x:a_ P w H h a o)(k:∀ b u,(b=a∨H b=some (.own a))->h.get? b=some u->h'.get? b=some u)
 (ho:∀ b,H b=some (.own a)->H' b=some (.own a)) (ht:∀ b xs,H b=some (.tup xs)->H' b=some (.tup xs)):a_ P w H' h' a o:=by
 induction o with
 | lst xs=>obtain⟨z,its,n,r,e⟩:=x;exact⟨z,its,n,r,k _ _ (.inl rfl) e⟩
 | tup xs=>obtain⟨z,its,r,ob,e,c⟩:=x;exact⟨z,its,r,ob,k _ _ (.inl rfl) e,c⟩
 | dK kvs=>obtain⟨z,y,vs,r,ob,es,ep,e,c⟩:=x;exact⟨z,y,vs,r,ob,es,ep,k _ _ (.inl rfl) e,c⟩
 | dT kvs=>
   obtain⟨z,y,xs,r,ob,es,ep,e,c⟩:=x;exact⟨z,y,xs,Paired.mapP r fun p q z=>⟨z.1,ht _ _ z.2.1,z.2.2⟩,ob,es,ep,k _ _ (.inl rfl) e,c⟩
 | set S n=>obtain⟨ob,es,ep,t,e,c⟩:=x;exact⟨ob,es,ep,t,k _ _ (.inl rfl) e,c⟩
 | ins C dx fs=>
   obtain⟨d,z,ne,e,mA,⟨od,es,ep,e2,c⟩,r⟩:=x;exact⟨ho _ d,z,ne,k _ _ (.inl rfl) e,mA,⟨od,es,ep,k _ _ (.inr d) e2,c⟩,r⟩
 | own y=>obtain⟨ob,e⟩:=x;exact⟨ob,k _ _ (.inl rfl) e⟩
 | xd fs=>obtain⟨mA,⟨od,es,ep,e,c⟩,r⟩:=x;exact⟨mA,⟨od,es,ep,k _ _ (.inl rfl) e,c⟩,r⟩
 | rng lo hi=>obtain⟨t,u,v,e⟩:=x;exact⟨t,u,v,k _ _ (.inl rfl) e⟩
 | frz ob u ih=>obtain⟨e,q⟩:=x;exact⟨k _ _ (.inl rfl) e,ih q⟩
 | tbl ps=>
   have e:h.get? a=some { cls:=.none,data:=.fields ps }:=x;show h'.get? a=some { cls:=.none,data:=.fields ps };exact k a _ (.inl rfl) e
 | met f y=>
   have e:h.get? a=some (W.methodObj (.ref f) (.ref y)):=x;show h'.get? a=some (W.methodObj (.ref f) (.ref y));exact k a _ (.inl rfl) e
 | ext φ=>obtain⟨p,⟨o,e⟩,st⟩:=x;exact⟨st _ _ p fun o q=>k _ _ (.inl rfl) q,⟨o,k _ _ (.inl rfl) e⟩,st⟩
theorem HOk.lt(x:HOk P w H h)(e:H a=some o):a < h.objs.size:=(x a o e).lt
theorem HOk.fresh(x:HOk P w H h)(e:h.objs.size<=a):H a=none:=by
 cases q:H a with
 | none=>rfl
 | some u=>exact absurd (Nat.lt_of_lt_of_le (x.lt q) e) (Nat.lt_irrefl _)
theorem HOk.kept(x:HOk P w H h)(k:∀ b u,h.get? b=some u->h'.get? b=some u):HOk P w H h':=fun a o e=>
 (x a o e).stay (fun b u _ q=>k b u q) (fun _ q=>q) fun _ _ q=>q
theorem HOk.laid(x:HOk P w H h)(k:∀ b u,h.get? b=some u->h'.get? b=some u)(hp:h.objs.size<=a)(new:a_ P w (upd H a o) h' a o):HOk P w (upd H a o) h':=fun b u e=>by
 have hn:=x.fresh hp;by_cases hb:b=a
 . subst hb;rw[aa]at e;cases e;exact new
 rw[ag hb]at e;exact(x b u e).stay (fun c v _ q=>k c v q) (fun c q=>by rw[ag (ai q hn)];exact q) fun c xs q=>by rw[ag (ai q hn)];exact q
end
def Rd(H:Hp)(a:Addr)(u:HO):Prop:=H a=some u ∨ ∃ o,H a=some (.frz o u)
theorem Rd.ok{P:Program}{w:World}{H:Hp}{h:Heap}{a:Addr}{u:HO}(r:Rd H a u)(x:HOk P w H h):a_ P w H h a u:=by
 rcases r with r | ⟨o,r⟩
 . exact x a u r
 obtain⟨_,q⟩:=x a _ r;exact q
def Mut:Option HO->Prop
 | some (.lst _)=>True
 | some (.dK _)=>True
 | some (.dT _)=>True
 | some (.set _ _)=>True
 | some (.ins _ _ _)=>True
 | some (.ext _)=>True
 | _=>False
section
variable{P:Program}{w:World}{H:Hp}{h h':Heap}{x e:Addr}{o':HO}
theorem HOk.write(ok:HOk P w H h)(mu:Mut (H x))(he:e=x∨H e=some (.own x))(k:∀ b u,b≠e->h.get? b=some u->h'.get? b=some u)(heo:∃ u,h'.get? e=some u)
 (new:a_ P w (upd H x o') h' x o'):HOk P w (upd H x o') h':=fun b u q=>by
 have nown:∀ c y,H c=some (.own y)->c≠x:=fun c y r z=>by subst z;rw[r]at mu;exact mu
 have ntup:∀ c xs,H c=some (.tup xs)->c≠x:=fun c xs r z=>by subst z;rw[r]at mu;exact mu
 by_cases hb:b=x
 . subst hb;rw[aa]at q;cases q;exact new
 rw[ag hb]at q;by_cases hbe:b=e
 . have q':H b=some (.own x):=by
    rcases he with z | z
    . exact absurd (hbe.trans z) hb
    rw[hbe];exact z
   rw[q]at q';cases q';obtain⟨v,hv⟩:=heo;exact⟨v,by rw[hbe];exact hv⟩
 refine(ok b u q).stay (fun c v hc r=>k c v ?_ r) (fun c r=>by rw[ag (nown c b r)];exact r) fun c xs r=>by rw[ag (ntup c xs r)];exact r
 rcases hc with rfl | hc
 . exact hbe
 rintro rfl;rcases he with z | z
 . exact nown c b hc z
 rw[hc]at z;cases z;exact hb rfl
end
structure Un(fs ex:List Addr)(H H':Hp)(h h':Heap):Prop where
 keep:∀ b o,h.get? b=some o->H b=none->b∉fs->b∉ex->h'.get? b=some o
 slot:∀ b o,h.get? b=some o->H b=none->b∈fs->b∉ex -> ∃ sl,h'.get? b=some { o with slots:=sl }
 free:∀ b o,h.get? b=some o->H b=none->b∉ex->H' b=none
 there:∀ b o,h.get? b=some o->b∉ex -> ∃ o',h'.get? b=some o'
 tups:∀ b xs,H b=some (.tup xs)->H' b=some (.tup xs)
 frzs:∀ b o u,H b=some (.frz o u)->H' b=some (.frz o u)
 tbls:∀ b ps,H b=some (.tbl ps) -> ∃ more,H' b=some (.tbl (ps++more))
section
variable{fs fs' ex ex':List Addr}{H H1 H2:Hp}{h h1 h2 h':Heap}{a x e:Addr}{o:HO}
theorem Un.any(u:Un fs ex H H1 h h1){b:Addr}{ob:Obj}(q:h.get? b=some ob)(n:H b=none)(hx:b∉ex):∃ sl,h1.get? b=some { ob with slots:=sl }:=by
 by_cases hb:b∈fs
 . exact u.slot b ob q n hb hx
 exact⟨ob.slots,u.keep b ob q n hb hx⟩
theorem Un.kept(k:∀ b u,h.get? b=some u->h'.get? b=some u):Un fs ex H H h h':=
 ⟨fun b ob q _ _ _=>k b ob q,fun b ob q _ _ _=>⟨ob.slots,k b ob q⟩,fun _ _ _ n _=>n,fun b ob q _=>⟨ob,k b ob q⟩,fun _ _ q=>q,fun _ _ _ q=>q,fun _ ps q=>⟨#[],by rw[q];simp⟩⟩
theorem Un.refl:Un fs ex H H h h:=Un.kept fun _ _ q=>q
theorem Un.laid(k:∀ b u,h.get? b=some u->h'.get? b=some u)(hp:h.objs.size<=a)(hn:H a=none):Un fs ex H (upd H a o) h h' where
 keep:=fun b u q _ _ _=>k b u q
 slot:=fun b u q _ _ _=>⟨u.slots,k b u q⟩
 free:=fun b u q n _=>by rw[ag (Nat.ne_of_lt (Nat.lt_of_lt_of_le (Heap.lt_size q) hp))];exact n
 there:=fun b u q _=>⟨u,k b u q⟩
 tups:=fun b xs q=>by rw[ag (ai q hn)];exact q
 frzs:=fun b u xs q=>by rw[ag (ai q hn)];exact q
 tbls:=fun b ps q=>⟨#[],by rw[ag (ai q hn),q];simp⟩
theorem Un.write(mu:Mut (H x))(he:e=x∨H e=some (.own x))(k:∀ b u,b≠e->h.get? b=some u->h'.get? b=some u)(heo:∃ u,h'.get? e=some u):Un fs ex H (upd H x o) h h':=by
 have hx:∀ b,H b=none->b≠x:=fun b n z=>by subst z;rw[n]at mu;exact mu
 have hb:∀ b,H b=none->b≠e:=fun b n z=>by
  subst z;rcases he with r | r
  . exact hx b n r
  rw[n]at r;cases r
 have hm:∀ b u,H b=some u -> ¬ Mut (some u)->b≠x:=fun b u q nm z=>by subst z;rw[q]at mu;exact nm mu
 refine⟨fun b u q n _ _=>k b u (hb b n) q,fun b u q n _ _=>⟨u.slots,k b u (hb b n) q⟩,fun b u q n _=>by rw[ag (hx b n)];exact n,fun b u q _=>?_,
  fun b xs q=>by rw[ag (hm b _ q fun z=>z)];exact q,fun b u xs q=>by rw[ag (hm b _ q fun z=>z)];exact q,fun b ps q=>⟨#[],by rw[ag (hm b _ q fun z=>z),q];simp⟩⟩
 by_cases hbe:b=e
 . subst hbe;exact heo
 exact⟨u,k b u hbe q⟩
end
def trk(h:Heap)(H:Hp):List Addr:=(List.range h.objs.size).filter fun a=>(H a).isSome
def lQ(h:Heap)(H:Hp):Heap:=W.hideAll h (trk h H)
theorem qi(h:Heap)(H:Hp):(lQ h H).objs.size=h.objs.size:=W.hideAll_size _ _
theorem rC{h:Heap}{H:Hp}{b:Addr}{o:Obj}(e:h.get? b=some o)(n:H b=none):(lQ h H).get? b=some o:=
 W.hideAll_get _ e fun hm=>by
  have q:(H b).isSome=true:=(List.mem_filter.mp hm).2;rw[n]at q;simp at q
theorem vf{h:Heap}{H:Hp}{b:Addr}{o:Obj}(e:(lQ h H).get? b=some o):h.get? b=some o/\H b=none:=by
 have e':h.get? b=some o:=W.of_hideAll (trk h H) e;refine⟨e',?_⟩;cases q:H b with
 | none=>rfl
 | some x=>
   have hm:b∈trk h H:=List.mem_filter.mpr ⟨List.mem_range.mpr (Heap.lt_size e'),by simp[q]⟩
   have z:(lQ h H).get? b=none:=W.hideAll_none (trk h H) hm;rw[z]at e;cases e
end L2
namespace L2
open PySem PySem.Spec PyProof.Rows
structure Mod(K:W.Frag)(mg:Str->Option Value)(base:Heap):Prop where
 kin:K.In base
 glob:base.Ns mainGlobals mg
 blt:∃ mb,base.Ns builtinsNs mb /\ ∀ x:Str,x ≠ "__name__" -> mb x=bootBuiltins x
 nolimit:base.NoLimit
structure Cx where
 prog:Program
 w:World
 K:W.Frag
 mg:Str->Option Value
 base:Heap
 A:Around
 N:List Str
 s₀:Shared
 H₀:Hp
 env:Env
 outer:List Env
 stack:List Env
 ex:List Addr
 fn:Str->Bool
 calm:Bool
 pn:List (Addr×Obj)
 xe:Value->Shared->Prop
def frs(l:List Env):List Addr:=l.filterMap (·.frame)
abbrev Cx.fs(X:Cx):List Addr:=frs X.outer
def Vis(sc:Scope)(x:Str):Prop:=sc.names.lookup x=some .local∨sc.names.lookup x=some .cell∨sc.names.lookup x=some .free
def Loc(sc:Scope)(x:Str):Prop:=sc.names.lookup x=some .local∨sc.names.lookup x=some .cell
def BP(env:Env)(h:Heap)(m:Str->Option Value)(x:Str)(u:Value):Prop:=
 (env.kindOf x=some .local/\m x=some u)∨((env.kindOf x=some .cell∨env.kindOf x=some .free) /\ ∃ c,env.cells.lookup x=some c/\h.IsCell c (some u))
structure Cx.Ok(X:Cx):Prop where
 mod:Mod X.K X.mg X.base
 kind:X.env.scope.kind=.function
 glob:X.env.globals=mainGlobals
 blt:X.env.builtins=builtinsNs
 above:X.s₀.heap.objs.size<=X.env.locals
 inj:∀ x y c,X.env.cells.lookup x=some c->X.env.cells.lookup y=some c->x=y
 has:∀ x,(X.env.kindOf x=some .cell∨X.env.kindOf x=some .free) -> ∃ c,X.env.cells.lookup x=some c
 cab:∀ x c,X.fn x=true->X.env.cells.lookup x=some c->X.s₀.heap.objs.size<=c
 hd:X.calm=true->X.A.handled=none
 frames:X.A.frames=some X.stack
 stk:X.stack=X.outer∨(X.stack=X.env::X.outer/\X.env.frame=some X.env.locals)
 exf:∀ b∈X.ex,b≠X.env.locals /\ ∀ x c,X.env.cells.lookup x=some c->c≠b
 bs:∀ b o,X.base.get? b=some o->X.s₀.heap.get? b=some o/\X.H₀ b=none
 bsz:X.base.objs.size<=X.s₀.heap.objs.size
 noex:∀ b o,X.base.get? b=some o->b∉X.ex
 exfs:∀ b∈X.ex,b∉X.fs
 funs:X.s₀.heap.FunFrames X.base X.outer
 frf:∀ b∈X.fs,X.H₀ b=none
structure Inv(X:Cx)(pins:List (Addr×Obj))(Z:List (Option V))(H:Hp)(s:Shared):Prop where
 ok:X.Ok
 os:s.os=X.s₀.os
 bare:AllBare s.gens
 base:Un X.fs X.ex X.H₀ H X.s₀.heap s.heap
 loc:∃ m,s.heap.Ns X.env.locals m /\ ∀(i:Nat) (x:Str) (v:V),X.N[i]?=some x -> Z[i]?=some (some v)->Vis X.env.scope x -> ∃ u,aI v u/\BP X.env s.heap m x u
 cell:∀ x c,X.env.cells.lookup x=some c -> ∃ v,s.heap.IsCell c v
 free:H X.env.locals=none
 freeC:∀ x c,X.env.cells.lookup x=some c->H c=none
 pin:∀ p∈X.pn++pins,s.heap.get? p.1=some p.2/\H p.1=none/\p.1≠X.env.locals/\p.1∉X.fs /\ ∀ v,p.2.data ≠ .cell v
 hok:HOk X.prog X.w H s.heap
 len:Z.length=X.N.length
section
variable{X:Cx}{pins:List (Addr×Obj)}{Z:List (Option V)}{H H':Hp}{s:Shared}{h':Heap}
theorem Cx.Ok.nofr(ok:X.Ok){b:Addr}{o:Obj}(e:X.base.get? b=some o):b∉X.fs:=fun hb=>by
 have:=(ok.funs.mem hb).1;rw[e]at this;cases this
theorem Inv.bs(I:Inv X pins Z H s):∀ b o,X.base.get? b=some o->s.heap.get? b=some o/\H b=none:=fun b o e=>
 ⟨I.base.keep b o (I.ok.bs b o e).1 (I.ok.bs b o e).2 (I.ok.nofr e) (I.ok.noex b o e),I.base.free b o (I.ok.bs b o e).1 (I.ok.bs b o e).2 (I.ok.noex b o e)⟩
theorem Inv.bk(I:Inv X pins Z H s):∀ b o,X.base.get? b=some o->s.heap.get? b=some o:=fun b o e=>(I.bs b o e).1
theorem Inv.mod(I:Inv X pins Z H s):Mod X.K X.mg X.base:=I.ok.mod
theorem Inv.kIn(I:Inv X pins Z H s):X.K.In s.heap:=I.ok.mod.kin.keeps I.bk
theorem Inv.lt(I:Inv X pins Z H s):X.env.locals < s.heap.objs.size:=let⟨_,hn,_⟩:=I.loc;hn.lt
theorem Inv.sz(I:Inv X pins Z H s):X.s₀.heap.objs.size<=s.heap.objs.size:=Nat.le_trans I.ok.above (Nat.le_of_lt I.lt)
theorem Inv.nofs(I:Inv X pins Z H s){a:Addr}(h:s.heap.objs.size<=a):a∉X.fs:=fun hb=>by
 obtain⟨_,o,ho,_⟩:=I.ok.funs.mem hb;exact absurd (Nat.lt_of_lt_of_le (Heap.lt_size ho) (Nat.le_trans I.sz h)) (Nat.lt_irrefl _)
theorem Inv.cne(I:Inv X pins Z H s):∀ x c,X.env.cells.lookup x=some c->c≠X.env.locals:=fun x c e z=>by
 obtain⟨v,o,ho,hd⟩:=I.cell x c e;obtain⟨m,⟨o',es,ep,ho',hd',_⟩,_⟩:=I.loc;rw[z,ho']at ho;cases ho;rw[hd']at hd;cases hd
theorem Inv.funs(I:Inv X pins Z H s):s.heap.FunFrames X.base X.outer:=by
 have all:∀(l:List Env),(∀ b∈frs l,b∈X.fs)->X.s₀.heap.FunFrames X.base l->s.heap.FunFrames X.base l:=by
  intro l
  induction l with
  | nil=>intro _ _;trivial
  | cons env r ih=>
    intro hs hl;obtain⟨hk,⟨L,o,hf,hn,ho,hd⟩,hr⟩:=hl;have hL:L∈X.fs:=hs L (by unfold frs;rw[List.filterMap_cons,hf];exact List.mem_cons_self)
    obtain⟨sl,e⟩:=I.base.slot L o ho (I.ok.frf L hL) hL fun z=>I.ok.exfs L z hL;exact⟨hk,⟨L,_,hf,hn,e,hd⟩,ih (fun b hb=>hs b (by unfold frs;rw[List.filterMap_cons,hf];exact List.mem_cons_of_mem _ hb)) hr⟩
 exact all X.outer (fun _ hb=>hb) I.ok.funs
theorem Inv.stack(I:Inv X pins Z H s):s.heap.FunFrames X.base X.stack:=by
 rcases I.ok.stk with e | ⟨e,hf⟩
 . rw[e];exact I.funs
 rw[e];obtain⟨m,hn,_⟩:=I.loc;refine .cons (by rw[I.ok.kind];decide) hf hn ?_ I.funs
 exact Heap.get?_none_of_le (Nat.le_trans I.ok.bsz I.ok.above)
theorem Inv.stkSub(I:Inv X pins Z H s):∀ b∈frs X.stack,b∈X.env.locals::X.fs:=fun b hb=>by
 rcases I.ok.stk with e | ⟨e,hf⟩
 . rw[e]at hb;exact List.mem_cons_of_mem _ hb
 rw[e]at hb;unfold frs at hb;rw[List.filterMap_cons,hf]at hb;exact hb
theorem Inv.stkFree(I:Inv X pins Z H s):∀ b∈frs X.stack,H b=none:=fun b hb=>by
 rcases List.mem_cons.mp (I.stkSub b hb)with e | hb
 . rw[e];exact I.free
 obtain⟨_,o,ho,_⟩:=I.ok.funs.mem hb;exact I.base.free b o ho (I.ok.frf b hb) fun z=>I.ok.exfs b z hb
theorem Inv.step{g':Array GenState}{t':Nat}{d':Drawn}{ch:List Addr}(I:Inv X pins Z H s)
 (hch:∀ b∈ch,(b∈X.ex∨X.s₀.heap.objs.size<=b)/\b≠X.env.locals/\(∀ x c,X.env.cells.lookup x=some c->c≠b) /\ ∀ p∈X.pn++pins,p.1≠b)
 (keep:∀ b o,b≠X.env.locals->b∉X.fs->b∉ch->s.heap.get? b=some o->H b=none->h'.get? b=some o)
 (slot:∀ b o,b≠X.env.locals->b∈X.fs->b∉ch->s.heap.get? b=some o->H b=none -> ∃ sl,h'.get? b=some { o with slots:=sl }) (free:∀ b o,b∉ch->s.heap.get? b=some o->H b=none->H' b=none)
 (there:∀ b o,b∉ch->s.heap.get? b=some o -> ∃ o',h'.get? b=some o')
 (tups:∀ b xs,H b=some (.tup xs)->H' b=some (.tup xs)) (frzs:∀ b o u,H b=some (.frz o u)->H' b=some (.frz o u)) (tbls:∀ b ps,H b=some (.tbl ps) -> ∃ more,H' b=some (.tbl (ps++more)))
 (ns:∀ m,s.heap.Ns X.env.locals m->h'.Ns X.env.locals m) (hok:HOk X.prog X.w H' h') (hg:AllBare g') :
 Inv X pins Z H' { s with heap:=h',gens:=g',drawn:=d',toks:=t' }:=by
 have neL:∀ b o,X.s₀.heap.get? b=some o->b≠X.env.locals:=fun b o e=>Nat.ne_of_lt (Nat.lt_of_lt_of_le (Heap.lt_size e) I.ok.above);have neC:∀ b o,X.s₀.heap.get? b=some o->b∉X.ex->b∉ch:=fun b o e hx hb=>by
  rcases(hch b hb).1 with z | z
  . exact hx z
  exact absurd (Nat.lt_of_lt_of_le (Heap.lt_size e) z) (Nat.lt_irrefl _)
 have cellK:∀ x c,X.env.cells.lookup x=some c -> ∀ v,s.heap.IsCell c v->h'.IsCell c v:=fun x c e v ⟨o,ho,hd⟩=>by
  have nch:c∉ch:=fun z=>(hch c z).2.2.1 x c e rfl;by_cases hc:c∈X.fs
  . obtain⟨sl,q⟩:=slot c o (I.cne x c e) hc nch ho (I.freeC x c e)
    exact⟨_,q,hd⟩
  exact⟨o,keep c o (I.cne x c e) hc nch ho (I.freeC x c e),hd⟩
 refine⟨I.ok,I.os,hg,⟨fun b o e n hb hx=>?_,fun b o e n hb hx=>?_,fun b o e n hx=>?_,fun b o e hx=>?_,fun b xs e=>tups b xs (I.base.tups b xs e),fun b o xs e=>frzs b o xs (I.base.frzs b o xs e),fun b ps e=>?_⟩,?_,fun x c e=>?_,?_,fun x c e=>?_,fun p hp=>?_,hok,I.len⟩
 . exact keep b o (neL b o e) hb (neC b o e hx) (I.base.keep b o e n hb hx) (I.base.free b o e n hx)
 . obtain⟨sl,e1⟩:=I.base.slot b o e n hb hx
   obtain⟨sl',e2⟩:=slot b _ (neL b o e) hb (neC b o e hx) e1 (I.base.free b o e n hx);exact⟨sl',e2⟩
 . obtain⟨o',e1⟩:=I.base.there b o e hx
   exact free b o' (neC b o e hx) e1 (I.base.free b o e n hx)
 . obtain⟨o',e1⟩:=I.base.there b o e hx
   exact there b o' (neC b o e hx) e1
 . obtain⟨m1,e1⟩:=I.base.tbls b ps e
   obtain⟨m2,e2⟩:=tbls b _ e1;exact⟨m1++m2,by rw[e2,Array.append_assoc]⟩
 . obtain⟨m,hn,hl⟩:=I.loc
   refine⟨m,ns m hn,fun i x v e1 e2 e3=>?_⟩;obtain⟨u,r,l⟩:=hl i x v e1 e2 e3;refine⟨u,r,?_⟩;rcases l with l | ⟨k,c,e,z⟩
   . exact .inl l
   exact .inr ⟨k,c,e,cellK x c e _ z⟩
 . obtain⟨v,z⟩:=I.cell x c e
   exact⟨v,cellK x c e v z⟩
 . obtain⟨m,⟨o,_,_,ho,_⟩,_⟩:=I.loc
   exact free _ o (fun z=>(hch _ z).2.1 rfl) ho I.free
 . obtain⟨v,o,ho,hd⟩:=I.cell x c e
   exact free c o (fun z=>(hch c z).2.2.1 x c e rfl) ho (I.freeC x c e)
 obtain⟨e,n,ne,nf,d⟩:=I.pin p hp;have nch:p.1∉ch:=fun z=>(hch p.1 z).2.2.2 p hp rfl;exact⟨keep p.1 p.2 ne nf nch e n,free p.1 p.2 nch e n,ne,nf,d⟩
theorem Inv.un{t':Nat}(I:Inv X pins Z H s)(u:Un X.fs [] H H' s.heap h')(hok:HOk X.prog X.w H' h'):Inv X pins Z H' { s with heap:=h',toks:=t' }:=by
 obtain⟨m,⟨o,es,ep,ho,r⟩,_⟩:=id I.loc;obtain⟨sl,hL⟩:=u.any ho I.free (by simp)
 exact I.step (g':=s.gens) (d':=s.drawn) (ch:=[]) (fun _ z=>nomatch z) (fun b o _ hb _ e n=>u.keep b o e n hb (by simp)) (fun b o _ hb _ e n=>u.slot b o e n hb (by simp)) (fun b o _ e n=>u.free b o e n (by simp)) (fun b o _ e=>u.there b o e (by simp)) u.tups u.frzs u.tbls (fun m' hm=>by
  obtain⟨o',es',ep',ho',r'⟩:=hm;rw[ho]at ho';cases ho';exact⟨_,es',ep',hL,r'⟩) hok I.bare
theorem Inv.call{g':Array GenState}{t':Nat}{d':Drawn}{ch:List Addr}(I:Inv X pins Z H s)(u:Un (frs X.stack) ch H H' s.heap h')(hok:HOk X.prog X.w H' h')(hg:AllBare g')
 (hch:∀ b∈ch,(b∈X.ex∨X.s₀.heap.objs.size<=b)/\b≠X.env.locals/\(∀ x c,X.env.cells.lookup x=some c->c≠b) /\ ∀ p∈X.pn++pins,p.1≠b) :
 Inv X pins Z H' { s with heap:=h',gens:=g',drawn:=d',toks:=t' }:=by
 obtain⟨m,⟨o,es,ep,ho,r⟩,_⟩:=id I.loc;obtain⟨sl,hL⟩:=u.any ho I.free fun z=>(hch _ z).2.1 rfl;exact I.step (ch:=ch) hch (fun b o hL hb hc e n=>u.keep b o e n (fun z=>(List.mem_cons.mp (I.stkSub b z)).elim hL hb) hc) (fun b o _ _ hc e n=>u.any e n hc) (fun b o hc e n=>u.free b o e n hc) (fun b o hc e=>u.there b o e hc) u.tups u.frzs u.tbls (fun m' hm=>by
  obtain⟨o',es',ep',ho',r'⟩:=hm;rw[ho]at ho';cases ho';exact⟨_,es',ep',hL,r'⟩) hok hg
theorem Inv.turned{t':Nat}{it:Addr}(I:Inv X pins Z H s)(k:∀ b o,b≠it->s.heap.get? b=some o->h'.get? b=some o)(hn:H it=none)(hL:it≠X.env.locals)
 (h1:it∈X.ex∨X.s₀.heap.objs.size<=it) (h2:∀ x c,X.env.cells.lookup x=some c->c≠it) (h3:∀ p∈X.pn++pins,p.1≠it):Inv X pins Z H { s with heap:=h',toks:=t' }:=by
 have nit:∀ b u,H b=some u->b≠it:=fun b u e z=>by rw[z,hn]at e;cases e
 refine I.step (g':=s.gens) (d':=s.drawn) (ch:=[it]) (fun b hb=>?_) (fun b o _ _ hc e _=>k b o (fun z=>hc (by simp[z])) e) (fun b o _ _ hc e _=>⟨o.slots,k b o (fun z=>hc (by simp[z])) e⟩) (fun _ _ _ _ n=>n)
  (fun b o hc e=>⟨o,k b o (fun z=>hc (by simp[z])) e⟩) (fun _ _ e=>e) (fun _ _ _ e=>e) (fun b ps e=>⟨#[],by rw[e];simp⟩) (fun m hm=>?_) (fun b u e=>?_) I.bare
 . have e:b=it:=by simpa using hb
   subst e;exact⟨h1,hL,h2,h3⟩
 . obtain⟨o,es,ep,ho,r⟩:=hm
   exact⟨o,es,ep,k _ o (Ne.symm hL) ho,r⟩
 refine(I.hok b u e).stay (fun c v hc q=>k c v ?_ q) (fun _ q=>q) fun _ _ q=>q;rcases hc with z | z
 . rw[z];exact nit b u e
 exact nit c _ z
theorem Inv.tok(I:Inv X pins Z H s)(t:Nat):Inv X pins Z H { s with toks:=t }:=I.un (h':=s.heap) (t':=t) Un.refl I.hok
theorem Inv.kept{t':Nat}(I:Inv X pins Z H s)(k:∀ b u,s.heap.get? b=some u->h'.get? b=some u):Inv X pins Z H { s with heap:=h',toks:=t' }:=I.un (Un.kept k) (I.hok.kept k)
theorem Inv.laid{a:Addr}{o:HO}{t':Nat}(I:Inv X pins Z H s)(k:∀ b u,s.heap.get? b=some u->h'.get? b=some u)(hp:s.heap.objs.size<=a)(new:a_ X.prog X.w (upd H a o) h' a o) :
 Inv X pins Z (upd H a o) { s with heap:=h',toks:=t' }:=I.un (Un.laid k hp (I.hok.fresh hp)) (I.hok.laid k hp new)
theorem Inv.write{x e:Addr}{o:HO}{t':Nat}(I:Inv X pins Z H s)(mu:Mut (H x))(he:e=x∨H e=some (.own x))(k:∀ b u,b≠e->s.heap.get? b=some u->h'.get? b=some u)(heo:∃ u,h'.get? e=some u)
 (new:a_ X.prog X.w (upd H x o) h' x o):Inv X pins Z (upd H x o) { s with heap:=h',toks:=t' }:=I.un (Un.write mu he k heo) (I.hok.write mu he k heo new)
theorem Inv.pins_of{pins':List (Addr×Obj)}(I:Inv X pins Z H s)(h:∀ p∈pins',s.heap.get? p.1=some p.2/\H p.1=none/\p.1≠X.env.locals/\p.1∉X.fs /\ ∀ v,p.2.data ≠ .cell v):Inv X pins' Z H s:=
 ⟨I.ok,I.os,I.bare,I.base,I.loc,I.cell,I.free,I.freeC,fun p hp=>(List.mem_append.mp hp).elim (fun z=>I.pin p (List.mem_append_left _ z)) (h p),I.hok,I.len⟩
theorem jI{N:List Str}(hN:N.Nodup){i j:Nat}{x:Str}(a:N[i]?=some x)(b:N[j]?=some x):i=j:=by
 obtain⟨h1,e1⟩:=List.getElem?_eq_some_iff.mp a;obtain⟨h2,e2⟩:=List.getElem?_eq_some_iff.mp b;exact(List.getElem_inj hN).mp (e1.trans e2.symm)
theorem pR{M:Model}{A:Around}{E:Value->Shared->Prop}{i:Nat}{x:Str}{v:V}{u:Value}{Q:Unit->Shared->Prop}(I:Inv X pins Z H s)(hN:X.N.Nodup)(hi:X.N[i]?=some x)(hx:Loc X.env.scope x)(r:aI v u)
 (h:∀ s',Inv X pins (Z.set i (some v)) H s'->(∃ a,Heap.SameBut a s.heap s'.heap/\(a=X.env.locals∨X.env.cells.lookup x=some a))->Q () s') (hf:X.fn x=true∨X.env.scope.names.lookup x=some .local:=by first | exact .inl rfl | exact .inr rfl | assumption):wpAny M A (storeName X.env x u) Q E s:=by
 obtain⟨m,hn,hl⟩:=id I.loc;have hcls:(X.env.scope.kind == .class || (X.env.scope.kind == .module && X.env.locals != X.env.globals))=false:=by rw[I.ok.kind];rfl
 have hiσ:i < Z.length:=by rw[I.len];exact(List.getElem?_eq_some_iff.mp hi).1
 have cne:=I.cne;have tracked:∀{a:Addr}{h':Heap},(∃ o,s.heap.get? a=some o/\H a=none)->Heap.SameBut a s.heap h'->HOk X.prog X.w H h':=fun {a h'} ha hs b ob e=>by
  obtain⟨_,_,hfree⟩:=ha;refine(I.hok b ob e).stay (fun c w' hc q=>(hs.2 c ?_).trans q) (fun _ q=>q) fun _ _ q=>q;rintro rfl;rcases hc with rfl | hc
  . rw[hfree]at e;cases e
  rw[hfree]at hc;cases hc
 rcases hx with hk | hk
 . refine wpAny_storeName_local hk hn (fun h' hn' hs=>?_) hcls
   obtain⟨oL,_,_,hoL,_⟩:=id hn;refine h _ ⟨I.ok,I.os,I.bare,⟨fun b o e n hb hx=>?_,fun b o e n hb hx=>?_,I.base.free,fun b o e hx=>?_,I.base.tups,I.base.frzs,I.base.tbls⟩,⟨_,hn',fun j y v' e1 e2 e3=>?_⟩,fun y c e=>?_,I.free,I.freeC,fun p hp=>?_,tracked ⟨oL,hoL,I.free⟩ hs,by simpa using I.len⟩ ⟨_,hs,.inl rfl⟩
   . exact(hs.2 b (Nat.ne_of_lt (Nat.lt_of_lt_of_le (Heap.lt_size e) I.ok.above))).trans (I.base.keep b o e n hb hx)
   . obtain⟨sl,e1⟩:=I.base.slot b o e n hb hx
     exact⟨sl,(hs.2 b (Nat.ne_of_lt (Nat.lt_of_lt_of_le (Heap.lt_size e) I.ok.above))).trans e1⟩
   . obtain⟨o',e1⟩:=I.base.there b o e hx
     exact⟨o',(hs.2 b (Nat.ne_of_lt (Nat.lt_of_lt_of_le (Heap.lt_size e) I.ok.above))).trans e1⟩
   . by_cases hj:j=i
     . subst hj
       rw[hi]at e1;cases e1;rw[List.getElem?_set_self hiσ]at e2;cases e2;exact⟨u,r,.inl ⟨hk,by simp⟩⟩
     rw[List.getElem?_set_ne (Ne.symm hj)]at e2;obtain⟨u',r',q⟩:=hl j y v' e1 e2 e3;refine⟨u',r',?_⟩;rcases q with ⟨k,e⟩ | ⟨k,c,e,z⟩
     . refine .inl ⟨k,?_⟩
       have:y≠x:=fun e=>hj (jI hN e1 (e ▸ hi));simp[this,e]
     exact .inr ⟨k,c,e,z.sameBut hs (cne y c e)⟩
   . obtain⟨w',z⟩:=I.cell y c e
     exact⟨w',z.sameBut hs (cne y c e)⟩
   obtain⟨e,n,ne,nf,d⟩:=I.pin p hp;exact⟨(hs.2 p.1 ne).trans e,n,ne,nf,d⟩
 have hfn:X.fn x=true:=by
  rcases hf with z | z
  . exact z
  rw[z]at hk;cases hk
 obtain⟨c,hc⟩:=I.ok.has x (.inl hk);obtain⟨w',z⟩:=I.cell x c hc;refine wpAny_storeName_cell I.ok.kind hk hc z (fun h' hc' hs=>?_);obtain⟨oc,hoc,hocd⟩:=id z;refine h { s with heap:=h' } ⟨I.ok,I.os,I.bare,⟨fun b o e n hb hx=>?_,fun b o e n hb hx=>?_,I.base.free,fun b o e hx=>?_,I.base.tups,I.base.frzs,I.base.tbls⟩,⟨m,hn.sameBut hs (Ne.symm (cne x c hc)),fun j y v' e1 e2 e3=>?_⟩,fun y c' e=>?_,I.free,I.freeC,fun p hp=>?_,tracked ⟨oc,hoc,I.freeC x c hc⟩ hs,by simpa using I.len⟩ ⟨c,hs,.inr hc⟩
 . exact(hs.2 b (Nat.ne_of_lt (Nat.lt_of_lt_of_le (Heap.lt_size e) (I.ok.cab x c hfn hc)))).trans (I.base.keep b o e n hb hx)
 . obtain⟨sl,e1⟩:=I.base.slot b o e n hb hx
   exact⟨sl,(hs.2 b (Nat.ne_of_lt (Nat.lt_of_lt_of_le (Heap.lt_size e) (I.ok.cab x c hfn hc)))).trans e1⟩
 . obtain⟨o',e1⟩:=I.base.there b o e hx
   exact⟨o',(hs.2 b (Nat.ne_of_lt (Nat.lt_of_lt_of_le (Heap.lt_size e) (I.ok.cab x c hfn hc)))).trans e1⟩
 . by_cases hj:j=i
   . subst hj
     rw[hi]at e1;cases e1;rw[List.getElem?_set_self hiσ]at e2;cases e2;exact⟨u,r,.inr ⟨.inl hk,c,hc,hc'⟩⟩
   rw[List.getElem?_set_ne (Ne.symm hj)]at e2;obtain⟨u',r',q⟩:=hl j y v' e1 e2 e3;refine⟨u',r',?_⟩;rcases q with q | ⟨k,c',e,z'⟩
   . exact .inl q
   refine .inr ⟨k,c',e,z'.sameBut hs ?_⟩;rintro rfl;exact hj (jI hN e1 (I.ok.inj _ _ _ e hc ▸ hi))
 . by_cases hcc:c'=c
   . subst hcc;exact⟨_,hc'⟩
   obtain⟨w2,z2⟩:=I.cell y c' e;exact⟨w2,z2.sameBut hs hcc⟩
 obtain⟨e,n,ne,nf,d⟩:=I.pin p hp;refine⟨(hs.2 p.1 ?_).trans e,n,ne,nf,d⟩;intro q;rw[q,hoc]at e;have q':oc=p.2:=Option.some.inj e;exact d w' (by rw[← q'];exact hocd)
theorem gC{M:Model}{A:Around}{E:Value->Shared->Prop}{i:Nat}{x:Str}{v:V}{u:Value}{Q:Unit->Shared->Prop}(I:Inv X pins Z H s)(hN:X.N.Nodup)(hi:X.N[i]?=some x)(hx:Loc X.env.scope x)(r:aI v u)
 (h:∀ s',Inv X pins (Z.set i (some v)) H s'->Q () s') (hf:X.fn x=true∨X.env.scope.names.lookup x=some .local:=by first | exact .inl rfl | exact .inr rfl | assumption):wpAny M A (storeName X.env x u) Q E s:=
 pR I hN hi hx r (fun s' I' _=>h s' I') hf
theorem Inv.call'{s':Shared}{ch:List Addr}(I:Inv X pins Z H s)(ho:s'.os=s.os)(u:Un (frs X.stack) ch H H' s.heap s'.heap)(hok:HOk X.prog X.w H' s'.heap)(hg:AllBare s'.gens)
 (hch:∀ b∈ch,(b∈X.ex∨X.s₀.heap.objs.size<=b)/\b≠X.env.locals/\(∀ x c,X.env.cells.lookup x=some c->c≠b) /\ ∀ p∈X.pn++pins,p.1≠b):Inv X pins Z H' s':=by
 obtain⟨h',g',d',t',o'⟩:=s';have e:o'=s.os:=ho;subst e;exact I.call (g':=g') (t':=t') (d':=d') u hok hg hch
end
abbrev XK:=Value->Option Addr->Hp->Prop
abbrev St:=List (Option V)
abbrev VK:=V->Hp->Prop
abbrev TE:=St->Hp->VK->Prop
abbrev TT:=St->Hp->(Bool->Hp->Prop)->Prop
abbrev TA:=St->Hp->(List V->Hp->Prop)->Prop
structure eM where
 nx:St->Hp->Prop
 rt:VK
 bk:St->Hp->Prop:=fun _ _=>False
 ct:St->Hp->Prop:=fun _ _=>False
abbrev TS:=eM->St->Hp->Prop
def EP(X:Cx)(pins:List (Addr×Obj))(Z:St)(Q:VK)(u:Value)(s':Shared):Prop:=∃ v H',Inv X pins Z H' s'/\aI v u/\Q v H'
def TP(X:Cx)(pins:List (Addr×Obj))(Z:St)(Q:Bool->Hp->Prop)(b:Bool)(s':Shared):Prop:=∃ H',Inv X pins Z H' s'/\Q b H'
def AP(X:Cx)(pins:List (Addr×Obj))(Z:St)(Q:List V->Hp->Prop)(us:List Value)(s':Shared):Prop:=∃ vs H',Inv X pins Z H' s'/\aC vs us/\Q vs H'
def SP(X:Cx)(pins:List (Addr×Obj))(D:eM)(f:Flow)(s':Shared):Prop:=
 match f with
 | .next=>∃ Z' H',Inv X pins Z' H' s'/\D.nx Z' H'
 | .brk=>∃ Z' H',Inv X pins Z' H' s'/\D.bk Z' H'
 | .cont=>∃ Z' H',Inv X pins Z' H' s'/\D.ct Z' H'
 | .ret u=>∃ v Z' H',Inv X pins Z' H' s'/\aI v u/\D.rt v H'
def PE(X:Cx)(e:Expr)(t:TE):Prop:=
 ∀(pins:List (Addr×Obj)) (s:Shared) (Z:St) (H:Hp) (Q:VK),Inv X pins Z H s->t Z H Q->wpAny (model X.prog X.w) X.A (eval e X.env) (EP X pins Z Q) X.xe s
def PT(X:Cx)(e:Expr)(t:TT):Prop:=
 ∀(pins:List (Addr×Obj)) (s:Shared) (Z:St) (H:Hp) (Q:Bool->Hp->Prop),Inv X pins Z H s->t Z H Q->wpAny (model X.prog X.w) X.A (isTrue e X.env (eval e X.env)) (TP X pins Z Q) X.xe s
def PW(X:Cx)(e:Expr)(t:TT):Prop:=
 ∀(whole:Sem Value) (pins:List (Addr×Obj)) (s:Shared) (Z:St) (H:Hp) (Q:Bool->Hp->Prop),Inv X pins Z H s->t Z H Q->wpAny (model X.prog X.w) X.A (isTrue e X.env whole) (TP X pins Z Q) X.xe s
theorem PW.pt{X:Cx}{e:Expr}{t:TT}(h:PW X e t):PT X e t:=h _
def PA(X:Cx)(es:List Expr)(t:TA):Prop:=
 ∀(pos:Pos) (pins:List (Addr×Obj)) (s:Shared) (Z:St) (H:Hp) (Q:List V->Hp->Prop),Inv X pins Z H s->t Z H Q->wpAny (model X.prog X.w) X.A (spliced (backTo pos (starEach es X.env))) (AP X pins Z Q) X.xe s
def PS(X:Cx)(st:Stmt)(t:TS):Prop:=
 ∀(pins:List (Addr×Obj)) (s:Shared) (Z:St) (H:Hp) (D:eM),Inv X pins Z H s->t D Z H->wpAny (model X.prog X.w) X.A (exec st X.env) (SP X pins D) X.xe s
def PSs(X:Cx)(st:List Stmt)(t:TS):Prop:=
 ∀(pins:List (Addr×Obj)) (s:Shared) (Z:St) (H:Hp) (D:eM),Inv X pins Z H s->t D Z H->wpAny (model X.prog X.w) X.A (execs st X.env) (SP X pins D) X.xe s
theorem thn{α:Type}{t:Sem α}{Q Q':α -> Shared->Prop}{M:Model}{A:Around}{E:Value->Shared->Prop}{s:Shared}(h:wpAny M A t Q E s)(hQ:∀ a s,Q a s->Q' a s):wpAny M A t Q' E s:=wpAny_mono h hQ fun _ _ x=>x
end L2
namespace L2
open PySem PySem.Spec PyProof.Rows
section
variable{X:Cx}
def gx(i:Nat):TE:=fun Z H Q=>∃ v,Z[i]?=some (some v)/\Q v H
def tC(v:V):TE:=fun _ H Q=>Q v H
theorem yp{i:Nat}{x:Str}{pos:Pos}(hN:X.N[i]?=some x)(hv:Vis X.env.scope x)(hd:(x == ("__debug__":Str))=false:=by decide)(hcd:(x == ("__classdict__":Str))=false:=by decide):PE X (.Name x pos) (gx i):=by
 intro pins s Z H Q I h;obtain⟨v,e,h⟩:=h;obtain⟨m,hn,hl⟩:=I.loc;obtain⟨u,r,l⟩:=hl i x v hN e hv;have fin:EP X pins Z Q u s:=⟨v,H,I,r,h⟩;rcases l with ⟨hk,hm⟩ | ⟨hk,c,hc,hcell⟩
 . exact wpAny_Name (wpAny_loadName_local I.ok.kind hk hn hm fin) hd
 rcases hk with hk | hk
 . exact wpAny_Name (wpAny_loadName_cell I.ok.kind hk hc hcell fin) hd
 exact wpAny_Name (wpAny_loadName_free I.ok.kind hk hc hcell fin hcd) hd
theorem zp{i j pos}:PE X (.Constant (.int i) j pos) (tC (.int i)):=fun _ _ _ H _ I h=>wpAny_Constant_int ⟨.int i,H,I.tok _,⟨_,rfl⟩,h⟩
theorem Ao{b j pos}:PE X (.Constant (.bool b) j pos) (tC (.bl b)):=fun _ _ _ H _ I h=>Constant_bool ⟨.bl b,H,I,rfl,h⟩
theorem wQ{j pos}:PE X (.Constant .none j pos) (tC .non):=fun _ _ _ H _ I h=>Constant_none ⟨.non,H,I,rfl,h⟩
theorem rZ{x j pos}:PE X (.Constant (.str x) j pos) (tC (.str x)):=fun _ _ _ H _ I h=>Calls.Constant_str ⟨.str x,H,I.tok _,⟨_,rfl⟩,h⟩
def Gl(X:Cx)(x:Str):Prop:=X.env.kindOf x=some .globalImplicit
theorem fw{E:Value->Shared->Prop}{pins:List (Addr×Obj)}{s:Shared}{Z:St}{H:Hp}{x:Str}{u:Value}{pos:Pos}{Q:Value->Shared->Prop}(I:Inv X pins Z H s)(hg:Gl X x)(hm:X.mg x=some u)(h:Q u s)
 (hd:(x == ("__debug__":Str))=false:=by decide):wpAny (model X.prog X.w) X.A (eval (.Name x pos) X.env) Q E s:=
 Calls.Name_function_global I.ok.kind hg (Calls.loadGlobal_global (by rw[I.ok.glob];exact I.mod.glob.keeps I.bk) hm h) hd
theorem jb{E:Value->Shared->Prop}{pins:List (Addr×Obj)}{s:Shared}{Z:St}{H:Hp}{x:Str}{u:Value}{pos:Pos}{Q:Value->Shared->Prop}(I:Inv X pins Z H s)(hg:Gl X x)(hm:X.mg x=none)(hv:bootBuiltins x=some u)(h:Q u s)
 (hn:x ≠ "__name__":=by decide) (hd:(x == ("__debug__":Str))=false:=by decide):wpAny (model X.prog X.w) X.A (eval (.Name x pos) X.env) Q E s:=by
 obtain⟨mb,h1,h2⟩:=I.mod.blt;exact Calls.Name_function_global I.ok.kind hg (Calls.loadGlobal_builtin (by rw[I.ok.glob];exact I.mod.glob.keeps I.bk) hm (by rw[I.ok.blt];exact h1.keeps I.bk) ((h2 x hn).trans hv) h) hd
theorem oI{x:Str}{v:V}{u:Value}{pos:Pos}(hg:Gl X x)(hm:X.mg x=some u)(r:aI v u)(hd:(x == ("__debug__":Str))=false:=by decide):PE X (.Name x pos) (tC v):=
 fun _ _ _ H _ I h=>fw I hg hm ⟨v,H,I,r,h⟩ hd
theorem ul{x:Str}{v:V}{u:Value}{pos:Pos}(hg:Gl X x)(hm:X.mg x=none)(hv:bootBuiltins x=some u)(r:aI v u)(hn:x ≠ "__name__":=by decide)(hd:(x == ("__debug__":Str))=false:=by decide):PE X (.Name x pos) (tC v):=
 fun _ _ _ H _ I h=>jb I hg hm hv ⟨v,H,I,r,h⟩ hn hd
variable{a b:Expr}{ta tb:TE}{pos:Pos}
def PC(X:Cx)(op:CmpOp)(a b:Expr)(t:TE):Prop:=
 ∀(pins:List (Addr×Obj)) (s:Shared) (Z:St) (H:Hp) (Q:VK),Inv X pins Z H s->t Z H Q ->
   wpAny (model X.prog X.w) X.A (eval a X.env) (fun v s₁=>wpAny (model X.prog X.w) X.A (eval b X.env) (fun u s₂=>wpAny (model X.prog X.w) X.A (compareOp op v u) (EP X pins Z Q) X.xe s₂) X.xe s₁) X.xe s
def tB(t:TE):TT:=fun Z H Q=>t Z H fun x H1=>∃ c,x=.bl c/\Q c H1
theorem tV{op:CmpOp}{t:TE}(h:PC X op a b t)(h1:behindInMarks op b=false:=by first | exact nobehind _ (by decide) (by decide) | rfl):PT X (.Compare a [op] [b] pos) (tB t):=by
 intro pins s Z H Q I hw;refine wpAny_isTrue_Compare1 (thn (h pins s Z H _ I hw) fun v s1 h1=>thn h1 fun u s2 h2=>thn h2 fun c s3 ⟨x,H1,I1,r1,q1⟩=>?_) h1;obtain⟨d,rfl,q⟩:=q1;cases r1;exact wpAny_truthy_bool ⟨H1,I1,q⟩
theorem yb{e:Expr}{t:TE}(h:PE X e t)(he:∀ whole,isTrue e X.env whole=(do let v ← whole;standAt e.pos;holding [v] (truthy v)):=by intro _;rfl):PT X e (tB t):=by
 intro pins s Z H Q I hw;refine isTrue_plain (thn (h pins s Z H _ I hw) fun v s1 ⟨x,H1,I1,r1,q1⟩=>?_) (he _);obtain⟨d,rfl,q⟩:=q1;cases r1;exact wpAny_truthy_bool ⟨H1,I1,q⟩
variable{tA tB':TT}{rest:List Expr}
def y4(t u:TT):TT:=fun Z H Q=>t Z H fun c H1=>if c=true then u Z H1 Q else Q false H1
def tOr(t u:TT):TT:=fun Z H Q=>t Z H fun c H1=>if c=true then Q true H1 else u Z H1 Q
def xV(t:TT):TT:=fun Z H Q=>t Z H fun c H1=>Q (!c) H1
theorem uD(ha:PT X a tA):PW X (.BoolOp .And [a] pos) tA:=by
 intro wh pins s Z H Q I h;refine isTrue_and (thn (ha pins s Z H Q I h) fun c s1 e=>?_);cases c with
 | true=>exact isTrue_and_nil e
 | false=>exact e
theorem yi(ha:PT X a tA):PW X (.BoolOp .Or [a] pos) tA:=by
 intro wh pins s Z H Q I h;refine isTrue_or (thn (ha pins s Z H Q I h) fun c s1 e=>?_);cases c with
 | false=>exact isTrue_or_nil e
 | true=>exact e
theorem xK(ha:PT X a tA)(hb:PW X (.BoolOp .And (b::rest) pos) tB'):PW X (.BoolOp .And (a::b::rest) pos) (y4 tA tB'):=by
 intro wh pins s Z H Q I h;refine isTrue_and (thn (ha pins s Z H _ I h) fun c s1 zz=>?_);obtain⟨H1,I1,q1⟩:=zz;cases c with
 | true=>exact hb wh pins s1 Z H1 Q I1 q1
 | false=>exact⟨H1,I1,q1⟩
theorem An(ha:PT X a tA)(hb:PW X (.BoolOp .Or (b::rest) pos) tB'):PW X (.BoolOp .Or (a::b::rest) pos) (tOr tA tB'):=by
 intro wh pins s Z H Q I h;refine isTrue_or (thn (ha pins s Z H _ I h) fun c s1 zz=>?_);obtain⟨H1,I1,q1⟩:=zz;cases c with
 | true=>exact⟨H1,I1,q1⟩
 | false=>exact hb wh pins s1 Z H1 Q I1 q1
theorem zk(ha:PT X a tA):PT X (.UnaryOp .Not a pos) (xV tA):=by
 intro pins s Z H Q I h;exact isTrue_not (ha pins s Z H (fun c H1=>Q (!c) H1) I h)
def tZ(ta tb:TE):TE:=fun Z H Q=>ta Z H fun x H1=>∃ c,x=.bl c/\if c=true then tb Z H1 Q else Q (.bl false) H1
def x_(ta tb:TE):TE:=fun Z H Q=>ta Z H fun x H1=>∃ c,x=.bl c/\if c=true then Q (.bl true) H1 else tb Z H1 Q
def tf(ta:TE):TE:=fun Z H Q=>ta Z H fun x H1=>∃ c,x=.bl c/\Q (.bl (!c)) H1
theorem yf{op}{t:TE}(h:PE X a t):PE X (.BoolOp op [a] pos) t:=fun pins s Z H Q I hw=>BoolOp_one (h pins s Z H Q I hw)
theorem yP(ha:PE X a ta)(hb:PE X (.BoolOp .And (b::rest) pos) tb):PE X (.BoolOp .And (a::b::rest) pos) (tZ ta tb):=by
 intro pins s Z H Q I h;refine BoolOp_and (thn (ha pins s Z H _ I h) fun v s1 zz=>?_);obtain⟨x,H1,I1,r1,q1⟩:=zz;obtain⟨c,rfl,q1⟩:=q1;cases r1;refine wpAny_truthy_bool ?_;cases c with
 | true=>exact hb pins s1 Z H1 Q I1 q1
 | false=>exact⟨.bl false,H1,I1,rfl,q1⟩
theorem Au(ha:PE X a ta)(hb:PE X (.BoolOp .Or (b::rest) pos) tb):PE X (.BoolOp .Or (a::b::rest) pos) (x_ ta tb):=by
 intro pins s Z H Q I h;refine BoolOp_or (thn (ha pins s Z H _ I h) fun v s1 zz=>?_);obtain⟨x,H1,I1,r1,q1⟩:=zz;obtain⟨c,rfl,q1⟩:=q1;cases r1;refine wpAny_truthy_bool ?_;cases c with
 | false=>exact hb pins s1 Z H1 Q I1 q1
 | true=>exact⟨.bl true,H1,I1,rfl,q1⟩
theorem zf(ha:PE X a ta):PE X (.UnaryOp .Not a pos) (tf ta):=by
 intro pins s Z H Q I h;refine UnaryOp_ (thn (ha pins s Z H _ I h) fun v s1 zz=>?_);obtain⟨x,H1,I1,r1,q1⟩:=zz;obtain⟨c,rfl,q1⟩:=q1;cases r1;exact not_of (wpAny_truthy_bool ⟨.bl (!c),H1,I1,rfl,q1⟩)
def tIf(t:TT)(ta tb:TE):TE:=fun Z H Q=>t Z H fun c H1=>if c=true then ta Z H1 Q else tb Z H1 Q
theorem qJ{c:Expr}(hc:PT X c tA)(ha:PE X a ta)(hb:PE X b tb):PE X (.IfExp c a b pos) (tIf tA ta tb):=by
 intro pins s Z H Q I h;refine wpAny_IfExp (thn (hc pins s Z H _ I h) fun d s1 zz=>?_);obtain⟨H1,I1,q1⟩:=zz;cases d with
 | true=>exact ha pins s1 Z H1 Q I1 q1
 | false=>exact hb pins s1 Z H1 Q I1 q1
end
end L2
namespace L2
open PySem PySem.Spec PyProof.Rows
def SqL(K:W.Frag)(H:Hp)(a:Addr)(xs:List V):Prop:=
 Rd H a (.lst xs) ∨
  ∃(o:Obj) (its:Array Value) (n:Nat),K.lookup a=some o/\o.cls=.type "list" /\ o.dict=none/\o.data=.seq its n/\its.size<=sizeLine/\aC xs its.toList
def SqT(K:W.Frag)(H:Hp)(a:Addr)(xs:List V):Prop:=
 Rd H a (.tup xs) ∨
  ∃(o:Obj) (its:Array Value) (n:Nat),K.lookup a=some o/\o.cls=.type "tuple" /\ o.data=.seq its n/\its.size<=sizeLine/\aC xs its.toList
def Bw:Value->Option V
 | .none=>some .non
 | .bool b=>some (.bl b)
 | .int i _=>some (.int i)
 | .str x _=>some (.str x)
 | .bytes b _=>some (.byt b)
 | .float b _=>some (.flt b)
 | .ref a=>some (.ref a)
 | .type n=>some (.ty n)
 | _=>none
theorem aI.abs{x:V}{u:Value}(r:aI x u):Bw u=some x:=by
 cases x with
 | non=>cases r;rfl
 | bl _=>cases r;rfl
 | int _=>obtain⟨t,rfl⟩:=r;rfl
 | str _=>obtain⟨t,rfl⟩:=r;rfl
 | byt _=>obtain⟨t,rfl⟩:=r;rfl
 | flt _=>obtain⟨t,rfl⟩:=r;rfl
 | ref _=>cases r;rfl
 | ty _=>cases r;rfl
theorem aI.inj{x y:V}{u:Value}(r:aI x u)(q:aI y u):x=y:=Option.some.inj (r.abs.symm.trans q.abs)
theorem aC.inj:∀{xs ys:List V}{us:List Value},aC xs us->aC ys us->xs=ys
 | _,_,_,.nil,.nil=>rfl
 | _,_,_,.cons r t,.cons r' t'=>by rw[r.inj r',aC.inj t t']
section
variable{X:Cx}{pins:List (Addr×Obj)}{Z:St}{H:Hp}{s:Shared}{a:Addr}{xs ys:List V}
theorem SqL.of{K:W.Frag}(h:H a=some (.lst xs)):SqL K H a xs:=.inl (.inl h)
theorem SqT.of{K:W.Frag}(h:H a=some (.tup xs)):SqT K H a xs:=.inl (.inl h)
theorem Inv.list(I:Inv X pins Z H s)(h:SqL X.K H a xs):∃ its:List Value,aC xs its/\PlainL s.heap a its.toArray/\xs.length<=sizeLine:=by
 rcases h with h | ⟨o,its,n,hk,hc,hd,hs,hz,r⟩
 . obtain⟨z,its,n,r,e⟩:=h.ok I.hok
   exact⟨its,r,⟨_,n,e,rfl,rfl,rfl⟩,z⟩
 refine⟨its.toList,r,⟨o,n,I.kIn a o hk,hc,hd,by simpa using hs⟩,?_⟩
 have e:=r.length;simp only[Array.length_toList]at e;omega
theorem Inv.tuple(I:Inv X pins Z H s)(h:SqT X.K H a xs):∃ its:List Value,aC xs its/\IsTup s.heap a its.toArray/\xs.length<=sizeLine:=by
 rcases h with h | ⟨o,its,n,hk,hc,hs,hz,r⟩
 . obtain⟨z,its,r,p⟩:=h.ok I.hok
   exact⟨its,r,p,z⟩
 refine⟨its.toList,r,⟨o,I.kIn a o hk,hc,n,by simpa using hs⟩,?_⟩
 have e:=r.length;simp only[Array.length_toList]at e;omega
theorem Inv.list_inj(I:Inv X pins Z H s)(h:SqL X.K H a xs)(h':SqL X.K H a ys):xs=ys:=by
 obtain⟨its,r,⟨o,n,e,_,_,d⟩,_⟩:=I.list h;obtain⟨its',r',⟨o',n',e',_,_,d'⟩,_⟩:=I.list h';rw[e]at e';cases e';rw[d]at d';injection d' with d1 _;have:its=its':=by simpa using congrArg Array.toList d1
 subst this;exact r.inj r'
theorem Inv.tuple_inj(I:Inv X pins Z H s)(h:SqT X.K H a xs)(h':SqT X.K H a ys):xs=ys:=by
 obtain⟨its,r,⟨o,e,_,n,d⟩,_⟩:=I.tuple h;obtain⟨its',r',⟨o',e',_,n',d'⟩,_⟩:=I.tuple h';rw[e]at e';cases e';rw[d]at d';injection d' with d1 _;have:its=its':=by simpa using congrArg Array.toList d1
 subst this;exact r.inj r'
end
abbrev Cx.wish(X:Cx)(E:Value->Shared->Prop):Cx:={ X with xe:=E }
abbrev Cx.nox(X:Cx):Cx:=X.wish fun _ _=>False
theorem Cx.Ok.wish{X:Cx}(ok:X.Ok)(E:Value->Shared->Prop):(X.wish E).Ok:=
 ⟨ok.mod,ok.kind,ok.glob,ok.blt,ok.above,ok.inj,ok.has,ok.cab,ok.hd,ok.frames,ok.stk,ok.exf,ok.bs,ok.bsz,ok.noex,ok.exfs,ok.funs,ok.frf⟩
theorem Cx.Ok.unwish{X:Cx}{E:Value->Shared->Prop}(ok:(X.wish E).Ok):X.Ok:=
 ⟨ok.mod,ok.kind,ok.glob,ok.blt,ok.above,ok.inj,ok.has,ok.cab,ok.hd,ok.frames,ok.stk,ok.exf,ok.bs,ok.bsz,ok.noex,ok.exfs,ok.funs,ok.frf⟩
section
variable{X:Cx}{pins:List (Addr×Obj)}{Z:St}{H:Hp}{s:Shared}{E:Value->Shared->Prop}
theorem Inv.wish(I:Inv X pins Z H s)(E:Value->Shared->Prop):Inv (X.wish E) pins Z H s:=⟨I.ok.wish E,I.os,I.bare,I.base,I.loc,I.cell,I.free,I.freeC,I.pin,I.hok,I.len⟩
theorem Inv.unwish(I:Inv (X.wish E) pins Z H s):Inv X pins Z H s:=⟨I.ok.unwish,I.os,I.bare,I.base,I.loc,I.cell,I.free,I.freeC,I.pin,I.hok,I.len⟩
theorem SP.unwish{D:eM}{f:Flow}{s':Shared}(h:SP (X.wish E) pins D f s'):SP X pins D f s':=by
 cases f with
 | next=>obtain⟨Z',H',I,q⟩:=h;exact⟨Z',H',I.unwish,q⟩
 | brk=>obtain⟨Z',H',I,q⟩:=h;exact⟨Z',H',I.unwish,q⟩
 | cont=>obtain⟨Z',H',I,q⟩:=h;exact⟨Z',H',I.unwish,q⟩
 | ret u=>obtain⟨v,Z',H',I,r,q⟩:=h;exact⟨v,Z',H',I.unwish,r,q⟩
theorem PSs.nox{st:List Stmt}{t:TS}(h:PSs X.nox st t):PSs X st t:=fun pins s Z H D I hw=>
 wpAny_mono (h pins s Z H D (I.wish _) hw) (fun _ _ q=>q.unwish) fun _ _ z=>False.elim z
end
section
variable{X:Cx}{st:Stmt}{rest:List Stmt}{t u:TS}{e:Expr}{te:TE}{pos:Pos}
def sV:TS:=fun D Z H=>D.nx Z H
def uo(t u:TS):TS:=fun D Z H=>t { D with nx:=u D } Z H
theorem uH:PSs X [] sV:=fun _ _ Z H _ I h=>wpAny_execs_nil ⟨Z,H,I,h⟩
theorem rA(h1:PS X st t)(h2:PSs X rest u):PSs X (st::rest) (uo t u):=by
 intro pins s Z H D I h;refine wpAny_execs_cons (thn (h1 pins s Z H { D with nx:=u D } I h) fun f s1 q=>?_);cases f with
 | next=>
   obtain⟨Z',H',I',q⟩:=q;exact h2 pins s1 Z' H' D I' q
 | ret v=>exact q
 | brk=>exact q
 | cont=>exact q
theorem vO(h1:PS X st t):PSs X [st] t:=by
 intro pins s Z H D I h;refine wpAny_execs_cons (thn (h1 pins s Z H D I h) fun f s1 q=>?_);cases f with
 | next=>exact wpAny_execs_nil q
 | ret v=>exact q
 | brk=>exact q
 | cont=>exact q
theorem Inv.quiet{pins:List (Addr×Obj)}{Z:St}{H:Hp}{s:Shared}(I:Inv X pins Z H s):interactive X.env=false:=by simp[interactive,I.ok.kind]
def oj(te:TE):TS:=fun D Z H=>te Z H fun _ H1=>D.nx Z H1
theorem vZ(he:PE X e te)(hs:swapsWith e none pos.line X.env=pure false:=by rfl):PS X (.Expr e pos) (oj te):=by
 intro pins s Z H D I h;exact wpAny_Expr_any (thn (he pins s Z H _ I h) fun v s1 ⟨x,H1,I1,r1,q1⟩=>⟨Z,H1,I1,q1⟩) I.quiet hs
def vL(te:TE):TS:=fun D Z H=>te Z H D.rt
theorem xo(he:PE X e te):PS X (.Return (some e) pos) (vL te):=by
 intro pins s Z H D I h;exact wpAny_Return_some (thn (he pins s Z H _ I h) fun v s1 ⟨x,H1,I1,r1,q1⟩=>⟨x,Z,H1,I1,r1,q1⟩)
def rV:TS:=fun D _ H=>D.rt .non H
theorem uh:PS X (.Return none pos) rV:=fun _ _ Z H _ I h=>wpAny_Return_none ⟨.non,Z,H,I,rfl,h⟩
def yO(c:TT)(t u:TS):TS:=fun D Z H=>c Z H fun b H1=>if b=true then t D Z H1 else u D Z H1
theorem zA{c:Expr}{a b:List Stmt}{tc:TT}(hc:PT X c tc)(ha:PSs X a t)(hb:PSs X b u):PS X (.If c a b pos) (yO tc t u):=by
 intro pins s Z H D I h;refine wpAny_If (thn (hc pins s Z H _ I h) fun d s1 zz=>?_);obtain⟨H1,I1,q1⟩:=zz;cases d with
 | true=>exact ha pins s1 Z H1 D I1 q1
 | false=>exact hb pins s1 Z H1 D I1 q1
def sS:TS:=fun _ _ _=>False
theorem rm:PS X st sS:=fun _ _ _ _ _ _ h=>h.elim
end
abbrev TG:=V->St->Hp->(St->Hp->Prop)->Prop
abbrev TGs:=List V->St->Hp->(St->Hp->Prop)->Prop
def PG(X:Cx)(target:Expr)(t:TG):Prop:=
 ∀(pins:List (Addr×Obj)) (s:Shared) (Z:St) (H:Hp) (v:V) (u:Value) (Q:St->Hp->Prop),Inv X pins Z H s->aI v u->t v Z H Q ->
   wpAny (model X.prog X.w) X.A (assign target X.env u) (fun _ s'=>∃ Z' H',Inv X pins Z' H' s'/\Q Z' H') X.xe s
def PGs(X:Cx)(ts:List Expr)(t:TGs):Prop:=
 ∀(pins:List (Addr×Obj)) (s:Shared) (Z:St) (H:Hp) (vs:List V) (us:List Value) (Q:St->Hp->Prop),Inv X pins Z H s->aC vs us->t vs Z H Q ->
   wpAny (model X.prog X.w) X.A (assignInOrder ((assignEach ts X.env).map (·.2)) us) (fun _ s'=>∃ Z' H',Inv X pins Z' H' s'/\Q Z' H') X.xe s
abbrev qF:=V->V->V->Hp->(Hp->Prop)->Prop
def xH(X:Cx)(t:qF):Prop:=
 ∀(pins:List (Addr×Obj)) (s:Shared) (Z:St) (H:Hp) (o i v:V) (ov iv u:Value) (Q:Hp->Prop),Inv X pins Z H s->aI o ov->aI i iv->aI v u->t o i v H Q ->
   wpAny (model X.prog X.w) X.A (setItem ov iv u) (fun _ s'=>∃ H',Inv X pins Z H' s'/\Q H') X.xe s
section
variable{X:Cx}{pos:Pos}
def mB(i:Nat):TG:=fun v Z H Q=>Q (Z.set i (some v)) H
theorem lD{i:Nat}{x:Str}(hN:X.N.Nodup)(hi:X.N[i]?=some x)(hx:Loc X.env.scope x)(hf:X.fn x=true∨X.env.scope.names.lookup x=some .local:=by first | exact .inl rfl | exact .inr rfl | assumption):PG X (.Name x pos) (mB i):=by
 intro pins s Z H v u Q I r h;exact wpAny_assign_Name (gC I hN hi hx r (fun s' I'=>⟨_,H,I',h⟩) hf)
def zw:TGs:=fun vs Z H Q=>vs=[]/\Q Z H
def wF(t:TG)(u:TGs):TGs:=fun vs Z H Q=>∃ v r,vs=v::r/\t v Z H fun Z' H'=>u r Z' H' Q
theorem vT:PGs X [] zw:=by
 intro pins s Z H vs us Q I r h;obtain⟨e,h⟩:=h;subst e;cases r;exact assignInOrder_nil ⟨Z,H,I,h⟩
theorem sG{e:Expr}{es:List Expr}{t:TG}{u:TGs}(h1:PG X e t)(h2:PGs X es u)
 (hs:(assignEach (e::es) X.env).map (·.2)=assign e X.env::(assignEach es X.env).map (·.2):=by rfl):PGs X (e::es) (wF t u):=by
 intro pins s Z H vs us Q I r h;obtain⟨v,vr,e1,h⟩:=h;subst e1;cases r with
 | cons r rr=>
   rw[hs];refine assignInOrder_cons (thn (h1 pins s Z H _ _ _ I r h) fun _ s1 zz=>?_);obtain⟨Z1,H1,I1,q1⟩:=zz;exact h2 pins s1 Z1 H1 _ _ Q I1 rr q1
def xb(K:W.Frag)(n:Nat)(t:TGs):TG:=fun v Z H Q=>∃ a xs,v=.ref a/\SqT K H a xs/\xs.length=n/\t xs Z H Q
theorem sB{es:List Expr}{k:Nat}{t:TGs}{n:Nat}(hc:X.calm=true)(h:PGs X es t)
 (hn:(assignEach es X.env).length=n:=by rfl) (hst:(assignEach es X.env).findIdx? (·.1)=none:=by rfl):PG X (.Tuple es k pos) (xb X.K n t):=by
 intro pins s Z H v u Q I r hw;obtain⟨a,xs,e1,hq,hl,hw⟩:=hw;subst e1;cases r;obtain⟨its,rv,ht,hz⟩:=I.tuple hq;refine assign_Tuple_tuple (I.ok.hd hc) ht (by simp[hn,← hl,rv.length]) hst fun h' hx=>?_
 have I1:Inv X pins Z H { s with heap:=h' }:=I.kept (t':=s.toks) fun b o e=>hx b o (Nat.ne_of_lt (Heap.lt_size e)) e;exact h pins _ Z H xs _ Q I1 (by simpa using rv) hw
def y9(to ti:TE)(t:qF):TG:=fun v Z H Q=>to Z H fun o H1=>ti Z H1 fun i H2=>t o i v H2 fun H3=>Q Z H3
theorem wX{o i:Expr}{to ti:TE}{t:qF}(ho:PE X o to)(hi:PE X i ti)(hs:xH X t)
 (ha:∀ v,assign (.Subscript o i pos) X.env v=(do
  let ov ← holding [v] (eval o X.env)
  let iv ← holding [v,ov] (eval i X.env)
  standAt pos
  holding [v,ov,iv] (setItem ov iv v)
  release [v,ov,iv] []):=by intro _;rfl):PG X (.Subscript o i pos) (y9 to ti t):=by
 intro pins s Z H v u Q I r h;rw[ha];refine wpAny_bind (wpAny_holding (thn (ho pins s Z H _ I h) fun ov s1 zz=>?_));obtain⟨x,H1,I1,r1,q1⟩:=zz;refine wpAny_bind (wpAny_holding (thn (hi pins s1 Z H1 _ I1 q1) fun iv s2 zz=>?_));obtain⟨y,H2,I2,r2,q2⟩:=zz;refine wpAny_bind (wpAny_standAt (wpAny_bind (wpAny_holding (thn (hs pins s2 Z H2 x y v ov iv u _ I2 r1 r2 r q2) fun _ s3 zz=>?_))));obtain⟨H3,I3,q3⟩:=zz;exact wpAny_release ⟨Z,H3,I3,q3⟩
def si(te:TE)(g:TG):TS:=fun D Z H=>te Z H fun x H1=>g x Z H1 D.nx
theorem yj{tg e:Expr}{te:TE}{g:TG}(he:PE X e te)(hg:PG X tg g)(hs:swapsWithSole [tg] e pos.line X.env=pure false:=by rfl)(hw:swappedStores [tg] e X.env=pure none:=by rfl)
 (h1:(assignEach [tg] X.env).map (·.2)=[assign tg X.env]:=by rfl):PS X (.Assign [tg] e pos) (si te g):=by
 intro pins s Z H D I h;refine wpAny_Assign_stores (thn (he pins s Z H _ I h) fun v s1 ⟨x,H1,I1,r1,q1⟩=>?_) hs hw;rw[h1];exact thn (hg pins s1 Z H1 x v _ I1 r1 q1) fun _ s2 q=>q
theorem xP{i:Nat}{x:Str}{e:Expr}{te:TE}{pos':Pos}(hN:X.N.Nodup)(hi:X.N[i]?=some x)(hx:Loc X.env.scope x)(he:PE X e te)(hs:swapsWith e (some (.Name x pos')) pos.line X.env=pure false:=by rfl)(hf:X.fn x=true∨X.env.scope.names.lookup x=some .local:=by first | exact .inl rfl | exact .inr rfl | assumption) :
 PS X (.Assign [.Name x pos'] e pos) (si te (mB i)):=by
 intro pins s Z H D I h;refine wpAny_Assign_Name (thn (he pins s Z H _ I h) fun v s1 ⟨y,H1,I1,r1,q1⟩=>?_) hs;exact gC I1 hN hi hx r1 (fun s2 I2=>⟨_,H1,I2,q1⟩) hf
end
section
variable{X:Cx}{pos:Pos}
end
structure It where
 go:Nat->Hp->Prop
 yld:Nat->Hp->V->Hp->Prop
 stop:Nat->Hp->Prop
def dN(X:Cx)(pins:List (Addr×Obj))(H:Hp)(b:Addr):Prop:=
 H b=none/\b≠X.env.locals/\b∉X.fs/\(b∈X.ex∨X.s₀.heap.objs.size<=b)/\(∀ x c,X.env.cells.lookup x=some c->c≠b) /\ ∀ p∈X.pn++pins,p.1≠b
theorem Inv.fpOk{X:Cx}{pins:List (Addr×Obj)}{Z:St}{H H':Hp}{s:Shared}{b:Addr}(I:Inv X pins Z H s)(hb:s.heap.objs.size<=b)(hn:H' b=none):dN X pins H' b:=by
 refine⟨hn,Nat.ne_of_gt (Nat.lt_of_lt_of_le I.lt hb),I.nofs hb,.inr (Nat.le_trans I.sz hb),fun x c e z=>?_,fun p hp z=>?_⟩
 . obtain⟨v,q⟩:=I.cell x c e
   exact absurd (Nat.lt_of_lt_of_le q.lt (by rw[z];exact hb)) (Nat.lt_irrefl _)
 exact absurd (Nat.lt_of_lt_of_le (Heap.lt_size (I.pin p hp).1) (by rw[z];exact hb)) (Nat.lt_irrefl _)
structure nJ(P:Program)(w:World)(K:W.Frag)(tg:Expr)(J:It)(fp:List Addr)(it:Addr)(tn:Nat->Heap->Prop):Prop where
 mem:it∈fp
 obj:∀ i h,tn i h -> ∀ b∈fp,∃ o,h.get? b=some o /\ ∀ v,o.data ≠ .cell v
 keep:∀ i h h',tn i h->(∀ b∈fp,∀ o,h.get? b=some o->h'.get? b=some o)->tn i h'
 item:∀(X:Cx),X.prog=P->X.w=w->X.K=K->X.calm=true -> ∀(i:Nat) (pins:List (Addr×Obj)) (s:Shared) (Z:St) (H:Hp) (E:Value->Shared->Prop),Inv X pins Z H s->(∀ b∈fp,dN X pins H b)->tn i s.heap->J.go i H ->
  wpAny (model P w) X.A (pyNext (.ref it)) (fun r s1=>∃ u,r=some u /\
   wpAny (model P w) X.A (letOwnedTupleGo tg (.ref it) u) (fun _ s2=>∃ x H',Inv X pins Z H' s2/\aI x u/\J.yld i H x H'/\tn (i+1) s2.heap /\ ∀ b∈fp,H' b=none) E s1) E s
 done:∀(X:Cx),X.prog=P->X.w=w->X.K=K->X.calm=true -> ∀(i:Nat) (pins:List (Addr×Obj)) (s:Shared) (Z:St) (H:Hp) (E:Value->Shared->Prop),Inv X pins Z H s->(∀ b∈fp,dN X pins H b)->tn i s.heap->J.stop i H ->
  wpAny (model P w) X.A (pyNext (.ref it)) (fun r s1=>r=none/\Inv X pins Z H s1) E s
 self:∀(A:Around) (i:Nat) (s:Shared) (Q:Value->Shared->Prop) (E:Value->Shared->Prop),tn i s.heap->Q (.ref it) s->wpAny (model P w) A (pyIter (.ref it)) Q E s
abbrev TI:=St->Hp->(It->Hp->Prop)->Prop
def PIE(X:Cx)(pins:List (Addr×Obj))(Z:St)(tg:Expr)(R:It->Hp->Prop)(itv:Value)(s2:Shared):Prop:=
 ∃(it:Addr) (fp:List Addr) (tn:Nat->Heap->Prop) (J:It) (H':Hp),itv=.ref it/\Inv X pins Z H' s2/\nJ X.prog X.w X.K tg J fp it tn/\tn 0 s2.heap/\(∀ b∈fp,dN X pins H' b)/\R J H'
def PI(X:Cx)(tg iter:Expr)(wi:TI):Prop:=
 ∀(pins:List (Addr×Obj)) (s:Shared) (Z:St) (H:Hp) (R:It->Hp->Prop),Inv X pins Z H s->wi Z H R ->
   wpAny (model X.prog X.w) X.A (eval iter X.env) (fun v s1=>wpAny (model X.prog X.w) X.A (pyIter v) (PIE X pins Z tg R) X.xe s1) X.xe s
theorem qH{M:Model}{A:Around}{E:Value->Shared->Prop}{s:Shared}{tg:Expr}{it:Addr}{u:Value}{o:Obj}{n:String}{vs:Array Value}{Q:Unit->Shared->Prop}(ho:s.heap.get? it=some o)(hc:o.cls=.type n)(hd:o.data=.fields vs)
 (hn:["enumerate","zip","dict_itemiterator","dict_reverseitemiterator","odict_iterator","itertools.zip_longest","itertools.pairwise"].contains n=false) (hQ:Q () s):wpAny M A (letOwnedTupleGo tg (.ref it) u) Q E s:=by
 unfold letOwnedTupleGo;cases tg <;> first
  | exact wpAny_pure hQ
  | (cases u <;> first
   | exact wpAny_pure hQ
   | (refine wpAny_bind (wpAny_load ho ?_)
      rw[hc,hd];show wpAny M A (if(["enumerate","zip","dict_itemiterator","dict_reverseitemiterator","odict_iterator","itertools.zip_longest","itertools.pairwise"].contains n && vs[0]? == some (rawInt _))=true then _ else _) Q E s;rw[if_neg (by intro h;rw[hn,Bool.false_and]at h;cases h)]
      exact wpAny_pure hQ))
def Itl(K:W.Frag)(a:Addr):It:=
 ⟨fun i H=>∃ xs x,SqL K H a xs/\xs[i]?=some x,fun i H x H'=>H'=H /\ ∀ xs,SqL K H a xs->xs[i]?=some x,fun i H=>∃ xs,SqL K H a xs/\xs.length<=i⟩
def Itt(K:W.Frag)(a:Addr):It:=
 ⟨fun i H=>∃ xs x,SqT K H a xs/\xs[i]?=some x,fun i H x H'=>H'=H /\ ∀ xs,SqT K H a xs->xs[i]?=some x,fun i H=>∃ xs,SqT K H a xs/\xs.length<=i⟩
def Itr(lo:Int)(n:Nat):It:=⟨fun i _=>i < n,fun i H x H'=>H'=H/\x=.int (lo+i),fun i _=>n<=i⟩
theorem pO{P:Program}{w:World}{K:W.Frag}{tg:Expr}(a it:Addr):nJ P w K tg (Itl K a) [it] it (fun i h=>h.IsListIter it a i) where
 mem:=by simp
 obj:=fun i h st b hb=>by
  have e:b=it:=by simpa using hb
  subst e;obtain⟨o,e,c,d⟩:=st;exact⟨o,e,fun v z=>by rw[d]at z;cases z⟩
 keep:=fun i h h' st k=>st.at fun o e=>k it (by simp) o e
 item:=by
  intro X hP hw hK hc i pins s Z H E I hf st hg;subst hP hw hK;obtain⟨xs,x,hq,hx⟩:=hg;obtain⟨its,rv,p,hz⟩:=I.list hq;obtain⟨u,hu,ru⟩:=rv.get hx;obtain⟨f0,f1,f2,f3,f4,f5⟩:=hf it (by simp)
  refine wpAny_pyNext_list_item st p.isList (x:=u) (by simpa using hu) fun h' st' sb=>?_
  have I1:Inv X pins Z H { s with heap:=h' }:=I.turned (t':=s.toks) (fun b o hb e=>(sb.2 b hb).trans e) f0 f1 f3 f4 f5;obtain⟨o,e,c,d⟩:=id st';exact⟨u,rfl,qH (s:={ s with heap:=h' }) e c d (by decide) ⟨x,H,I1,ru,⟨rfl,fun ys hy=>by rw[I.list_inj hy hq];exact hx⟩,st',fun b hb=>(hf b hb).1⟩⟩
 done:=by
  intro X hP hw hK hc i pins s Z H E I hf st hg;subst hP hw hK;obtain⟨xs,hq,hx⟩:=hg;obtain⟨its,rv,p,hz⟩:=I.list hq;obtain⟨f0,f1,f2,f3,f4,f5⟩:=hf it (by simp)
  have hl:=rv.length;exact wpAny_pyNext_list_end (I.ok.hd hc) st p.isList (by simp;omega) fun h' eb=>⟨rfl,I.turned (t':=s.toks) (fun b o hb e=>eb b o hb e) f0 f1 f3 f4 f5⟩
 self:=fun _ _ _ _ _ st h=>wpAny_pyIter_listiter st h
theorem n4{P:Program}{w:World}{K:W.Frag}{tg:Expr}(a it:Addr):nJ P w K tg (Itt K a) [it] it (fun i h=>h.IsTupleIter it a i) where
 mem:=by simp
 obj:=fun i h st b hb=>by
  have e:b=it:=by simpa using hb
  subst e;obtain⟨o,e,c,d⟩:=st;exact⟨o,e,fun v z=>by rw[d]at z;cases z⟩
 keep:=fun i h h' st k=>st.at fun o e=>k it (by simp) o e
 item:=by
  intro X hP hw hK hc i pins s Z H E I hf st hg;subst hP hw hK;obtain⟨xs,x,hq,hx⟩:=hg;obtain⟨its,rv,p,hz⟩:=I.tuple hq;obtain⟨u,hu,ru⟩:=rv.get hx;obtain⟨f0,f1,f2,f3,f4,f5⟩:=hf it (by simp)
  refine wpAny_pyNext_tuple_item st (show s.heap.IsTuple a its.toArray from p) (x:=u) (by simpa using hu) fun h' st' sb=>?_
  have I1:Inv X pins Z H { s with heap:=h' }:=I.turned (t':=s.toks) (fun b o hb e=>(sb.2 b hb).trans e) f0 f1 f3 f4 f5;obtain⟨o,e,c,d⟩:=id st';exact⟨u,rfl,qH (s:={ s with heap:=h' }) e c d (by decide) ⟨x,H,I1,ru,⟨rfl,fun ys hy=>by rw[I.tuple_inj hy hq];exact hx⟩,st',fun b hb=>(hf b hb).1⟩⟩
 done:=by
  intro X hP hw hK hc i pins s Z H E I hf st hg;subst hP hw hK;obtain⟨xs,hq,hx⟩:=hg;obtain⟨its,rv,p,hz⟩:=I.tuple hq;obtain⟨f0,f1,f2,f3,f4,f5⟩:=hf it (by simp)
  have hl:=rv.length;exact wpAny_pyNext_tuple_end (I.ok.hd hc) st (show s.heap.IsTuple a its.toArray from p) (by simp;omega) fun h' eb=>⟨rfl,I.turned (t':=s.toks) (fun b o hb e=>eb b o hb e) f0 f1 f3 f4 f5⟩
 self:=fun _ _ _ _ _ st h=>wpAny_pyIter_tupleiter st h
theorem nB{P:Program}{w:World}{K:PySem.W.Frag}{tg:Expr}(it:Addr)(lo:Int)(n:Nat):nJ P w K tg (Itr lo n) [it] it (fun i h=>IsRangeIter h it (lo+(i:Nat)*1) ((n:Int) - (i:Nat)) 1) where
 mem:=by simp
 obj:=fun i h st b hb=>by
  have e:b=it:=by simpa using hb
  subst e;exact⟨_,st,fun v z=>by
   have z':Data.fields _=Data.cell v:=z;cases z'⟩
 keep:=fun i h h' st k=>k it (by simp) _ st
 item:=by
  intro X hP hw hK hc i pins s Z H E I hf st hg;subst hP hw hK;obtain⟨f0,f1,f2,f3,f4,f5⟩:=hf it (by simp)
  have W:=Walks.range (prog:=X.prog) (w:=X.w) (I.ok.hd hc) it lo 1 n;refine W.item i s _ _ hg st fun v h' tk hv st' kk=>?_;obtain⟨t,rfl⟩:=hv;have I1:Inv X pins Z H { s with heap:=h',toks:=tk }:=I.turned (fun b o hb e=>kk b o (by simpa using hb) e) f0 f1 f3 f4 f5
  refine⟨_,rfl,qH (s:={ s with heap:=h',toks:=tk }) (n:="range_iterator") st' rfl rfl (by decide) ⟨.int (lo+i),H,I1,⟨t,?_⟩,⟨rfl,rfl⟩,st',fun b hb=>(hf b hb).1⟩⟩
  rw[Int.mul_one]
 done:=by
  intro X hP hw hK hc i pins s Z H E I hf st hg;subst hP hw hK;obtain⟨f0,f1,f2,f3,f4,f5⟩:=hf it (by simp)
  exact wpAny_pyNext_range_end (I.ok.hd hc) st (by have:n<=i:=hg;omega) fun h' eb=>⟨rfl,I.turned (t':=s.toks) (fun b o hb e=>eb b o hb e) f0 f1 f3 f4 f5⟩
 self:=fun _ _ _ _ _ st h=>wpAny_pyIter_rangeiter st h
end L2
namespace L2
open PySem PySem.Spec PyProof.Rows
section
variable{X:Cx}{tg:Expr}
def oA(K:W.Frag)(tl:TE):TI:=fun Z H R=>tl Z H fun x H1=>∃ a,x=.ref a/\(∃ xs,SqL K H1 a xs)/\R (Itl K a) H1
def w_(K:W.Frag)(tl:TE):TI:=fun Z H R=>tl Z H fun x H1=>∃ a,x=.ref a/\(∃ xs,SqT K H1 a xs)/\R (Itt K a) H1
theorem pD{l:Expr}{tl:TE}(hl:PE X l tl):PI X tg l (oA X.K tl):=by
 intro pins s Z H R I h;refine thn (hl pins s Z H _ I h) fun v s1 zz=>?_;obtain⟨x,H1,I1,r1,q1⟩:=zz;obtain⟨a,e,⟨xs,hq⟩,q⟩:=q1;subst e;cases r1;obtain⟨its,rv,p,hz⟩:=I1.list hq;refine wpAny_pyIter_list p.isList ?_;refine⟨s1.heap.objs.size,[s1.heap.objs.size],_,_,H1,rfl,I1.kept (t':=s1.toks) fun b o e=>Heap.get?_push_of_some _ e,pO a _,⟨_,Heap.get?_push_size _ rfl,rfl,rfl⟩,fun b hb=>?_,q⟩;have e:b=s1.heap.objs.size:=by simpa using hb
 subst e;exact I1.fpOk (Nat.le_refl _) (I1.hok.fresh (Nat.le_refl _))
theorem ym{l:Expr}{tl:TE}(hl:PE X l tl):PI X tg l (w_ X.K tl):=by
 intro pins s Z H R I h;refine thn (hl pins s Z H _ I h) fun v s1 zz=>?_;obtain⟨x,H1,I1,r1,q1⟩:=zz;obtain⟨a,e,⟨xs,hq⟩,q⟩:=q1;subst e;cases r1;obtain⟨its,rv,p,hz⟩:=I1.tuple hq;refine wpAny_pyIter_tuple (show s1.heap.IsTuple a its.toArray from p) ?_;refine⟨s1.heap.objs.size,[s1.heap.objs.size],_,_,H1,rfl,I1.kept (t':=s1.toks) fun b o e=>Heap.get?_push_of_some _ e,n4 a _,⟨_,Heap.get?_push_size _ rfl,rfl,rfl⟩,fun b hb=>?_,q⟩;have e:b=s1.heap.objs.size:=by simpa using hb
 subst e;exact I1.fpOk (Nat.le_refl _) (I1.hok.fresh (Nat.le_refl _))
theorem sC{pins:List (Addr×Obj)}{Z:St}{H:Hp}{s:Shared}{R:It->Hp->Prop}{E:Value->Shared->Prop}{lo hi:Int}{t u v:Tok}{tk:Nat}(I:Inv X pins Z H s)(h1:-(2 ^ 62)<=lo)(h2:lo < 2 ^ 62)(h3:-(2 ^ 62)<=hi)(h4:hi < 2 ^ 62)
 (q:R (Itr lo (hi - lo).toNat) H):wpAny (model X.prog X.w) X.A (pyIter (.ref s.heap.objs.size)) (PIE X pins Z tg R) E { s with heap:=s.heap.push { cls:=.type "range",data:=.fields #[.int lo t,.int hi u,.int 1 v] },toks:=tk }:=by
 refine wpAny_pyIter_range (IsRange.new ..) (small_one h1 h2 h3 h4) ?_;have I1:Inv X pins Z H { s with heap:=s.heap.push { cls:=.type "range",data:=.fields #[.int lo t,.int hi u,.int 1 v] },toks:=tk }:=I.kept fun b o e=>Heap.get?_push_of_some _ e;refine⟨(s.heap.push { cls:=.type "range",data:=.fields #[.int lo t,.int hi u,.int 1 v] }).objs.size,[(s.heap.push { cls:=.type "range",data:=.fields #[.int lo t,.int hi u,.int 1 v] }).objs.size],_,_,H,rfl,
  I1.kept (t':=tk) fun b o e=>Heap.get?_push_of_some _ e,nB _ lo (hi - lo).toNat,?_,fun b hb=>?_,q⟩
 . have e1:lo+((0:Nat):Int)*1=lo:=by simp
   have e2:(((hi - lo).toNat:Nat):Int) - ((0:Nat):Int)=Builtin.Range.rangeSize lo hi 1:=by rw[rangeSize_one];split <;> omega
   show IsRangeIter _ _ (lo+((0:Nat):Int)*1) ((((hi - lo).toNat:Nat):Int) - ((0:Nat):Int)) 1;rw[e1,e2];exact Heap.get?_push_size _ rfl
 have e:b=(s.heap.push { cls:=.type "range",data:=.fields #[.int lo t,.int hi u,.int 1 v] }).objs.size:=by simpa using hb
 subst e;exact I1.fpOk (Nat.le_refl _) (I1.hok.fresh (Nat.le_refl _))
def o8(ta:TA):TI:=fun Z H R=>ta Z H fun vs H1=>∃ j:Int,vs=[.int j] /\ -(2 ^ 62)<=j/\j < 2 ^ 62/\R (Itr 0 j.toNat) H1
theorem pT{a:Expr}{ta:TA}{p pos:Pos}(hg:Gl X "range")(hm:X.mg "range"=none)(ha:PA X [a] ta)(hs:starEach [a] X.env=[(false,eval a X.env)]:=by rfl):PI X tg (.Call (.Name "range" p) [a] [] pos) (o8 ta):=by
 intro pins s Z H R I h;refine Call_ (jb I hg hm boot_range (PyProof.Rows.callWith_type1 (thn (ha pos pins s Z H _ I h) fun us s1 ⟨vs,H1,I1,r1,q1⟩=>?_) hs rfl));obtain⟨j,e,q1,q2,q⟩:=q1;subst e;cases r1 with
 | cons r rr=>
   cases rr;obtain⟨t,rfl⟩:=r;exact call_range_1 (sC I1 (by omega) (by omega) q1 q2 (by simpa using q))
def zn(wi:TI)(g:TG)(tb:TS):TS:=fun D Z H=>wi Z H fun J H1=>∃ W:Nat->Nat->St->Hp->Prop,(∃ m,W 0 m Z H1) /\ ∀ i m Z H,W i m Z H ->
 (J.stop i H/\D.nx Z H)∨(J.go i H /\ ∃ N:St->Hp->Prop,(∀ Z' H',N Z' H' -> ∃ m',m' < m/\W (i+1) m' Z' H') /\ ∀ x H',J.yld i H x H'->g x Z H' fun Z2 H2=>tb { D with nx:=N,ct:=N,bk:=D.nx } Z2 H2)
def hJ(fp:List Addr)(h:Heap):List (Addr×Obj):=fp.filterMap fun b=>(h.get? b).map fun o=>(b,o)
theorem cF{fp:List Addr}{h:Heap}{b:Addr}{o:Obj}(hb:b∈fp)(e:h.get? b=some o):(b,o)∈hJ fp h:=List.mem_filterMap.mpr ⟨b,hb,by rw[e];rfl⟩
theorem qf{fp:List Addr}{h:Heap}{p:Addr×Obj}(hp:p∈hJ fp h):p.1∈fp/\h.get? p.1=some p.2:=by
 obtain⟨b,hb,e⟩:=List.mem_filterMap.mp hp;cases q:h.get? b with
 | none=>rw[q]at e;cases e
 | some o=>
   rw[q]at e;have e':(b,o)=p:=Option.some.inj e;subst e';exact⟨hb,q⟩
theorem Inv.pinned{pins:List (Addr×Obj)}{Z:St}{H:Hp}{s:Shared}{fp:List Addr}(I:Inv X pins Z H s)(hf:∀ b∈fp,dN X pins H b)(ho:∀ b∈fp,∃ o,s.heap.get? b=some o /\ ∀ v,o.data ≠ .cell v):Inv X (pins++hJ fp s.heap) Z H s:=
 I.pins_of fun p hp=>(List.mem_append.mp hp).elim (fun z=>I.pin p (List.mem_append_right _ z)) fun z=>by
  obtain⟨hb,e⟩:=qf z;obtain⟨f0,f1,f2,_⟩:=hf p.1 hb;obtain⟨o,e',d⟩:=ho p.1 hb;rw[e]at e';cases e';exact⟨e,f0,f1,f2,d⟩
theorem Inv.unpinned{pins pl:List (Addr×Obj)}{Z:St}{H:Hp}{s:Shared}(I:Inv X (pins++pl) Z H s):Inv X pins Z H s:=I.pins_of fun p hp=>I.pin p (List.mem_append_right _ (List.mem_append_left _ hp))
theorem xE{iter:Expr}{body:List Stmt}{wi:TI}{g:TG}{tb:TS}{pos:Pos}(hp:PassesOwn (model X.prog X.w) X.A X.env X.xe)(hc:X.calm=true)(hi:PI X tg iter wi)(hg:PG X tg g)(hb:PSs X body tb)
 (hs:∀ x,foldedSetIterable iter X.env x=pure x:=by intro _;rfl):PS X (.For tg iter body [] pos) (zn wi g tb):=by
 intro pins s Z H D I h;refine wpAny_For (thn (hi pins s Z H _ I h) fun v s1 h1=>thn h1 fun itv s2 h2=>?_) hs;obtain⟨it,fp,tn,J,H2,e,I2,T,st2,f2,W,⟨m0,w0⟩,turn⟩:=h2;subst e
 -- what stays true of the iterator's objects through the loop
 have stat:∀{H':Hp},(∀ b∈fp,H' b=none) -> ∀ b∈fp,dN X pins H' b:=fun hn b hb=>⟨hn b hb,(f2 b hb).2⟩;refine codeAny_forLoop_any (fun n s'=>∃ i Z' H',Inv X pins Z' H' s'/\tn i s'.heap/\(∀ b∈fp,H' b=none)/\W i n Z' H') ?_ m0 ⟨0,Z,H2,I2,st2,fun b hb=>(f2 b hb).1,w0⟩;rintro n s3 ⟨i,Z3,H3,I3,st3,fr3,w3⟩;rcases turn i n Z3 H3 w3 with ⟨stop,qn⟩ | ⟨go,N,hN,step⟩
 . refine wpAny_passesOwn hp (thn (T.done X rfl rfl rfl hc i pins s3 Z3 H3 X.xe I3 (stat fr3) st3 stop) fun r s4 zz=>?_)
   obtain⟨hr,I4⟩:=zz;subst hr;exact wpAny_execs_nil ⟨Z3,H3,I4,qn⟩
 refine wpAny_passesOwn hp (thn (T.item X rfl rfl rfl hc i pins s3 Z3 H3 X.xe I3 (stat fr3) st3 go) fun r s4 zz=>?_);obtain⟨u,hr,h4⟩:=zz;subst hr;refine wpAny_passesOwn hp (thn h4 fun _ s5 zz=>?_);obtain⟨x,H5,I5,r5,y5,st5,fr5⟩:=zz;have I5':=I5.pinned (stat fr5) (T.obj _ _ st5);refine wpAny_passesOwn hp (thn (hg _ s5 Z3 H5 x u _ I5' r5 (step x H5 y5)) fun _ s6 zz=>?_);obtain⟨Z6,H6,I6,q6⟩:=zz;refine wpAny_passesOwn hp (thn (hb _ s6 Z6 H6 _ I6 q6) fun f s7 q7=>?_);have again:∀{Z7:St}{H7:Hp},Inv X (pins++hJ fp s5.heap) Z7 H7 s7->N Z7 H7 -> ∃ m,m < n /\ ∃ i Z' H',Inv X pins Z' H' s7/\tn i s7.heap/\(∀ b∈fp,H' b=none)/\W i m Z' H':=fun {Z7 H7} I7 n7=>by
  obtain⟨m',hm,w7⟩:=hN Z7 H7 n7;refine⟨m',hm,i+1,Z7,H7,I7.unpinned,T.keep _ _ _ st5 fun b hb o e=>(I7.pin (b,o) (List.mem_append_right _ (List.mem_append_right _ (cF hb e)))).1,fun b hb=>?_,w7⟩;obtain⟨o,e,d⟩:=T.obj _ _ st5 b hb;exact(I7.pin (b,o) (List.mem_append_right _ (List.mem_append_right _ (cF hb e)))).2.1
 cases f with
 | next=>obtain⟨Z7,H7,I7,n7⟩:=q7;exact again I7 n7
 | cont=>obtain⟨Z7,H7,I7,n7⟩:=q7;exact again I7 n7
 | brk=>obtain⟨Z7,H7,I7,q7⟩:=q7;exact⟨Z7,H7,I7.unpinned,q7⟩
 | ret v=>obtain⟨x7,Z7,H7,I7,r7,q7⟩:=q7;exact⟨x7,Z7,H7,I7.unpinned,r7,q7⟩
end
theorem jt{K:PySem.W.Frag}{a:Addr}{xs:List V}{g:TG}{tb:TS}{D:eM}{Z:St}{H:Hp}(Pv:Nat->St->Hp->Prop)(h0:Pv 0 Z H)(hl:∀ i Z H,i<=xs.length->Pv i Z H->SqL K H a xs)
 (hs:∀ i x Z H,xs[i]?=some x->Pv i Z H->g x Z H fun Z2 H2=>tb { D with nx:=Pv (i+1),ct:=Pv (i+1),bk:=D.nx } Z2 H2) (hd:∀ Z H,Pv xs.length Z H->D.nx Z H) :
 ∃ W:Nat->Nat->St->Hp->Prop,(∃ m,W 0 m Z H) /\ ∀ i m Z H,W i m Z H ->
   ((Itl K a).stop i H/\D.nx Z H)∨((Itl K a).go i H /\ ∃ N:St->Hp->Prop,(∀ Z' H',N Z' H' -> ∃ m',m' < m/\W (i+1) m' Z' H') /\ ∀ x H',(Itl K a).yld i H x H'->g x Z H' fun Z2 H2=>tb { D with nx:=N,ct:=N,bk:=D.nx } Z2 H2):=by
 refine⟨fun i m Z H=>m=xs.length - i/\i<=xs.length/\Pv i Z H,⟨xs.length,by simp,Nat.zero_le _,h0⟩,?_⟩
 rintro i m Z H ⟨rfl,hi,p⟩;have q:=hl i Z H hi p;by_cases hlt:i < xs.length
 . refine .inr ⟨⟨xs,xs[i],q,by simp[hlt]⟩,Pv (i+1),fun Z' H' p'=>⟨xs.length - (i+1),by omega,rfl,hlt,p'⟩,fun x H' y=>?_⟩
   obtain⟨e,y⟩:=y;subst e;exact hs i x Z _ (y xs q) p
 have e:i=xs.length:=by omega
 subst e;exact .inl ⟨⟨xs,q,Nat.le_refl _⟩,hd Z H p⟩
theorem dI{K:PySem.W.Frag}{a:Addr}{xs:List V}{g:TG}{tb:TS}{D:eM}{Z:St}{H:Hp}(Pv:Nat->St->Hp->Prop)(h0:Pv 0 Z H)(hl:∀ i Z H,i<=xs.length->Pv i Z H->SqT K H a xs)
 (hs:∀ i x Z H,xs[i]?=some x->Pv i Z H->g x Z H fun Z2 H2=>tb { D with nx:=Pv (i+1),ct:=Pv (i+1),bk:=D.nx } Z2 H2) (hd:∀ Z H,Pv xs.length Z H->D.nx Z H) :
 ∃ W:Nat->Nat->St->Hp->Prop,(∃ m,W 0 m Z H) /\ ∀ i m Z H,W i m Z H ->
   ((Itt K a).stop i H/\D.nx Z H)∨((Itt K a).go i H /\ ∃ N:St->Hp->Prop,(∀ Z' H',N Z' H' -> ∃ m',m' < m/\W (i+1) m' Z' H') /\ ∀ x H',(Itt K a).yld i H x H'->g x Z H' fun Z2 H2=>tb { D with nx:=N,ct:=N,bk:=D.nx } Z2 H2):=by
 refine⟨fun i m Z H=>m=xs.length - i/\i<=xs.length/\Pv i Z H,⟨xs.length,by simp,Nat.zero_le _,h0⟩,?_⟩
 rintro i m Z H ⟨rfl,hi,p⟩;have q:=hl i Z H hi p;by_cases hlt:i < xs.length
 . refine .inr ⟨⟨xs,xs[i],q,by simp[hlt]⟩,Pv (i+1),fun Z' H' p'=>⟨xs.length - (i+1),by omega,rfl,hlt,p'⟩,fun x H' y=>?_⟩
   obtain⟨e,y⟩:=y;subst e;exact hs i x Z _ (y xs q) p
 have e:i=xs.length:=by omega
 subst e;exact .inl ⟨⟨xs,q,Nat.le_refl _⟩,hd Z H p⟩
theorem gQ{lo:Int}{n:Nat}{g:TG}{tb:TS}{D:eM}{Z:St}{H:Hp}(Pv:Nat->St->Hp->Prop)(h0:Pv 0 Z H)
 (hs:∀ i Z H,i < n->Pv i Z H->g (.int (lo+i)) Z H fun Z2 H2=>tb { D with nx:=Pv (i+1),ct:=Pv (i+1),bk:=D.nx } Z2 H2) (hd:∀ Z H,Pv n Z H->D.nx Z H) :
 ∃ W:Nat->Nat->St->Hp->Prop,(∃ m,W 0 m Z H) /\ ∀ i m Z H,W i m Z H ->
   ((Itr lo n).stop i H/\D.nx Z H)∨((Itr lo n).go i H /\ ∃ N:St->Hp->Prop,(∀ Z' H',N Z' H' -> ∃ m',m' < m/\W (i+1) m' Z' H') /\ ∀ x H',(Itr lo n).yld i H x H'->g x Z H' fun Z2 H2=>tb { D with nx:=N,ct:=N,bk:=D.nx } Z2 H2):=by
 refine⟨fun i m Z H=>m=n - i/\i<=n/\Pv i Z H,⟨n,by simp,Nat.zero_le _,h0⟩,?_⟩
 rintro i m Z H ⟨rfl,hi,p⟩;by_cases hlt:i < n
 . refine .inr ⟨hlt,Pv (i+1),fun Z' H' p'=>⟨n - (i+1),by omega,rfl,hlt,p'⟩,fun x H' y=>?_⟩
   obtain⟨e,y⟩:=y;subst e y;exact hs i Z _ hlt p
 have e:i=n:=by omega
 subst e;exact .inl ⟨Nat.le_refl _,hd Z H p⟩
end L2
namespace L2
open PySem PySem.Spec PyProof.Rows
abbrev R2:=V->V->Hp->VK->Prop
def OpR(X:Cx)(f:Value->Value->Sem Value)(r:R2):Prop:=
 ∀(pins:List (Addr×Obj)) (s:Shared) (Z:St) (H:Hp) (x y:V) (v u:Value) (Q:VK),Inv X pins Z H s->aI x v->aI y u->r x y H Q ->
   wpAny (model X.prog X.w) X.A (f v u) (EP X pins Z Q) X.xe s
def UnR(X:Cx)(f:Value->Sem Value)(r:V->Hp->VK->Prop):Prop:=
 ∀(pins:List (Addr×Obj)) (s:Shared) (Z:St) (H:Hp) (x:V) (v:Value) (Q:VK),Inv X pins Z H s->aI x v->r x H Q ->
   wpAny (model X.prog X.w) X.A (f v) (EP X pins Z Q) X.xe s
def bP(X:Cx)(f:Value)(r:List V->Hp->VK->Prop):Prop:=
 ∀(pins:List (Addr×Obj)) (s:Shared) (Z:St) (H:Hp) (xs:List V) (us:List Value) (Q:VK),Inv X pins Z H s->aC xs us->r xs H Q ->
   wpAny (model X.prog X.w) X.A (call f us) (EP X pins Z Q) X.xe s
def tOp(r:R2)(ta tb:TE):TE:=fun Z H Q=>ta Z H fun x H1=>tb Z H1 fun y H2=>r x y H2 Q
def tUn(r:V->Hp->VK->Prop)(ta:TE):TE:=fun Z H Q=>ta Z H fun x H1=>r x H1 Q
def rI(C:Int->Int->Prop)(g:Int->Int->V):R2:=fun x y H Q=>∃ i j,x=.int i/\y=.int j/\C i j/\Q (g i j) H
def rI0(g:Int->Int->V):R2:=fun x y H Q=>∃ i j,x=.int i/\y=.int j/\Q (g i j) H
def rU(g:Int->V):V->Hp->VK->Prop:=fun x H Q=>∃ i,x=.int i/\Q (g i) H
section
variable{X:Cx}{a b c:Expr}{ta tb tc:TE}{pos:Pos}
theorem xJ(ha:PE X a ta)(hb:PE X b tb){pins:List (Addr×Obj)}{s:Shared}{Z:St}{H:Hp}{R:V->V->Hp->Prop}(I:Inv X pins Z H s)
 (h:ta Z H fun x H1=>tb Z H1 fun y H2=>R x y H2) {Q:Value->Shared->Prop}{f:Value->Value->Sem Value}
 (hf:∀ v u s2 x y H2,Inv X pins Z H2 s2->aI x v->aI y u->R x y H2->wpAny (model X.prog X.w) X.A (f v u) Q X.xe s2) :
 wpAny (model X.prog X.w) X.A (eval a X.env) (fun v s₁=>wpAny (model X.prog X.w) X.A (eval b X.env) (fun u s₂=>wpAny (model X.prog X.w) X.A (f v u) Q X.xe s₂) X.xe s₁) X.xe s:=by
 refine thn (ha pins s Z H _ I h) fun v s1 zz=>?_;obtain⟨x,H1,I1,r1,q1⟩:=zz;refine thn (hb pins s1 Z H1 _ I1 q1) fun u s2 zz=>?_;obtain⟨y,H2,I2,r2,q2⟩:=zz;exact hf v u s2 x y H2 I2 r1 r2 q2
theorem Aq{op:Operator}{r:R2}(ho:OpR X (binaryOp op) r)(ha:PE X a ta)(hb:PE X b tb):PE X (.BinOp a op b pos) (tOp r ta tb):=by
 intro pins s Z H Q I h;exact wpAny_BinOp (xJ ha hb I h fun v u s2 x y H2 I2 rx ry q=>ho pins s2 Z H2 x y v u Q I2 rx ry q)
theorem Ak{op:UnaryOp}{r:V->Hp->VK->Prop}(ho:UnR X (unaryOp op) r)(ha:PE X a ta):PE X (.UnaryOp op a pos) (tUn r ta):=by
 intro pins s Z H Q I h;exact UnaryOp_ (thn (ha pins s Z H _ I h) fun v s1 ⟨x,H1,I1,r1,q1⟩=>ho pins s1 Z H1 x v Q I1 r1 q1)
theorem opI{f:Value->Value->Sem Value}{C:Int->Int->Prop}{g:Int->Int->Int}
 (rule:∀(i j:Int) (t u:Tok) (s:Shared) (Q:Value->Shared->Prop) (E:Value->Shared->Prop),C i j->Q (.int (g i j) s.toks) { s with toks:=s.toks+1 } -> wpAny (model X.prog X.w) X.A (f (.int i t) (.int j u)) Q E s) :
 OpR X f (rI C fun i j=>.int (g i j)):=by
 intro pins s Z H x y v u Q I rx ry h;obtain⟨i,j,rfl,rfl,hc,q⟩:=h;obtain⟨t,rfl⟩:=rx;obtain⟨t',rfl⟩:=ry;exact rule i j t t' s _ _ hc ⟨.int (g i j),H,I.tok _,⟨_,rfl⟩,q⟩
theorem Ad{f:Value->Value->Sem Value}{g:Int->Int->Int}
 (rule:∀(i j:Int) (t u:Tok) (s:Shared) (Q:Value->Shared->Prop) (E:Value->Shared->Prop),Q (.int (g i j) s.toks) { s with toks:=s.toks+1 } -> wpAny (model X.prog X.w) X.A (f (.int i t) (.int j u)) Q E s) :
 OpR X f (rI0 fun i j=>.int (g i j)):=by
 intro pins s Z H x y v u Q I rx ry h;obtain⟨i,j,rfl,rfl,q⟩:=h;obtain⟨t,rfl⟩:=rx;obtain⟨t',rfl⟩:=ry;exact rule i j t t' s _ _ ⟨.int (g i j),H,I.tok _,⟨_,rfl⟩,q⟩
theorem uz{f:Value->Value->Sem Value}{g:Int->Int->Bool}
 (rule:∀(i j:Int) (t u:Tok) (s:Shared) (Q:Value->Shared->Prop) (E:Value->Shared->Prop),Q (.bool (g i j)) s->wpAny (model X.prog X.w) X.A (f (.int i t) (.int j u)) Q E s) :
 OpR X f (rI0 fun i j=>.bl (g i j)):=by
 intro pins s Z H x y v u Q I rx ry h;obtain⟨i,j,rfl,rfl,q⟩:=h;obtain⟨t,rfl⟩:=rx;obtain⟨t',rfl⟩:=ry;exact rule i j t t' s _ _ ⟨.bl (g i j),H,I,rfl,q⟩
def yB(i j:Int):Prop:=0<=j/\j<=1000000/\i.natAbs < 2 ^ 64
def rJ(i j:Int):Prop:=(-(2 ^ 64) < i/\i < 2 ^ 64)∨(-(2 ^ 64) < j/\j < 2 ^ 64)
theorem rJ.ok{i j:Int}(h:rJ i j):IntMulOk i j:=by
 rcases h with ⟨h1,h2⟩ | ⟨h1,h2⟩
 . exact .of_left (intBits_le_64 h1 h2)
 exact .of_right (intBits_le_64 h1 h2)
theorem bv:OpR X (binaryOp .Add) (rI0 fun i j=>.int (i+j)):=Ad fun _ _ _ _ _ _ _ q=>add_int q
theorem jF:OpR X (binaryOp .Sub) (rI0 fun i j=>.int (i - j)):=Ad fun _ _ _ _ _ _ _ q=>sub_int q
theorem b9:OpR X (binaryOp .Mult) (rI rJ fun i j=>.int (i*j)):=opI fun _ _ _ _ _ _ _ hc q=>mul_int q hc.ok
theorem cD:OpR X (binaryOp .Mod) (rI (fun _ j=>0 < j) fun i j=>.int (i % j)):=opI fun i j _ _ _ _ _ hc q=>by
 have h1:(0:Int) < j:=hc;exact mod_int' (by omega) (by rw[Int.fmod_eq_emod_of_nonneg i (by omega)];exact q)
theorem cG:OpR X (binaryOp .Pow) (rI yB fun i j=>.int (i ^ j.toNat)):=opI fun _ _ _ _ _ _ _ hc q=>pow_int_small hc.1 hc.2.1 hc.2.2 q
theorem unI{f:Value->Sem Value}{g:Int->Int}
 (rule:∀(i:Int) (t:Tok) (s:Shared) (Q:Value->Shared->Prop) (E:Value->Shared->Prop),Q (.int (g i) s.toks) { s with toks:=s.toks+1 } -> wpAny (model X.prog X.w) X.A (f (.int i t)) Q E s) :
 UnR X f (rU fun i=>.int (g i)):=by
 intro pins s Z H x v Q I rx h;obtain⟨i,rfl,q⟩:=h;obtain⟨t,rfl⟩:=rx;exact rule i t s _ _ ⟨.int (g i),H,I.tok _,⟨_,rfl⟩,q⟩
theorem eU:UnR X (unaryOp .USub) (rU fun i=>.int (-i)):=unI fun _ _ _ _ _ q=>neg_int q
end
def yn:V->V->Bool
 | .non,.non=>true | .non,.int _=>true | .int _,.non=>true | .non,.bl _=>true | .bl _,.non=>true | .non,.str _=>true | .str _,.non=>true
 | .int _,.int _=>true | .bl _,.bl _=>true | .str _,.str _=>true | .byt _,.byt _=>true
 | .int _,.str _=>true | .str _,.int _=>true | .bl _,.str _=>true | .str _,.bl _=>true
 | _,_=>false
def rEq:R2:=fun x y H Q=>yn x y=true/\Q (.bl (decide (x=y))) H
def rNe:R2:=fun x y H Q=>yn x y=true/\Q (.bl (!decide (x=y))) H
theorem o0{i j:Int}:decide (V.int i=V.int j)=(i == j):=by
 rw[Bool.eq_iff_iff];simp
theorem rf{i j:Bool}:decide (V.bl i=V.bl j)=(i == j):=by
 rw[Bool.eq_iff_iff];simp
theorem om{i j:Str}:decide (V.str i=V.str j)=(i == j):=by
 rw[Bool.eq_iff_iff];simp
theorem oR{i j:Array UInt8}:decide (V.byt i=V.byt j)=(i.toList == j.toList):=by
 rw[Bool.eq_iff_iff];cases i;cases j;simp
section
variable{X:Cx}{a b c:Expr}{ta tb tc:TE}{pos:Pos}
theorem aR{pins:List (Addr×Obj)}{Z:St}{H:Hp}{s:Shared}{Q:VK}{k k':Bool}(I:Inv X pins Z H s)(q:Q (.bl k) H)(e:k=k'):EP X pins Z Q (.bool k') s:=by
 subst e;exact⟨.bl k,H,I,rfl,q⟩
theorem cz:OpR X (compareOp .Eq) rEq:=by
 intro pins s Z H x y v u Q I rx ry h;obtain⟨hs,q⟩:=h;cases x with
 | non=>
   cases rx;cases y with
   | non=>cases ry;exact PySem.EqNone.eq_none_none (aR I q (by simp))
   | bl j=>cases ry;exact PySem.EqNone.eq_none_bool (aR I q (by simp))
   | int j=>obtain⟨t',rfl⟩:=ry;exact PySem.EqNone.eq_none_int (aR I q (by simp))
   | str j=>obtain⟨t',rfl⟩:=ry;exact PySem.EqNone.eq_none_str (aR I q (by simp))
   | _=>exact absurd (show false=true from hs) Bool.false_ne_true
 | bl i=>
   cases rx;cases y with
   | non=>cases ry;exact PySem.EqNone.eq_bool_none (aR I q (by simp))
   | bl j=>cases ry;exact eq_bool (aR I q rf)
   | str j=>obtain⟨t',rfl⟩:=ry;exact PySem.EqMixed.eq_bool_str (aR I q (by simp))
   | _=>exact absurd (show false=true from hs) Bool.false_ne_true
 | int i=>
   obtain⟨t,rfl⟩:=rx;cases y with
   | non=>cases ry;exact PySem.EqNone.eq_int_none (aR I q (by simp))
   | int j=>obtain⟨t',rfl⟩:=ry;exact eq_int (aR I q o0)
   | str j=>obtain⟨t',rfl⟩:=ry;exact PySem.EqMixed.eq_int_str (aR I q (by simp))
   | _=>exact absurd (show false=true from hs) Bool.false_ne_true
 | str i=>
   obtain⟨t,rfl⟩:=rx;cases y with
   | non=>cases ry;exact PySem.EqNone.eq_str_none (aR I q (by simp))
   | bl j=>cases ry;exact PySem.EqMixed.eq_str_bool (aR I q (by simp))
   | int j=>obtain⟨t',rfl⟩:=ry;exact PySem.EqMixed.eq_str_int (aR I q (by simp))
   | str j=>obtain⟨t',rfl⟩:=ry;exact eq_str (aR I q om)
   | _=>exact absurd (show false=true from hs) Bool.false_ne_true
 | byt i=>
   obtain⟨t,rfl⟩:=rx;cases y with
   | byt j=>obtain⟨t',rfl⟩:=ry;exact W.eq_bytes (aR I q oR)
   | _=>exact absurd (show false=true from hs) Bool.false_ne_true
 | _=>cases y <;> exact absurd (show false=true from hs) Bool.false_ne_true
theorem eF:OpR X (compareOp .NotEq) rNe:=by
 intro pins s Z H x y v u Q I rx ry h;obtain⟨hs,q⟩:=h;cases x with
 | non=>
   cases rx;cases y with
   | non=>cases ry;exact PySem.EqNone.ne_none_none (aR I q (by simp))
   | bl j=>cases ry;exact PySem.EqNone.ne_none_bool (aR I q (by simp))
   | int j=>obtain⟨t',rfl⟩:=ry;exact PySem.EqNone.ne_none_int (aR I q (by simp))
   | str j=>obtain⟨t',rfl⟩:=ry;exact PySem.EqNone.ne_none_str (aR I q (by simp))
   | _=>exact absurd (show false=true from hs) Bool.false_ne_true
 | bl i=>
   cases rx;cases y with
   | non=>cases ry;exact PySem.EqNone.ne_bool_none (aR I q (by simp))
   | bl j=>cases ry;exact ne_bool (aR I q (congrArg not rf))
   | str j=>obtain⟨t',rfl⟩:=ry;exact PySem.EqMixed.ne_bool_str (aR I q (by simp))
   | _=>exact absurd (show false=true from hs) Bool.false_ne_true
 | int i=>
   obtain⟨t,rfl⟩:=rx;cases y with
   | non=>cases ry;exact PySem.EqNone.ne_int_none (aR I q (by simp))
   | int j=>obtain⟨t',rfl⟩:=ry;exact ne_int (aR I q (congrArg not o0))
   | str j=>obtain⟨t',rfl⟩:=ry;exact PySem.EqMixed.ne_int_str (aR I q (by simp))
   | _=>exact absurd (show false=true from hs) Bool.false_ne_true
 | str i=>
   obtain⟨t,rfl⟩:=rx;cases y with
   | non=>cases ry;exact PySem.EqNone.ne_str_none (aR I q (by simp))
   | bl j=>cases ry;exact PySem.EqMixed.ne_str_bool (aR I q (by simp))
   | int j=>obtain⟨t',rfl⟩:=ry;exact PySem.EqMixed.ne_str_int (aR I q (by simp))
   | str j=>obtain⟨t',rfl⟩:=ry;exact ne_str (aR I q (congrArg not om))
   | _=>exact absurd (show false=true from hs) Bool.false_ne_true
 | byt i=>
   obtain⟨t,rfl⟩:=rx;cases y with
   | byt j=>obtain⟨t',rfl⟩:=ry;exact W.ne_bytes (aR I q (congrArg not oR))
   | _=>exact absurd (show false=true from hs) Bool.false_ne_true
 | _=>cases y <;> exact absurd (show false=true from hs) Bool.false_ne_true
theorem fG:OpR X (compareOp .Lt) (rI0 fun i j=>.bl (decide (i < j))):=uz fun _ _ _ _ _ _ _ q=>lt_int q
theorem eY:OpR X (compareOp .LtE) (rI0 fun i j=>.bl (decide (i<=j))):=uz fun _ _ _ _ _ _ _ q=>le_int q
theorem sK:OpR X (compareOp .Gt) (rI0 fun i j=>.bl (decide (j < i))):=uz fun _ _ _ _ _ _ _ q=>gt_int q
theorem wy:OpR X (compareOp .GtE) (rI0 fun i j=>.bl (decide (j<=i))):=uz fun _ _ _ _ _ _ _ q=>ge_int q
theorem bZ:OpR X (compareOp .Is) (fun x y H Q=>y=.non/\Q (.bl (decide (x=.non))) H):=by
 intro pins s Z H x y v u Q I rx ry h;obtain⟨rfl,q⟩:=h;cases ry;refine is_none_gen (aR I q ?_);cases x <;> first
  | (cases rx;rfl)
  | (obtain⟨t,rfl⟩:=rx;rfl)
theorem cj:OpR X (compareOp .IsNot) (fun x y H Q=>y=.non/\Q (.bl (!decide (x=.non))) H):=by
 intro pins s Z H x y v u Q I rx ry h;obtain⟨rfl,q⟩:=h;cases ry;refine isnot_none_gen (aR I q ?_);cases x <;> first
  | (cases rx;rfl)
  | (obtain⟨t,rfl⟩:=rx;rfl)
theorem rT(b:Expr){op:CmpOp}(h:op ≠ .In:=by decide)(h2:op ≠ .NotIn:=by decide):behindInMarks op b=false:=by
 have e1:(op == CmpOp.In)=false:=by cases op <;> first | rfl | exact absurd rfl h
 have e2:(op == CmpOp.NotIn)=false:=by cases op <;> first | rfl | exact absurd rfl h2
 cases b <;> simp[behindInMarks,e1,e2]
theorem oz{op:CmpOp}{r:R2}(ho:OpR X (compareOp op) r)(ha:PE X a ta)(hb:PE X b tb)(hm:behindInMarks op b=false):PE X (.Compare a [op] [b] pos) (tOp r ta tb):=by
 intro pins s Z H Q I h;exact wpAny_Compare1 (xJ ha hb I h fun v u s2 x y H2 I2 rx ry q=>ho pins s2 Z H2 x y v u Q I2 rx ry q) hm
def kW(t:TE):TT:=fun Z H Q=>t Z H fun x H'=>∃ k,x=.bl k/\Q k H'
theorem oy{op:CmpOp}{r:R2}(ho:OpR X (compareOp op) r)(ha:PE X a ta)(hb:PE X b tb)(hm:behindInMarks op b=false):PT X (.Compare a [op] [b] pos) (kW (tOp r ta tb)):=by
 intro pins s Z H Q I h;refine wpAny_isTrue_Compare1 (thn (ha pins s Z H _ I h) fun v s1 ⟨x,H1,I1,r1,q1⟩=>thn (hb pins s1 Z H1 _ I1 q1) fun u s2 ⟨y,H2,I2,r2,q2⟩=>
  thn (ho pins s2 Z H2 x y v u _ I2 r1 r2 q2) fun c s3 ⟨z,H3,I3,r3,k,e,q3⟩=>?_) hm
 subst e;cases r3;exact wpAny_truthy_bool ⟨H3,I3,q3⟩
def jo(r r':R2)(ta tb tc:TE):TE:=fun Z H Q=>ta Z H fun x H1=>tb Z H1 fun y H2=>r x y H2 fun z H3=>∃ k,z=.bl k /\
 (if k=true then tc Z H3 fun w' H4=>r' y w' H4 Q else Q (.bl false) H3)
theorem tI{op op':CmpOp}{r r':R2}(ho:OpR X (compareOp op) r)(ho':OpR X (compareOp op') r')(ha:PE X a ta)(hb:PE X b tb)(hc:PE X c tc)
 (hm:lastMarks [op,op'] [b,c]=false:=by with_unfolding_all rfl):PE X (.Compare a [op,op'] [b,c] pos) (jo r r' ta tb tc):=by
 intro pins s Z H Q I h;refine Compare_chain (thn (ha pins s Z H _ I h) fun v s1 ⟨x,H1,I1,r1,q1⟩=>chain_link (thn (hb pins s1 Z H1 _ I1 q1) fun u s2 ⟨y,H2,I2,r2,q2⟩=>
  thn (ho pins s2 Z H2 x y v u _ I2 r1 r2 q2) fun d s3 ⟨z,H3,I3,r3,k,e,q3⟩=>?_)) hm
 subst e;cases r3;refine wpAny_truthy_bool ?_;cases k with
 | false=>exact ite_ff ⟨.bl false,H3,I3,rfl,q3⟩
 | true=>exact ite_tt (chain_last (thn (hc pins s3 Z H3 _ I3 q3) fun w' s4 ⟨z',H4,I4,r4,q4⟩=>ho' pins s4 Z H4 y z' u w' Q I4 r2 r4 q4))
theorem tT{op op':CmpOp}{r r':R2}(ho:OpR X (compareOp op) r)(ho':OpR X (compareOp op') r')(ha:PE X a ta)(hb:PE X b tb)(hc:PE X c tc)
 (hm:lastMarks [op,op'] [b,c]=false:=by with_unfolding_all rfl):PT X (.Compare a [op,op'] [b,c] pos) (kW (jo r r' ta tb tc)):=by
 intro pins s Z H Q I h;refine isTrue_chain (thn (ha pins s Z H _ I h) fun v s1 ⟨x,H1,I1,r1,q1⟩=>test_link (thn (hb pins s1 Z H1 _ I1 q1) fun u s2 ⟨y,H2,I2,r2,q2⟩=>
  thn (ho pins s2 Z H2 x y v u _ I2 r1 r2 q2) fun d s3 ⟨z,H3,I3,r3,k,e,q3⟩=>?_)) hm
 subst e;cases r3;refine wpAny_truthy_bool ?_;cases k with
 | false=>
   obtain⟨k',e',q'⟩:=q3;cases e';exact ite_ff ⟨H3,I3,q'⟩
 | true=>
   refine ite_tt (test_last (thn (hc pins s3 Z H3 _ I3 q3) fun w' s4 ⟨z',H4,I4,r4,q4⟩=>thn (ho' pins s4 Z H4 y z' u w' _ I4 r2 r4 q4) fun d' s5 zz=>?_));obtain⟨z2,H5,I5,r5,k2,e2,q5⟩:=zz;subst e2;cases r5;exact wpAny_truthy_bool ⟨H5,I5,q5⟩
theorem lg:(sizeLine:Nat) < 2 ^ 63:=by rw[sizeLine_eq];decide
theorem dZ{x:V}{us:List Value}(r:aC [x] us):∃ u,us=[u]/\aI x u:=by
 cases r with
 | cons r1 r2=>cases r2;exact⟨_,rfl,r1⟩
theorem l7{x y:V}{us:List Value}(r:aC [x,y] us):∃ u w',us=[u,w']/\aI x u/\aI y w':=by
 cases r with
 | cons r1 r2=>
   cases r2 with
   | cons r3 r4=>cases r4;exact⟨_,_,rfl,r1,r3⟩
theorem p7(hc:X.calm=true):bP X (.builtin "max") (fun xs H Q=>∃ i j,xs=[.int i,.int j]/\Q (.int (if j > i then j else i)) H):=by
 intro pins s Z H xs us Q I r h;obtain⟨i,j,rfl,q⟩:=h;obtain⟨u,w',rfl,⟨t,rfl⟩,⟨t',rfl⟩⟩:=l7 r;refine max_two_ints (I.ok.hd hc) fun h' tk k=>⟨_,H,I.kept k,?_,q⟩;by_cases hj:j > i
 . rw[if_pos hj,if_pos hj];exact⟨_,rfl⟩
 rw[if_neg hj,if_neg hj];exact⟨_,rfl⟩
theorem kh(hc:X.calm=true):bP X (.builtin "min") (fun xs H Q=>∃ i j,xs=[.int i,.int j]/\Q (.int (if j < i then j else i)) H):=by
 intro pins s Z H xs us Q I r h;obtain⟨i,j,rfl,q⟩:=h;obtain⟨u,w',rfl,⟨t,rfl⟩,⟨t',rfl⟩⟩:=l7 r;refine min_two_ints (I.ok.hd hc) fun h' tk k=>⟨_,H,I.kept k,?_,q⟩;by_cases hj:j < i
 . rw[if_pos hj,if_pos hj];exact⟨_,rfl⟩
 rw[if_neg hj,if_neg hj];exact⟨_,rfl⟩
theorem pW:bP X (.type "int") (fun xs H Q=>(∃ i,xs=[.int i]/\Q (.int i) H) ∨ ∃ k,xs=[.bl k]/\Q (.int (if k then 1 else 0)) H):=by
 intro pins s Z H xs us Q I r h;rcases h with ⟨i,rfl,q⟩ | ⟨k,rfl,q⟩
 . obtain⟨u,rfl,t,rfl⟩:=dZ r
   exact call_int_int ⟨.int i,H,I,⟨_,rfl⟩,q⟩
 obtain⟨u,rfl,r1⟩:=dZ r;cases r1;exact call_int_bool ⟨.int (if k then 1 else 0),H,I.tok _,⟨_,rfl⟩,q⟩
end
end L2
namespace L2
open PySem PySem.Spec PyProof.Rows
structure n5(h:Heap)(x dx C:Addr)(mA:Str->Option Value):Prop where
 obj:h.get? x=some (W.instObj C dx)
 ns:h.Ns1 dx mA
 ne:dx≠x
theorem qu{h:Heap}{dx:Addr}{mA:Str->Option Value}(n:h.Ns1 dx mA):∃ od,h.get? dx=some od /\ ∀ name,W.lookIn name od=some (mA name):=by
 obtain⟨o,es,ep,ho,hd,hk,_,hm⟩:=n;refine⟨o,ho,fun name=>?_⟩;have e:=hm name;unfold nsFind findBy at e;rw[← Array.find?_toList]at e;unfold W.lookIn;rw[hd]
 dsimp only
 split
 . rename_i y q
   rw[q]at e;exact congrArg some e
 rename_i q;rw[q]at e;have a:es.toList.any (·.refKey)=false:=by
  rw[List.any_eq_false];intro y hy;obtain⟨z,t,hkey⟩:=hk y (Array.mem_toList_iff.mp hy);simp[DictEntry.refKey,hkey]
 have a':¬ es.toList.any (·.refKey)=true:=by rw[a];exact Bool.false_ne_true
 rw[if_neg a'];exact congrArg some e
theorem n5.look{h:Heap}{x dx C:Addr}{mA:Str->Option Value}(I:n5 h x dx C mA):∃ od,W.InstAt h x (W.instObj C dx) C (some od) /\ ∀ name,W.lookIn name od=some (mA name):=
 let⟨od,ho,hl⟩:=qu I.ns
 ⟨od,⟨I.obj,rfl,rfl,ho⟩,hl⟩
section
variable{prog:Program}{w:World}{A:Around}{E:Value->Shared->Prop}{s:Shared}{K:W.Frag}{x dx C f:Addr}{mA:Str->Option Value}{name:Str}{v:Value}
theorem uP{expr:Bool}{Q:Value->Shared->Prop}(X:K.In s.heap)(I:n5 s.heap x dx C mA)(hg:W.plainGet K C name=true)(hh:W.hasDictIn K C=true)
 (ha:W.findIn K (.ref C) name=some none) (hv:mA name=some v) (hv':W.handedIn v=true) (h:Q v { s with toks:=s.toks+1 }) :
 wpAny (model prog w) A (getAttr (.ref x) name expr) Q E s:=by
 obtain⟨od,J,hl⟩:=I.look;exact W.get_value X J (W.plainGet_of hg).1 (W.findObj_own hh ha rfl (by rw[hl,hv])) hv' h
theorem sR{pl:Sem Bool}{Q:Value×List Value->Shared->Prop}(X:K.In s.heap)(I:n5 s.heap x dx C mA)(hg:W.plainGet K C name=true)
 (hf:W.findIn K (.ref C) name=some (some (.ref f))) (ht:W.isFn K (.ref f)=true) (hv:mA name=none) (h:Q (.ref f,[.ref x]) s) :
 wpAny (model prog w) A (getMethod (.ref x) name pl) Q E s:=by
 obtain⟨od,J,hl⟩:=I.look;exact W.method_fn X J (W.plainGet_of hg).1 (W.plainGet_of hg).2 hf (beq_iff_eq.mp ht) (by show(W.lookIn name od).map (·.isSome)=some false;rw[hl,hv];rfl) h
theorem vB{ns:List Str}{Q:Unit->Shared->Prop}(X:K.In s.heap)(I:n5 s.heap x dx C mA)
 (hs:W.findIn K (.ref C) "__setattr__"=some (some (.builtin "object.__setattr__"))) (hp:W.plainOver K C=true) (ht:W.takerIn K C name=some none) (hh:W.hasDictIn K C=true)
 (hw:PySem.Within mA ns) (hsz:ns.length<=sizeLine)
 (h:∀ h',n5 h' x dx C (fun y=>if y=name then some v else mA y)->Heap.SameBut dx s.heap h'->Q () { s with heap:=h',toks:=s.toks+2 }) :
 wpAny (model prog w) A (setAttr (.ref x) name v) Q E s:=by
 obtain⟨od,J,hl⟩:=I.look;refine W.set_plain X J hs (W.osa_open (s:={ s with toks:=s.toks+1 }) (r:=none) X J hp ht fun b=>?_);obtain⟨cd,hc,hd'⟩:=W.any_some hh;have hx:s.heap.get? x=some ⟨.ref C,some dx,.plain,#[]⟩:=I.obj;refine wpAny_bind (wpAny_pure (wpAny_bind (wpAny_bind (wpAny_loadPart hx (wpAny_bind (W.Looks.here (s:={ s with toks:=s.toks+1 }) (W.looks_clsIn X hc) ?_))))));rw[hd'];refine wpAny_pure (a:=some dx) (wpAny_bind (wpAny_pure (wpAny_bind ?_)));refine wpAny_nsSet1 (s:={ s with toks:=s.toks+1 }) I.ns fun h' hn2 hs2=>?_;obtain⟨oD,esD,epD,hoD,hdD,hcD⟩:=hn2.count (PySem.Within.cons name v hw);refine wpAny_bind (wpAny_lookBehind hoD (by rw[hdD];exact pastItsLine_dict (Nat.le_trans hcD (by rw[List.length_cons];omega))) ?_)
 exact wpAny_pure (h _ ⟨(hs2.2 _ (Ne.symm I.ne)).trans I.obj,hn2,I.ne⟩ hs2)
theorem tN{R:Result->Shared->Prop}{vs:List Value}{kw:List (Str×Value)}(X:K.In s.heap)(hm:W.makesIn K C=true)
 (hi:W.findIn K (.ref C) "__init__"=some (some (.ref f))) (hf:W.typeIn K (.ref f)=some (.type "function"))
 (h:codeAny (model prog w) (A.under (.builtin "type.__call__" ⟨.ref C::vs,kw⟩)) (.call (.ref f) ⟨.ref (s.heap.objs.size+1)::vs,kw⟩) (W.InitBack (s.heap.objs.size+1) R)
  { s with heap:=(s.heap.push W.emptyDict).push (W.instObj C s.heap.objs.size) }) :
 codeAny (model prog w) A (.call (.ref C) ⟨vs,kw⟩) R s:=by
 obtain⟨hh,g,d,t,os⟩:=s;exact W.make_core (W.makes_of X hm) (W.looks_findIn X hi) (fun self=>W.bind_fn X self hf) (.inl rfl) h
end
def aV(f:Str)(v:V):List (Str×V)->List (Str×V)
 | []=>[(f,v)]
 | (g,x)::r=>if g=f then(g,v)::r else(g,x)::aV f v r
theorem bg(f g:Str)(v:V):∀ fs:List (Str×V),(aV f v fs).lookup g=if g=f then some v else fs.lookup g
 | []=>by
   show List.lookup g [(f,v)]=_;by_cases h:g=f
   . have hb:(g == f)=true:=beq_iff_eq.mpr h
     simp only[List.lookup,hb,if_pos h]
   have hb:(g == f)=false:=beq_eq_false_iff_ne.mpr h;simp only[List.lookup,hb,if_neg h]
 | (k,x)::r=>by
   have ih:=bg f g v r;rw[show aV f v ((k,x)::r)=(if k=f then(k,v)::r else(k,x)::aV f v r)from rfl];by_cases hk:k=f
   . rw[if_pos hk]
     by_cases h:g=k
     . have hb:(g == k)=true:=beq_iff_eq.mpr h
       simp only[List.lookup,hb,if_pos (h.trans hk)]
     have hb:(g == k)=false:=beq_eq_false_iff_ne.mpr h;simp only[List.lookup,hb,if_neg (fun e:g=f=>h (e.trans hk.symm))]
   rw[if_neg hk];by_cases h:g=k
   . have hb:(g == k)=true:=beq_iff_eq.mpr h
     simp only[List.lookup,hb,if_neg (fun e:g=f=>hk (h.symm.trans e))]
   have hb:(g == k)=false:=beq_eq_false_iff_ne.mpr h;simp only[List.lookup,hb];exact ih
theorem gR(f:Str)(v:V):∀ fs:List (Str×V),f∈(aV f v fs).map (·.1) /\ ∀ g,g∈fs.map (·.1)->g∈(aV f v fs).map (·.1)
 | []=>⟨by simp[aV],fun g h=>by simp at h⟩
 | (k,x)::r=>by
   obtain⟨i1,i2⟩:=gR f v r;rw[show aV f v ((k,x)::r)=(if k=f then(k,v)::r else(k,x)::aV f v r)from rfl];by_cases hk:k=f
   . rw[if_pos hk]
     subst hk;exact⟨by simp,fun g h=>by simpa using h⟩
   rw[if_neg hk];refine⟨?_,fun g h=>?_⟩
   . rw[List.map_cons]
     exact List.mem_cons_of_mem _ i1
   rw[List.map_cons]at h ⊢;rcases List.mem_cons.mp h with e | e
   . exact List.mem_cons.mpr (.inl e)
   exact List.mem_cons_of_mem _ (i2 g e)
theorem ic(f:Str)(v:V):∀ fs:List (Str×V),(aV f v fs).length<=fs.length+1
 | []=>by simp[aV]
 | (k,x)::r=>by
   have ih:=ic f v r;rw[show aV f v ((k,x)::r)=(if k=f then(k,v)::r else(k,x)::aV f v r)from rfl];by_cases hk:k=f
   . rw[if_pos hk,List.length_cons,List.length_cons];omega
   rw[if_neg hk,List.length_cons,List.length_cons];omega
theorem eK.some_of{v:V}{o:Option Value}(r:eK (some v) o):∃ u,o=some u/\aI v u:=by
 cases o with
 | none=>exact(show False from r).elim
 | some u=>exact⟨u,rfl,r⟩
theorem eK.none_of{o:Option Value}(r:eK none o):o=none:=by
 cases o with
 | none=>rfl
 | some u=>exact(show False from r).elim
theorem qy{v:V}{u:Value}(r:aI v u):W.handedIn u=true:=by
 cases v with
 | non=>cases (show u=Value.none from r);rfl
 | bl b=>cases (show u=Value.bool b from r);rfl
 | int i=>obtain⟨t,e⟩:=(show ∃ t,u=Value.int i t from r);cases e;rfl
 | str x=>obtain⟨t,e⟩:=(show ∃ t,u=Value.str x t from r);cases e;rfl
 | byt b=>obtain⟨t,e⟩:=(show ∃ t,u=Value.bytes b t from r);cases e;rfl
 | flt b=>obtain⟨t,e⟩:=(show ∃ t,u=Value.float b t from r);cases e;rfl
 | ref a=>cases (show u=Value.ref a from r);rfl
 | ty n=>cases (show u=Value.type n from r);rfl
section
variable{P:Program}{w:World}{H H':Hp}{h h':Heap}{a C dx:Addr}{fs fs':List (Str×V)}
theorem iM(hok:HOk P w H h)(e:H a=some (.ins C dx fs)):∃ mA,n5 h a dx C mA/\(∀ f,eK (fs.lookup f) (mA f))/\PySem.Within mA (fs.map (·.1))/\fs.length<=1000/\H dx=some (.own a):=by
 obtain⟨d,z,ne,ob,mA,n,r,q⟩:=(show a_ P w H h a (.ins C dx fs)from hok a _ e);exact⟨mA,⟨ob,n,ne⟩,r,q,z,d⟩
end
structure Cls(K:W.Frag)(C:Addr):Prop where
 pg:W.plainGet K C Str.empty=true
 hd:W.hasDictIn K C=true
 po:W.plainOver K C=true
 sa:W.findIn K (.ref C) "__setattr__"=some (some (.builtin "object.__setattr__"))
theorem Cls.get{K:W.Frag}{C:Addr}(c:Cls K C)(f:Str):W.plainGet K C f=true:=c.pg
def bu(K:W.Frag)(C:Addr)(f:Str):Prop:=W.findIn K (.ref C) f=some none
theorem bu.taker{K:W.Frag}{C:Addr}{f:Str}(n:bu K C f):W.takerIn K C f=some none:=by
 unfold W.takerIn;rw[show W.findIn K (.ref C) f=some none from n]
 rfl
structure tR(K:W.Frag)(C:Addr)(m:Str)(f:Addr):Prop where
 at_:W.findIn K (.ref C) m=some (some (.ref f))
 fn:W.isFn K (.ref f)=true
 kp:W.keepIn K (.ref f)=true
section
variable{X:Cx}{pins:List (Addr×Obj)}{Z:St}{H:Hp}{s:Shared}{a C dx:Addr}{fs:List (Str×V)}{f:Str}{v:V}{A:Around}{E:Value->Shared->Prop}
theorem jp{b:Bool}{Q:Value->Shared->Prop}(I:Inv X pins Z H s)(e:H a=some (.ins C dx fs))(c:Cls X.K C)(n:bu X.K C f)(l:fs.lookup f=some v)
 (h:∀ u s',Inv X pins Z H s'->aI v u->Q u s'):wpAny (model X.prog X.w) A (getAttr (.ref a) f b) Q E s:=by
 obtain⟨mA,O,r,_,_,_⟩:=iM I.hok e;obtain⟨u,hu,ru⟩:=eK.some_of (v:=v) (o:=mA f) (by rw[← l];exact r f)
 exact uP I.kIn O (c.get f) c.hd n hu (qy ru) (h u _ (I.tok _) ru)
theorem jf{m:Str}{g:Addr}{pl:Sem Bool}{Q:Value×List Value->Shared->Prop}(I:Inv X pins Z H s)(e:H a=some (.ins C dx fs))(c:Cls X.K C)(k:tR X.K C m g)(l:fs.lookup m=none)
 (h:Q (.ref g,[.ref a]) s):wpAny (model X.prog X.w) A (getMethod (.ref a) m pl) Q E s:=by
 obtain⟨mA,O,r,_,_,_⟩:=iM I.hok e;have hn:mA m=none:=eK.none_of (by rw[← l];exact r m)
 exact sR I.kIn O (c.get m) k.at_ k.fn hn h
theorem ju{y:V}{u:Value}{Q:Unit->Shared->Prop}(I:Inv X pins Z H s)(e:H a=some (.ins C dx fs))(c:Cls X.K C)(n:bu X.K C f)(hl:fs.length < 1000)(ry:aI y u)
 (h:∀ s',Inv X pins Z (upd H a (.ins C dx (aV f y fs))) s'->Q () s'):wpAny (model X.prog X.w) A (setAttr (.ref a) f u) Q E s:=by
 obtain⟨mA,O,r,wi,_,ho⟩:=iM I.hok e;have hz:(fs.map (·.1)).length<=sizeLine:=by rw[List.length_map,sizeLine_eq];omega
 refine vB I.kIn O c.sa c.po n.taker c.hd wi hz fun h' O' sb=>h _ ?_;have hd:∃ o,h'.get? dx=some o:=let⟨o,_,_,e',_⟩:=O'.ns;⟨o,e'⟩;refine I.write (x:=a) (e:=dx) (by rw[e];exact True.intro) (.inr ho) (fun b q hb z=>(sb.2 b hb).trans z) hd ?_
 refine⟨by rw[ag O.ne];exact ho,?_,O.ne,O'.obj,_,O'.ns,fun g=>?_,fun g hg=>?_⟩
 . have:=ic f y fs;omega
 . show eK ((aV f y fs).lookup g) (if g=f then some u else mA g)
   rw[bg];by_cases q:g=f
   . rw[if_pos q,if_pos q];exact ry
   rw[if_neg q,if_neg q];exact r g
 by_cases q:g=f
 . rw[q];exact(gR f y fs).1
 refine(gR f y fs).2 g (wi g fun z=>hg ?_);show(if g=f then some u else mA g)=none;rw[if_neg q];exact z
theorem Inv.made(I:Inv X pins Z H s):Inv X pins Z (upd (upd H s.heap.objs.size (.own (s.heap.objs.size+1))) (s.heap.objs.size+1) (.ins C s.heap.objs.size []))
 { s with heap:=(s.heap.push W.emptyDict).push (W.instObj C s.heap.objs.size) }:=by
 have e1:(s.heap.push W.emptyDict).get? s.heap.objs.size=some W.emptyDict:=Heap.get?_push_size s.heap rfl;have e2:((s.heap.push W.emptyDict).push (W.instObj C s.heap.objs.size)).get? (s.heap.objs.size+1)=some (W.instObj C s.heap.objs.size):=by
  have:=Heap.get?_push_size (s.heap.push W.emptyDict) (o:=W.instObj C s.heap.objs.size) rfl
  rwa [Heap.size_push]at this
 have e3:(s.heap.push W.emptyDict).Ns s.heap.objs.size (fun _=>none):=⟨W.emptyDict,#[],_,e1,rfl,(fun e he=>absurd he (by simp)),fun _=>rfl⟩
 have I1:=I.laid (a:=s.heap.objs.size) (o:=.own (s.heap.objs.size+1)) (h':=s.heap.push W.emptyDict) (t':=s.toks) (fun b u q=>Heap.get?_push_of_some _ q) (Nat.le_refl _) ⟨_,e1⟩;refine I1.laid (a:=s.heap.objs.size+1) (o:=.ins C s.heap.objs.size []) (t':=s.toks) (fun b u q=>Heap.get?_push_of_some _ q) (Nat.le_of_eq (Heap.size_push _ _)) ?_;have ne:s.heap.objs.size≠s.heap.objs.size+1:=Nat.ne_of_lt (Nat.lt_succ_self _);refine⟨by rw[ag ne,aa],Nat.zero_le _,ne,e2,fun _=>none,(Heap.Ns1.of_empty e3).at fun o q=>Heap.get?_push_of_some _ q,fun _=>True.intro,fun y hy=>absurd rfl hy⟩
theorem vH{prog:Program}{w:World}{env:Env}{e:Expr}{f:Str}{pos:Pos}{s:Shared}{Q:Value->Shared->Prop}(hb:attributeBase e f env (eval e env)=eval e env)
 (h:wpAny (model prog w) A (eval e env) (fun o s₁=>wpAny (model prog w) A (getAttr o f true) Q E s₁) E s):wpAny (model prog w) A (eval (.Attribute e f pos) env) Q E s:=
 Attribute_any_ h (by rw[arm_eval_Attribute,hb])
end
def vP(K:W.Frag)(ta:TE)(f:Str):TE:=fun Z H Q=>ta Z H fun x H1=>∃ a C dx fs v,x=.ref a/\H1 a=some (.ins C dx fs)/\Cls K C/\bu K C f/\fs.lookup f=some v/\Q v H1
def uv(K:W.Frag)(ta tv:TE)(f:Str):TS:=fun D Z H=>tv Z H fun y H1=>ta Z H1 fun x H2=>∃ a C dx fs,x=.ref a/\H2 a=some (.ins C dx fs)/\Cls K C/\bu K C f/\fs.length < 1000 /\
 D.nx Z (upd H2 a (.ins C dx (aV f y fs)))
def vx(X:Cx)(op:Operator)(rd:V->V->Hp->VK->Prop):Prop:=
 ∀(pins:List (Addr×Obj)) (s:Shared) (Z:St) (H:Hp) (x y:V) (u v:Value) (Q:VK),Inv X pins Z H s->aI x u->aI y v->rd x y H Q->wpAny (model X.prog X.w) X.A (inplaceOp op u v) (EP X pins Z Q) X.xe s
def lq(K:W.Frag)(ta tv:TE)(rd:V->V->Hp->VK->Prop)(f:Str):TS:=fun D Z H=>ta Z H fun x H1=>∃ a C dx fs v,x=.ref a/\H1 a=some (.ins C dx fs)/\Cls K C/\bu K C f/\fs.lookup f=some v /\
 tv Z H1 fun y H2=>rd v y H2 fun z H3=>∃ dx' fs',H3 a=some (.ins C dx' fs')/\fs'.length < 1000/\D.nx Z (upd H3 a (.ins C dx' (aV f z fs')))
section
variable{X:Cx}{o e value:Expr}{f:Str}{pos pos' tpos:Pos}{ta tv:TE}
theorem sX(he:PE X e ta)(hb:attributeBase e f X.env (eval e X.env)=eval e X.env):PE X (.Attribute e f pos) (vP X.K ta f):=by
 intro pins s Z H Q I h;refine vH hb (thn (he pins s Z H _ I h) fun u s1 zz=>?_);obtain⟨x,H1,I1,rx,a,C,dx,fs,v,ex,ea,c,n,l,q⟩:=zz;subst ex;obtain rfl:u=Value.ref a:=rx;exact jp I1 ea c n l fun u' s2 I2 ru=>⟨v,H1,I2,ru,q⟩
theorem xR(ha:PE X o ta)(hv:PE X value tv)(hs:swapsWith value (some (.Attribute o f pos')) pos.line X.env=pure false):PS X (.Assign [.Attribute o f pos'] value pos) (uv X.K ta tv f):=by
 intro pins s Z H D I h;refine plainObj_wpAny_Assign_Attribute (thn (hv pins s Z H _ I h) fun u s1 ⟨y,H1,I1,ry,q⟩=>thn (ha pins s1 Z H1 _ I1 q) fun ov s2 ⟨x,H2,I2,rx,a,C,dx,fs,ex,ea,c,n,l,q2⟩=>?_) hs;subst ex;obtain rfl:ov=Value.ref a:=rx;exact ju I2 ea c n l ry fun s3 I3=>⟨Z,_,I3,q2⟩
theorem qg{op:Operator}{rd:V->V->Hp->VK->Prop}(ha:PE X o ta)(hv:PE X value tv)(hop:vx X op rd):PS X (.AugAssign (.Attribute o f tpos) op value pos) (lq X.K ta tv rd f):=by
 intro pins s Z H D I h;refine wpAny_AugAssign_AttributeAny (thn (ha pins s Z H _ I h) fun ov s1 zz=>?_);obtain⟨x,H1,I1,rx,a,C,dx,fs,v,ex,ea,c,n,l,q⟩:=zz;subst ex;obtain rfl:ov=Value.ref a:=rx;refine jp I1 ea c n l fun u s2 I2 ru=>thn (hv pins s2 Z H1 _ I2 q) fun w3 s3 ⟨y,H2,I3,ry,q3⟩=>thn (hop pins s3 Z H2 v y u w3 _ I3 ru ry q3) fun w4 s4 zz=>?_;obtain⟨z,H3,I4,rz,dx',fs',ea',l',q4⟩:=zz;exact ju I4 ea' c n l' rz fun s5 I5=>⟨Z,_,I5,q4⟩
def Ca:V->V->Hp->VK->Prop:=fun x y H Q=>∃ i j,x=.int i/\y=.int j/\Q (.int (i+j)) H
def BL:V->V->Hp->VK->Prop:=fun x y H Q=>∃ i j,x=.int i/\y=.int j/\Q (.int (i - j)) H
theorem qT:vx X .Add Ca:=by
 rintro pins s Z H x y u v Q I rx ry ⟨i,j,rfl,rfl,q⟩;obtain⟨t,rfl⟩:=(show ∃ t,u=Value.int i t from rx);obtain⟨t',rfl⟩:=(show ∃ t',v=Value.int j t' from ry);exact PyProof.Rows.iadd_int ⟨.int (i+j),H,I.tok _,⟨_,rfl⟩,q⟩
theorem yV:vx X .Sub BL:=by
 rintro pins s Z H x y u v Q I rx ry ⟨i,j,rfl,rfl,q⟩;obtain⟨t,rfl⟩:=(show ∃ t,u=Value.int i t from rx);obtain⟨t',rfl⟩:=(show ∃ t',v=Value.int j t' from ry);exact PyProof.Rows.isub_int ⟨.int (i - j),H,I.tok _,⟨_,rfl⟩,q⟩
end
section
variable{X:Cx}{pins:List (Addr×Obj)}{Z:St}{H:Hp}{s:Shared}{A:Around}{E:Value->Shared->Prop}{Q:Value->Shared->Prop}{c:Value}{b:Bool}
inductive eQ(K:W.Frag)(H:Hp):V->Value->Prop where
 | non:eQ K H .non (.type "NoneType")
 | bl (x:Bool):eQ K H (.bl x) (.type "bool")
 | int (i:Int):eQ K H (.int i) (.type "int")
 | str (x:Str):eQ K H (.str x) (.type "str")
 | flt (x:UInt64):eQ K H (.flt x) (.type "float")
 | lst {a:Addr}{xs:List V} (e:H a=some (.lst xs)):eQ K H (.ref a) (.type "list")
 | frz {a:Addr}{o:Obj}{xs:List V} (e:H a=some (.frz o (.lst xs))):eQ K H (.ref a) (.type "list")
 | tup {a:Addr}{xs:List V} (e:H a=some (.tup xs)):eQ K H (.ref a) (.type "tuple")
 | dK {a:Addr}{kvs:List (Key×V)} (e:H a=some (.dK kvs)):eQ K H (.ref a) (.type "dict")
 | dT {a:Addr}{kvs:List (List Key×V)} (e:H a=some (.dT kvs)):eQ K H (.ref a) (.type "dict")
 | ins {a C dx:Addr}{fs:List (Str×V)} (e:H a=some (.ins C dx fs)) (cl:Cls K C) (ha:W.findIn K (.ref C) "__class__"=some (some (.builtin "object.__class__")))
  (hn:W.specialIn K (.builtin "object.__class__") "__get__"=some (some (.builtin "getset_descriptor.__get__"))) (htk:W.takesIn K (.builtin "object.__class__")=some true)
  (hm:W.mroIn K C (.type "object")=some true):eQ K H (.ref a) (.ref C)
theorem pU{x:V}{u t:Value}(I:Inv X pins Z H s)(rx:aI x u)(ty:eQ X.K H x t)(e:W.kitOne X.K t c=some b)(h:∀ tk,Q (.bool b) { s with toks:=tk }) :
 wpAny (model X.prog X.w) A (call (.builtin "isinstance") [u,c]) Q E s:=by
 cases ty with
 | non=>cases (show u=Value.none from rx);exact W.kia_one W.kitx_none I.kIn True.intro e (fun z=>nomatch z) h
 | bl y=>cases (show u=Value.bool y from rx);exact W.kia_one W.kitx_bool I.kIn True.intro e (fun z=>nomatch z) h
 | int i=>obtain⟨t,q⟩:=(show ∃ t,u=Value.int i t from rx);cases q;exact W.kia_one W.kitx_int I.kIn True.intro e (fun z=>nomatch z) h
 | str y=>obtain⟨t,q⟩:=(show ∃ t,u=Value.str y t from rx);cases q;exact W.kia_one W.kitx_str I.kIn True.intro e (fun z=>nomatch z) h
 | flt y=>obtain⟨t,q⟩:=(show ∃ t,u=Value.float y t from rx);cases q;exact W.kia_one W.kitx_float I.kIn True.intro e (fun z=>nomatch z) h
 | @lst a xs ea=>
   cases (show u=Value.ref a from rx);obtain⟨_,_,n,_,h1⟩:=(show a_ X.prog X.w H s.heap a (.lst xs)from I.hok a _ ea);exact W.kia_one W.kitx_list I.kIn ⟨_,h1,rfl⟩ e (fun z=>nomatch z) h
 | @frz a ob xs ea=>
   cases (show u=Value.ref a from rx);obtain⟨_,_,_,n,_,h1⟩:=(show a_ X.prog X.w H s.heap a (.frz ob (.lst xs))from I.hok a _ ea);exact W.kia_one W.kitx_list I.kIn ⟨_,h1,rfl⟩ e (fun z=>nomatch z) h
 | @tup a xs ea=>
   cases (show u=Value.ref a from rx);obtain⟨_,_,_,p⟩:=(show a_ X.prog X.w H s.heap a (.tup xs)from I.hok a _ ea);obtain⟨o,h1,h2,_⟩:=p;exact W.kia_one W.kitx_tuple I.kIn ⟨o,h1,h2⟩ e (fun z=>nomatch z) h
 | @dK a kvs ea=>
   cases (show u=Value.ref a from rx);obtain⟨_,_,vs,_,p⟩:=(show a_ X.prog X.w H s.heap a (.dK kvs)from I.hok a _ ea);obtain⟨o,es,ep,h1,h2,_⟩:=p;exact W.kia_one W.kitx_dict I.kIn ⟨o,h1,h2.1⟩ e (fun z=>nomatch z) h
 | @dT a kvs ea=>
   cases (show u=Value.ref a from rx);obtain⟨_,_,xs,_,o,es,ep,h1,h2,_⟩:=(show a_ X.prog X.w H s.heap a (.dT kvs)from I.hok a _ ea);exact W.kia_one W.kitx_dict I.kIn ⟨o,h1,h2.1⟩ e (fun z=>nomatch z) h
 | @ins a C dx fs ea cl ha hn htk hm=>
   cases (show u=Value.ref a from rx);obtain⟨mA,O,_⟩:=iM I.hok ea;obtain⟨od,J,_⟩:=O.look;exact W.kia_one (W.kitx_own (cl.get _) cl.hd ha hn htk hm) I.kIn J e (fun z=>nomatch z) h
end
end L2
namespace L2
open PySem PySem.Spec PyProof.Rows
structure bF(k:Nat)(A:Around):Prop where
 hd:A.handled=none
 dp:A.depth+3*k+5 < recursionLimit
 un:A.units+16*k+200 < cLine
theorem bF.mono{j k:Nat}{A:Around}(r:bF k A)(h:j<=k):bF j A:=⟨r.hd,by have:=r.dp;omega,by have:=r.un;omega⟩
theorem bF.up{j k:Nat}{A:Around}(r:bF k A)(h:j<=k:=by first | decide | omega):bF j A:=r.mono h
theorem bF.deeper{k:Nat}{A:Around}(r:bF (k+1) A)(env:Env):bF k (A.deeper env):=
 ⟨r.hd,by have:=r.dp;show A.depth+1+3*k+5 < _;omega,by have:=r.un;show A.units+3+16*k+200 < _;omega⟩
theorem n_{A:Around}{C:Addr}{us:List Value}{kw:List (Str×Value)}:(A.under (.builtin "type.__call__" ⟨.ref C::us,kw⟩)).depth=A.depth+1:=by
 first | rfl | simp[Around.under,Code.weight,Code.isCreation,Code.isGuard,Code.isCaller,Code.frames,Code.isFrame,guardIds]
theorem n8{A:Around}{C:Addr}{us:List Value}{kw:List (Str×Value)}:(A.under (.builtin "type.__call__" ⟨.ref C::us,kw⟩)).units=A.units+1:=by
 first | rfl | simp[Around.under,Code.cUnits,Code.frames,Code.isFrame]
theorem bF.make{k:Nat}{A:Around}(r:bF (k+1) A)(C:Addr)(us:List Value)(kw:List (Str×Value)):bF k (A.under (.builtin "type.__call__" ⟨.ref C::us,kw⟩)):=
 ⟨r.hd,by have:=r.dp;rw[n_];omega,by have:=r.un;rw[n8];omega⟩
theorem bF.depth{k:Nat}{A:Around}(r:bF k A):A.depth < recursionLimit:=by have:=r.dp;omega
theorem bF.units{k:Nat}{A:Around}(r:bF k A):A.units+64 < cLine:=by have:=r.un;omega
def c9:TA:=fun _ H Q=>Q [] H
def bU(ta:TE)(tr:TA):TA:=fun Z H Q=>ta Z H fun x H1=>tr Z H1 fun xs H2=>Q (x::xs) H2
section
variable{X:Cx}{e:Expr}{es:List Expr}{te:TE}{t:TA}{pos:Pos}
theorem qR:PA X [] c9:=fun _ _ _ _ H Q I h=>Calls.spliced_nil ⟨[],H,I,.nil,h⟩
theorem oG(ha:PE X e te)(hr:PA X es t)(hs:starEach (e::es) X.env=(false,eval e X.env)::starEach es X.env:=by rfl):PA X (e::es) (bU te t):=by
 intro pos pins s Z H Q I h;rw[hs];show wpAny _ _ (spliced ((false,eval e X.env)::backTo pos (starEach es X.env))) _ _ s;refine Calls.spliced_cons (thn (ha pins s Z H _ I h) fun u s1 zz=>?_);obtain⟨x,H1,I1,r1,q1⟩:=zz;exact thn (hr pos pins s1 Z H1 _ I1 q1) fun us s2 ⟨xs,H2,I2,r2,q2⟩=>⟨x::xs,H2,I2,.cons r1 r2,q2⟩
def gA(t:TA):TE:=fun Z H Q=>t Z H fun xs H1=>xs.length<=sizeLine /\ ∀ p,H1 p=none->Q (.ref p) (upd H1 p (.tup xs))
def rL(t:TA):TE:=fun Z H Q=>t Z H fun xs H1=>xs.length<=sizeLine /\ ∀ p,H1 p=none->Q (.ref p) (upd H1 p (.lst xs))
theorem zd{x1}(h:PA X es t):PE X (.Tuple es x1 pos) (gA t):=by
 intro pins s Z H Q I hq;refine wpAny_Tuple_spliced (thn (h pos pins s Z H _ I hq) fun us s1 ⟨xs,H1,I1,r,z,q⟩=>⟨by rw[← r.length];exact z,?_⟩)
 have hf:H1 s1.heap.objs.size=none:=I1.hok.fresh (Nat.le_refl _);refine⟨.ref s1.heap.objs.size,upd H1 s1.heap.objs.size (.tup xs),I1.laid (t':=s1.toks) (fun b u e=>Heap.get?_push_of_some _ e) (Nat.le_refl _) ?_,rfl,q _ hf⟩;exact⟨z,us,r,⟨_,Heap.get?_push_size _ rfl,rfl,_,rfl⟩⟩
theorem xk(h:PA X es t):PE X (.List es pos) (rL t):=by
 intro pins s Z H Q I hq;refine wpAny_List_spliced (thn (h pos pins s Z H _ I hq) fun us s1 ⟨xs,H1,I1,r,z,q⟩=>⟨by rw[← r.length];exact z,?_⟩)
 have hf:H1 s1.heap.objs.size=none:=I1.hok.fresh (Nat.le_refl _);refine⟨.ref s1.heap.objs.size,upd H1 s1.heap.objs.size (.lst xs),I1.laid (t':=s1.toks) (fun b u e=>Heap.get?_push_of_some _ e) (Nat.le_refl _) ?_,rfl,q _ hf⟩;exact⟨z,us,0,r,Heap.get?_push_size _ rfl⟩
end
abbrev Sp:=List V->Hp->VK->XK->Prop
abbrev CXT:=List Env->Hp->Shared->XK->Value->Shared->Prop
structure nP(P:Program)(w:World)(K:W.Frag)(mg:Str->Option Value)(base:Heap)(A:Around)(outer:List Env)(s:Shared)(H:Hp):Prop where
 frames:A.frames=some outer
 mod:Mod K mg base
 bs:∀ b o,base.get? b=some o->s.heap.get? b=some o/\H b=none
 bsz:base.objs.size<=s.heap.objs.size
 funs:s.heap.FunFrames base outer
 frf:∀ b∈frs outer,H b=none
 hok:HOk P w H s.heap
 bare:AllBare s.gens
def CE(outer:List Env)(P:Program)(w:World)(H:Hp)(s:Shared)(Q:VK)(u:Value)(s':Shared):Prop:=
 ∃ v H',s'.os=s.os/\AllBare s'.gens/\Un (frs outer) [] H H' s.heap s'.heap/\HOk P w H' s'.heap/\aI v u/\Q v H'
def CR(CX:CXT)(outer:List Env)(P:Program)(w:World)(H:Hp)(s:Shared)(Q:VK)(E:XK)(r:Result)(s':Shared):Prop:=
 match r with
 | .ok (.ret u)=>CE outer P w H s Q u s'
 | .ok _=>False
 | .error e=>CX outer H s E e s'
structure c7(P:Program)(w:World)(K:W.Frag)(mg:Str->Option Value)(base:Heap)(CX:CXT)(k:Nat)(f:Addr)(fd:FuncData)(ps:List Str)(sp:Sp):Prop where
 len:∀ vs H Q E,sp vs H Q E->vs.length=ps.length
 run:∀(A:Around) (outer:List Env) (s:Shared) (H:Hp) (args:Args) (us:List Value) (vs:List V) (Q:VK) (E:XK),bF k A->nP P w K mg base A outer s H->BindsTo s fd args (ps.zip us)->aC vs us->sp vs H Q E ->
  codeAny (model P w) A (.call (.ref f) args) (CR CX outer P w H s Q E) s
theorem c7.imp{P:Program}{w:World}{K:W.Frag}{mg:Str->Option Value}{base:Heap}{CX:CXT}{k:Nat}{f:Addr}{fd:FuncData}{ps:List Str}{sp sp':Sp}(F:c7 P w K mg base CX k f fd ps sp)
 (h:∀ vs H Q E,sp' vs H Q E->sp vs H Q E):c7 P w K mg base CX k f fd ps sp':=
 ⟨fun vs H Q E q=>F.len vs H Q E (h _ _ _ _ q),fun A outer s H args us vs Q E hr he hb hv hs=>F.run A outer s H args us vs Q E hr he hb hv (h _ _ _ _ hs)⟩
theorem nP.make{P:Program}{w:World}{K:W.Frag}{mg:Str->Option Value}{base:Heap}{A:Around}{outer:List Env}{s:Shared}{H:Hp}(e:nP P w K mg base A outer s H)(C:Addr)(us:List Value)(kw:List (Str×Value)) :
 nP P w K mg base (A.under (.builtin "type.__call__" ⟨.ref C::us,kw⟩)) outer s H:=⟨by first | exact e.frames | (simpa [Around.under,Code.envs,Code.isFrame,pushEnvs] using e.frames),e.mod,e.bs,e.bsz,e.funs,e.frf,e.hok,e.bare⟩
section
variable{X:Cx}{pins:List (Addr×Obj)}{Z:St}{H:Hp}{s s':Shared}
theorem Inv.env0(I:Inv X pins Z H s):nP X.prog X.w X.K X.mg X.base X.A X.stack s H:=
 ⟨I.ok.frames,I.ok.mod,I.bs,Nat.le_trans I.ok.bsz I.sz,I.stack,I.stkFree,I.hok,I.bare⟩
theorem Inv.after{Q:VK}{u:Value}(I:Inv X pins Z H s)(h:CE X.stack X.prog X.w H s Q u s'):EP X pins Z Q u s':=by
 obtain⟨v,H',os,bare,un,hok,r,q⟩:=h;obtain⟨hh,g,d,t,os'⟩:=s';obtain rfl:os'=s.os:=os;exact⟨v,H',I.call (h':=hh) (g':=g) (d':=d) (t':=t) (ch:=[]) un hok bare (fun b z=>absurd z (by simp)),r,q⟩
end
def hV(sp:Sp)(dvs:List V)(E:XK)(t:TA):TE:=fun Z H Q=>t Z H fun vs H1=>sp (vs++dvs) H1 Q E
def kn(C:Addr)(m:Str)(sp:Sp)(dvs:List V)(E:XK)(ta:TE)(t:TA):TE:=fun Z H Q=>ta Z H fun x H1=>∃ a dx fs,x=.ref a/\H1 a=some (.ins C dx fs)/\fs.lookup m=none /\
 t Z H1 fun vs H2=>sp (x::(vs++dvs)) H2 Q E
def ua(C:Addr)(sp:Sp)(dvs:List V)(E:XK)(t:TA):TE:=fun Z H Q=>t Z H fun vs H1=>∀ x dx,H1 x=none->H1 dx=none->dx≠x ->
 sp (.ref x::(vs++dvs)) (upd (upd H1 dx (.own x)) x (.ins C dx [])) (fun v H2=>v=.non/\Q (.ref x) H2) E
def bY(K:W.Frag)(fd:FuncData)(ps:List Str)(ds:List Value):Prop:=
 ∀(s:Shared) (us:List Value),K.In s.heap->(us++ds).length=ps.length->BindsTo s fd ⟨us,[]⟩ (ps.zip (us++ds))
theorem bY.all{K:W.Frag}{fd:FuncData}{ps:List Str}(h:∀ us:List Value,us.length=ps.length->bindArgs fd ⟨us,[]⟩=pure (ps.zip us)):bY K fd ps []:=fun s us _ hl=>by
 rw[List.append_nil]at hl ⊢;exact .of_eq (h us hl)
def fT(CX:CXT)(X:Cx)(E:XK):Prop:=∀(pins:List (Addr×Obj)) (Z:St) (H:Hp) (s:Shared) (e:Value) (s':Shared),Inv X pins Z H s->CX X.stack H s E e s'->X.xe e s'
section
variable{X:Cx}{CX:CXT}{k:Nat}{f C:Addr}{fd:FuncData}{ps:List Str}{sp:Sp}{dvs:List V}{ds:List Value}{E:XK}{x m:Str}{p pos apos:Pos}{e o:Expr}{es:List Expr}{ta:TE}{t:TA}
theorem nN{pins:List (Addr×Obj)}{Z:St}{H:Hp}{s:Shared}{Q:VK}{us:List Value}{vs:List V}(F:c7 X.prog X.w X.K X.mg X.base CX k f fd ps sp)(hr:bF k X.A)(hb:bY X.K fd ps ds)(hd:aC dvs ds)(hx:fT CX X E)
 (I:Inv X pins Z H s) (r:aC vs us) (h:sp (vs++dvs) H Q E):wpAny (model X.prog X.w) X.A (call (.ref f) us) (EP X pins Z Q) X.xe s:=by
 have r2:aC (vs++dvs) (us++ds):=r.append hd;have hl:(us++ds).length=ps.length:=by rw[← r2.length];exact F.len _ _ _ _ h
 refine wpAny_call (codeAny_mono (F.run X.A X.stack s H ⟨us,[]⟩ (us++ds) (vs++dvs) Q E hr I.env0 (hb s us I.kIn hl) r2 h) fun r s' hq=>?_);cases r with
 | error e=>exact hx pins Z H s e s' I hq
 | ok fl=>
   cases fl with
   | ret u=>exact I.after hq
   | next=>exact False.elim hq
   | brk=>exact False.elim hq
   | cont=>exact False.elim hq
theorem vN(F:c7 X.prog X.w X.K X.mg X.base CX k f fd ps sp)(hr:bF k X.A)(hg:Gl X x)(hm:X.mg x=some (.ref f))(hk:W.keepIn X.K (.ref f)=true)(hb:bY X.K fd ps ds)(hd:aC dvs ds)(hx:fT CX X E)
 (ha:PA X (e::es) t) (hdb:(x == ("__debug__":Str))=false:=by decide) (he:starEach (e::es) X.env=(false,eval e X.env)::starEach es X.env:=by rfl) (hpl:(backTo pos (starEach es X.env)).any (·.1)=false:=by rfl) :
 PE X (.Call (.Name x p) (e::es) [] pos) (hV sp dvs E t):=by
 intro pins s Z H Q I h;refine wpAny_Call_Name_kw (fw I hg hm ?_ hdb);refine W.callWith_K (h₀:=X.base) I.ok.mod.kin hk (thn (ha pos pins s Z H _ I h) fun us s1 ⟨vs,H1,I1,r,q⟩=>⟨I1.kIn,?_⟩) he hpl;exact nN F hr hb hd hx I1 r q
theorem vE{pl:Sem Bool}(he:PE X o ta)(c:Cls X.K C)(hm:tR X.K C m f)(F:c7 X.prog X.w X.K X.mg X.base CX k f fd ps sp)(hr:bF k X.A)(hb:bY X.K fd ps ds)(hd:aC dvs ds)(hx:fT CX X E)(ha:PA X (e::es) t)
 (hst:starEach (e::es) X.env=(false,eval e X.env)::starEach es X.env:=by rfl) (hpl:(backTo pos (starEach es X.env)).any (·.1)=false:=by rfl)
 (ht:eval (.Call (.Attribute o m apos) (e::es) [] pos) X.env=(do
  let ov ← eval o X.env
  standAt apos.atName
  let(f,first) ← holding [ov] (getMethod ov m pl)
  callWith pos f first (backTo pos (starEach (e::es) X.env)) (backToKw pos (keywordEach [] X.env))):=by rfl) :
 PE X (.Call (.Attribute o m apos) (e::es) [] pos) (kn C m sp dvs E ta t):=by
 intro pins s Z H Q I h;refine W.methodCall_KW (pl:=pl) (thn (he pins s Z H _ I h) fun u s1 ⟨x,H1,I1,rx,a,dx,fs,ex,ea,l,q⟩=>?_) ht;subst ex;obtain rfl:u=Value.ref a:=rx;refine jf I1 ea c hm l ?_;refine W.callWith_K (first:=[.ref a]) (h₀:=X.base) I.ok.mod.kin hm.kp (thn (ha pos pins s1 Z H1 _ I1 q) fun us s2 ⟨vs,H2,I2,r,q2⟩=>⟨I2.kIn,?_⟩) hst hpl;exact nN (us:=.ref a::us) (vs:=.ref a::vs) F hr hb hd hx I2 (.cons rfl r) q2
theorem sL{pl:Sem Bool}(he:PE X o ta)(c:Cls X.K C)(hm:tR X.K C m f)(F:c7 X.prog X.w X.K X.mg X.base CX k f fd ps sp)(hr:bF k X.A)(hb:bY X.K fd ps ds)(hd:aC dvs ds)(hx:fT CX X E)
 (ht:eval (.Call (.Attribute o m apos) [] [] pos) X.env=(do
  let ov ← eval o X.env
  standAt apos.atName
  let(f,first) ← holding [ov] (getMethod ov m pl)
  callWith pos f first (backTo pos (starEach [] X.env)) (backToKw pos (keywordEach [] X.env))):=by rfl) :
 PE X (.Call (.Attribute o m apos) [] [] pos) (kn C m sp dvs E ta c9):=by
 intro pins s Z H Q I h;refine W.methodCall_KW (pl:=pl) (thn (he pins s Z H _ I h) fun u s1 ⟨x,H1,I1,rx,a,dx,fs,ex,ea,l,q⟩=>?_) ht;subst ex;obtain rfl:u=Value.ref a:=rx;refine jf I1 ea c hm l ?_;exact W.callWith_K0 (first:=[.ref a]) I1.kIn hm.kp (nN (us:=[.ref a]) (vs:=[.ref a]) F hr hb hd hx I1 (.cons rfl .nil) q)
structure Mk(K:W.Frag)(C f:Addr):Prop where
 makes:W.makesIn K C=true
 init:W.findIn K (.ref C) "__init__"=some (some (.ref f))
 fn:W.isFn K (.ref f)=true
 kp:W.keepIn K (.ref C)=true
theorem rK{pins:List (Addr×Obj)}{Z:St}{H:Hp}{s:Shared}{Q:VK}{us:List Value}{vs:List V}(M:Mk X.K C f)(F:c7 X.prog X.w X.K X.mg X.base CX k f fd ps sp)(hr:bF (k+1) X.A)(hb:bY X.K fd ps ds)(hd:aC dvs ds)
 (hx:fT CX X E) (I:Inv X pins Z H s) (r:aC vs us)
 (h:∀ x dx,H x=none->H dx=none->dx≠x->sp (.ref x::(vs++dvs)) (upd (upd H dx (.own x)) x (.ins C dx [])) (fun v H2=>v=.non/\Q (.ref x) H2) E) :
 wpAny (model X.prog X.w) X.A (call (.ref C) us) (EP X pins Z Q) X.xe s:=by
 have hq:=h (s.heap.objs.size+1) s.heap.objs.size (I.hok.fresh (Nat.le_succ _)) (I.hok.fresh (Nat.le_refl _)) (Nat.ne_of_lt (Nat.lt_succ_self _));have I2:=Inv.made (C:=C) I;have r2:aC (V.ref (s.heap.objs.size+1)::(vs++dvs)) (Value.ref (s.heap.objs.size+1)::(us++ds)):=.cons rfl (r.append hd);have hl:(Value.ref (s.heap.objs.size+1)::us++ds).length=ps.length:=by
  have e:=r2.length;rw[F.len _ _ _ _ hq]at e;exact e.symm
 refine wpAny_call (tN (f:=f) I.kIn M.makes M.init (beq_iff_eq.mp M.fn) (codeAny_mono (F.run _ X.stack _ _ ⟨Value.ref (s.heap.objs.size+1)::us,[]⟩ (Value.ref (s.heap.objs.size+1)::(us++ds)) _ _ E (hr.make C us [])
  (I2.env0.make C us []) (hb _ (Value.ref (s.heap.objs.size+1)::us) I2.kIn hl) r2 hq) fun r s' hq'=>?_))
 cases r with
 | error e=>exact hx pins Z _ _ e s' I2 hq'
 | ok fl=>
   cases fl with
   | ret u=>
     obtain⟨v,H',I3,rv,ev,q3⟩:=I2.after hq';subst ev;exact⟨rv,⟨V.ref (s.heap.objs.size+1),H',I3,rfl,q3⟩⟩
   | next=>exact False.elim hq'
   | brk=>exact False.elim hq'
   | cont=>exact False.elim hq'
theorem uE(M:Mk X.K C f)(F:c7 X.prog X.w X.K X.mg X.base CX k f fd ps sp)(hr:bF (k+1) X.A)(hg:Gl X x)(hm:X.mg x=some (.ref C))(hb:bY X.K fd ps ds)(hd:aC dvs ds)(hx:fT CX X E)
 (ha:PA X (e::es) t) (hdb:(x == ("__debug__":Str))=false:=by decide) (he:starEach (e::es) X.env=(false,eval e X.env)::starEach es X.env:=by rfl) (hpl:(backTo pos (starEach es X.env)).any (·.1)=false:=by rfl) :
 PE X (.Call (.Name x p) (e::es) [] pos) (ua C sp dvs E t):=by
 intro pins s Z H Q I h;refine wpAny_Call_Name_kw (fw I hg hm ?_ hdb);refine W.callWith_K (h₀:=X.base) I.ok.mod.kin M.kp (thn (ha pos pins s Z H _ I h) fun us s1 ⟨vs,H1,I1,r,q⟩=>⟨I1.kIn,?_⟩) he hpl;exact rK M F hr hb hd hx I1 r q
end
section
variable{X:Cx}{CX:CXT}{k:Nat}{f C:Addr}{fd:FuncData}{ps ks:List Str}{sp:Sp}{E:XK}{x m:Str}{p pos apos kpos:Pos}{e o:Expr}{es:List Expr}{kws:List Keyword}{te ta:TE}{t tk:TA}{nm:Option Str}
variable{g:List Value->List Value->List Value}{gV:List V->List V->List V}
end
structure ak(N P:List Str)(sc:Scope):Prop where
 kind:sc.kind=.function
 co:sc.isCoroutine=false
 gen:sc.isGenerator=false
 nd:N.Nodup
 pre:N.take P.length=P
 par:∀ x∈P,sc.names.lookup x=some .local∨sc.names.lookup x=some .cell
 nofree:∀ y∈sc.names,y.2 ≠ .free
theorem lb{kindOf:Str->Option NameKind}{x:Str}:∀{binds:List (Str×Value)}{m:Str->Option Value},(∀ v,(x,v)∉binds)->bindL kindOf binds m x=m x
 | [],_,_=>rfl
 | (n,v)::r,m,h=>by
   unfold bindL;rw[lb fun w hw=>h w (List.mem_cons_of_mem _ hw)];split
   . have:x≠n:=by rintro rfl;exact h v List.mem_cons_self
     simp[this]
   rfl
theorem kJ{kindOf:Str->Option NameKind}{x:Str}:∀{binds:List (Str×Value)}{m:Str->Option Value},(∀ v,(x,v)∉binds)->bindC kindOf binds m x=m x
 | [],_,_=>rfl
 | (n,v)::r,m,h=>by
   unfold bindC;rw[kJ fun w hw=>h w (List.mem_cons_of_mem _ hw)];split
   . rfl
   have:x≠n:=by rintro rfl;exact h v List.mem_cons_self
   simp[this]
theorem km{kindOf:Str->Option NameKind}{x:Str}{v:Value}:∀{P:List Str}{vs:List Value}{i:Nat}{m:Str->Option Value},P.Nodup->P[i]?=some x->vs[i]?=some v->kindOf x=some .local ->
 bindL kindOf (P.zip vs) m x=some v
 | [],_,_,_,_,h,_,_=>by simp at h
 | _::_,[],_,_,_,_,h,_=>by simp at h
 | p::P,w::vs,0,m,nd,h1,h2,hk=>by
   simp at h1 h2;subst h1;subst h2;show bindL kindOf ((p,w)::P.zip vs) m p=_;unfold bindL;rw[lb fun v hv=>(List.nodup_cons.mp nd).1 (List.of_mem_zip hv).1,if_pos hk];simp
 | p::P,w::vs,i+1,m,nd,h1,h2,hk=>by
   show bindL kindOf ((p,w)::P.zip vs) m x=_;unfold bindL;exact km (i:=i) (List.nodup_cons.mp nd).2 (by simpa using h1) (by simpa using h2) hk
theorem kQ{kindOf:Str->Option NameKind}{x:Str}{v:Value}:∀{P:List Str}{vs:List Value}{i:Nat}{m:Str->Option Value},P.Nodup->P[i]?=some x->vs[i]?=some v->kindOf x≠some .local ->
 bindC kindOf (P.zip vs) m x=some v
 | [],_,_,_,_,h,_,_=>by simp at h
 | _::_,[],_,_,_,_,h,_=>by simp at h
 | p::P,w::vs,0,m,nd,h1,h2,hk=>by
   simp at h1 h2;subst h1;subst h2;show bindC kindOf ((p,w)::P.zip vs) m p=_;unfold bindC;rw[kJ fun v hv=>(List.nodup_cons.mp nd).1 (List.of_mem_zip hv).1,if_neg hk];simp
 | p::P,w::vs,i+1,m,nd,h1,h2,hk=>by
   show bindC kindOf ((p,w)::P.zip vs) m x=_;unfold bindC;exact kQ (i:=i) (List.nodup_cons.mp nd).2 (by simpa using h1) (by simpa using h2) hk
def c6(N:List Str)(vs:List V):St:=vs.map some++List.replicate (N.length - vs.length) none
def dC(CX:CXT)(P:Program)(w:World)(K:W.Frag)(mg:Str->Option Value)(base:Heap)(N:List Str)(qual:Str)(scope:Scope)(f:Addr)(cd:Value)(A:Around)(outer:List Env)(s:Shared)(H:Hp)(E:XK):Cx where
 prog:=P
 w:=w
 K:=K
 mg:=mg
 base:=base
 A:=A.deeper (envOfC qual scope s.heap.objs.size f cd)
 N:=N
 s₀:=s
 H₀:=H
 env:=envOfC qual scope s.heap.objs.size f cd
 outer:=outer
 stack:=envOfC qual scope s.heap.objs.size f cd::outer
 ex:=[]
 calm:=true
 fn:=fun _=>true
 pn:=[]
 xe:=fun e s'=>wpAny (model P w) (A.deeper (envOfC qual scope s.heap.objs.size f cd)) (leaving (envOfC qual scope s.heap.objs.size f cd) e) (fun _ s''=>CX outer H s E e s'') (fun e' s''=>CX outer H s E e' s'') s'
theorem mR{sc:Scope}{n:Nat}{x:Str}(h:sc.names.lookup x=some .cell):∃ c,(cellsFrom n sc.names []).lookup x=some c:=by
 have q:=W.cellsFrom_some sc.names n [] (.inl h);exact Option.isSome_iff_exists.mp q
theorem qw{CX:CXT}{P:Program}{w:World}{K:W.Frag}{mg:Str->Option Value}{base:Heap}{N ps:List Str}{qual:Str}{scope:Scope}{f:Addr}{cd:Value}{A:Around}{outer:List Env}{s s1:Shared}{H:Hp}{E:XK}{us:List Value}{vs:List V}
 (S:ak N ps scope) (hd:A.handled=none) (e0:nP P w K mg base A outer s H) (hl:vs.length=ps.length) (r:aC vs us)
 (x:InCallC s s.heap.objs.size (bindL (envOfC qual scope s.heap.objs.size f cd).kindOf (ps.zip us) fun _=>none) (cellsFrom (s.heap.objs.size+1) scope.names []) (bindC (envOfC qual scope s.heap.objs.size f cd).kindOf (ps.zip us) fun _=>none) s1) :
 Inv (dC CX P w K mg base N qual scope f cd A outer s H E) [] (c6 N vs) H s1:=by
 have hpl:ps.length<=N.length:=by have:=congrArg List.length S.pre;rw[List.length_take]at this;omega
 obtain⟨h1,tk,rfl,hk⟩:=x.done;have noA:∀ b:Addr,b∉(dC CX P w K mg base N qual scope f cd A outer s H E).ex:=fun b z=>absurd (show b∈([]:List Addr)from z) (by simp)
 refine⟨⟨e0.mod,S.kind,rfl,rfl,Nat.le_refl _,fun y z c h1 h2=>?_,fun y hy=>?_,fun y c _ h=>?_,fun _=>hd,Around.frames_deeper e0.frames,.inr ⟨rfl,rfl⟩,fun b z=>absurd z (noA b),e0.bs,e0.bsz,fun b _ _=>noA b,fun b z=>absurd z (noA b),e0.funs,e0.frf⟩,
  rfl,e0.bare,Un.kept hk,⟨_,x.toInCall.ns,fun i y v h1 h2 h3=>?_⟩,fun y c h=>⟨_,x.cell y c h⟩,e0.hok.fresh (Nat.le_refl _),fun y c h=>?_,fun p hp=>absurd (show p∈([]:List (Addr×Obj))from hp) (by simp),e0.hok.kept hk,?_⟩
 . exact name_of_addr x.apart (PySem.mem_of_lookup h1) (PySem.mem_of_lookup h2)
 . have hy:scope.names.lookup y=some .cell∨scope.names.lookup y=some .free:=hy
   rcases hy with hy | hy
   . exact mR hy
   exact absurd rfl (S.nofree _ (PySem.mem_of_lookup hy))
 . exact Nat.le_of_lt (x.above y c (PySem.mem_of_lookup h))
 . have hi:i < vs.length:=by
    unfold c6 at h2;by_cases hi:i < vs.length
    . exact hi
    rw[List.getElem?_append_right (by simpa using hi)]at h2
    rw[List.getElem?_replicate]at h2;split at h2 <;> cases h2
   have ha:vs[i]?=some v:=by
    unfold c6 at h2;rw[List.getElem?_append_left (by simpa using hi),List.getElem?_map]at h2
    cases e:vs[i]? with
    | none=>rw[e]at h2;cases h2
    | some a=>rw[e]at h2;cases h2;rfl
   obtain⟨u,hu,rv⟩:=r.get ha;have hp:ps[i]?=some y:=by
    rw[← S.pre,List.getElem?_take_of_lt (by omega)];exact h1
   have ndP:ps.Nodup:=by rw[← S.pre];exact S.nd.sublist (List.take_sublist _ _)
   refine⟨u,rv,?_⟩;rcases S.par y (List.mem_of_getElem? hp)with k | k
   . exact .inl ⟨k,km ndP hp hu k⟩
   obtain⟨c,e⟩:=mR (n:=s.heap.objs.size+1) k;refine .inr ⟨.inl k,c,e,?_⟩;have q:=x.cell y c e;rw[kQ ndP hp hu (by show scope.names.lookup y≠_;rw[k];decide)]at q
   exact q
 . exact e0.hok.fresh (Nat.le_of_lt (x.above y c (PySem.mem_of_lookup h)))
 unfold c6;show _=N.length;rw[List.length_append,List.length_map,List.length_replicate];omega
theorem wG{CX:CXT}{P:Program}{w:World}{K:W.Frag}{mg:Str->Option Value}{base:Heap}{k:Nat}{f:Addr}{name qual:Str}{params:Arguments}{body:List Stmt}{scope:Scope}{dV kV doc pm cdv ct oc:Value}{an od:Option Addr}
 {osl:Array (Option Value)}{N ps:List Str}{sp:Sp} (lk:K.lookup f=some ⟨oc,od,.func (W.fnOf name qual params body scope dV kV doc pm an cdv ct),osl⟩) (hcd:W.codeIn K cdv qual=true) (S:ak N ps scope)
 (len:∀ vs H Q E,sp vs H Q E->vs.length=ps.length)
 (hbody:∀(A:Around) (outer:List Env) (s:Shared) (H:Hp) (vs:List V) (Q:VK) (E:XK),bF k (A.deeper (envOfC qual scope s.heap.objs.size f cdv))->sp vs H Q E ->
  ∃ t,PSs (dC CX P w K mg base N qual scope f cdv A outer s H E) body t/\t { nx:=fun _ H'=>Q .non H',rt:=Q } (c6 N vs) H) :
 c7 P w K mg base CX (k+1) f (W.fnOf name qual params body scope dV kV doc pm an cdv ct) ps sp:=by
 refine⟨len,fun A outer s H args us vs Q E hr e0 hb r hsp=>?_⟩;have hl:=len _ _ _ _ hsp;have KX:K.In s.heap:=e0.mod.kin.keeps fun b o e=>(e0.bs b o e).1;have lim:s.heap.NoLimit:=e0.mod.nolimit.keeps fun b o e=>(e0.bs b o e).1;have hkind:∀ y∈ps.zip us,scope.names.lookup y.1=some .local∨(scope.names.lookup y.1=some .cell/\((cellsFrom (s.heap.objs.size+1) scope.names []).lookup y.1).isSome=true):=fun⟨n,v⟩ hy=>by
  rcases S.par n (List.of_mem_zip hy).1 with q | q
  . exact .inl q
  exact .inr ⟨q,W.cellsFrom_some _ _ _ (.inl q)⟩
 refine codeAny_call_function hr.depth (KX _ _ lk) rfl S.co S.gen rfl (W.codeRec_of KX hcd) (hb _ _ _ _ ?_);refine wpAny_newFunctionEnv_cells S.kind hkind fun env he s1 x=>?_;subst he;refine⟨lim.keeps x.toInCall.keep,codeAny_func ?_⟩;obtain⟨t,ht,hq⟩:=hbody A outer s H vs Q E (hr.deeper _) hsp;have I:Inv (dC CX P w K mg base N qual scope f cdv A outer s H E) [] (c6 N vs) H s1:=qw S hr.hd e0 hl r x;refine wpAny_mono (ht [] s1 (c6 N vs) H _ I hq) (fun fl s' hs=>?_) fun e s' hs=>hs;have fin:∀{Z':St}{H':Hp}{v:V}{u:Value},Inv (dC CX P w K mg base N qual scope f cdv A outer s H E) [] Z' H' s'->aI v u->Q v H'->CE outer P w H s Q u s':=
  fun {Z' H' v u} J rv q=>⟨v,H',J.os,J.bare,J.base,J.hok,rv,q⟩
 cases fl with
 | ret u=>
   obtain⟨v,Z',H',J,rv,q⟩:=hs;exact fin J rv q
 | next=>
   obtain⟨Z',H',J,q⟩:=hs;exact fin (v:=V.non) (u:=Value.none) J rfl q
 | brk=>
   obtain⟨_,_,_,q⟩:=hs;exact False.elim q
 | cont=>
   obtain⟨_,_,_,q⟩:=hs;exact False.elim q
end L2
namespace L2
open PySem PySem.Spec PyProof.Rows
section
variable{X:Cx}{x:Str}{p pos:Pos}{e:Expr}{es:List Expr}{t:TA}{id T:String}{r:List V->Hp->VK->Prop}
def tCB(r:List V->Hp->VK->Prop)(t:TA):TE:=fun Z H Q=>t Z H fun vs H1=>r vs H1 Q
theorem sM(hc:bP X (.builtin id) r)(hg:Gl X x)(hm:X.mg x=none)(hv:bootBuiltins x=some (.builtin id))(ha:PA X (e::es) t)(hn:x ≠ "__name__":=by decide)(hdb:(x == ("__debug__":Str))=false:=by decide)
 (he:starEach (e::es) X.env=(false,eval e X.env)::starEach es X.env:=by rfl) (hpl:(backTo pos (starEach es X.env)).any (·.1)=false:=by rfl):PE X (.Call (.Name x p) (e::es) [] pos) (tCB r t):=by
 intro pins s Z H Q I h;refine wpAny_Call_Name_kw (jb I hg hm hv ?_ hn hdb);exact PyProof.Rows.callWith_builtin1 (thn (ha pos pins s Z H _ I h) fun us s1 ⟨vs,H1,I1,r1,q1⟩=>hc pins s1 Z H1 vs us Q I1 r1 q1) he hpl
theorem pM(hc:bP X (.type T) r)(hg:Gl X x)(hm:X.mg x=none)(hv:bootBuiltins x=some (.type T))(ha:PA X (e::es) t)(hn:x ≠ "__name__":=by decide)(hdb:(x == ("__debug__":Str))=false:=by decide)
 (he:starEach (e::es) X.env=(false,eval e X.env)::starEach es X.env:=by rfl) (hpl:(backTo pos (starEach es X.env)).any (·.1)=false:=by rfl):PE X (.Call (.Name x p) (e::es) [] pos) (tCB r t):=by
 intro pins s Z H Q I h;refine wpAny_Call_Name_kw (jb I hg hm hv ?_ hn hdb);exact PyProof.Rows.callWith_type1 (thn (ha pos pins s Z H _ I h) fun us s1 ⟨vs,H1,I1,r1,q1⟩=>hc pins s1 Z H1 vs us Q I1 r1 q1) he hpl
end
end L2
namespace HT
open PySem PyProof.Rows
section
open PySem.SeqAt
open PySem.AutoSeq1 (wpAny_loadPart')
open PySem.MeetsSeq PySem.MeetsSeq2 PySem.MeetsSeq3
end
section
variable{prog:Program}{w:World}{A:Around}{E:Value->Shared->Prop}{s:Shared}
theorem ui{t b:Addr}{vs ws:List Value}{Q:Value->Shared->Prop}(ht:IsTup s.heap t vs.toArray)(hb:IsTup s.heap b ws.toArray)(hv:vs≠[])
 (h1:ws=[]->Q (.ref t) s) (h2:ws≠[]->Q (.ref s.heap.objs.size) { s with heap:=s.heap.push { cls:=.type "tuple",data:=.seq (vs++ws).toArray } })
 (hsz:vs.length+ws.length<=sizeLine):wpAny (model prog w) A (binaryOp .Add (.ref t) (.ref b)) Q E s:=by
 obtain⟨⟨cls,dd,data,sl⟩,ho,hc,n,hd⟩:=id ht;obtain⟨⟨cls2,dd2,data2,sl2⟩,ho2,hc2,n2,hd2⟩:=id hb;simp only at hc hd hc2 hd2;subst hc hd hc2 hd2;have e:vs.toArray++ws.toArray=(vs++ws).toArray:=by simp
 by_cases hw:ws=[]
 . exact concat_meets ⟨_,ho,rfl⟩ ⟨_,ho2,rfl⟩ noFill_tuple_add seq_tuple_add PySem.F.slot_tuple_add PySem.F.entry_tuple_add (PySem.F.args_tuple_add_2 _ _)
    (tuple_addW1 t b vs.toArray ws.toArray n n2 dd dd2 sl sl2 (by simpa using hv) (by simp[hw])) ⟨ho,ho2,h1 hw⟩
 refine concat_meets ⟨_,ho,rfl⟩ ⟨_,ho2,rfl⟩ noFill_tuple_add seq_tuple_add PySem.F.slot_tuple_add PySem.F.entry_tuple_add (PySem.F.args_tuple_add_2 _ _)
  (tuple_addW2 t b vs.toArray ws.toArray n n2 dd dd2 sl sl2 (by simpa using hv) (by simpa using hw) (by rw[List.size_toArray,List.size_toArray];exact hsz)) ⟨ho,ho2,?_⟩
 rw[e];exact h2 hw
def sIx(n d:Nat):Option Int->Nat
 | none=>d
 | some v=>if v < 0 then(v+(n:Int)).toNat else min v.toNat n
theorem wY(n d:Nat)(hd:d<=n)(o:Option Int):sIx n d o<=n:=by
 cases o with
 | none=>exact hd
 | some v=>
   show(if v < 0 then(v+(n:Int)).toNat else min v.toNat n)<=n;by_cases hv:v < 0
   . rw[if_pos hv];omega
   rw[if_neg hv];exact Nat.min_le_right _ _
theorem pz(v:Int)(n d:Nat):(if v < 0 then max (v+(n:Int)) 0 else min v (n:Int))=((sIx n d (some v):Nat):Int):=by
 show(if v < 0 then max (v+(n:Int)) 0 else min v (n:Int))=(((if v < 0 then(v+(n:Int)).toNat else min v.toNat n):Nat):Int);by_cases hv:v < 0
 . simp only[if_pos hv];omega
 simp only[if_neg hv];omega
theorem n6(lo hi:Option Int)(n:Nat):Builtin.Slice.sliceAdjust lo hi 1 (n:Int)=(((sIx n 0 lo:Nat):Int),((sIx n n hi:Nat):Int)):=by
 have h1:¬ ((1:Int) < 0):=by omega
 unfold Builtin.Slice.sliceAdjust;simp only[h1,if_false];refine Prod.ext ?_ ?_
 . cases lo with
   | none=>rfl
   | some v=>exact pz v n 0
 cases hi with
 | none=>rfl
 | some v=>exact pz v n n
theorem nz(i j:Nat):Builtin.Slice.slicePlaces (i:Int) (j:Int) 1=j - i:=by
 unfold Builtin.Slice.slicePlaces;have h1:(1:Int) > 0:=by omega
 simp only[h1,if_true,Int.ediv_one];split <;> omega
theorem jN{v:Value}{o:Option Int}{Q:Option Int->Shared->Prop}(p:IsPart v o)(h:Q o s):wpAny (model prog w) A (Builtin.Slice.slicePartIndex v) Q E s:=by
 cases p with
 | none=>exact slicePart_none h
 | int i t=>exact slicePart_int h
theorem dS{sl:Addr}{vl vu:Value}{lo hi:Option Int}{n:Nat}{Q:Int×Int×Nat->Shared->Prop}(hs:s.heap.IsSliceOf sl vl vu .none)(pl:IsPart vl lo)(pu:IsPart vu hi)
 (h:Q (((sIx n 0 lo:Nat):Int),1,sIx n n hi - sIx n 0 lo) s):wpAny (model prog w) A (Builtin.Slice.sliceApplied (.ref sl) (pure (n:Int))) Q E s:=by
 obtain⟨os,hos,hcs,hds⟩:=id hs;unfold Builtin.Slice.sliceApplied Builtin.Slice.sliceFields;refine wpAny_bind (wpAny_bind (wpAny_field hos hds (x:=vl) rfl (wpAny_bind (wpAny_field hos hds (x:=vu) rfl (wpAny_bind (wpAny_field hos hds (x:=.none) rfl (wpAny_pure ?_)))))));refine wpAny_bind (slicePart_none ?_);show wpAny _ _ (if((1:Int) == 0)=true then _ else _) _ _ s;rw[if_neg (by decide)]
 refine wpAny_bind (jN pl (wpAny_bind (jN pu (wpAny_bind (wpAny_pure ?_)))));show wpAny _ _ (match Builtin.Slice.sliceAdjust lo hi 1 (n:Int)with | (lo,hi)=>pure (lo,(1:Int),Builtin.Slice.slicePlaces lo hi 1)) _ _ s;rw[n6 lo hi n];show wpAny _ _ (pure (((sIx n 0 lo:Nat):Int),(1:Int),Builtin.Slice.slicePlaces ((sIx n 0 lo:Nat):Int) ((sIx n n hi:Nat):Int) 1)) _ _ s;rw[nz];exact wpAny_pure h
theorem tX(xs:Array Value)(i k:Nat):((List.range k).filterMap fun(m:Nat)=>xs[((i:Int)+(m:Int)*1).toNat]?).toArray=((xs.toList.drop i).take k).toArray:=by
 have e:(fun(m:Nat)=>xs[((i:Int)+(m:Int)*1).toNat]?)=fun m=>xs[i+m]?:=by
  funext m
  have:((i:Int)+(m:Int)*1).toNat=i+m:=by omega
  rw[this]
 rw[e];have:=pick_run xs i k;rw[List.filterMap_map]at this;have e2:((fun x=>xs[x]?) ∘ fun x=>i+x)=fun m=>xs[i+m]?:=rfl;rw[e2]at this;rw[this]
theorem gv{t sl:Addr}{items:Array Value}{vl vu:Value}{lo hi:Option Int}{Q:Value->Shared->Prop}(ht:IsTup s.heap t items)(hs:s.heap.IsSliceOf sl vl vu .none)(pl:IsPart vl lo)(pu:IsPart vu hi)
 (hw:¬ (sIx items.size 0 lo=0/\sIx items.size items.size hi=items.size))
 (h:Q (.ref s.heap.objs.size) { s with heap:=s.heap.push { cls:=.type "tuple",data:=.seq ((items.toList.drop (sIx items.size 0 lo)).take (sIx items.size items.size hi - sIx items.size 0 lo)).toArray } })
 (hsz:items.size<=sizeLine):wpAny (model prog w) A (getItem (.ref t) (.ref sl)) Q E s:=by
 have htake:sizeOk (.seq ((items.toList.drop (sIx items.size 0 lo)).take (sIx items.size items.size hi - sIx items.size 0 lo)).toArray):=by
  show((items.toList.drop (sIx items.size 0 lo)).take (sIx items.size items.size hi - sIx items.size 0 lo)).toArray.size<=sizeLine;rw[List.size_toArray,List.length_take,List.length_drop,Array.length_toList];omega
 have hj:sIx items.size items.size hi<=items.size:=wY _ _ (Nat.le_refl _) hi;obtain⟨os,hos,hcs,hds⟩:=id hs;have hTs:s.TypeIs (.ref sl) "slice":=⟨os,hos,hcs⟩;unfold getItem
 try with_reducible refine wpAny_holding ?_
 first | refine wpAny_bind (wpAny_pure ?_) | skip
 refine wpAny_bind (wpAny_sequenceKey ht.typeIs (by decide) ?_)
 refine wpAny_bind (wpAny_callSpecial?_slot (name:=Str.ofString "__getitem__") ht.typeIs PyProof.Rows.slot_tuple_getitem
  (wpAny_call_entry PyProof.Rows.slot_tuple_getitem ht.typeIs entry_tuple_getitem ?_ (args_tuple_getitem _ _)))
 show wpAny _ _ (Builtin.Tuple.tupleItemsOf (.ref t) >>= _) _ _ s;refine wpAny_bind (tupleItemsOf_ ht ?_);refine wpAny_bind (wpAny_typeOf hTs ?_);rw[if_pos (by decide)]
 refine wpAny_bind (dS hs pl pu ?_);have hno:¬ ((((sIx items.size 0 lo:Nat):Int) == 0 && (1:Int) == 1 && (sIx items.size items.size hi - sIx items.size 0 lo) == items.size)=true):=by
  intro q;rw[Bool.and_eq_true,Bool.and_eq_true]at q;have q1:((sIx items.size 0 lo:Nat):Int)=0:=eq_of_beq q.1.1;have q2:sIx items.size items.size hi - sIx items.size 0 lo=items.size:=eq_of_beq q.2;exact hw ⟨by omega,by omega⟩
 show wpAny _ _ (if(((sIx items.size 0 lo:Nat):Int) == 0 && (1:Int) == 1 && (sIx items.size items.size hi - sIx items.size 0 lo) == items.size)=true then _ else _) _ _ s;rw[if_neg hno,tX]
 first
  | exact wpAny_bind (m:=Builtin.Tuple.tupleExact _) (wpAny_newObj_type (wpAny_pure ⟨_,rfl,wpAny_pure h⟩) htake)
  | exact wpAny_bind (m:=Builtin.Tuple.tupleExact _) (wpAny_newObj_type (wpAny_bind (wpAny_pure (wpAny_pure ⟨_,rfl,wpAny_pure h⟩))) htake)
  | exact wpAny_bind (wpAny_bind (m:=Builtin.Tuple.tupleExact _) (wpAny_newObj_type (wpAny_pure (wpAny_pure ⟨_,rfl,wpAny_pure h⟩)) htake))
  | exact wpAny_bind (wpAny_bind (m:=Builtin.Tuple.tupleExact _) (wpAny_newObj_type (wpAny_pure ⟨_,rfl,wpAny_pure h⟩) htake))
end
end HT
namespace L2
open PySem PySem.Spec PyProof.Rows
abbrev TO:=St->Hp->(Option Int->Hp->Prop)->Prop
def PO(X:Cx)(e:Option Expr)(t:TO):Prop:=
 ∀(pins:List (Addr×Obj)) (s:Shared) (Z:St) (H:Hp) (Q:Option Int->Hp->Prop),Inv X pins Z H s->t Z H Q ->
   wpAny (model X.prog X.w) X.A (evalPart e X.env) (fun u s'=>∃ o H',Inv X pins Z H' s'/\IsPart u o/\Q o H') X.xe s
def lP:TO:=fun _ H Q=>Q none H
def rP(t:TE):TO:=fun Z H Q=>t Z H fun x H1=>∃ i,x=.int i/\Q (some i) H1
theorem ja{ns:List Int}:∀{us:List Value},aC (ns.map V.int) us->IntsAre us ns:=by
 induction ns with
 | nil=>intro us r;rw[List.map_nil]at r;cases r;exact .nil
 | cons n ns ih=>
   intro us r;rw[List.map_cons]at r;cases r with
   | cons r1 r2=>
     obtain⟨t,e⟩:=r1;subst e;exact .cons n t (ih r2)
section
variable{X:Cx}{e:Expr}{te:TE}{lo hi:Option Expr}{tl th:TO}{pos p2:Pos}
theorem vX:PO X none lP:=by
 intro pins s Z H Q I h;rw[evalPart_none];exact wpAny_pure ⟨none,H,I,.none,h⟩
theorem v_(h:PE X e te):PO X (some e) (rP te):=by
 intro pins s Z H Q I hw;rw[evalPart_some];refine thn (h pins s Z H _ I hw) fun u s1 zz=>?_;obtain⟨x,H1,I1,r1,q1⟩:=zz;obtain⟨i,rfl,q⟩:=q1;obtain⟨t,rfl⟩:=r1;exact⟨some i,H1,I1,.int i t,q⟩
def SlR(X:Cx)(r:V->Option Int->Option Int->Hp->VK->Prop):Prop:=
 ∀(pins:List (Addr×Obj)) (s:Shared) (Z:St) (H:Hp) (x:V) (v vl vu:Value) (lo hi:Option Int) (sl:Addr) (Q:VK),Inv X pins Z H s->aI x v->s.heap.IsSliceOf sl vl vu .none->IsPart vl lo->IsPart vu hi->r x lo hi H Q ->
   ∃ T id,typeLookup (.type T) "__getitem__"=pure (some (.builtin id))/\s.TypeIs v T/\wpAny (model X.prog X.w) X.A (getItem v (.ref sl)) (EP X pins Z Q) X.xe s
def tSl(r:V->Option Int->Option Int->Hp->VK->Prop)(te:TE)(tl th:TO):TE:=fun Z H Q=>te Z H fun x H1=>tl Z H1 fun l H2=>th Z H2 fun u H3=>r x l u H3 Q
theorem rB{r:V->Option Int->Option Int->Hp->VK->Prop}(hr:SlR X r)(he:PE X e te)(hl:PO X lo tl)(hu:PO X hi th):PE X (.Subscript e (.Slice lo hi none p2) pos) (tSl r te tl th):=by
 intro pins s Z H Q I h;refine Subscript_ (thn (he pins s Z H _ I h) fun v s1 zz=>?_);obtain⟨x,H1,I1,r1,q1⟩:=zz;refine wpAny_Slice (thn (hl pins s1 Z H1 _ I1 q1) fun vl s2 ⟨l,H2,I2,pl,q2⟩=>thn (hu pins s2 Z H2 _ I2 q2) fun vu s3 zz=>?_);obtain⟨u,H3,I3,pu,q3⟩:=zz;rw[evalPart_none];refine wpAny_pure ?_;have I4:Inv X pins Z H3 { s3 with heap:=s3.heap.push { cls:=.type "slice",data:=.fields #[vl,vu,.none] } }:=I3.kept (t':=s3.toks) fun b ob q=>Heap.get?_push_of_some _ q;obtain⟨T,id,hT,ht,hg⟩:=hr pins { s3 with heap:=s3.heap.push { cls:=.type "slice",data:=.fields #[vl,vu,.none] } } Z H3 x v vl vu l u s3.heap.objs.size Q I4 r1 (Heap.IsSliceOf.new ..) pl pu q3;show wpAny (model X.prog X.w) X.A (subscriptTail e (.Slice lo hi none p2) v (.ref s3.heap.objs.size)) (EP X pins Z Q) X.xe { s3 with heap:=s3.heap.push { cls:=.type "slice",data:=.fields #[vl,vu,.none] } };exact tail_any (ops:=[.ref s3.heap.objs.size,v]) ht hT hg (by with_unfolding_all rfl)
def bQ(xs:List V)(lo hi:Option Int):List V:=(xs.drop (HT.sIx xs.length 0 lo)).take (HT.sIx xs.length xs.length hi - HT.sIx xs.length 0 lo)
theorem bw(xs:List V)(lo hi:Option Int):(bQ xs lo hi).length<=xs.length:=by
 unfold bQ;rw[List.length_take,List.length_drop];omega
def BK(K:W.Frag):V->Option Int->Option Int->Hp->VK->Prop:=fun x lo hi H Q=>∃ a xs,x=.ref a/\SqT K H a xs /\
 ¬ (HT.sIx xs.length 0 lo=0/\HT.sIx xs.length xs.length hi=xs.length) /\ ∀ p,H p=none->Q (.ref p) (upd H p (.tup (bQ xs lo hi)))
theorem zh:SlR X (BK X.K):=by
 intro pins s Z H x v vl vu lo hi sl Q I rx hs pl pu h;obtain⟨a,xs,rfl,hx,hw,q⟩:=h;cases rx;obtain⟨its,r,ht,hz⟩:=I.tuple hx;have hlen:its.toArray.size=xs.length:=by rw[List.size_toArray];exact r.length.symm
 refine⟨"tuple",_,PyProof.Rows.slot_tuple_getitem.lookup,ht.typeIs,?_⟩;refine HT.gv ht hs pl pu (by rw[hlen];exact hw) ?_ (by rw[hlen];exact hz)
 rw[hlen];refine⟨.ref s.heap.objs.size,_,I.laid (t':=s.toks) (o:=.tup (bQ xs lo hi)) (fun b ob q=>Heap.get?_push_of_some _ q) (Nat.le_refl _) ?_,rfl,q _ (I.hok.fresh (Nat.le_refl _))⟩;exact⟨Nat.le_trans (bw xs lo hi) hz,_,(r.drop (HT.sIx xs.length 0 lo)).take (HT.sIx xs.length xs.length hi - HT.sIx xs.length 0 lo),IsTup.new _ _⟩
def zC(K:W.Frag):R2:=fun x y H Q=>∃ a b xs ys,x=.ref a/\y=.ref b/\SqT K H a xs/\SqT K H b ys/\xs≠[]/\xs.length+ys.length<=sizeLine /\
 (ys=[]->Q (.ref a) H)/\(ys≠[] -> ∀ p,H p=none->Q (.ref p) (upd H p (.tup (xs++ys))))
theorem aC.nil_iff{xs:List V}{us:List Value}(r:aC xs us):us=[] ↔ xs=[]:=by
 cases r with
 | nil=>simp
 | cons _ _=>simp
theorem vh:OpR X (binaryOp .Add) (zC X.K):=by
 intro pins s Z H x y v u Q I rx ry h;obtain⟨a,b,xs,ys,rfl,rfl,ha,hb,hx,hz,q1,q2⟩:=h;cases rx;cases ry;obtain⟨its,r1,p1,_⟩:=I.tuple ha;obtain⟨its2,r2,p2,_⟩:=I.tuple hb;refine HT.ui p1 p2 (fun z=>hx (r1.nil_iff.mp z)) (fun z=>⟨.ref a,H,I,rfl,q1 (r2.nil_iff.mp z)⟩) (fun z=>?_) (by rw[← r1.length,← r2.length];exact hz)
 refine⟨.ref s.heap.objs.size,_,I.laid (t':=s.toks) (o:=.tup (xs++ys)) (fun b ob q=>Heap.get?_push_of_some _ q) (Nat.le_refl _) ?_,rfl,q2 (fun w=>z (r2.nil_iff.mpr w)) _ (I.hok.fresh (Nat.le_refl _))⟩;exact⟨by rw[List.length_append];exact hz,_,r1.append r2,IsTup.new _ _⟩
end
end L2
namespace L2
open PySem PySem.Spec PyProof.Rows
def ixN(n:Nat)(i:Int):Option Nat:=if 0<=i then(if i < n then some i.toNat else none)else if -(n:Int)<=i then some (i+n).toNat else none
def atI{α:Type}(xs:List α)(i:Int):Option α:=(ixN xs.length i).bind fun j=>xs[j]?
theorem oo{n:Nat}{i:Int}{j:Nat}(h:ixN n i=some j):seqIndex? i n=some j/\j < n /\ -(n:Int)<=i/\i < n:=by
 unfold ixN at h;by_cases h0:0<=i
 . rw[if_pos h0]at h
   by_cases h1:i < n
   . rw[if_pos h1]at h
     have e:i.toNat=j:=Option.some.inj h;exact⟨by rw[seqIndex_of h0 h1,e],by omega,by omega,h1⟩
   rw[if_neg h1]at h;cases h
 rw[if_neg h0]at h;by_cases h1:-(n:Int)<=i
 . rw[if_pos h1]at h
   have e:(i+n).toNat=j:=Option.some.inj h;exact⟨by rw[seqIndex_neg (by omega) h1,e],by omega,h1,by omega⟩
 rw[if_neg h1]at h;cases h
theorem o5{α:Type}{xs:List α}{i:Int}{v:α}(h:atI xs i=some v):∃ j,seqIndex? i xs.length=some j/\xs[j]?=some v/\j < xs.length /\ -(xs.length:Int)<=i/\i < xs.length:=by
 unfold atI at h;cases e:ixN xs.length i with
 | none=>rw[e]at h;cases h
 | some j=>
   rw[e]at h;obtain⟨h1,h2,h3,h4⟩:=oo e;exact⟨j,h1,h,h2,h3,h4⟩
theorem bH{α:Type}{xs:List α}{j:Nat}{v:α}(h:xs[j]?=some v):atI xs (j:Int)=some v:=by
 have hj:j < xs.length:=(List.getElem?_eq_some_iff.mp h).1;have e:ixN xs.length (j:Int)=some j:=by
  unfold ixN;rw[if_pos (by omega),if_pos (by omega)];simp
 unfold atI;rw[e];exact h
def oi(b:Expr):Prop:=∀ o i,subscripted b false o i=operate [o,i] (getItem o i)
def IxR(X:Cx)(r:R2):Prop:=
 ∀(value slice:Expr) (pins:List (Addr×Obj)) (s:Shared) (Z:St) (H:Hp) (x y:V) (v u:Value) (Q:VK),Inv X pins Z H s->aI x v->aI y u->r x y H Q ->
   subscripted slice false v u=operate [v,u] (getItem v u)->wpAny (model X.prog X.w) X.A (subscriptTail value slice v u) (EP X pins Z Q) X.xe s
def MtR(X:Cx)(id:String)(r:V->List V->Hp->VK->Prop):Prop:=
 ∀(pins:List (Addr×Obj)) (s:Shared) (Z:St) (H:Hp) (x:V) (xs:List V) (v:Value) (us:List Value) (Q:VK),Inv X pins Z H s->aI x v->aC xs us->r x xs H Q ->
   wpAny (model X.prog X.w) X.A (call (.builtin id) (v::us)) (EP X pins Z Q) X.xe s
section
variable{X:Cx}{a b:Expr}{ta tb:TE}{pos:Pos}
theorem Ax{r:R2}(hr:IxR X r)(ha:PE X a ta)(hb:PE X b tb)(hs:oi b):PE X (.Subscript a b pos) (tOp r ta tb):=by
 intro pins s Z H Q I h;exact Subscript_ (xJ ha hb I h fun v u s2 x y H2 I2 rx ry q=>hr a b pins s2 Z H2 x y v u Q I2 rx ry q (hs _ _))
def fA(K:W.Frag):R2:=fun x y H Q=>∃ p xs i v,x=.ref p/\y=.int i/\SqL K H p xs/\atI xs i=some v/\Q v H
def fe(K:W.Frag):R2:=fun x y H Q=>∃ p xs i v,x=.ref p/\y=.int i/\SqT K H p xs/\atI xs i=some v/\Q v H
theorem ay:IxR X (fA X.K):=by
 intro value slice pins s Z H x y v u Q I rx ry h hs;obtain⟨p,xs,i,z,rfl,rfl,hq,he,q⟩:=h;cases rx;obtain⟨t,rfl⟩:=ry;obtain⟨its,r,pl,hz⟩:=I.list hq;obtain⟨j,h1,h2,h3,h4,h5⟩:=o5 he;obtain⟨w,ew,rw'⟩:=r.get h2;have hl:=r.length;have hn:=lg;have fin:EP X pins Z Q w s:=⟨z,H,I,rw',q⟩;by_cases h0:0<=i
 . have hj:i.toNat=j:=by
    rw[seqIndex_of h0 h5]at h1;exact Option.some.inj h1
   exact item_listR pl.isList h0 (by omega) (by rw[hj];simpa using ew) fin hs
 have hj:(i+(its.toArray.size:Int)).toNat=j:=by
  rw[seqIndex_neg (by omega) h4]at h1
  rw[List.size_toArray,← hl];exact Option.some.inj h1
 exact subscriptTail_builtinR (x:=w) pl.isList.typeIs slot_list_getitem.lookup
  (wpAny_getItem_list_neg (Q:=fun r s'=>r=w/\EP X pins Z Q r s') pl.isList (by omega) (by rw[List.size_toArray] <;> omega) (by omega) (by rw[hj];simpa using ew) ⟨rfl,fin⟩) hs
theorem av:IxR X (fe X.K):=by
 intro value slice pins s Z H x y v u Q I rx ry h hs;obtain⟨p,xs,i,z,rfl,rfl,hq,he,q⟩:=h;cases rx;obtain⟨t,rfl⟩:=ry;obtain⟨its,r,pl,hz⟩:=I.tuple hq;obtain⟨j,h1,h2,h3,h4,h5⟩:=o5 he;obtain⟨w,ew,rw'⟩:=r.get h2;have hl:=r.length;have hn:=lg;have fin:EP X pins Z Q w s:=⟨z,H,I,rw',q⟩;exact subscriptTail_builtinR (x:=w) pl.typeIs slot_tuple_getitem.lookup
  (getItem_tuple (j:=j) (Q:=fun r s'=>r=w/\EP X pins Z Q r s') pl (by omega) (by omega) (by rw[List.size_toArray,← hl];exact h1) (by simpa using ew) ⟨rfl,fin⟩) hs
theorem nT(its:List Value)(n j:Nat)(u:Value):Obj.mapSeq (·.setIfInBounds j u) { cls:=.type "list",data:=.seq its.toArray n }={ cls:=.type "list",data:=.seq (its.set j u).toArray n }:=by
 simp[Obj.mapSeq]
theorem Inv.lst{pins:List (Addr×Obj)}{Z:St}{H:Hp}{s:Shared}{p:Addr}{xs:List V}(I:Inv X pins Z H s)(h:H p=some (.lst xs)) :
 ∃(its:List Value) (n:Nat),aC xs its/\s.heap.get? p=some { cls:=.type "list",data:=.seq its.toArray n } /\ xs.length<=sizeLine:=by
 obtain⟨z,its,n,r,e⟩:=I.hok p _ h;exact⟨its,n,r,e,z⟩
theorem Inv.lstUpd{pins:List (Addr×Obj)}{Z:St}{H:Hp}{s:Shared}{p:Addr}{xs ys:List V}{its its':List Value}{n n':Nat}{f:Obj->Obj}(I:Inv X pins Z H s)(h:H p=some (.lst xs))
 (ho:s.heap.get? p=some { cls:=.type "list",data:=.seq its.toArray n }) (hf:f { cls:=.type "list",data:=.seq its.toArray n }={ cls:=.type "list",data:=.seq its'.toArray n' }) (r:aC ys its') (hz:ys.length<=sizeLine) (t:Nat) :
 Inv X pins Z (upd H p (.lst ys)) { s with heap:=s.heap.update p f,toks:=t }:=by
 have e:(s.heap.update p f).get? p=some { cls:=.type "list",data:=.seq its'.toArray n' }:=by
  rw[Heap.get?_update_self f ho (by rw[hf] <;> rfl),hf]
 refine I.write (x:=p) (e:=p) (by rw[h];trivial) (.inl rfl) (fun b u hb q=>(Heap.get?_update_other _ _ (Ne.symm hb)).trans q) ⟨_,e⟩ ?_
 exact⟨hz,its',n',r,e⟩
def dk:V->V->V->Hp->(Hp->Prop)->Prop:=fun o i v H Q=>∃ p xs k j,o=.ref p/\i=.int k/\H p=some (.lst xs)/\ixN xs.length k=some j/\Q (upd H p (.lst (xs.set j v)))
theorem jK:xH X dk:=by
 intro pins s Z H o i v ov iv u Q I ro ri rv h;obtain⟨p,xs,k,j,rfl,rfl,hp,hj,q⟩:=h;cases ro;obtain⟨t,rfl⟩:=ri;obtain⟨its,n,r,ho,hz⟩:=I.lst hp;obtain⟨h1,h2,h3,h4⟩:=oo hj;have hl:=r.length;have hn:=lg;have I':Inv X pins Z (upd H p (.lst (xs.set j v))) { s with heap:=s.heap.update p (Obj.mapSeq (·.setIfInBounds j u)) }:=
  I.lstUpd hp ho (nT its n j u) (r.set rv j) (by rw[List.length_set];exact hz) s.toks
 by_cases h0:0<=k
 . have hk:k.toNat=j:=by
    rw[seqIndex_of h0 h4]at h1;exact Option.some.inj h1
   exact W.ki_setAt ho h0 (by omega) (by rw[List.size_toArray,← hl];exact h4) (by rw[hk];exact⟨_,I',q⟩)
 have hk:(k+(its.toArray.size:Int)).toNat=j:=by
  rw[seqIndex_neg (by omega) h3]at h1
  rw[List.size_toArray,← hl];exact Option.some.inj h1
 exact W.ki_setBack ho (by omega) (by rw[List.size_toArray,← hl];exact h3) (by omega) (by rw[hk];exact⟨_,I',q⟩)
theorem lX(lo hi:Option Int)(n:Nat):(sliceBounds lo hi none n).1=((HT.sIx n 0 lo:Nat):Int)/\(sliceBounds lo hi none n).2.1=((HT.sIx n n hi:Nat):Int)/\(sliceBounds lo hi none n).2.2=1:=by
 refine⟨?_,?_,rfl⟩
 . cases lo with
   | none=>simp[sliceBounds,HT.sIx]
   | some i=>
     simp only[sliceBounds,HT.sIx,Option.getD_none,show(1:Int) > 0 by decide,if_true]
     by_cases h:i < 0
     . simp only[h,if_true] <;> omega
     simp only[h,if_false] <;> omega
 cases hi with
 | none=>simp[sliceBounds,HT.sIx]
 | some i=>
   simp only[sliceBounds,HT.sIx,Option.getD_none,show(1:Int) > 0 by decide,if_true]
   by_cases h:i < 0
   . simp only[h,if_true] <;> omega
   simp only[h,if_false] <;> omega
theorem j0(its:List Value)(lo hi:Option Int):slicePick its.toArray lo hi none=((its.drop (HT.sIx its.length 0 lo)).take (HT.sIx its.length its.length hi - HT.sIx its.length 0 lo)).toArray:=by
 obtain⟨h1,h2,h3⟩:=lX lo hi its.toArray.size;unfold slicePick;rw[h1,h2,h3];simp only[sliceRange_one,pick_run,List.size_toArray] <;> rfl
def CM(K:W.Frag):V->Option Int->Option Int->Hp->VK->Prop:=fun x lo hi H Q=>∃ a xs,x=.ref a/\SqL K H a xs /\ ∀ p,H p=none->Q (.ref p) (upd H p (.lst (bQ xs lo hi)))
theorem lc:SlR X (CM X.K):=by
 intro pins s Z H x v vl vu lo hi sl Q I rx hs pl pu h;obtain⟨a,xs,rfl,hx,q⟩:=h;cases rx;obtain⟨its,r,ht,hz⟩:=I.list hx;have hlen:=r.length;refine⟨"list",_,slot_list_getitem.lookup,ht.isList.typeIs,?_⟩;refine wpAny_getItem_list_slice ht.isList hs pl pu .none (by simp) ?_ (by rw[List.size_toArray] <;> omega)
 rw[j0,← hlen];refine⟨.ref s.heap.objs.size,_,I.laid (t':=s.toks) (o:=.lst (bQ xs lo hi)) (fun b ob q=>Heap.get?_push_of_some _ q) (Nat.le_refl _) ?_,rfl,q _ (I.hok.fresh (Nat.le_refl _))⟩;exact⟨Nat.le_trans (bw xs lo hi) hz,_,0,(r.drop (HT.sIx xs.length 0 lo)).take (HT.sIx xs.length xs.length hi - HT.sIx xs.length 0 lo),Heap.get?_push_size _ rfl⟩
def il:V->Bool
 | .non=>true
 | .bl _=>true
 | .int _=>true
 | .str _=>true
 | _=>false
def eqV:V->V->Bool
 | .non,.non=>true
 | .bl a,.bl b=>a == b
 | .bl a,.int b=>(if a then 1 else 0) == b
 | .int a,.bl b=>a == (if b then 1 else 0)
 | .int a,.int b=>a == b
 | .str a,.str b=>a == b
 | _,_=>false
theorem xi{A:Around}{s:Shared}{y x:V}{u v:Value}(ry:aI y u)(rx:aI x v)(fy:il y=true)(fx:il x=true):SeqAt.EqAt A s u v (eqV y x):=by
 cases y with
 | non=>
   cases ry;cases x with
   | non=>cases rx;exact SeqAt.EqAt.same _
   | bl b=>cases rx;exact SeqAt.EqAt.none_bool b
   | int b=>obtain⟨t,rfl⟩:=rx;exact SeqAt.EqAt.none_int b t
   | str b=>obtain⟨t,rfl⟩:=rx;exact SeqAt.EqAt.none_str b t
   | _=>exact absurd (show false=true from fx) Bool.false_ne_true
 | bl a=>
   cases ry;cases x with
   | non=>cases rx;exact SeqAt.EqAt.bool_none a
   | bl b=>cases rx;exact SeqAt.EqAt.bool_bool a b
   | int b=>obtain⟨t,rfl⟩:=rx;exact SeqAt.EqAt.bool_int a b t
   | str b=>obtain⟨t,rfl⟩:=rx;exact SeqAt.EqAt.bool_str a b t
   | _=>exact absurd (show false=true from fx) Bool.false_ne_true
 | int a=>
   obtain⟨t',rfl⟩:=ry;cases x with
   | non=>cases rx;exact SeqAt.EqAt.int_none a t'
   | bl b=>cases rx;exact SeqAt.EqAt.int_bool a t' b
   | int b=>obtain⟨t,rfl⟩:=rx;exact SeqAt.EqAt.int_int a t' b t
   | str b=>obtain⟨t,rfl⟩:=rx;exact SeqAt.EqAt.int_str a t' b t
   | _=>exact absurd (show false=true from fx) Bool.false_ne_true
 | str a=>
   obtain⟨t',rfl⟩:=ry;cases x with
   | non=>cases rx;exact SeqAt.EqAt.str_none a t'
   | bl b=>cases rx;exact SeqAt.EqAt.str_bool a t' b
   | int b=>obtain⟨t,rfl⟩:=rx;exact SeqAt.EqAt.str_int a t' b t
   | str b=>obtain⟨t,rfl⟩:=rx;exact SeqAt.EqAt.str_str a t' b t
   | _=>exact absurd (show false=true from fx) Bool.false_ne_true
 | _=>exact absurd (show false=true from fy) Bool.false_ne_true
def eqU(x:V)(u:Value):Bool:=match u with
 | .none=>eqV .non x
 | .bool b=>eqV (.bl b) x
 | .int i _=>eqV (.int i) x
 | .str z _=>eqV (.str z) x
 | _=>false
theorem sk{x y:V}{u:Value}(r:aI y u)(f:il y=true):eqU x u=eqV y x:=by
 cases y with
 | non=>cases r;rfl
 | bl b=>cases r;rfl
 | int i=>obtain⟨t,rfl⟩:=r;rfl
 | str z=>obtain⟨t,rfl⟩:=r;rfl
 | _=>exact absurd (show false=true from f) Bool.false_ne_true
theorem fX{x:V}:∀{xs:List V}{us:List Value},aC xs us->xs.all il=true->us.any (eqU x)=xs.any fun y=>eqV y x
 | _,_,.nil,_=>rfl
 | y::xs,u::us,.cons r t,f=>by
   rw[List.all_cons,Bool.and_eq_true]at f;rw[List.any_cons,List.any_cons,sk r f.1,fX t f.2]
theorem eV{A:Around}{s:Shared}{x:V}{v:Value}(rx:aI x v)(fx:il x=true):∀{xs:List V}{us:List Value},aC xs us->xs.all il=true -> ∀ u∈us,SeqAt.EqAt A s u v (eqU x u)
 | _,_,.nil,_=>fun u hu=>by cases hu
 | y::xs,u::us,.cons r t,f=>fun u' hu=>by
   rw[List.all_cons,Bool.and_eq_true]at f;rcases List.mem_cons.mp hu with rfl | hu
   . rw[sk r f.1];exact xi r rx f.1 fx
   exact eV rx fx t f.2 u' hu
def inV(x:V)(xs:List V):Bool:=xs.any fun y=>eqV y x
def rIn(K:W.Frag)(neg:Bool):R2:=fun x y H Q=>∃ p xs,y=.ref p/\(SqL K H p xs∨SqT K H p xs)/\il x=true/\xs.all il=true/\Q (.bl (if neg then !inV x xs else inV x xs)) H
theorem kI:OpR X (compareOp .In) (rIn X.K false):=by
 intro pins s Z H x y v u Q I rx ry h;obtain⟨p,xs,rfl,hq,fx,fs,q⟩:=h;cases ry;rcases hq with hq | hq
 . obtain⟨its,r,pl,hz⟩:=I.list hq
   refine SeqAt.in_listAt (eqU x) pl.isList (fun w hw=>eV rx fx r fs w (by simpa using hw)) ⟨.bl _,H,I,rfl,?_⟩
   rw[show its.toArray.any (eqU x)=its.any (eqU x) by simp,fX r fs]
   exact q
 obtain⟨its,r,pl,hz⟩:=I.tuple hq;refine SeqAt.in_tupleAt (eqU x) pl (fun w hw=>eV rx fx r fs w (by simpa using hw)) ⟨.bl _,H,I,rfl,?_⟩
 rw[show its.toArray.any (eqU x)=its.any (eqU x) by simp,fX r fs]
 exact q
theorem gy:OpR X (compareOp .NotIn) (rIn X.K true):=by
 intro pins s Z H x y v u Q I rx ry h;obtain⟨p,xs,rfl,hq,fx,fs,q⟩:=h;cases ry;rcases hq with hq | hq
 . obtain⟨its,r,pl,hz⟩:=I.list hq
   refine SeqAt.notIn_listAt (eqU x) pl.isList (fun w hw=>eV rx fx r fs w (by simpa using hw)) ⟨.bl _,H,I,rfl,?_⟩
   rw[show its.toArray.any (eqU x)=its.any (eqU x) by simp,fX r fs]
   exact q
 obtain⟨its,r,pl,hz⟩:=I.tuple hq;refine SeqAt.notIn_tupleAt (eqU x) pl (fun w hw=>eV rx fx r fs w (by simpa using hw)) ⟨.bl _,H,I,rfl,?_⟩
 rw[show its.toArray.any (eqU x)=its.any (eqU x) by simp,fX r fs]
 exact q
theorem aj:bP X (.builtin "len") (fun xs H Q=>∃ p ys,xs=[.ref p]/\(SqL X.K H p ys∨SqT X.K H p ys)/\Q (.int ys.length) H):=by
 intro pins s Z H xs us Q I r h;obtain⟨p,ys,rfl,hq,q⟩:=h;obtain⟨u,rfl,rx⟩:=dZ r;cases rx;have hn:=lg;rcases hq with hq | hq
 . obtain⟨its,r',pl,hz⟩:=I.list hq
   have hlen:=r'.length;exact Calls.call_len_list pl.isList (by simp only[List.size_toArray] <;> omega) ⟨.int ys.length,H,I.tok _,⟨s.toks+1,by rw[List.size_toArray,hlen]⟩,q⟩
 obtain⟨its,r',pl,hz⟩:=I.tuple hq;have hlen:=r'.length;exact len_tuple pl (by simp only[List.size_toArray] <;> omega) ⟨.int ys.length,H,I.tok _,⟨s.toks+1,by rw[List.size_toArray,hlen]⟩,q⟩
theorem db:bP X (.type "list") (fun xs H Q=>∃ p ys,xs=[.ref p]/\(SqL X.K H p ys∨SqT X.K H p ys) /\ ∀ l,H l=none->Q (.ref l) (upd H l (.lst ys))):=by
 intro pins s Z H xs us Q I r h;obtain⟨p,ys,rfl,hq,q⟩:=h;obtain⟨u,rfl,rx⟩:=dZ r;cases rx;have fin:∀(its:List Value),aC ys its->ys.length<=sizeLine -> ∀(h':Heap) (c':Nat),(∀ b o',s.heap.get? b=some o'->h'.get? b=some o') ->
  h'.get? s.heap.objs.size=some { cls:=.type "list",dict:=none,data:=.seq its.toArray c',slots:=#[] } -> EP X pins Z Q (.ref s.heap.objs.size) { s with heap:=h' }:=fun its r' hz h' c' kp e=>
  ⟨.ref s.heap.objs.size,_,I.laid (t':=s.toks) kp (Nat.le_refl _) (show a_ X.prog X.w _ h' _ (.lst ys)from⟨hz,its,c',r',e⟩),rfl,q _ (I.hok.fresh (Nat.le_refl _))⟩
 rcases hq with hq | hq
 . obtain⟨its,r',pl,hz⟩:=I.list hq
   have hlen:=r'.length;obtain⟨o,ho,hc,n,hd⟩:=pl.isList;exact call_list_seq p (.inl rfl) ho hc hd (fun h' c' kp e=>fin its r' hz h' c' kp e) (by simp only[List.size_toArray] <;> omega)
 obtain⟨its,r',pl,hz⟩:=I.tuple hq;have hlen:=r'.length;obtain⟨o,ho,hc,n,hd⟩:=pl;exact call_list_seq p (.inr rfl) ho hc hd (fun h' c' kp e=>fin its r' hz h' c' kp e) (by simp only[List.size_toArray] <;> omega)
theorem cN:bP X (.type "tuple") (fun xs H Q=>∃ p ys,xs=[.ref p]/\((SqL X.K H p ys /\ ∀ l,H l=none->Q (.ref l) (upd H l (.tup ys)))∨(SqT X.K H p ys/\Q (.ref p) H))):=by
 intro pins s Z H xs us Q I r h;obtain⟨p,ys,rfl,h⟩:=h;obtain⟨u,rfl,rx⟩:=dZ r;cases rx;rcases h with ⟨hq,q⟩ | ⟨hq,q⟩
 . obtain⟨its,r',pl,hz⟩:=I.list hq
   have hlen:=r'.length;refine call_tuple_list pl.isList (fun h' kp=>?_) (by simp only[List.size_toArray] <;> omega)
   have I1:Inv X pins Z H { s with heap:=h' }:=I.kept (t':=s.toks) kp;have I2:Inv X pins Z (upd H h'.objs.size (.tup ys)) { s with heap:=h'.push { cls:=.type "tuple",data:=.seq its.toArray } }:=
    I1.laid (t':=s.toks) (fun b o e=>Heap.get?_push_of_some _ e) (Nat.le_refl _) (show a_ X.prog X.w _ _ _ (.tup ys)from⟨hz,its,r',IsTup.new _ _⟩)
   exact⟨.ref h'.objs.size,_,I2,rfl,q _ (I1.hok.fresh (Nat.le_refl _))⟩
 obtain⟨its,r',pl,hz⟩:=I.tuple hq;exact call_tuple_same pl ⟨.ref p,H,I,rfl,q⟩
def tyV(K:W.Frag)(T:String)(x:V)(H:Hp):Prop:=match x with
 | .str _=>T="str"
 | .int _=>T="int"
 | .ref p=>(T="list" /\ ∃ xs,SqL K H p xs)∨(T="tuple" /\ ∃ o,K.lookup p=some o/\o.cls=.type "tuple" /\ o.dict=none) ∨
  (T="dict" /\ ((∃ kvs,H p=some (.dK kvs)) ∨ ∃ kvs,H p=some (.dT kvs)))∨(T="set" /\ ∃ S n,H p=some (.set S n))
 | _=>False
theorem zr{pins:List (Addr×Obj)}{Z:St}{H:Hp}{s:Shared}{T:String}{x:V}{v:Value}(I:Inv X pins Z H s)(r:aI x v)(ty:tyV X.K T x H) :
 s.TypeIs v T /\ ∀ a,v=.ref a -> ∃ ob,s.heap.get? a=some ob/\ob.dict=none:=by
 cases x with
 | str z=>
   obtain⟨t,rfl⟩:=r;cases (show T="str" from ty);exact⟨typeIs_str s z t,fun _ e=>nomatch e⟩
 | int i=>
   obtain⟨t,rfl⟩:=r;cases (show T="int" from ty);exact⟨typeIs_int s i t,fun _ e=>nomatch e⟩
 | ref p=>
   cases r;rcases ty with ⟨rfl,xs,hq⟩ | ⟨rfl,o,hk,hc,hd⟩ | ⟨rfl,hk⟩ | ⟨rfl,S,n,hk⟩
   . obtain⟨its,_,pl,_⟩:=I.list hq
     refine⟨pl.isList.typeIs,fun a e=>?_⟩;cases e;obtain⟨o,n,e,c,hd,_⟩:=pl;exact⟨o,e,hd⟩
   . refine⟨⟨o,I.kIn p o hk,hc⟩,fun a e=>?_⟩
     cases e;exact⟨o,I.kIn _ o hk,hd⟩
   . have z:∃ o,s.heap.get? p=some o/\o.ExactDict:=by
      rcases hk with ⟨kvs,hk⟩ | ⟨kvs,hk⟩
      . obtain⟨_,_,_,_,o,_,_,e,ex,_⟩:=I.hok p _ hk
        exact⟨o,e,ex⟩
      obtain⟨_,_,_,_,o,_,_,e,ex,_⟩:=I.hok p _ hk;exact⟨o,e,ex⟩
     obtain⟨o,e,ex⟩:=z;refine⟨⟨o,e,ex.1⟩,fun a e2=>?_⟩;cases e2;exact⟨o,e,ex.2.1⟩
   obtain⟨o,_,_,_,e,ex,_⟩:=I.hok p _ hk;refine⟨⟨o,e,ex.1⟩,fun a e2=>?_⟩;cases e2;exact⟨o,e,ex.2.1⟩
 | _=>exact False.elim ty
def tBM(K:W.Frag)(T:String)(r:V->List V->Hp->VK->Prop)(to:TE)(t:TA):TE:=fun Z H Q=>to Z H fun x H1=>tyV K T x H1/\t Z H1 fun xs H2=>r x xs H2 Q
variable{o e:Expr}{es:List Expr}{to:TE}{t:TA}{name:Str}{apos cpos:Pos}{T id:String}{r:V->List V->Hp->VK->Prop}
theorem Ap(pa:PlainAttrs T)(slot:Slot T name id)(hty:typeOf (.builtin id)=pure (.type "method_descriptor"))(hm:MtR X id r)(ho:PE X o to)(ha:PA X (e::es) t)
 (hbase:attributeBase o name X.env (eval o X.env)=eval o X.env:=by rfl)
 (hfew:((backTo cpos (starEach (e::es) X.env)).all (fun x=>!x.1) && (backToKw cpos (keywordEach [] X.env)).all (fun x=>x.1.isSome)
  && decide ((e::es).length+([]:List Keyword).length+(if([]:List Keyword).isEmpty then 0 else 1) < 30))=true:=by rfl)
 (hline:(apos.endLine == cpos.line)=true:=by rfl) (hs:starEach (e::es) X.env=(false,eval e X.env)::starEach es X.env:=by rfl) (hplain:(backTo cpos (starEach es X.env)).any (·.1)=false:=by rfl) :
 PE X (.Call (.Attribute o name apos) (e::es) [] cpos) (tBM X.K T r to t):=by
 intro pins s Z H Q I h;refine wpAny_Call_method_late hbase hfew hline rfl (thn (ho pins s Z H _ I h) fun v s1 zz=>?_);obtain⟨x,H1,I1,r1,ty,q1⟩:=zz;obtain⟨h1,h2⟩:=zr I1 r1 ty;refine⟨T,id,pa,slot,hty,h1,h2,?_⟩;have hA:=ha cpos pins s1 Z H1 _ I1 q1;rw[hs]at hA ⊢;refine Calls.callWith_builtin (by show(false || (backTo cpos (starEach es X.env)).any (·.1))=false;rw[hplain] <;> rfl) (Calls.evalArgs_plain ?_)
 exact thn hA fun us s2 ⟨vs,H2,I2,r2,q2⟩=>hm pins s2 Z H2 x vs v us Q I2 r1 r2 q2
/- xs.append(e),list.index on a module's tuple .. are MtR facts of 06m -/
end
end L2
namespace L2
open PySem PySem.Spec PyProof.Rows
def MtM(X:Cx)(id:String)(r:V->List V->Hp->VK->Prop):Prop:=
 ∀(pins:List (Addr×Obj)) (s:Shared) (Z:St) (H:Hp) (x:V) (xs:List V) (v:Value) (us:List Value) (Q:VK),Inv X pins Z H s->aI x v->aC xs us->r x xs H Q ->
   wpAny (model X.prog X.w) X.A (call (.builtin id) (v::us)) (EP X pins Z Q) X.xe s
theorem aC.one:∀{x:V}{us:List Value},aC [x] us -> ∃ u,us=[u]/\aI x u
 | _,_,.cons r .nil=>⟨_,rfl,r⟩
theorem aC.eraseIdx:∀{xs:List V}{us:List Value} (i:Nat),aC xs us->aC (xs.eraseIdx i) (us.eraseIdx i)
 | _,_,_,.nil=>.nil
 | _,_,0,.cons _ t=>t
 | _,_,i+1,.cons r t=>.cons r (aC.eraseIdx i t)
theorem aC.rep{xs:List V}{us:List Value}(h:aC xs us):∀ k:Nat,aC (List.replicate k xs).flatten (List.replicate k us).flatten
 | 0=>.nil
 | k+1=>by
   rw[List.replicate_succ,List.replicate_succ,List.flatten_cons,List.flatten_cons];exact aC.append h (aC.rep h k)
theorem gK{α:Type}:∀(l:List α) (i:Nat),(l.eraseIdx i).length<=l.length
 | [],_=>Nat.le_refl _
 | _::_,0=>Nat.le_succ _
 | _::r,i+1=>Nat.succ_le_succ (gK r i)
theorem kM(its:List Value):∀(k:Nat) (acc:List Value),
 List.foldl (fun x1 x2=>x1++x2) acc.toArray (List.replicate k its.toArray)=(acc++(List.replicate k its).flatten).toArray
 | 0,acc=>by simp
 | k+1,acc=>by
   have e:acc.toArray++its.toArray=(acc++its).toArray:=by simp
   have e2:(acc++its)++(List.replicate k its).flatten=acc++(List.replicate (k+1) its).flatten:=by
    rw[List.replicate_succ,List.flatten_cons,List.append_assoc]
   rw[← e2,← kM its k (acc++its),← e,List.replicate_succ,List.foldl_cons]
section
variable{X:Cx}{pins:List (Addr×Obj)}{Z:St}{H:Hp}{s:Shared}{l b:Addr}{xs ys zs:List V}
theorem Inv.lset{its its':List Value}{n:Nat}{f:Array Value->Array Value}{t':Nat}(I:Inv X pins Z H s)(hH:H l=some (.lst xs))
 (e:s.heap.get? l=some { cls:=.type "list",data:=.seq its.toArray n }) (hf:f its.toArray=its'.toArray) (hv:aC ys its') (hz:ys.length<=sizeLine) :
 Inv X pins Z (upd H l (.lst ys)) { s with heap:=s.heap.update l (Obj.mapSeq f),toks:=t' }:=by
 have q:=PySem.IsL.update e f;rw[hf]at q;refine I.write (x:=l) (e:=l) (by rw[hH];exact trivial) (.inl rfl) (fun b' u hb hu=>(Heap.get?_update_other s.heap (Obj.mapSeq f) (Ne.symm hb)).trans hu) ⟨_,q⟩ ?_
 exact⟨hz,its',_,hv,q⟩
theorem Inv.lnew{its:List Value}{t':Nat}(I:Inv X pins Z H s)(hv:aC ys its)(hz:ys.length<=sizeLine) :
 Inv X pins Z (upd H s.heap.objs.size (.lst ys)) { s with heap:=s.heap.push { cls:=.type "list",data:=.seq its.toArray },toks:=t' }:=
 I.laid (fun _ _ q=>Heap.get?_push_of_some _ q) (Nat.le_refl _) ⟨hz,its,0,hv,Heap.get?_push_size _ rfl⟩
theorem Inv.fresh(I:Inv X pins Z H s):H s.heap.objs.size=none:=I.hok.fresh (Nat.le_refl _)
theorem Inv.lstM(I:Inv X pins Z H s)(hH:H l=some (.lst xs)):xs.length<=sizeLine /\ ∃(its:List Value) (n:Nat),aC xs its/\xs.length=its.length/\s.heap.get? l=some { cls:=.type "list",data:=.seq its.toArray n }:=by
 obtain⟨z,its,n,r,e⟩:=I.hok l _ hH;exact⟨z,its,n,r,r.length,e⟩
theorem mG{n:Nat}(h:n<=sizeLine):Builtin.List.listTooLong n=false:=by
 unfold Builtin.List.listTooLong;exact decide_eq_false (by omega)
end
section
variable{X:Cx}
def vA:V->List V->Hp->VK->Prop:=fun x vs H Q=>∃ l xs y,x=.ref l/\vs=[y]/\H l=some (.lst xs)/\xs.length < sizeLine/\Q .non (upd H l (.lst (xs++[y])))
theorem cE:MtM X "list.append" vA:=by
 intro pins s Z H x vs v us Q I rx rv h;obtain⟨l,xs,y,rfl,rfl,hH,hz,q⟩:=h;cases rx;obtain⟨u,rfl,ru⟩:=rv.one;obtain⟨z,its,n,r,hl,e⟩:=I.lstM hH;refine call_meets F.slot_list_append ⟨_,e,rfl⟩ F.entry_list_append (F.args_list_append_2 _ _) (PySem.list_append l its.toArray n u (by rw[List.size_toArray];omega)) ⟨e,?_⟩
 refine⟨.non,_,I.lset (its':=its++[u]) hH e (by simp) (r.append (.cons ru .nil)) ?_,rfl,q⟩
 rw[List.length_append,List.length_singleton];omega
def vb:V->List V->Hp->VK->Prop:=fun x vs H Q=>∃ l b xs zs,x=.ref l/\vs=[.ref b]/\H l=some (.lst xs)/\H b=some (.lst zs)/\xs.length+zs.length<=sizeLine/\Q .non (upd H l (.lst (xs++zs)))
theorem kA:MtM X "list.extend" vb:=by
 intro pins s Z H x vs v us Q I rx rv h;obtain⟨l,b,xs,zs,rfl,rfl,hH,hB,hz,q⟩:=h;cases rx;obtain⟨u,rfl,ru⟩:=rv.one;cases ru;obtain⟨z,its,n,r,hl,e⟩:=I.lstM hH;obtain⟨z2,its2,n2,r2,hl2,e2⟩:=I.lstM hB;have hsz:its.toArray.size+its2.toArray.size<=sizeLine:=by rw[List.size_toArray,List.size_toArray];omega
 have hlong:¬ (!its.toArray.isEmpty && Builtin.List.listTooLong (its.toArray.size+its2.toArray.size))=true:=by
  rw[mG hsz,Bool.and_false];exact Bool.false_ne_true
 refine call_meets F.slot_list_extend ⟨_,e,rfl⟩ F.entry_list_extend (F.args_list_extend_2 _ _)
  (AutoSeq1.list_extend_list_list_0 l its.toArray n b its2.toArray n2 hlong (by rw[List.size_toArray];omega) (by omega)) ⟨e,e2,?_⟩
 refine⟨.non,_,I.lset (its':=its++its2) hH e (by simp) (r.append r2) ?_,rfl,q⟩
 rw[List.length_append];omega
def Ce:R2:=fun x y H Q=>∃ l b xs zs,x=.ref l/\y=.ref b/\H l=some (.lst xs)/\H b=some (.lst zs)/\xs.length+zs.length<=sizeLine /\ ∀ p,H p=none->Q (.ref p) (upd H p (.lst (xs++zs)))
theorem m6:OpR X (binaryOp .Add) Ce:=by
 intro pins s Z H x y v u Q I rx ry h;obtain⟨l,b,xs,zs,rfl,rfl,hH,hB,hz,q⟩:=h;cases rx;cases ry;obtain⟨z,its,n,r,hl,e⟩:=I.lstM hH;obtain⟨z2,its2,n2,r2,hl2,e2⟩:=I.lstM hB;refine PySem.P.add_list e e2 ?_ (by rw[List.size_toArray,List.size_toArray];omega)
 have ea:its.toArray++its2.toArray=(its++its2).toArray:=by simp
 rw[ea];exact⟨.ref _,_,I.lnew (t':=s.toks) (r.append r2) (by rw[List.length_append];omega),rfl,q _ I.fresh⟩
theorem oP{α:Type}(xs:List α)(k:Nat):(List.replicate k xs).flatten.length=k*xs.length:=by
 induction k with
 | zero=>simp
 | succ k ih=>rw[List.replicate_succ,List.flatten_cons,List.length_append,ih,Nat.succ_mul,Nat.add_comm]
end
section
variable{prog:Program}{w:World}{A:Around}{E:Value->Shared->Prop}{s:Shared}
set_option maxRecDepth 100000 in
end
section
variable{X:Cx}
end
end L2
namespace L2
open PySem PySem.Spec PyProof.Rows
section
variable{κ:Type}[DecidableEq κ]
def cy(kvs:List (κ × V))(k:κ):Option V:=(kvs.find? fun kv=>decide (kv.1=k)).map (·.2)
def ck(kvs:List (κ × V))(k:κ)(v:V):List (κ × V):=
 if(kvs.any fun kv=>decide (kv.1=k))=true then kvs.map (fun kv=>if kv.1=k then(kv.1,v)else kv)else kvs++[(k,v)]
theorem bB{p:κ × V}{r:List (κ × V)}{k:κ}(e:p.1=k):cy (p::r) k=some p.2:=by simp[cy,List.find?_cons,e]
theorem bJ{p:κ × V}{r:List (κ × V)}{k:κ}(e:¬ p.1=k):cy (p::r) k=cy r k:=by simp[cy,List.find?_cons,e]
theorem dO(k:κ):∀ kvs:List (κ × V),(kvs.any fun kv=>decide (kv.1=k))=(cy kvs k).isSome
 | []=>rfl
 | p::r=>by
   rw[List.any_cons];by_cases e:p.1=k
   . simp only[bB e,decide_eq_true e,Bool.true_or,Option.isSome_some]
   rw[bJ e,decide_eq_false e,Bool.false_or];exact dO k r
theorem mf(k j:κ)(y:V):∀ kvs:List (κ × V),cy (kvs.map fun kv=>if kv.1=k then(kv.1,y)else kv) j=(cy kvs j).map fun x=>if j=k then y else x
 | []=>rfl
 | p::r=>by
   have ih:=mf k j y r;rw[List.map_cons];by_cases h:p.1=k
   . rw[if_pos h]
     by_cases e:p.1=j
     . rw[bB (p:=(p.1,y)) e,bB e,Option.map_some,if_pos (e.symm.trans h)]
     rw[bJ (p:=(p.1,y)) e,bJ e,ih]
   rw[if_neg h];by_cases e:p.1=j
   . rw[bB (p:=p) e,bB e,Option.map_some,if_neg (fun z=>h (e.trans z))]
   rw[bJ (p:=p) e,bJ e,ih]
theorem kC(k j:κ)(y:V):∀ kvs:List (κ × V),cy kvs k=none->cy (kvs++[(k,y)]) j=if j=k then some y else cy kvs j
 | [],_=>by
   by_cases e:k=j
   . rw[if_pos e.symm];exact bB (p:=(k,y)) e
   rw[if_neg (fun z=>e z.symm)];exact bJ (p:=(k,y)) e
 | p::r,hn=>by
   rw[List.cons_append];have hk:¬ p.1=k:=fun z=>by rw[bB z]at hn;cases hn
   rw[bJ hk]at hn;have ih:=kC k j y r hn;by_cases e:p.1=j
   . rw[bB e,bB e,if_neg (fun z=>hk (e.trans z))]
   rw[bJ e,bJ e,ih]
theorem tm(kvs:List (κ × V))(k j:κ)(y:V):cy (ck kvs k y) j=if j=k then some y else cy kvs j:=by
 unfold ck;by_cases a:(kvs.any fun kv=>decide (kv.1=k))=true
 . rw[if_pos a,mf]
   rw[dO]at a;by_cases e:j=k
   . obtain⟨x,hx⟩:=Option.isSome_iff_exists.mp a
     rw[if_pos e,e,hx,Option.map_some,if_pos rfl]
   rw[if_neg e];cases cy kvs j with
   | none=>rfl
   | some x=>rw[Option.map_some,if_neg e]
 rw[if_neg a];refine kC k j y kvs ?_;rw[dO]at a;cases q:cy kvs k with
 | none=>rfl
 | some x=>rw[q]at a;exact(a rfl).elim
theorem dD(kvs:List (κ × V))(k:κ)(v:V):(ck kvs k v).length<=kvs.length+1:=by
 unfold ck;split
 . rw[List.length_map];omega
 rw[List.length_append,List.length_cons,List.length_nil];omega
theorem eK.isSome_eq{o:Option V}{u:Option Value}(r:eK o u):o.isSome=u.isSome:=by
 cases o with
 | none=>cases u with
   | none=>rfl
   | some _=>exact(show False from r).elim
 | some _=>cases u with
   | none=>exact(show False from r).elim
   | some _=>rfl
theorem eK.getD{o:Option V}{u:Option Value}{d:V}{d':Value}(r:eK o u)(rd:aI d d'):aI (o.getD d) (u.getD d'):=by
 cases o with
 | none=>cases u with
   | none=>exact rd
   | some _=>exact(show False from r).elim
 | some _=>cases u with
   | none=>exact(show False from r).elim
   | some _=>exact r
theorem KV.val{kvs:List (κ × V)}{vs:List (κ × Value)}(r:KV kvs vs)(k:κ):eK (cy kvs k) (valueAt vs k):=by
 unfold KV at r
 induction r with
 | nil=>exact True.intro
 | @cons p q ps qs h t ih=>
   obtain⟨h1,h2⟩:=h;by_cases e:p.1=k
   . have e':q.1=k:=h1.symm.trans e
     have b:valueAt (q::qs) k=some q.2:=by simp[valueAt,List.find?_cons,e']
     rw[bB e,b];exact h2
   have e':¬ q.1=k:=fun z=>e (h1.trans z);have b:valueAt (q::qs) k=valueAt qs k:=by simp[valueAt,List.find?_cons,e']
   rw[bJ e,b];exact ih
theorem KV.any{kvs:List (κ × V)}{vs:List (κ × Value)}(r:KV kvs vs)(k:κ):(kvs.any fun kv=>decide (kv.1=k))=vs.any fun kv=>decide (kv.1=k):=by
 unfold KV at r
 induction r with
 | nil=>rfl
 | cons h t ih=>rw[List.any_cons,List.any_cons,ih,h.1]
theorem KV.repl{kvs:List (κ × V)}{vs:List (κ × Value)}(r:KV kvs vs)(k:κ){y:V}{u:Value}(ry:aI y u) :
 KV (kvs.map fun kv=>if kv.1=k then(kv.1,y)else kv) (vs.map fun kv=>if kv.1=k then(kv.1,u)else kv):=by
 unfold KV at r ⊢
 induction r with
 | nil=>exact .nil
 | @cons p q ps qs h t ih=>
   rw[List.map_cons,List.map_cons];refine .cons ?_ ih;obtain⟨h1,h2⟩:=h;by_cases e:p.1=k
   . rw[if_pos e,if_pos (h1.symm.trans e)];exact⟨h1,ry⟩
   rw[if_neg e,if_neg (fun z=>e (h1.trans z))];exact⟨h1,h2⟩
theorem KV.put{kvs:List (κ × V)}{vs:List (κ × Value)}(r:KV kvs vs)(k:κ){y:V}{u:Value}(ry:aI y u):KV (ck kvs k y) (stored vs k u):=by
 unfold ck stored;rw[r.any k];by_cases e:(vs.any fun kv=>decide (kv.1=k))=true
 . rw[if_pos e,if_pos e];exact r.repl k ry
 rw[if_neg e,if_neg e];exact Paired.snoc r ⟨rfl,ry⟩
theorem KV.length{kvs:List (κ × V)}{vs:List (κ × Value)}(r:KV kvs vs):kvs.length=vs.length:=Paired.length r
end
theorem jA{P:Program}{w:World}{k:Key}{u:Value}(r:aI (kV k) u):(aO P w).is k u=true:=by
 cases k with
 | inl i=>obtain⟨t,e⟩:=(show ∃ t,u=Value.int i t from r);subst e;exact h_ P w i t
 | inr x=>obtain⟨t,e⟩:=(show ∃ t,u=Value.str x t from r);subst e;exact mU P w x t
theorem kj{P:Program}{w:World}:∀{ks:List Key}{us:List Value},aC (ks.map kV) us->ItemsAre (aO P w) ks us
 | [],_,r=>by rw[List.map_nil]at r;cases r;exact .nil
 | k::ks,_,r=>by
   rw[List.map_cons]at r;cases r with
   | cons h t=>exact .cons (jA h) (kj t)
abbrev KT(H:Hp):List (List Key×V)->List (List Key×Addr×Value)->Prop:=Paired fun p q=>p.1=q.1/\H q.2.1=some (.tup (p.1.map kV))/\aI p.2 q.2.2
theorem KT.val{H:Hp}{kvs:List (List Key×V)}{xs:List (List Key×Addr×Value)}(r:KT H kvs xs)(k:List Key):eK (cy kvs k) ((atKey xs k).map (·.2)):=by
 induction r with
 | nil=>exact True.intro
 | @cons p q ps qs h t ih=>
   obtain⟨h1,_,h2⟩:=h;by_cases e:p.1=k
   . have e':q.1=k:=h1.symm.trans e
     have b:atKey (q::qs) k=some q.2:=by simp[atKey,List.find?_cons,e']
     rw[bB e,b];exact h2
   have e':¬ q.1=k:=fun z=>e (h1.trans z);have b:atKey (q::qs) k=atKey qs k:=by simp[atKey,List.find?_cons,e']
   rw[bJ e,b];exact ih
theorem KT.repl{H:Hp}{kvs:List (List Key×V)}{xs:List (List Key×Addr×Value)}(r:KT H kvs xs)(k:List Key){y:V}{u:Value}(ry:aI y u) :
 KT H (kvs.map fun kv=>if kv.1=k then(kv.1,y)else kv) (xs.map (putAt k u)):=by
 induction r with
 | nil=>exact .nil
 | @cons p q ps qs h t ih=>
   rw[List.map_cons,List.map_cons];refine .cons ?_ ih;obtain⟨h1,h2,h3⟩:=h;unfold putAt;by_cases e:p.1=k
   . rw[if_pos e,if_pos (h1.symm.trans e)];exact⟨h1,h2,ry⟩
   rw[if_neg e,if_neg (fun z=>e (h1.trans z))];exact⟨h1,h2,h3⟩
theorem KT.put{H:Hp}{kvs:List (List Key×V)}{xs:List (List Key×Addr×Value)}(r:KT H kvs xs)(k:List Key){b:Addr}{y:V}{u:Value}(hb:H b=some (.tup (k.map kV)))(ry:aI y u) :
 KT H (ck kvs k y) (storedH xs k b u):=by
 have e:(kvs.any fun kv=>decide (kv.1=k))=(atKey xs k).isSome:=by
  rw[dO,(r.val k).isSome_eq,Option.isSome_map]
 unfold ck storedH;rw[e];by_cases q:(atKey xs k).isSome=true
 . rw[if_pos q,if_pos q];exact r.repl k ry
 rw[if_neg q,if_neg q];exact Paired.snoc r ⟨rfl,hb,ry⟩
theorem KT.keeps{H H':Hp}{kvs:List (List Key×V)}{xs:List (List Key×Addr×Value)}(r:KT H kvs xs)(ht:∀ b ys,H b=some (.tup ys)->H' b=some (.tup ys)):KT H' kvs xs:=
 Paired.mapP r fun _ _ z=>⟨z.1,ht _ _ z.2.1,z.2.2⟩
section
variable{P:Program}{w:World}{H:Hp}{h:Heap}{a:Addr}
theorem wz{u:HO}(ok:HOk P w H h)(e:Rd H a u):a_ P w H h a u:=e.ok ok
theorem gw{kvs:List (Key×V)}(ok:HOk P w H h)(e:Rd H a (.dK kvs)):kvs.length<=sizeLine/\(a == sysModules)=false /\ ∃ vs,KV kvs vs/\h.DictOf (aO P w) a vs:=
 show a_ P w H h a (.dK kvs)from wz ok e
theorem wx{kvs:List (Key×V)}(ok:HOk P w H h)(e:H a=some (.dK kvs)):kvs.length<=sizeLine/\(a == sysModules)=false /\ ∃ vs,KV kvs vs/\h.DictOf (aO P w) a vs:=gw ok (.inl e)
theorem gX{ks:List Key}(ok:HOk P w H h)(e:H a=some (.tup (ks.map kV))):(tupleKind (aO P w)).is h ks a:=by
 obtain⟨_,its,r,o,h1,h2,n,h3⟩:=(show a_ P w H h a (.tup (ks.map kV))from ok a _ e);exact⟨o,its.toArray,n,h1,h2,h3,by simpa using kj r⟩
theorem iZ{kvs:List (List Key×V)}(ok:HOk P w H h)(e:Rd H a (.dT kvs)):kvs.length<=sizeLine/\(a == sysModules)=false /\
 ∃ xs,KT H kvs xs/\h.DictOfH (tupleKind (aO P w)) a xs:=by
 obtain⟨z,y,xs,r,o,es,ep,h1,h2,h3,h4,h5⟩:=(show a_ P w H h a (.dT kvs)from wz ok e);refine⟨z,y,xs,r,o,es,ep,h1,h2,h3,h4,fun x hx=>?_,h5⟩;have all:∀{l:List (List Key×V)}{m:List (List Key×Addr×Value)},KT H l m -> ∀ x∈m,(tupleKind (aO P w)).is h x.1 x.2.1:=by
  intro l m q
  induction q with
  | nil=>intro x hx;exact nomatch hx
  | @cons p q ps qs hq t ih=>
    intro x hx;rcases List.mem_cons.mp hx with e | hx
    . subst e
      exact gX ok (by rw[← hq.1];exact hq.2.1)
    exact ih x hx
 exact all r x hx
theorem Al{kvs:List (List Key×V)}(ok:HOk P w H h)(e:H a=some (.dT kvs)):kvs.length<=sizeLine/\(a == sysModules)=false /\
 ∃ xs,KT H kvs xs/\h.DictOfH (tupleKind (aO P w)) a xs:=iZ ok (.inl e)
end
def cK(H:Hp)(a:Addr)(y:V)(r:Option V):Prop:=
 (∃ kvs k,Rd H a (.dK kvs)/\y=kV k/\r=cy kvs k) ∨ ∃ kvs k b,Rd H a (.dT kvs)/\y=.ref b/\H b=some (.tup (k.map kV))/\r=cy kvs k
def jR(H:Hp)(a:Addr)(y v:V)(H':Hp):Prop:=
 (∃ kvs k,H a=some (.dK kvs)/\y=kV k/\kvs.length < sizeLine/\H'=upd H a (.dK (ck kvs k v))) ∨
 ∃ kvs k b,H a=some (.dT kvs)/\y=.ref b/\H b=some (.tup (k.map kV))/\kvs.length < sizeLine/\H'=upd H a (.dT (ck kvs k v))
theorem cK.k{H:Hp}{a:Addr}{kvs:List (Key×V)}{k:Key}(e:H a=some (.dK kvs)):cK H a (kV k) (cy kvs k):=.inl ⟨kvs,k,.inl e,rfl,rfl⟩
theorem jR.k{H:Hp}{a:Addr}{kvs:List (Key×V)}{k:Key}{v:V}(e:H a=some (.dK kvs))(hl:kvs.length < sizeLine):jR H a (kV k) v (upd H a (.dK (ck kvs k v))):=.inl ⟨kvs,k,e,rfl,hl,rfl⟩
section
variable{X:Cx}{pins:List (Addr×Obj)}{Z:St}{H:Hp}{s:Shared}{a:Addr}{y v:V}{u r:Value}{o:Option V}{A:Around}{E:Value->Shared->Prop}
theorem Inv.big(I:Inv X pins Z H s):sysModules < s.heap.objs.size:=by
 have h:mainGlobals < s.heap.objs.size:=(I.mod.glob.keeps I.bk).lt;exact Nat.lt_trans (by decide) h
theorem pQ{Q:Value->Shared->Prop}(hu:A.units+1 < cLine)(I:Inv X pins Z H s)(g:cK H a y (some v))(ry:aI y u)(h:∀ w' s',Inv X pins Z H s'->aI v w'->Q w' s') :
 wpAny (model X.prog X.w) A (getItem (.ref a) u) Q E s:=by
 rcases g with ⟨kvs,k,e,ey,l⟩ | ⟨kvs,k,b,e,ey,eb,l⟩
 . subst ey
   obtain⟨z,hd,vs,rel,dd⟩:=gw I.hok e;obtain⟨w',hw,rw'⟩:=eK.some_of (v:=v) (o:=valueAt vs k) (by rw[l];exact rel.val k)
   exact wpAny_getItem_of (jA ry) dd.mapOf hw (h w' _ (I.tok _) rw')
 subst ey;cases (show u=Value.ref b from ry);obtain⟨z,hd,xs,rel,dd⟩:=iZ I.hok e;obtain⟨w',hw,rw'⟩:=eK.some_of (v:=v) (o:=(atKey xs k).map (·.2)) (by rw[l];exact rel.val k)
 obtain⟨p,hp,hp2⟩:=Option.map_eq_some_iff.mp hw;refine wpAny_getItem_heap (tupleKind_room_in1 hu) (gX I.hok eb) dd hp ?_;rw[hp2];exact h w' _ (I.tok _) rw'
theorem B3{Q:Value->Shared->Prop}(hu:A.units+1 < cLine)(I:Inv X pins Z H s)(g:cK H a y o)(ry:aI y u)(h:∀ s',Inv X pins Z H s'->Q (.bool o.isSome) s') :
 wpAny (model X.prog X.w) A (compareOp .In u (.ref a)) Q E s:=by
 rcases g with ⟨kvs,k,e,ey,l⟩ | ⟨kvs,k,b,e,ey,eb,l⟩
 . subst ey
   obtain⟨z,hd,vs,rel,dd⟩:=gw I.hok e;refine wpAny_in_of (jA ry) hd dd.mapOf ?_;rw[← (rel.val k).isSome_eq,← l];exact h _ (I.tok _)
 subst ey;cases (show u=Value.ref b from ry);obtain⟨z,hd,xs,rel,dd⟩:=iZ I.hok e;refine wpAny_in_heap (tupleKind_room_in1 hu) (gX I.hok eb) hd dd ?_;have q:=(rel.val k).isSome_eq;rw[Option.isSome_map]at q;rw[← q,← l];exact h _ (I.tok _)
theorem vF{Q:Value->Shared->Prop}(hu:A.units+1 < cLine)(I:Inv X pins Z H s)(g:cK H a y o)(ry:aI y u)(h:∀ s',Inv X pins Z H s'->Q (.bool (!o.isSome)) s') :
 wpAny (model X.prog X.w) A (compareOp .NotIn u (.ref a)) Q E s:=by
 rcases g with ⟨kvs,k,e,ey,l⟩ | ⟨kvs,k,b,e,ey,eb,l⟩
 . subst ey
   obtain⟨z,hd,vs,rel,dd⟩:=gw I.hok e;refine wpAny_notIn_of (jA ry) hd dd.mapOf ?_;rw[← (rel.val k).isSome_eq,← l];exact h _ (I.tok _)
 subst ey;cases (show u=Value.ref b from ry);obtain⟨z,hd,xs,rel,dd⟩:=iZ I.hok e;refine wpAny_notIn_heap (tupleKind_room_in1 hu) (gX I.hok eb) hd dd ?_;have q:=(rel.val k).isSome_eq;rw[Option.isSome_map]at q;rw[← q,← l];exact h _ (I.tok _)
theorem lp{h':Heap}{t':Nat}{ob:HO}(I:Inv X pins Z H s)(mu:Mut (H a))(hs:Heap.SameBut a s.heap h')(he:∃ q,h'.get? a=some q)(new:a_ X.prog X.w (upd H a ob) h' a ob) :
 Inv X pins Z (upd H a ob) { s with heap:=h',toks:=t' }:=
 I.write (x:=a) (e:=a) mu (.inl rfl) (fun b q hb z=>(hs.2 b hb).trans z) he new
theorem nv{P:Program}{w:World}{H':Hp}{h':Heap}{kvs:List (Key×V)}{vs:List (Key×Value)}(z:kvs.length<=sizeLine)(hd:(a == sysModules)=false)(rel:KV kvs vs)(dd:h'.DictOf (aO P w) a vs) :
 a_ P w H' h' a (.dK kvs):=⟨z,hd,vs,rel,dd⟩
theorem pP{H':Hp}{Q:Unit->Shared->Prop}(hu:A.units+1 < cLine)(I:Inv X pins Z H s)(g:jR H a y v H')(ry:aI y u)(rv:aI v r)(h:∀ s',Inv X pins Z H' s'->Q () s') :
 wpAny (model X.prog X.w) A (setItem (.ref a) u r) Q E s:=by
 rcases g with ⟨kvs,k,e,ey,l,eH⟩ | ⟨kvs,k,b,e,ey,eb,l,eH⟩
 . subst ey eH
   obtain⟨z,hd,vs,rel,dd⟩:=wx I.hok e;have hz:vs.length<=sizeLine:=by rw[← rel.length];exact z
   have hl:(ck kvs k v).length<=sizeLine:=by have:=dD kvs k v;omega
   refine wpAny_setItem_pairs (hsz:=hz) (jA ry) dd fun h' dd' hs=>h _ ?_;have he:∃ q,h'.get? a=some q:=let⟨q,_,_,hq,_⟩:=dd';⟨q,hq⟩;exact lp I (by rw[e];exact True.intro) hs he (nv hl hd (rel.put k rv) dd')
 subst ey eH;cases (show u=Value.ref b from ry);obtain⟨z,hd,xs,rel,dd⟩:=Al I.hok e;have hz:xs.length<=sizeLine:=by rw[← Paired.length rel];exact z
 have hl:(ck kvs k v).length<=sizeLine:=by have:=dD kvs k v;omega
 refine wpAny_setItem_heap (hsz:=hz) (tupleKind_room_in1 hu) (gX I.hok eb) dd fun h' dd' hs=>h _ ?_;obtain⟨q,es,ep,hq,h2,h3,h4,_,h5⟩:=dd';refine lp I (by rw[e];exact True.intro) hs ⟨q,hq⟩ ⟨hl,hd,_,(rel.put k eb rv).keeps fun c ys ec=>?_,q,es,ep,hq,h2,h3,h4,h5⟩
 rw[ag (aA ec e (fun z=>nomatch z))];exact ec
end
section
variable{X:Cx}{pins:List (Addr×Obj)}{Z:St}{H:Hp}{s:Shared}{a:Addr}{kvs:List (Key×V)}{k:Key}{u:Value}{A:Around}{E:Value->Shared->Prop}
end
def za(i:Expr):Prop:=∀ ov iv,subscripted i false ov iv=operate [ov,iv] (getItem ov iv)
theorem ug{prog:Program}{w:World}{A:Around}{E:Value->Shared->Prop}{s:Shared}{env:Env}{value slice:Expr}{pos:Pos}{T id:String}{Q:Value->Shared->Prop}
 (hl:typeLookup (.type T) "__getitem__"=pure (some (.builtin id))) (hs:za slice)
 (h:wpAny (model prog w) A (eval value env) (fun o s₁=>wpAny (model prog w) A (eval slice env) (fun i s₂=>s₂.TypeIs o T/\wpAny (model prog w) A (getItem o i) Q E s₂) E s₁) E s) :
 wpAny (model prog w) A (eval (.Subscript value slice pos) env) Q E s:=by
 refine Subscript_ (wpAny_mono h (fun o s₁ h₁=>wpAny_mono h₁ (fun i s₂ h₂=>?_) fun _ _ x=>x) fun _ _ x=>x);obtain⟨hT,h₂⟩:=h₂;unfold subscriptTail;refine wpAny_bind ?_;rw[getitemInPython_of_ne hT.not_modules];refine wpAny_bind (wpAny_specialOf hT hl ?_);have fin:wpAny (model prog w) A (subscripted slice false o i) (fun r s₃=>wpAny (model prog w) A (letTemporaryGo value o r >>= fun _=>pure r) Q E s₃) E s₂:=by
  rw[hs o i];exact wpAny_operating (wpAny_mono h₂ (fun r s₃ h₃=>wpAny_bind (wpAny_letTemporaryGo (wpAny_pure h₃))) fun _ _ x=>x)
 first
  | exact wpAny_pure (wpAny_bind fin)
  | exact wpAny_bind (wpAny_pure (wpAny_bind fin))
  | exact wpAny_bind fin
theorem mw{X:Cx}{pins:List (Addr×Obj)}{Z:St}{H:Hp}{s:Shared}{a:Addr}{y:V}{o:Option V}(I:Inv X pins Z H s)(g:cK H a y o):s.TypeIs (.ref a) "dict":=by
 rcases g with ⟨kvs,k,e,_,_⟩ | ⟨kvs,k,b,e,_,_,_⟩
 . obtain⟨_,_,vs,_,dd⟩:=gw I.hok e
   exact dd.typeIs
 obtain⟨_,_,xs,_,dd⟩:=iZ I.hok e;exact dd.typeIs
def sv(td ty:TE):TE:=fun Z H Q=>td Z H fun x H1=>ty Z H1 fun y H2=>∃ a v,x=.ref a/\cK H2 a y (some v)/\Q v H2
def xw(ty td:TE):TE:=fun Z H Q=>ty Z H fun y H1=>td Z H1 fun x H2=>∃ a o,x=.ref a/\cK H2 a y o/\Q (.bl o.isSome) H2
def lz(ty td:TE):TE:=fun Z H Q=>ty Z H fun y H1=>td Z H1 fun x H2=>∃ a o,x=.ref a/\cK H2 a y o/\Q (.bl (!o.isSome)) H2
def qD(td ty tv:TE):TS:=fun D Z H=>tv Z H fun v H1=>td Z H1 fun x H2=>ty Z H2 fun y H3=>∃ a H4,x=.ref a/\jR H3 a y v H4/\D.nx Z H4
section
variable{X:Cx}{o i e value:Expr}{pos pos' tpos:Pos}{td ty tv:TE}
theorem vy(hu:X.A.units+1 < cLine)(ho:PE X o td)(hi:PE X i ty)(hs:za i):PE X (.Subscript o i pos) (sv td ty):=by
 intro pins s Z H Q I h;refine ug PySem.F.slot_dict_getitem.lookup hs (thn (ho pins s Z H _ I h) fun u s1 ⟨x,H1,I1,rx,q1⟩=>thn (hi pins s1 Z H1 _ I1 q1) fun iv s2 zz=>?_);obtain⟨y,H2,I2,ry,a,v,ex,g,q2⟩:=zz;subst ex;obtain rfl:u=Value.ref a:=rx;exact⟨mw I2 g,pQ hu I2 g ry fun w' s3 I3 rw'=>⟨v,H2,I3,rw',q2⟩⟩
theorem xA(hu:X.A.units+1 < cLine)(hi:PE X i ty)(ho:PE X o td):PC X .In i o (xw ty td):=by
 intro pins s Z H Q I h;refine thn (hi pins s Z H _ I h) fun iv s1 ⟨y,H1,I1,ry,q1⟩=>thn (ho pins s1 Z H1 _ I1 q1) fun u s2 zz=>?_;obtain⟨x,H2,I2,rx,a,ov,ex,g,q2⟩:=zz;subst ex;obtain rfl:u=Value.ref a:=rx;exact B3 hu I2 g ry fun s3 I3=>⟨.bl ov.isSome,H2,I3,rfl,q2⟩
theorem qr(hu:X.A.units+1 < cLine)(hi:PE X i ty)(ho:PE X o td):PC X .NotIn i o (lz ty td):=by
 intro pins s Z H Q I h;refine thn (hi pins s Z H _ I h) fun iv s1 ⟨y,H1,I1,ry,q1⟩=>thn (ho pins s1 Z H1 _ I1 q1) fun u s2 zz=>?_;obtain⟨x,H2,I2,rx,a,ov,ex,g,q2⟩:=zz;subst ex;obtain rfl:u=Value.ref a:=rx;exact vF hu I2 g ry fun s3 I3=>⟨.bl (!ov.isSome),H2,I3,rfl,q2⟩
theorem uL(hu:X.A.units+1 < cLine)(ho:PE X o td)(hi:PE X i ty)(hv:PE X value tv)(hs:swapsWith value (some (.Subscript o i pos')) pos.line X.env=pure false) :
 PS X (.Assign [.Subscript o i pos'] value pos) (qD td ty tv):=by
 intro pins s Z H D I h;refine wpAny_Assign_Subscript (thn (hv pins s Z H _ I h) fun r s1 ⟨v,H1,I1,rv,q1⟩=>thn (ho pins s1 Z H1 _ I1 q1) fun u s2 ⟨x,H2,I2,rx,q2⟩=>thn (hi pins s2 Z H2 _ I2 q2) fun iv s3 ⟨y,H3,I3,ry,a,H4,ex,g,q3⟩=>?_) hs;subst ex;obtain rfl:u=Value.ref a:=rx;exact pP hu I3 g ry rv fun s4 I4=>⟨Z,H4,I4,q3⟩
end
theorem l8{P:Program}{w:World}{H:Hp}(h:Heap)(hb:sysModules < h.objs.size):a_ P w H (h.push { cls:=.type "dict",data:=.dict #[] }) h.objs.size (.dK []):=
 ⟨Nat.zero_le _,beq_eq_false_iff_ne.mpr (Ne.symm (Nat.ne_of_lt hb)),[],.nil,Heap.DictOf.new h⟩
def nV:TE:=fun _ H Q=>∀ p,H p=none->Q (.ref p) (upd H p (.dK []))
section
variable{X:Cx}{pos:Pos}
theorem rO:PE X (.Dict [] [] pos) nV:=fun pins s Z H Q I h=>
 wpAny_Dict_empty ⟨.ref s.heap.objs.size,_,I.laid (a:=s.heap.objs.size) (o:=.dK []) (t':=s.toks) (fun _ _ q=>Heap.get?_push_of_some _ q) (Nat.le_refl _) (l8 s.heap I.big),rfl,h _ (I.hok.fresh (Nat.le_refl _))⟩
end
def fO:List (TE×TE)->St->Hp->(List (V×V)->Hp->Prop)->Prop
 | [],_,H,Q=>Q [] H
 | (tk,tv)::r,Z,H,Q=>tk Z H fun x H1=>tv Z H1 fun y H2=>fO r Z H2 fun ps H3=>Q ((x,y)::ps) H3
abbrev VV:List (V×V)->List (Value×Value)->Prop:=Paired fun p q=>aI p.1 q.1/\aI p.2 q.2
def PPs(X:Cx)(pos:Pos)(keys:List (Option Expr))(values:List Expr)(trs:List (TE×TE)):Prop:=
 ∀(pins:List (Addr×Obj)) (s:Shared) (Z:St) (H:Hp) (Q:List (V×V)->Hp->Prop),Inv X pins Z H s->fO trs Z H Q ->
   wpAny (model X.prog X.w) X.A (evalPairs (pairTrees keys values X.env pos)) (fun vs s'=>∃ ps H',Inv X pins Z H' s'/\VV ps vs/\Q ps H') X.xe s
theorem vD{X:Cx}{pos:Pos}:PPs X pos [] [] []:=fun pins s Z H Q I h=>pairTrees_nil_walk ⟨[],H,I,.nil,h⟩
theorem tu{X:Cx}{pos:Pos}{k v:Expr}{ks:List (Option Expr)}{vs:List Expr}{tk tv:TE}{trs:List (TE×TE)}(hk:PE X k tk)(hv:PE X v tv)(hr:PPs X pos ks vs trs) :
 PPs X pos (some k::ks) (v::vs) ((tk,tv)::trs):=fun pins s Z H Q I h=>
 pairTrees_cons_walk (thn (hk pins s Z H _ I h) fun u s1 ⟨x,H1,I1,rx,q1⟩=>thn (hv pins s1 Z H1 _ I1 q1) fun w2 s2 ⟨y,H2,I2,ry,q2⟩=>
  thn (hr pins s2 Z H2 _ I2 q2) fun ws s3 ⟨ps,H3,I3,rel,q3⟩=>⟨(x,y)::ps,H3,I3,.cons ⟨rx,ry⟩ rel,q3⟩)
def fL(kvs more:List (Key×V)):List (Key×V):=more.foldl (fun acc kv=>ck acc kv.1 kv.2) kvs
theorem KV.merge:∀{more:List (Key×V)}{rs:List (Key×Value)}{kvs:List (Key×V)}{vs:List (Key×Value)},KV more rs->KV kvs vs->KV (fL kvs more) (merged vs rs):=by
 intro more rs kvs vs r;unfold KV at r
 induction r generalizing kvs vs with
 | nil=>intro q;exact q
 | @cons p q ps qs h t ih=>
   intro r0;have e:KV (ck kvs p.1 p.2) (stored vs q.1 q.2):=by
    have:=r0.put p.1 h.2;rw[← h.1];exact this
   exact ih e
theorem fD:∀(more kvs:List (Key×V)),(fL kvs more).length<=kvs.length+more.length
 | [],kvs=>by show kvs.length<=kvs.length+0;omega
 | p::r,kvs=>by
   have h1:=fD r (ck kvs p.1 p.2);have h2:=dD kvs p.1 p.2;show(fL (ck kvs p.1 p.2) r).length<=_;rw[List.length_cons];omega
theorem iT{P:Program}{w:World}:∀{kvs:List (Key×V)}{ws:List (Value×Value)},VV (kvs.map fun kv=>(kV kv.1,kv.2)) ws -> ∃ rs,Carries (aO P w) ws rs/\KV kvs rs
 | [],_,r=>by rw[List.map_nil]at r;cases r;exact⟨[],True.intro,.nil⟩
 | p::kvs,_,r=>by
   rw[List.map_cons]at r;cases r with
   | @cons a b as bs h t=>
     obtain⟨rs,c,q⟩:=iT (P:=P) (w:=w) t;obtain⟨b1,b2⟩:=b;exact⟨(p.1,b2)::rs,⟨jA h.1,rfl,c⟩,.cons ⟨rfl,h.2⟩ q⟩
def sI(trs:List (TE×TE)):TE:=fun Z H Q=>∀ p,H p=none->fO trs Z (upd H p (.dK [])) fun ps H2=>H2 p=some (.dK []) /\ ∃ kvs:List (Key×V),ps=kvs.map (fun kv=>(kV kv.1,kv.2))/\kvs.length<=15/\Q (.ref p) (upd H2 p (.dK (fL [] kvs)))
theorem uC{X:Cx}{pos:Pos}{keys:List (Option Expr)}{values:List Expr}{trs:List (TE×TE)}(h:PPs X pos keys values trs)(hall:keys.all (·.isSome)=true)(hl:keys.length=values.length)(h0:keys≠[])
 (h15:keys.length<=15):PE X (.Dict keys values pos) (sI trs):=by
 intro pins s Z H Q I q;have hn:=I.hok.fresh (Nat.le_refl s.heap.objs.size);have I1:=I.laid (a:=s.heap.objs.size) (o:=.dK []) (h':=s.heap.push { cls:=.type "dict",data:=.dict #[] }) (t':=s.toks) (fun _ _ q=>Heap.get?_push_of_some _ q) (Nat.le_refl _) (l8 s.heap I.big);refine wpAny_Dict_walk (knd:=aO X.prog X.w) hall hl h0 h15 (thn (h pins _ Z _ _ I1 (q _ hn)) fun ws s2 zz=>?_);obtain⟨ps,H2,I2,rel,e,kvs,ep,lk,q2⟩:=zz;subst ep;obtain⟨rs,c,rk⟩:=iT (P:=X.prog) (w:=X.w) rel;obtain⟨z,hd,vs0,r0,dd⟩:=wx I2.hok e;cases r0;refine⟨rs,c,dd,fun h' dd' hs=>⟨.ref s.heap.objs.size,_,?_,rfl,q2⟩⟩;have hz:(fL [] kvs).length<=sizeLine:=by
  have h1:=fD kvs [];rw[List.length_nil]at h1;rw[sizeLine_eq];omega
 have he:∃ q,h'.get? s.heap.objs.size=some q:=let⟨q,_,_,hq,_⟩:=dd';⟨q,hq⟩;exact lp I2 (by rw[e];exact True.intro) hs he (nv hz hd (rk.merge .nil) dd')
structure M1(X:Cx)(o:Expr)(m:Str)(apos:Pos)(e:Expr)(cpos:Pos):Prop where
 base:attributeBase o m X.env (eval o X.env)=eval o X.env
 few:((backTo cpos (starEach [e] X.env)).all (fun x=>!x.1) && (backToKw cpos (keywordEach [] X.env)).all (fun x=>x.1.isSome)
  && decide (([e]:List Expr).length+([]:List Keyword).length+(if([]:List Keyword).isEmpty then 0 else 1) < 30))=true
 line:(apos.endLine == cpos.line)=true
 trees:backTo cpos (starEach [e] X.env)=[(false,eval e X.env)]
def IsD(H:Hp)(a:Addr):Prop:=(∃ kvs,Rd H a (.dK kvs)) ∨ ∃ kvs,Rd H a (.dT kvs)
theorem qS{X:Cx}{pins:List (Addr×Obj)}{Z:St}{H:Hp}{s:Shared}{a:Addr}(I:Inv X pins Z H s)(d:IsD H a) :
 s.TypeIs (.ref a) "dict" /\ (∀ b,Value.ref a=.ref b -> ∃ ob,s.heap.get? b=some ob/\ob.dict=none)/\(a == sysModules)=false:=by
 rcases d with ⟨kvs,e⟩ | ⟨kvs,e⟩
 . obtain⟨_,hd,vs,_,dd⟩:=gw I.hok e
   refine⟨dd.typeIs,fun b q=>?_,hd⟩;cases q;obtain⟨ob,_,_,h1,h2,_⟩:=dd;exact⟨ob,h1,h2.2.1⟩
 obtain⟨_,hd,xs,_,dd⟩:=iZ I.hok e;refine⟨dd.typeIs,fun b q=>?_,hd⟩;cases q;obtain⟨ob,_,_,h1,h2,_⟩:=dd;exact⟨ob,h1,h2.2.1⟩
section
variable{X:Cx}{pins:List (Addr×Obj)}{Z:St}{H:Hp}{s:Shared}{a:Addr}{y d:V}{u r:Value}{o:Option V}{A:Around}{E:Value->Shared->Prop}
theorem zm{Q:Value->Shared->Prop}(hu:A.units+1 < cLine)(I:Inv X pins Z H s)(g:cK H a y o)(ry:aI y u)(h:∀ w' s',Inv X pins Z H s'->aI (o.getD .non) w'->Q w' s') :
 wpAny (model X.prog X.w) A (call (.builtin "dict.get") [.ref a,u]) Q E s:=by
 rcases g with ⟨kvs,k,e,ey,l⟩ | ⟨kvs,k,b,e,ey,eb,l⟩
 . subst ey
   obtain⟨z,hd,vs,rel,dd⟩:=gw I.hok e;refine call_meetsIn PySem.F.slot_dict_get dd.typeIs PySem.F.entry_dict_get (PySem.F.args_dict_get_2 _ _) (meets_dict_get (aO X.prog X.w) a (jA ry) hd) ⟨_,dd.mapOf,h _ _ (I.tok _) ?_⟩;rw[l];exact(rel.val k).getD rfl
 subst ey;cases (show u=Value.ref b from ry);obtain⟨z,hd,xs,rel,dd⟩:=iZ I.hok e;refine call_meetsIn PySem.F.slot_dict_get dd.typeIs PySem.F.entry_dict_get (PySem.F.args_dict_get_2 _ _) (meetsH_dict_get (tupleKind (aO X.prog X.w)) a b hd) ⟨tupleKind_room_in1 hu,k,xs,gX I.hok eb,dd,h _ _ (I.tok _) ?_⟩;rw[l];exact(rel.val k).getD rfl
end
def m_(td ty:TE):TE:=fun Z H Q=>td Z H fun x H1=>∃ a,x=.ref a/\IsD H1 a/\ty Z H1 fun y H2=>∃ o,cK H2 a y o/\Q (o.getD .non) H2
section
variable{X:Cx}{o e f:Expr}{apos cpos:Pos}{td ty tx:TE}
theorem tY(hu:X.A.units+1 < cLine)(ho:PE X o td)(he:PE X e ty)(m:M1 X o "get" apos e cpos):PE X (.Call (.Attribute o "get" apos) [e] [] cpos) (m_ td ty):=by
 intro pins s Z H Q I h;refine wpAny_Call_method m.base m.few m.line PySem.F.plainAttrs_dict PySem.F.slot_dict_get PySem.F.type_dict_get (thn (ho pins s Z H _ I h) fun u s1 zz=>?_);obtain⟨x,H1,I1,rx,a,ex,d,q1⟩:=zz;subst ex;obtain rfl:u=Value.ref a:=rx;obtain⟨t1,t2,_⟩:=qS I1 d;refine⟨t1,t2,?_⟩;rw[m.trees];refine Calls.callWith_builtin rfl (Calls.evalArgs_plain (Calls.spliced_cons (thn (he pins s1 Z H1 _ I1 q1) fun iv s2 ⟨y,H2,I2,ry,ov,g,q2⟩=>Calls.spliced_nil ?_)));exact zm hu I2 g ry fun w' s3 I3 rw'=>⟨_,H2,I3,rw',q2⟩
end
section
variable{X:Cx}{pins:List (Addr×Obj)}{Z:St}{H:Hp}{s:Shared}{a:Addr}{kvs:List (Key×V)}{A:Around}{E:Value->Shared->Prop}
end
section
variable{X:Cx}{pins:List (Addr×Obj)}{Z:St}{H:Hp}{s:Shared}{a:Addr}{y:V}{u:Value}{A:Around}{E:Value->Shared->Prop}
end
end L2
namespace Att
open PySem PySem.W PySem.Calls PyProof.Rows
theorem iq{P:Params}{h:Heap}:∀(ns:List Int) (vs:List Value),WellAll P h vs (ns.map WData.int)->IntsAre vs ns:=by
 intro ns
 induction ns with
 | nil=>
   intro vs w;rw[List.map_nil]at w;cases w;exact .nil
 | cons n ns ih=>
   intro vs w;rw[List.map_cons]at w;cases w with
   | cons a b=>
     cases a;exact .cons _ _ (ih _ b)
theorem qh{l:OpenLaw}{n:Nat}(hn:l.most=some n){P:Params}{h:Heap}{args:List WData}{vals:List Value}
 (hpre:l.row.toRowW.claim.pre args=true) (hwl:WellAll P h vals args) :
 ∃ a vs ns,vals=[Value.ref a]/\args=[WData.list (ns.map WData.int)]/\h.get? a=some { cls:=.type "list",data:=.seq vs.toArray } /\ IntsAre vs ns/\ns.length<=n:=by
 have hsh:WShape.hasAll [] args [.list .int]=true:=(pre_splitW hpre).1;have hc:l.pre.holds [] { args:=args }=true:=(pre_splitW hpre).2;obtain⟨d,r,rfl,h1,h2⟩:=hasAllW_cons hsh;obtain rfl:=hasAllW_nil h2;obtain⟨xs,rfl,h3⟩:=hasW_list h1;obtain⟨ns,rfl⟩:=items_int h3;have hlen:ns.length<=n:=by
  unfold OpenLaw.pre at hc;have h4:(WTm.not (.lt (.lit (.int (n:Int))) (.len (.arg 0)))).holds [] { args:=[.list (ns.map .int)] }=true:=by
   have h4:=(holds_andW hc).1;rw[hn]at h4;exact h4
  have h5:=condW_of h4 (w_not (w_lt w_lit (w_len_list (w_arg rfl))));rw[List.length_map]at h5;refine Nat.le_of_not_lt fun q=>?_;have q':(n:Int) < ((ns.length:Nat):Int):=by omega
  first
   | (rw[decide_eq_true q']at h5;exact absurd h5 (by decide))
   | (simp at h5;omega)
 cases hwl with
 | cons w1 w2=>
   cases w2;cases w1 with
   | list ho hall=>exact⟨_,_,ns,rfl,rfl,ho,iq ns _ hall,hlen⟩
theorem pY(l:OpenLaw)(args:List WData):l.row.toRowW.claim.post args (.bool true) args=true:=
 postW_of (r:=l.row.toRowW) (X:=(true == true))
  (show WShape.has [] (.bool true) .bool=true by first | rfl | decide | simp[WShape.has,WShape.arms,WShape.armsAll])
  (show(WTm.eq .res (.lit (.bool true))).value [] { args:=args,res:=some (.bool true),after:=args }=some (.bool (true == true))from w_eq_bool (w_res rfl) w_lit) rfl
theorem attach_call{l:OpenLaw}{n:Nat}{q:Program}{loose:List Str}{XP:(Str->Option Value)->Heap->Prop}{YP:World->Heap->Prop}{d:DefRec}
 (hn:l.most=some n) (hdf:d.params.defaults=[])
 (call:∀(w:World) (s₀ s₁:Shared) (mg mb:Str->Option Value) (fa:Addr) (o:Obj) (pm cd doc:Value) (a:Addr) (vs:List Value) (ns:List Int),
  Ground q loose [] XP w s₀ mg mb s₁.heap->YP w s₁.heap ->
  s₁.heap.get? fa=some o->o.data=.func (docDef d.name d.params d.body d.scope pm cd doc)->s₁.heap.CodeRec cd d.name->mg d.name=some (.ref fa) ->
  s₁.heap.get? a=some { cls:=.type "list",data:=.seq vs.toArray } -> IntsAre vs ns->ns.length<=n->s₁.gens=#[] ->
  codeAny (model l.prog w) callerA (.call (.ref fa) ⟨[.ref a],[]⟩) (fun r s'=>r=.ok (.ret (.bool true))/\OldK s₁.heap s'.heap/\s'.os=s₁.os/\AllBare s'.gens) s₁) :
 WalkO q loose XP YP l.row.toRowW d [] (fun f vs=>PySem.call f vs):=by
 intro w s₀ s₁ mg mb G Y fa o pm cd doc dV kV ho hd hcd hD hmg hg args vals as hpre hlay hrd hwl hlo;obtain rfl:dV=.none:=Dflts.none hD hdf;obtain rfl:kV=.none:=Dflts.noKw hD;obtain⟨a,vs,ns,rfl,rfl,hobj,hints,hlen⟩:=qh hn hpre hwl;refine enter_call (codeAny_mono (call w s₀ s₁ mg mb fa o pm cd doc a vs ns G Y ho (fd_plain hd) hcd hmg hobj hints hlen hg) fun r s' hq=>?_);obtain⟨rfl,h2,h3,h4⟩:=hq;exact⟨.inl ⟨.bool true,.bool true,[],rfl,fun _=>rfl,.bool true,pY l _,fun _=>⟨List.Pairwise.nil,fun _ hm=>(nomatch hm)⟩⟩,h2,h3,h4⟩
section
variable{prog:Program}{w:World}{A:Around}{E:Value->Shared->Prop}{s:Shared}{K:Frag}
end
end Att
namespace L2
open PySem PySem.Spec PyProof.Rows
theorem ko:∀{vs:List Value}{ns:List Int},IntsAre vs ns->aC (ns.map V.int) vs
 | _,_,.nil=>.nil
 | _,_,.cons n t h=>.cons ⟨t,rfl⟩ (ko h)
def yr(H:Hp):Prop:=∀ b,H b=none ∨ ∃ o xs,H b=some (.frz o (.lst xs))
theorem tq{P:Program}{w:World}{K:W.Frag}{mg mb:Str->Option Value}{CX:CXT}{k:Nat}{fa a:Addr}{fd:FuncData}{x:Str}{sp:Sp}{s₁:Shared}{vs:List Value}{ns:List Int}
 (KX:K.In s₁.heap) (hns:s₁.heap.Ns mainGlobals mg) (hb:s₁.heap.Ns builtinsNs mb) (hbb:∀ x:Str,x ≠ "__name__" -> mb x=bootBuiltins x) (hlim:s₁.heap.NoLimit) (hg:s₁.gens=#[])
 (ha:s₁.heap.get? a=some { cls:=.type "list",data:=.seq vs.toArray }) (hi:IntsAre vs ns) (hl:ns.length<=sizeLine) (hr:bF k callerA)
 (F:∀ base:Heap,K.In base->base.Ns mainGlobals mg->c7 P w K mg base CX k fa fd [x] sp) (hbind:∀(s:Shared) (u:Value),BindsTo s fd ⟨[u],[]⟩ [(x,u)])
 (hsp:∀ H:Hp,yr H->SqL K H a (ns.map V.int)->sp [.ref a] H (fun v _=>v=.bl true) fun _ _ _=>False)
 (hCX:∀ H e s',CX [] H s₁ (fun _ _ _=>False) e s'->False) :
 codeAny (model P w) callerA (.call (.ref fa) ⟨[.ref a],[]⟩) (fun r s'=>r=.ok (.ret (.bool true))/\OldK s₁.heap s'.heap/\s'.os=s₁.os/\AllBare s'.gens) s₁:=by
 have rv:=ko hi;have lenV:=hi.length
 -- from an abstract heap in which nothing but the script may be tracked
 have core:∀ H:Hp,yr H->SqL K H a (ns.map V.int)->HOk P w H s₁.heap->(∀ b,H b≠none->b=a)->(H a≠none->K.lookup a=none) ->
  codeAny (model P w) callerA (.call (.ref fa) ⟨[.ref a],[]⟩) (fun r s'=>r=.ok (.ret (.bool true))/\OldK s₁.heap s'.heap/\s'.os=s₁.os/\AllBare s'.gens) s₁:=by
  intro H hO hS hok hA hK;have base_of:∀{b:Addr}{o:Obj},s₁.heap.get? b=some o->H b=none->(lQ s₁.heap H).get? b=some o:=fun e n=>rC e n;have noA:∀{b:Addr}{o:Obj}{es:Array DictEntry}{ep:Nat},s₁.heap.get? b=some o->o.data=.dict es ep->H b=none:=fun {b o es ep} e d=>by
   cases q:H b with
   | none=>rfl
   | some u=>
     have e':b=a:=hA b (by rw[q];simp)
     subst e';rw[ha]at e;cases e;have d':Data.seq vs.toArray _=Data.dict es ep:=d;cases d'
  have nsK:∀{b:Addr}{m:Str->Option Value},s₁.heap.Ns b m->(lQ s₁.heap H).Ns b m:=fun {b m} ⟨o,es,ep,e,d,r⟩=>⟨o,es,ep,base_of e (noA e d),d,r⟩;have hKb:K.In (lQ s₁.heap H):=fun b o e=>base_of (KX b o e) (by
   cases q:H b with
   | none=>rfl
   | some u=>
     have e':b=a:=hA b (by rw[q];simp)
     subst e';rw[hK (by rw[q];simp)]at e;cases e)
  have hM:Mod K mg (lQ s₁.heap H):=⟨hKb,nsK hns,⟨mb,nsK hb,hbb⟩,let⟨mc,h1,h2⟩:=hlim;⟨mc,nsK h1,h2⟩⟩;have e0:nP P w K mg (lQ s₁.heap H) callerA [] s₁ H:=⟨rfl,hM,fun b o e=>vf e,Nat.le_of_eq (qi _ _),trivial,fun b hb=>absurd (show b∈([]:List Addr)from hb) (by simp),hok,.of_eq hg⟩
  refine codeAny_mono ((F _ hKb (nsK hns)).run callerA [] s₁ H ⟨[.ref a],[]⟩ [.ref a] [.ref a] _ _ hr e0 (hbind s₁ (.ref a)) (.cons rfl .nil) (hsp H hO hS)) fun r s' h=>?_;cases r with
  | error e=>exact(hCX H e s' h).elim
  | ok fl=>
    cases fl with
    | next=>exact False.elim h
    | brk=>exact False.elim h
    | cont=>exact False.elim h
    | ret u=>
      obtain⟨v,H',os,bare,un,hok',r',q⟩:=h;have q':v=.bl true:=q;subst q';obtain rfl:u=Value.bool true:=r';refine⟨rfl,OldK.of_keep fun b o e=>?_,os,bare⟩;cases q:H b with
      | none=>exact un.keep b o e q (by intro z;exact absurd (show b∈([]:List Addr)from z) (by simp)) (by simp)
      | some u=>
        rcases hO b with z | ⟨ob,xs,z⟩
        . rw[q]at z;cases z
        have z2:=un.frzs b ob _ z;obtain⟨e1,_⟩:=hok b _ z;obtain⟨e2,_⟩:=hok' b _ z2;rw[e]at e1;cases e1;exact e2
 cases hk:K.lookup a with
 | some o=>
   -- the script is one of the module's own objects
   have e:=KX a o hk;rw[ha]at e;cases e;refine core (fun _=>none) (fun _=>.inl rfl) (.inr ⟨_,vs.toArray,_,hk,rfl,rfl,rfl,by rw[List.size_toArray,lenV];exact hl,by simpa using rv⟩) (fun b u z=>by have z':(none:Option HO)=some u:=z;cases z') (fun b z=>absurd rfl z) fun z=>absurd rfl z
 | none=>
   refine core (fun b=>if b=a then some (.frz { cls:=.type "list",data:=.seq vs.toArray } (.lst (ns.map V.int)))else none) (fun b=>?_) (.inl (.inr ⟨{ cls:=.type "list",data:=.seq vs.toArray },if_pos rfl⟩)) (fun b u z=>?_) (fun b z=>?_) fun _=>hk
   . by_cases hb:b=a
     . exact .inr ⟨_,_,if_pos hb⟩
     exact .inl (if_neg hb)
   . by_cases hb:b=a
     . have z':=(if_pos hb).symm.trans z
       cases z';subst hb;exact⟨ha,by rw[List.length_map];exact hl,vs,_,rv,ha⟩
     have z':=(if_neg hb).symm.trans z;cases z'
   by_cases hb:b=a
   . exact hb
   exact absurd (if_neg hb) z
end L2
namespace L2
open PySem PySem.Spec PyProof.Rows
theorem walk_of{l:W.OpenLaw}{n k:Nat}{q:Program}{loose:List Str}{XP:(Str->Option Value)->Heap->Prop}{YP:World->Heap->Prop}{d:DefRec}{K:Params->W.Frag}{CX:World->CXT}{sp:World->Sp}{x:Str}
 (hn:l.most=some n) (hn2:n<=sizeLine) (hdf:d.params.defaults=[]) (hr:bF k callerA)
 (hY:∀(w:World) (h:Heap),YP w h->(K w.params).In h)
 (F:∀(w:World) (mg:Str->Option Value) (fa:Addr) (h:Heap),(K w.params).In h->h.Ns mainGlobals mg->mg d.name=some (.ref fa) ->
  ∃ fd:FuncData,(∀(s:Shared) (u:Value),BindsTo s fd ⟨[u],[]⟩ [(x,u)]) /\
    ∀ base:Heap,(K w.params).In base->base.Ns mainGlobals mg->c7 l.prog w (K w.params) mg base (CX w) k fa fd [x] (sp w))
 (hsp:∀(w:World) (H:Hp) (a:Addr) (ns:List Int),ns.length<=n->yr H->SqL (K w.params) H a (ns.map V.int)->sp w [.ref a] H (fun v _=>v=.bl true) fun _ _ _=>False)
 (hCX:∀(w:World) (H:Hp) (s:Shared) (e:Value) (s':Shared),CX w [] H s (fun _ _ _=>False) e s'->False) :
 W.WalkO q loose XP YP l.row.toRowW d [] (fun f vs=>PySem.call f vs):=by
 refine Att.attach_call hn hdf fun w s₀ s₁ mg mb fa o pm cd doc a vs ns G Y ho hd hcd hmg hobj hints hlen hg=>?_;have KX:=hY w _ Y;obtain⟨fd,hb,hF⟩:=F w mg fa _ KX G.T.g hmg;exact tq KX G.T.g G.T.b G.T.builtins G.T.nolimit hg hobj hints (Nat.le_trans hlen hn2) hr hF hb (fun H hO hS=>hsp w H a ns hlen hO hS) fun H e s'=>hCX w H s₁ e s'
end L2
/- THE LAST THEOREM (shape;LID,My.* are yours):
   My.Adr: a structure of the addresses that your layer names (classes,functions);My.Txt K t: a structure (Prop) of the equations over K;
   My.txt_mk:{K}{implicit addresses ..} (e1:nsIn K mainGlobals "law"=some (some (.ref f))) (e2:K.lookup f=some ⟨oc,od,.func (fnOf "law" "law" params body scope dV kV doc pm an cdv ct),sl⟩) (e3:codeIn K cdv "law"=true) ..:∃ t,My.Txt K t
set_option maxRecDepth 100000 in
set_option maxHeartbeats 0 in
theorem PySem.Challenge.cw_LID_holds : PySem.Challenge.rw_LID.Holds := by
 w_on;o_law;k_head;(case hw=>w_witness2)
 k_fill
 refine L2.walk_of (l:=PySem.Challenge.rw_LID) (n:=63) (k:=40) (x:="script") (CX:=fun w=>..) (sp:=fun _=>My.sp_law) rfl (by decide) rfl ⟨rfl,by decide,by decide⟩ (fun w h Y=>W.kIn_of Y) ?F ?S ?C
 case F=>
  intro w mg fa h KX G hmg;have T:∃ t,My.Txt (L2.KOf KX) t:=by
   dsimp only[L2.KOf]                          -- K must stand as «<heap const> w.params» for k_is
   refine' My.txt_mk ?e1 ?e2 ?e3 ..
   (case e1=>W.k_is)                    -- in the order: a name->its address->its object->its parts
   (case e2=>W.k_is)
   ..
  obtain⟨t,T⟩:=T;have e0:=hmg.symm.trans (W.mg_of KX G T.law);cases e0                                       -- fa is the law's own address;exact⟨_,fun s u=>.of_eq rfl,fun base kb nb=>My.law_fn T kb nb⟩     -- if «.of_eq rfl» comes too early: refine' ⟨_,?b,fun base kb nb=>My.law_fn T kb nb⟩;exact fun s u=>.of_eq rfl
 case S=>exact fun w H a ns hl hO hS=>..
 case C=>exact ..
(the tactic k_is has no namespace: write k_is) -/
namespace L2
open PySem PySem.Spec PyProof.Rows
def aN(s:Stmt)(j:Nat):Stmt:=match s with
 | .ClassDef _ _ _ body _ _ _ _ _ _ _=>body.getD j (.Pass ⟨0,0,0,0⟩)
 | _=>.Pass ⟨0,0,0,0⟩
def cP(s:Stmt):Arguments:=match s with
 | .FunctionDef _ a _ _ _ _ _ _ _ _=>a
 | _=>{ posonlyargs:=[],args:=[],vararg:=none,kwonlyargs:=[],kw_defaults:=[],kwarg:=none,defaults:=[] }
def bA(s:Stmt):List Stmt:=match s with
 | .FunctionDef _ _ b _ _ _ _ _ _ _=>b
 | _=>[]
def ah(s:Stmt):Scope:=match s with
 | .FunctionDef _ _ _ _ _ _ sc _ _ _=>sc
 | _=>{ kind:=.function,names:=[],isGenerator:=false,isCoroutine:=false }
abbrev CX0:CXT:=fun _ _ _ _ _ _=>False
abbrev E0:XK:=fun _ _ _=>False
theorem oE{X:Cx}:fT CX0 X E0:=fun _ _ _ _ _ _ _ h=>h.elim
structure Fun(K:W.Frag)(x qual:Str)(st:Stmt)(f:Addr)(fd:FuncData):Prop where
 ex:∃(oc:Value) (od:Option Addr) (kV doc pm:Value) (an:Option Addr) (cdv ct:Value) (osl:Array (Option Value)),
  fd=W.fnOf x qual (cP st) (bA st) (ah st) .none kV doc pm an cdv ct/\K.lookup f=some ⟨oc,od,.func fd,osl⟩/\W.codeIn K cdv qual=true
 kp:W.keepIn K (.ref f)=true
section
variable{P:Program}{w:World}{K:W.Frag}{mg:Str->Option Value}{base:Heap}
theorem Fun.ok{x qual:Str}{st:Stmt}{f:Addr}{fd:FuncData}{N ps:List Str}{k:Nat}{sp:Sp}(F:Fun K x qual st f fd)(S:ak N ps (ah st))(len:∀ vs H Q E,sp vs H Q E->vs.length=ps.length)
 (hbody:∀(cdv:Value) (A:Around) (outer:List Env) (s:Shared) (H:Hp) (vs:List V) (Q:VK) (E:XK),bF k (A.deeper (envOfC qual (ah st) s.heap.objs.size f cdv))->sp vs H Q E ->
  ∃ t,PSs (dC CX0 P w K mg base N qual (ah st) f cdv A outer s H E).nox (bA st) t/\t { nx:=fun _ H'=>Q .non H',rt:=Q } (c6 N vs) H):c7 P w K mg base CX0 (k+1) f fd ps sp:=by
 obtain⟨oc,od,kV,doc,pm,an,cdv,ct,osl,rfl,lk,hcd⟩:=F.ex;refine wG lk hcd S len fun A outer s H vs Q E hr hsp=>?_;obtain⟨t,h,q⟩:=hbody cdv A outer s H vs Q E hr hsp;exact⟨t,h.nox,q⟩
theorem Fun.binds{x qual:Str}{st:Stmt}{f:Addr}{fd:FuncData}{ps:List Str}(F:Fun K x qual st f fd)
 (h:∀(kV doc pm:Value) (an:Option Addr) (cdv ct:Value) (us:List Value),us.length=ps.length->bindArgs (W.fnOf x qual (cP st) (bA st) (ah st) .none kV doc pm an cdv ct) ⟨us,[]⟩=pure (ps.zip us)):bY K fd ps []:=by
 obtain⟨oc,od,kV,doc,pm,an,cdv,ct,osl,rfl,lk,hcd⟩:=F.ex;exact .all (h kV doc pm an cdv ct)
theorem xY{x qual:Str}{st:Stmt}{f:Addr}{oc:Value}{od an:Option Addr}{osl:Array (Option Value)}{kV doc pm cdv ct:Value}(l:K.lookup f=some ⟨oc,od,.func (W.fnOf x qual (cP st) (bA st) (ah st) .none kV doc pm an cdv ct),osl⟩)
 (c:W.codeIn K cdv qual=true) (k:W.keepIn K (.ref f)=true):Fun K x qual st f (W.fnOf x qual (cP st) (bA st) (ah st) .none kV doc pm an cdv ct):=⟨⟨oc,od,kV,doc,pm,an,cdv,ct,osl,rfl,l,c⟩,k⟩
end
theorem dW{A:Around}{k:Nat}(hr:bF k A):A.units+1 < cLine:=Nat.lt_of_le_of_lt (Nat.add_le_add_left (by decide:1<=64) _) hr.units
section
variable{X:Cx}
end
theorem ao{A B:Prop}(h:B):if false=true then A else B:=by
 rw[if_neg Bool.false_ne_true];exact h
theorem az{A B:Prop}(h:A):if true=true then A else B:=by
 rw[if_pos rfl];exact h
theorem fb{c A B:Prop}[Decidable c](h1:c->A)(h2:¬ c->B):if c then A else B:=by
 by_cases h:c
 . rw[if_pos h]
   exact h1 h
 rw[if_neg h];exact h2 h
theorem cp{c A B:Prop}[Decidable c](hc:c)(h:B):if(!decide c)=true then A else B:=by
 rw[decide_eq_true hc];exact ao h
def ac(H H':Hp):Prop:=∀ b o,H b=some o->H' b=some o
theorem ac.refl(H:Hp):ac H H:=fun _ _ h=>h
theorem ac.trans{H H1 H2:Hp}(a:ac H H1)(b:ac H1 H2):ac H H2:=fun c o h=>b c o (a c o h)
theorem ac.free{H H':Hp}(e:ac H H'){l:Addr}(h:H' l=Option.none):H l=Option.none:=by
 cases q:H l with
 | none=>rfl
 | some o=>
   rw[e l o q]at h;cases h
theorem ac.seq{K:W.Frag}{H H':Hp}{a:Addr}{xs:List V}(e:ac H H')(h:SqL K H a xs):SqL K H' a xs:=by
 rcases h with (h | ⟨o,h⟩) | h
 . exact .inl (.inl (e _ _ h))
 . exact .inl (.inr ⟨o,e _ _ h⟩)
 exact .inr h
section
variable{κ:Type}[DecidableEq κ]
theorem eu:∀{l:List κ}{k:κ},l.Nodup -> ¬ k∈l->(l++[k]).Nodup
 | [],k,_,_=>by simp
 | a::r,k,h,hk=>by
   obtain⟨h1,h2⟩:=List.nodup_cons.mp h;show(a::(r++[k])).Nodup;refine List.nodup_cons.mpr ⟨fun m=>?_,eu h2 fun m=>hk (List.mem_cons.mpr (Or.inr m))⟩;rcases List.mem_append.mp m with q | q
   . exact h1 q
   exact hk (List.mem_cons.mpr (Or.inl (List.mem_singleton.mp q).symm))
end
end L2
namespace SW
open PySem PySem.Spec PyProof.Rows L2
theorem b_int:bootBuiltins "int"=some (.type "int"):=by decide +kernel
theorem b_bool:bootBuiltins "bool"=some (.type "bool"):=by decide +kernel
theorem b_tuple:bootBuiltins "tuple"=some (.type "tuple"):=by decide +kernel
theorem b_isinstance:bootBuiltins "isinstance"=some (.builtin "isinstance"):=by decide +kernel
theorem b_len:bootBuiltins "len"=some (.builtin "len"):=by decide +kernel
structure Bx(p:Prop):Prop where
 out:p
structure Fn(P:Program)(w:World)(K:W.Frag)(mg:Str->Option Value)(base:Heap)(x:Str)(k:Nat)(ps:List Str)(sp:Sp):Prop where
 ex:∃(f:Addr) (fd:FuncData),c7 P w K mg base CX0 k f fd ps sp/\mg x=some (.ref f)/\W.keepIn K (.ref f)=true/\bY K fd ps []
structure Dfn(K:W.Frag)(mg:Str->Option Value)(x:Str)(st:Stmt)(ps:List Str):Prop where
 ex:∃(f:Addr) (fd:FuncData),Fun K x x st f fd/\mg x=some (.ref f)/\bY K fd ps []
theorem Dfn.fn{P:Program}{w:World}{K:W.Frag}{mg:Str->Option Value}{base:Heap}{x:Str}{st:Stmt}{N ps:List Str}{k:Nat}{sp:Sp}(d:Dfn K mg x st ps)(S:ak N ps (ah st))(len:∀ vs H Q E,sp vs H Q E->vs.length=ps.length)
 (hbody:∀(f:Addr) (cdv:Value) (A:Around) (outer:List Env) (s:Shared) (H:Hp) (vs:List V) (Q:VK) (E:XK),bF k (A.deeper (envOfC x (ah st) s.heap.objs.size f cdv))->sp vs H Q E ->
  ∃ t,Bx (PSs (dC CX0 P w K mg base N x (ah st) f cdv A outer s H E).nox (bA st) t)/\t { nx:=fun _ H'=>Q .non H',rt:=Q } (c6 N vs) H):Fn P w K mg base x (k+1) ps sp:=by
 obtain⟨f,fd,F,hm,hb⟩:=d.ex;exact⟨f,fd,F.ok S len (fun cdv A outer s H vs Q E hr h=>let⟨t,h1,h2⟩:=hbody f cdv A outer s H vs Q E hr h;⟨t,h1.out,h2⟩),hm,F.kp,hb⟩
theorem xX{P:Program}{w:World}{K:W.Frag}{mg:Str->Option Value}{base:Heap}{x qual:Str}{st:Stmt}{f:Addr}{fd:FuncData}{N ps:List Str}{k:Nat}{sp:Sp}(F:Fun K x qual st f fd)(S:ak N ps (ah st))(len:∀ vs H Q E,sp vs H Q E->vs.length=ps.length)
 (hbody:∀(cdv:Value) (A:Around) (outer:List Env) (s:Shared) (H:Hp) (vs:List V) (Q:VK) (E:XK),bF k (A.deeper (envOfC qual (ah st) s.heap.objs.size f cdv))->sp vs H Q E ->
  ∃ t,Bx (PSs (dC CX0 P w K mg base N qual (ah st) f cdv A outer s H E).nox (bA st) t)/\t { nx:=fun _ H'=>Q .non H',rt:=Q } (c6 N vs) H):c7 P w K mg base CX0 (k+1) f fd ps sp:=
 F.ok S len (fun cdv A outer s H vs Q E hr h=>let⟨t,h1,h2⟩:=hbody cdv A outer s H vs Q E hr h;⟨t,h1.out,h2⟩)
def aQ:Expr->Bool
 | .Starred _ _=>false
 | _=>true
theorem b7{e:Expr}{es:List Expr}{env:Env}(h:aQ e=true):starEach (e::es) env=(false,eval e env)::starEach es env:=by
 cases e <;> first | rfl | exact absurd h Bool.false_ne_true
theorem cS{pos:Pos}{env:Env}:∀{es:List Expr},es.all aQ=true->(backTo pos (starEach es env)).any (·.1)=false
 | [],_=>rfl
 | e::es,h=>by
   rw[List.all_cons,Bool.and_eq_true]at h;rw[b7 h.1];show(false || (backTo pos (starEach es env)).any (·.1))=false;rw[cS h.2]
   rfl
theorem l9{pos:Pos}{env:Env}:∀{es:List Expr},es.all aQ=true->(backTo pos (starEach es env)).all (fun x=>!x.1)=true
 | [],_=>rfl
 | e::es,h=>by
   rw[List.all_cons,Bool.and_eq_true]at h;rw[b7 h.1];show(true && (backTo pos (starEach es env)).all (fun x=>!x.1))=true;rw[l9 h.2]
   rfl
section
variable{X:Cx}{x:Str}{p pos:Pos}{e:Expr}{es:List Expr}{t:TA}{te:TE}{k:Nat}{ps:List Str}{sp:Sp}
theorem pac(ha:PE X e te)(hr:PA X es t)(h:aQ e=true:=by rfl):PA X (e::es) (bU te t):=oG ha hr (b7 h)
theorem zY(F:Fn X.prog X.w X.K X.mg X.base x k ps sp)(hr:bF k X.A)(ha:PA X (e::es) t)(hg:Gl X x:=by rfl)(hdb:(x == ("__debug__":Str))=false:=by decide)(h1:aQ e=true:=by rfl)(h2:es.all aQ=true:=by rfl) :
 PE X (.Call (.Name x p) (e::es) [] pos) (hV sp [] E0 t):=by
 obtain⟨f,fd,G,hm,kp,b⟩:=F.ex;exact vN G hr hg hm kp b .nil oE ha hdb (b7 h1) (cS h2)
theorem zS{id:String}{r:List V->Hp->VK->Prop}(hc:bP X (.builtin id) r)(hm:X.mg x=none)(hv:bootBuiltins x=some (.builtin id))(ha:PA X (e::es) t)(hg:Gl X x:=by rfl)(hn:x ≠ "__name__":=by decide)(hdb:(x == ("__debug__":Str))=false:=by decide)
 (h1:aQ e=true:=by rfl) (h2:es.all aQ=true:=by rfl):PE X (.Call (.Name x p) (e::es) [] pos) (tCB r t):=sM hc hg hm hv ha hn hdb (b7 h1) (cS h2)
theorem z4{T:String}{r:List V->Hp->VK->Prop}(hc:bP X (.type T) r)(hm:X.mg x=none)(hv:bootBuiltins x=some (.type T))(ha:PA X (e::es) t)(hg:Gl X x:=by rfl)(hn:x ≠ "__name__":=by decide)(hdb:(x == ("__debug__":Str))=false:=by decide)
 (h1:aQ e=true:=by rfl) (h2:es.all aQ=true:=by rfl):PE X (.Call (.Name x p) (e::es) [] pos) (tCB r t):=pM hc hg hm hv ha hn hdb (b7 h1) (cS h2)
theorem Bs{T name id:_}{r:V->List V->Hp->VK->Prop}{o:Expr}{to:TE}{apos cpos:Pos}(pa:PlainAttrs T)(slot:Slot T name id)(hty:typeOf (.builtin id)=pure (.type "method_descriptor"))(hm:MtR X id r)(ho:PE X o to)(ha:PA X (e::es) t)
 (hbase:attributeBase o name X.env (eval o X.env)=eval o X.env:=by rfl) (hl:decide ((e::es).length+([]:List Keyword).length+(if([]:List Keyword).isEmpty then 0 else 1) < 30)=true:=by rfl)
 (hline:(apos.endLine == cpos.line)=true:=by rfl) (h1:aQ e=true:=by rfl) (h2:es.all aQ=true:=by rfl) :
 PE X (.Call (.Attribute o name apos) (e::es) [] cpos) (tBM X.K T r to t):=by
 refine Ap pa slot hty hm ho ha hbase ?_ hline (b7 h1) (cS h2);have hA:(e::es).all aQ=true:=by rw[List.all_cons,h1,h2];rfl
 rw[l9 hA,hl]
 rfl
theorem zE{tg a:Expr}{ta:TA}(hm:X.mg "range"=none)(ha:PA X [a] ta)(hg:Gl X "range":=by rfl)(h1:aQ a=true:=by rfl):PI X tg (.Call (.Name "range" p) [a] [] pos) (o8 ta):=
 pT hg hm ha (b7 h1)
theorem uS{i:Int}(h:∃ t,X.mg x=some (.int i t))(hg:Gl X x:=by rfl)(hd:(x == ("__debug__":Str))=false:=by decide):PE X (.Name x pos) (tC (.int i)):=by
 obtain⟨t,h⟩:=h;exact oI hg h ⟨t,rfl⟩ hd
theorem Bb{n:String}(hm:X.mg x=none)(hv:bootBuiltins x=some (.type n))(hg:Gl X x:=by rfl)(hn:x ≠ "__name__":=by decide)(hd:(x == ("__debug__":Str))=false:=by decide):PE X (.Name x pos) (tC (.ty n)):=
 ul hg hm hv (show Value.type n=Value.type n from rfl) hn hd
end
namespace B
section
variable{X:Cx}{x f:Str}{p pos:Pos}{e a b c o:Expr}{es:List Expr}{t:TA}{te ta tb tc to ti:TE}{k:Nat}{ps:List Str}{sp:Sp}{tg:Expr}
theorem int{i j pos}:Bx (PE X (.Constant (.int i) j pos) (tC (.int i))):=⟨zp⟩
theorem bl{b j pos}:Bx (PE X (.Constant (.bool b) j pos) (tC (.bl b))):=⟨Ao⟩
theorem non{j pos}:Bx (PE X (.Constant .none j pos) (tC .non)):=⟨wQ⟩
theorem str{x j pos}:Bx (PE X (.Constant (.str x) j pos) (tC (.str x))):=⟨rZ⟩
theorem v(i:Nat){x:Str}{pos:Pos}(hN:X.N[i]?=some x:=by rfl)(hv:Vis X.env.scope x:=by first | exact Or.inl rfl | exact Or.inr (Or.inl rfl) | exact Or.inr (Or.inr rfl))(hd:(x == ("__debug__":Str))=false:=by decide)
 (hcd:(x == ("__classdict__":Str))=false:=by decide):Bx (PE X (.Name x pos) (gx i)):=⟨yp hN hv hd hcd⟩
theorem gint{i:Int}(h:∃ t,X.mg x=some (.int i t))(hg:Gl X x:=by rfl)(hd:(x == ("__debug__":Str))=false:=by decide):Bx (PE X (.Name x pos) (tC (.int i))):=⟨uS h hg hd⟩
theorem ty{n:String}(hm:X.mg x=none)(hv:bootBuiltins x=some (.type n))(hg:Gl X x:=by rfl)(hn:x ≠ "__name__":=by decide)(hd:(x == ("__debug__":Str))=false:=by decide):Bx (PE X (.Name x pos) (tC (.ty n))):=⟨Bb hm hv hg hn hd⟩
theorem op{op:Operator}{r:R2}(ho:OpR X (binaryOp op) r)(ha:Bx (PE X a ta))(hb:Bx (PE X b tb)):Bx (PE X (.BinOp a op b pos) (tOp r ta tb)):=⟨Aq ho ha.out hb.out⟩
theorem un{op:UnaryOp}{r:V->Hp->VK->Prop}(ho:UnR X (unaryOp op) r)(ha:Bx (PE X a ta)):Bx (PE X (.UnaryOp op a pos) (tUn r ta)):=⟨Ak ho ha.out⟩
theorem not(ha:Bx (PE X a ta)):Bx (PE X (.UnaryOp .Not a pos) (tf ta)):=⟨zf ha.out⟩
theorem cmp{op:CmpOp}{r:R2}(ho:OpR X (compareOp op) r)(ha:Bx (PE X a ta))(hb:Bx (PE X b tb))(hm:behindInMarks op b=false:=by exact rT _):Bx (PE X (.Compare a [op] [b] pos) (tOp r ta tb)):=⟨oz ho ha.out hb.out hm⟩
theorem chain{op op':CmpOp}{r r':R2}(ho:OpR X (compareOp op) r)(ho':OpR X (compareOp op') r')(ha:Bx (PE X a ta))(hb:Bx (PE X b tb))(hc:Bx (PE X c tc))(hm:lastMarks [op,op'] [b,c]=false:=by with_unfolding_all rfl) :
 Bx (PE X (.Compare a [op,op'] [b,c] pos) (jo r r' ta tb tc)):=⟨tI ho ho' ha.out hb.out hc.out hm⟩
theorem one{op}(h:Bx (PE X a ta)):Bx (PE X (.BoolOp op [a] pos) ta):=⟨yf h.out⟩
theorem and{rest:List Expr}(ha:Bx (PE X a ta))(hb:Bx (PE X (.BoolOp .And (b::rest) pos) tb)):Bx (PE X (.BoolOp .And (a::b::rest) pos) (tZ ta tb)):=⟨yP ha.out hb.out⟩
theorem or{rest:List Expr}(ha:Bx (PE X a ta))(hb:Bx (PE X (.BoolOp .Or (b::rest) pos) tb)):Bx (PE X (.BoolOp .Or (a::b::rest) pos) (x_ ta tb)):=⟨Au ha.out hb.out⟩
theorem ifx{tA:TT}(hc:Bx (PT X c tA))(ha:Bx (PE X a ta))(hb:Bx (PE X b tb)):Bx (PE X (.IfExp c a b pos) (tIf tA ta tb)):=⟨qJ hc.out ha.out hb.out⟩
theorem nil:Bx (PA X [] c9):=⟨qR⟩
theorem cons(ha:Bx (PE X e te))(hr:Bx (PA X es t))(h:aQ e=true:=by rfl):Bx (PA X (e::es) (bU te t)):=⟨pac ha.out hr.out h⟩
theorem lst(h:Bx (PA X es t)):Bx (PE X (.List es pos) (rL t)):=⟨xk h.out⟩
theorem tup{x1}(h:Bx (PA X es t)):Bx (PE X (.Tuple es x1 pos) (gA t)):=⟨zd h.out⟩
theorem ix{r:R2}(hr:IxR X r)(ha:Bx (PE X a ta))(hb:Bx (PE X b tb))(hs:oi b:=by exact fun _ _=>rfl):Bx (PE X (.Subscript a b pos) (tOp r ta tb)):=⟨Ax hr ha.out hb.out hs⟩
theorem nopart:Bx (PO X none lP):=⟨vX⟩
theorem part(h:Bx (PE X e te)):Bx (PO X (some e) (rP te)):=⟨v_ h.out⟩
theorem slice{lo hi:Option Expr}{tl th:TO}{p2:Pos}{r:V->Option Int->Option Int->Hp->VK->Prop}(hr:SlR X r)(he:Bx (PE X e te))(hl:Bx (PO X lo tl))(hu:Bx (PO X hi th)):Bx (PE X (.Subscript e (.Slice lo hi none p2) pos) (tSl r te tl th)):=⟨rB hr he.out hl.out hu.out⟩
theorem fn(F:Fn X.prog X.w X.K X.mg X.base x k ps sp)(hr:bF k X.A)(ha:Bx (PA X (e::es) t))(hg:Gl X x:=by rfl)(hdb:(x == ("__debug__":Str))=false:=by decide)(h1:aQ e=true:=by rfl)(h2:es.all aQ=true:=by rfl) :
 Bx (PE X (.Call (.Name x p) (e::es) [] pos) (hV sp [] E0 t)):=⟨zY F hr ha.out hg hdb h1 h2⟩
theorem cB{id:String}{r:List V->Hp->VK->Prop}(hc:bP X (.builtin id) r)(hm:X.mg x=none)(hv:bootBuiltins x=some (.builtin id))(ha:Bx (PA X (e::es) t))(hg:Gl X x:=by rfl)(hn:x ≠ "__name__":=by decide)(hdb:(x == ("__debug__":Str))=false:=by decide)
 (h1:aQ e=true:=by rfl) (h2:es.all aQ=true:=by rfl):Bx (PE X (.Call (.Name x p) (e::es) [] pos) (tCB r t)):=⟨zS hc hm hv ha.out hg hn hdb h1 h2⟩
theorem cT{T:String}{r:List V->Hp->VK->Prop}(hc:bP X (.type T) r)(hm:X.mg x=none)(hv:bootBuiltins x=some (.type T))(ha:Bx (PA X (e::es) t))(hg:Gl X x:=by rfl)(hn:x ≠ "__name__":=by decide)(hdb:(x == ("__debug__":Str))=false:=by decide)
 (h1:aQ e=true:=by rfl) (h2:es.all aQ=true:=by rfl):Bx (PE X (.Call (.Name x p) (e::es) [] pos) (tCB r t)):=⟨z4 hc hm hv ha.out hg hn hdb h1 h2⟩
theorem m{T name id:_}{r:V->List V->Hp->VK->Prop}{apos cpos:Pos}(pa:PlainAttrs T)(slot:Slot T name id)(hty:typeOf (.builtin id)=pure (.type "method_descriptor"))(hm:MtR X id r)(ho:Bx (PE X o to))(ha:Bx (PA X (e::es) t))
 (hbase:attributeBase o name X.env (eval o X.env)=eval o X.env:=by rfl) (hl:decide ((e::es).length+([]:List Keyword).length+(if([]:List Keyword).isEmpty then 0 else 1) < 30)=true:=by rfl)
 (hline:(apos.endLine == cpos.line)=true:=by rfl) (h1:aQ e=true:=by rfl) (h2:es.all aQ=true:=by rfl) :
 Bx (PE X (.Call (.Attribute o name apos) (e::es) [] cpos) (tBM X.K T r to t)):=⟨Bs pa slot hty hm ho.out ha.out hbase hl hline h1 h2⟩
theorem tcmp{op:CmpOp}{r:R2}(ho:OpR X (compareOp op) r)(ha:Bx (PE X a ta))(hb:Bx (PE X b tb))(hm:behindInMarks op b=false:=by exact rT _):Bx (PT X (.Compare a [op] [b] pos) (kW (tOp r ta tb))):=⟨oy ho ha.out hb.out hm⟩
theorem tchain{op op':CmpOp}{r r':R2}(ho:OpR X (compareOp op) r)(ho':OpR X (compareOp op') r')(ha:Bx (PE X a ta))(hb:Bx (PE X b tb))(hc:Bx (PE X c tc))(hm:lastMarks [op,op'] [b,c]=false:=by with_unfolding_all rfl) :
 Bx (PT X (.Compare a [op,op'] [b,c] pos) (kW (jo r r' ta tb tc))):=⟨tT ho ho' ha.out hb.out hc.out hm⟩
theorem tval(h:Bx (PE X e te))(he:∀ whole,isTrue e X.env whole=(do let v ← whole;standAt e.pos;holding [v] (truthy v)):=by intro _;rfl):Bx (PT X e (tB te)):=⟨yb h.out he⟩
theorem tnot{tA:TT}(ha:Bx (PT X a tA)):Bx (PT X (.UnaryOp .Not a pos) (xV tA)):=⟨zk ha.out⟩
theorem wand1{tA:TT}(ha:Bx (PT X a tA)):Bx (PW X (.BoolOp .And [a] pos) tA):=⟨uD ha.out⟩
theorem wor1{tA:TT}(ha:Bx (PT X a tA)):Bx (PW X (.BoolOp .Or [a] pos) tA):=⟨yi ha.out⟩
theorem wand{tA tB':TT}{rest:List Expr}(ha:Bx (PT X a tA))(hb:Bx (PW X (.BoolOp .And (b::rest) pos) tB')):Bx (PW X (.BoolOp .And (a::b::rest) pos) (y4 tA tB')):=⟨xK ha.out hb.out⟩
theorem wor{tA tB':TT}{rest:List Expr}(ha:Bx (PT X a tA))(hb:Bx (PW X (.BoolOp .Or (b::rest) pos) tB')):Bx (PW X (.BoolOp .Or (a::b::rest) pos) (tOr tA tB')):=⟨An ha.out hb.out⟩
theorem tw{tA:TT}(h:Bx (PW X e tA)):Bx (PT X e tA):=⟨h.out.pt⟩
theorem gname{i:Nat}(hN:X.N.Nodup)(hi:X.N[i]?=some x:=by rfl)(hx:Loc X.env.scope x:=by first | exact Or.inl rfl | exact Or.inr rfl)(hf:X.fn x=true∨X.env.scope.names.lookup x=some .local:=by first | exact .inl rfl | exact .inr rfl):Bx (PG X (.Name x pos) (mB i)):=⟨lD hN hi hx hf⟩
theorem gnil:Bx (PGs X [] zw):=⟨vT⟩
theorem gcons{g:TG}{u:TGs}(h1:Bx (PG X e g))(h2:Bx (PGs X es u))(hs:(assignEach (e::es) X.env).map (·.2)=assign e X.env::(assignEach es X.env).map (·.2):=by rfl):Bx (PGs X (e::es) (wF g u)):=⟨sG h1.out h2.out hs⟩
theorem gtup{kk n:Nat}{u:TGs}(h:Bx (PGs X es u))(hc:X.calm=true:=by rfl)(hn:(assignEach es X.env).length=n:=by rfl)(hst:(assignEach es X.env).findIdx? (·.1)=none:=by rfl):Bx (PG X (.Tuple es kk pos) (xb X.K n u)):=⟨sB hc h.out hn hst⟩
theorem gsub{s:qF}{i:Expr}(ho:Bx (PE X o to))(hi:Bx (PE X i ti))(hs:xH X s)
 (ha:∀ v,assign (.Subscript o i pos) X.env v=(do
  let ov ← holding [v] (eval o X.env)
  let iv ← holding [v,ov] (eval i X.env)
  standAt pos
  holding [v,ov,iv] (setItem ov iv v)
  release [v,ov,iv] []):=by intro _;rfl):Bx (PG X (.Subscript o i pos) (y9 to ti s)):=⟨wX ho.out hi.out hs ha⟩
theorem asg{g:TG}(he:Bx (PE X e te))(hg:Bx (PG X tg g))(hs:swapsWithSole [tg] e pos.line X.env=pure false:=by rfl)(hw:swappedStores [tg] e X.env=pure none:=by rfl)
 (h1:(assignEach [tg] X.env).map (·.2)=[assign tg X.env]:=by rfl):Bx (PS X (.Assign [tg] e pos) (si te g)):=⟨yj he.out hg.out hs hw h1⟩
theorem set(i:Nat){pos':Pos}(hN:X.N.Nodup)(he:Bx (PE X e te))(hi:X.N[i]?=some x:=by rfl)(hx:Loc X.env.scope x:=by first | exact Or.inl rfl | exact Or.inr rfl)(hs:swapsWith e (some (.Name x pos')) pos.line X.env=pure false:=by rfl)
 (hf:X.fn x=true∨X.env.scope.names.lookup x=some .local:=by first | exact .inl rfl | exact .inr rfl):Bx (PS X (.Assign [.Name x pos'] e pos) (si te (mB i))):=⟨xP hN hi hx he.out hs hf⟩
theorem expr(he:Bx (PE X e te))(hs:swapsWith e none pos.line X.env=pure false:=by rfl):Bx (PS X (.Expr e pos) (oj te)):=⟨vZ he.out hs⟩
theorem ret(he:Bx (PE X e te)):Bx (PS X (.Return (some e) pos) (vL te)):=⟨xo he.out⟩
theorem retN:Bx (PS X (.Return none pos) rV):=⟨uh⟩
theorem ifs{tcc:TT}{l r:List Stmt}{u w:TS}(hc:Bx (PT X c tcc))(ha:Bx (PSs X l u))(hb:Bx (PSs X r w)):Bx (PS X (.If c l r pos) (yO tcc u w)):=⟨zA hc.out ha.out hb.out⟩
theorem ilist{l:Expr}{tl:TE}(hl:Bx (PE X l tl)):Bx (PI X tg l (oA X.K tl)):=⟨pD hl.out⟩
theorem itup{l:Expr}{tl:TE}(hl:Bx (PE X l tl)):Bx (PI X tg l (w_ X.K tl)):=⟨ym hl.out⟩
theorem irange{t:TA}(hm:X.mg "range"=none)(ha:Bx (PA X [a] t))(hg:Gl X "range":=by rfl)(h1:aQ a=true:=by rfl):Bx (PI X tg (.Call (.Name "range" p) [a] [] pos) (o8 t)):=⟨zE hm ha.out hg h1⟩
theorem fors{iter:Expr}{l:List Stmt}{wi:TI}{g:TG}{u:TS}(hi:Bx (PI X tg iter wi))(hg:Bx (PG X tg g))(hb:Bx (PSs X l u))(hp:PassesOwn (model X.prog X.w) X.A X.env X.xe:=by exact PassesOwn.never)(hc:X.calm=true:=by rfl)
 (hs:∀ x,foldedSetIterable iter X.env x=pure x:=by intro _;rfl):Bx (PS X (.For tg iter l [] pos) (zn wi g u)):=⟨xE hp hc hi.out hg.out hb.out hs⟩
theorem snil:Bx (PSs X [] sV):=⟨uH⟩
theorem scons{st:Stmt}{rest:List Stmt}{u w:TS}(h1:Bx (PS X st u))(h2:Bx (PSs X rest w)):Bx (PSs X (st::rest) (uo u w)):=⟨rA h1.out h2.out⟩
theorem sone{st:Stmt}{u:TS}(h1:Bx (PS X st u)):Bx (PSs X [st] u):=⟨vO h1.out⟩
end
end B
def uf(_ j:Int):Prop:=0 < j/\j < 18446744073709551616
theorem fk{X:Cx}:OpR X (binaryOp .FloorDiv) (rI uf fun i j=>.int (i / j)):=opI fun i j _ _ _ _ _ hc q=>by
 have h1:(0:Int) < j:=hc.1;have h2:j < 18446744073709551616:=hc.2;have h3:j.natAbs.log2 < 64:=(Nat.log2_lt (by omega)).mpr (by omega)
 exact floordiv_int (by omega) (by rw[Int.fdiv_eq_ediv_of_nonneg i (by omega)];exact q) (.inl (PyProof.noPylong_of_log2 (by omega)))
section
variable{D:eM}{Z:L2.St}{H:Hp}{Q:VK}{v:V}{K:W.Frag}
theorem wAsg{te:TE}{g:TG}(h:te Z H fun x H1=>g x Z H1 D.nx):si te g D Z H:=h
theorem wName{i:Nat}{Q:L2.St->Hp->Prop}(h:Q (Z.set i (some v)) H):mB i v Z H Q:=h
theorem wSub{to ti:TE}{t:qF}{Q:L2.St->Hp->Prop}(h:to Z H fun o H1=>ti Z H1 fun i H2=>t o i v H2 fun H3=>Q Z H3):y9 to ti t v Z H Q:=h
theorem wr{p:Addr}{xs:List V}{i:Int}{j:Nat}{Q:Hp->Prop}(e:H p=some (.lst xs))(hj:ixN xs.length i=some j)(h:Q (upd H p (.lst (xs.set j v)))):dk (.ref p) (.int i) v H Q:=⟨p,xs,i,j,rfl,rfl,e,hj,h⟩
theorem wDrop{te:TE}(h:te Z H fun _ H1=>D.nx Z H1):oj te D Z H:=h
theorem wRet{te:TE}(h:te Z H D.rt):vL te D Z H:=h
theorem wRetN(h:D.rt .non H):rV D Z H:=h
theorem wNext(h:D.nx Z H):sV D Z H:=h
theorem wIfS{c:TT}{t u:TS}(h:c Z H fun b H1=>if b=true then t D Z H1 else u D Z H1):yO c t u D Z H:=h
theorem Cb{i:Nat}(e:Z[i]?=some (some v))(h:Q v H):gx i Z H Q:=⟨v,e,h⟩
theorem wC(h:Q v H):tC v Z H Q:=h
theorem wOp{r:R2}{ta tb:TE}(h:ta Z H fun x H1=>tb Z H1 fun y H2=>r x y H2 Q):tOp r ta tb Z H Q:=h
theorem wUn{r:V->Hp->VK->Prop}{ta:TE}(h:ta Z H fun x H1=>r x H1 Q):tUn r ta Z H Q:=h
theorem wU{g:Int->V}{i:Int}(h:Q (g i) H):rU g (.int i) H Q:=⟨i,rfl,h⟩
theorem wI0{g:Int->Int->V}{i j:Int}(h:Q (g i j) H):rI0 g (.int i) (.int j) H Q:=⟨i,j,rfl,rfl,h⟩
theorem AN{g:Int->Int->V}{i j:Int}(c:0 < j)(h:Q (g i j) H):rI (fun _ j=>0 < j) g (.int i) (.int j) H Q:=⟨i,j,rfl,rfl,c,h⟩
theorem zG{g:Int->Int->V}{i j:Int}(c:0 < j/\j < 18446744073709551616)(h:Q (g i j) H):rI uf g (.int i) (.int j) H Q:=⟨i,j,rfl,rfl,c,h⟩
theorem BN{g:Int->Int->V}{i j:Int}(c:(-18446744073709551616 < i/\i < 18446744073709551616)∨(-18446744073709551616 < j/\j < 18446744073709551616))(h:Q (g i j) H):rI rJ g (.int i) (.int j) H Q:=⟨i,j,rfl,rfl,c,h⟩
theorem Ck{g:Int->Int->V}{i j:Int}(c:0<=j/\j<=1000000/\i.natAbs < 2 ^ 64)(h:Q (g i j) H):rI yB g (.int i) (.int j) H Q:=⟨i,j,rfl,rfl,c,h⟩
theorem wEqI{i j:Int}(h:Q (.bl (decide (V.int i=V.int j))) H):rEq (.int i) (.int j) H Q:=⟨rfl,h⟩
theorem wNeI{i j:Int}(h:Q (.bl (!decide (V.int i=V.int j))) H):rNe (.int i) (.int j) H Q:=⟨rfl,h⟩
theorem wTest{te:TE}{Q:Bool->Hp->Prop}(h:te Z H fun x H'=>∃ k,x=.bl k/\Q k H'):kW te Z H Q:=h
theorem wB{te:TE}{Q:Bool->Hp->Prop}(h:te Z H fun x H'=>∃ k,x=.bl k/\Q k H'):tB te Z H Q:=h
theorem wBl{b:Bool}{Q:Bool->Prop}(h:Q b):∃ k,V.bl b=.bl k/\Q k:=⟨b,rfl,h⟩
theorem wNot{t:TT}{Q:Bool->Hp->Prop}(h:t Z H fun c H1=>Q (!c) H1):xV t Z H Q:=h
theorem wNotV{ta:TE}(h:ta Z H fun x H1=>∃ c,x=.bl c/\Q (.bl (!c)) H1):tf ta Z H Q:=h
theorem wAndV{ta tb:TE}(h:ta Z H fun x H1=>∃ c,x=.bl c/\if c=true then tb Z H1 Q else Q (.bl false) H1):tZ ta tb Z H Q:=h
theorem wOrV{ta tb:TE}(h:ta Z H fun x H1=>∃ c,x=.bl c/\if c=true then Q (.bl true) H1 else tb Z H1 Q):x_ ta tb Z H Q:=h
theorem ce{p:Addr}{xs:List V}{i:Int}(e:H p=some (.lst xs))(a:atI xs i=some v)(h:Q v H):fA K (.ref p) (.int i) H Q:=⟨p,xs,i,v,rfl,rfl,SqL.of e,a,h⟩
theorem nO{p:Addr}{xs:List V}{i:Int}(e:H p=some (.tup xs))(a:atI xs i=some v)(h:Q v H):fe K (.ref p) (.int i) H Q:=⟨p,xs,i,v,rfl,rfl,SqT.of e,a,h⟩
theorem wNil{Q:List V->Hp->Prop}(h:Q [] H):c9 Z H Q:=h
theorem wCons{ta:TE}{tr:TA}{Q:List V->Hp->Prop}(h:ta Z H fun x H1=>tr Z H1 fun xs H2=>Q (x::xs) H2):bU ta tr Z H Q:=h
theorem wLst{t:TA}(h:t Z H fun xs H1=>xs.length<=sizeLine /\ ∀ p,H1 p=none->Q (.ref p) (upd H1 p (.lst xs))):rL t Z H Q:=h
theorem wTup{t:TA}(h:t Z H fun xs H1=>xs.length<=sizeLine /\ ∀ p,H1 p=none->Q (.ref p) (upd H1 p (.tup xs))):gA t Z H Q:=h
theorem wBM{T:String}{r:V->List V->Hp->VK->Prop}{to:TE}{t:TA}(h:to Z H fun x H1=>tyV K T x H1/\t Z H1 fun xs H2=>r x xs H2 Q):tBM K T r to t Z H Q:=h
theorem wCall{sp:Sp}{E:XK}{t:TA}(h:t Z H fun vs H1=>sp (vs++[]) H1 Q E):hV sp [] E t Z H Q:=h
theorem wCB{r:List V->Hp->VK->Prop}{t:TA}(h:t Z H fun vs H1=>r vs H1 Q):tCB r t Z H Q:=h
end
end SW
namespace SW
open PySem PySem.NumText
set_option maxHeartbeats 4000000 in
section
variable{prog:Program}{w:World}{A:Around}{E:Value->Shared->Prop}{s:Shared}{Q:Value->Shared->Prop}{x:PySem.Str}{t u:Tok}
end
end SW
namespace SW
open PySem PySem.Spec PyProof.Rows L2
def Row(H:Hp)(p:Addr):Prop:=∃ a b c:Int,H p=some (.lst [.int a,.int b,.int c])/\0<=b/\b < 536870909
def al(p:Addr)(H H':Hp):Prop:=∀ b o,b≠p->H b=some o->H' b=some o
theorem al.refl(p:Addr)(H:Hp):al p H H:=fun _ _ _ h=>h
theorem al.trans{p:Addr}{H H1 H2:Hp}(a:al p H H1)(b:al p H1 H2):al p H H2:=fun c o n h=>b c o n (a c o n h)
theorem al.new{p q:Addr}{o:HO}{H:Hp}(h:H q=none):al p H (upd H q o):=fun b u _ e=>by
 rw[ag (ai e h)];exact e
theorem al.at{p:Addr}{o:HO}{H:Hp}:al p H (upd H p o):=fun b u n e=>by
 rw[ag n];exact e
theorem ac.new{q:Addr}{o:HO}{H:Hp}(h:H q=none):ac H (upd H q o):=fun b u e=>by
 rw[ag (ai e h)];exact e
theorem ac.but{p:Addr}{H H':Hp}(h:ac H H'):al p H H':=fun b o _ e=>h b o e
theorem Row.same{H H':Hp}{p:Addr}(r:Row H p)(s:ac H H'):Row H' p:=by
 obtain⟨a,b,c,h,h0,h1⟩:=r;exact⟨a,b,c,s _ _ h,h0,h1⟩
theorem Row.new{H:Hp}{p q:Addr}{o:HO}(r:Row H p)(h:H q=none):Row (upd H q o) p:=r.same (ac.new h)
theorem Row.ne{H:Hp}{p q:Addr}{xs:List V}(r:Row H p)(h:H q=some (.tup xs)):q≠p:=by
 obtain⟨a,b,c,e,_⟩:=r;exact aA h e (by intro z;cases z)
theorem Row.ne0{H:Hp}{p q:Addr}(r:Row H p)(h:H q=none):p≠q:=by
 obtain⟨a,b,c,e,_⟩:=r;exact ai e h
def iS:Sp:=fun vs H Q _=>∃ c:Int,vs=[.int c] /\ ∀ p o,H p=none->Row (upd H p o) p->Q (.ref p) (upd H p o)
def cH:Sp:=fun vs H Q _=>∃(p:Addr) (m:Int),vs=[.ref p,.int m]/\0 < m/\m < 18446744073709551616/\Row H p /\ ∀ r o,0<=r->r < m->Row (upd H p o) p->Q (.int r) (upd H p o)
theorem uA{c:Int}{H:Hp}{Q:VK}{E:XK}(k:∀ p o,H p=none->Row (upd H p o) p->Q (.ref p) (upd H p o)):iS ([.int c]++[]) H Q E:=⟨c,rfl,k⟩
theorem bi{p:Addr}{m:Int}{H:Hp}{Q:VK}{E:XK}(hp:Row H p)(h0:0 < m)(h1:m < 18446744073709551616)(k:∀ r H',0<=r->r < m->Row H' p->al p H H'->Q (.int r) H'):cH ([.ref p,.int m]++[]) H Q E:=
 ⟨p,m,rfl,h0,h1,hp,fun r o a b c=>k r _ a b c al.at⟩
def pq:Sp:=fun vs H Q _=>∃ p:Addr,vs=[.ref p]/\Row H p /\ ∀ k H',0<=k->k<=1000000000->Row H' p->al p H H'->Q (.int k) H'
theorem Ae{p:Addr}{H:Hp}{Q:VK}{E:XK}(hp:Row H p)(k:∀ k H',0<=k->k<=1000000000->Row H' p->al p H H'->Q (.int k) H'):pq ([.ref p]++[]) H Q E:=⟨p,rfl,hp,k⟩
def Mix(H:Hp)(t:Addr):Prop:=∃ f m:Int,H t=some (.tup [.int f,.int m])/\0<=f/\f<=65535/\0<=m/\m<=65535
theorem Mix.keep{H H':Hp}{p t:Addr}(h:Mix H t)(r:Row H p)(k:al p H H'):Mix H' t:=by
 obtain⟨f,m,e,b⟩:=h;exact⟨f,m,k _ _ (r.ne e) e,b⟩
theorem Mix.same{H H':Hp}{t:Addr}(h:Mix H t)(k:ac H H'):Mix H' t:=by
 obtain⟨f,m,e,b⟩:=h;exact⟨f,m,k _ _ e,b⟩
def lV:Sp:=fun vs H Q _=>∃ p:Addr,vs=[.ref p]/\Row H p /\ ∀ t H',Mix H' t->Row H' p->al p H H'->Q (.ref t) H'
theorem zt{p:Addr}{H:Hp}{Q:VK}{E:XK}(hp:Row H p)(k:∀ t H',Mix H' t->Row H' p->al p H H'->Q (.ref t) H'):lV ([.ref p]++[]) H Q E:=⟨p,rfl,hp,k⟩
theorem cb{α:Type}{xs:List α}{i:Int}(h0:0<=i)(h1:i < xs.length):∃ v,atI xs i=some v/\v∈xs:=by
 obtain⟨j,rfl⟩:=Int.eq_ofNat_of_zero_le h0;have hj:j < xs.length:=by omega
 exact⟨xs[j],bH (by simp[hj]),List.getElem_mem hj⟩
theorem al.upd{p q:Addr}{o:HO}{H H':Hp}(k:al p H H')(h:H q=none):al p H (upd H' q o):=fun b u n e=>by
 rw[ag (ai e h)];exact k b u n e
theorem Mix.upd{H:Hp}{q t:Addr}{o:HO}{xs:List V}(m:Mix H t)(h:H q=some (.lst xs)):Mix (L2.upd H q o) t:=by
 obtain⟨f,z,e,b⟩:=m;refine⟨f,z,?_,b⟩;rw[ag (aA e h (by intro z;cases z))];exact e
theorem Row.upd{H:Hp}{p q:Addr}{o:HO}(r:Row H p)(h:p≠q):Row (L2.upd H q o) p:=by
 obtain⟨a,b,c,e,z⟩:=r;exact⟨a,b,c,by rw[ag h];exact e,z⟩
def ir(H:Hp)(xs:List V):Prop:=∀ v∈xs,∃ t,v=V.ref t/\Mix H t
theorem ir.nil{H:Hp}:ir H []:=fun _ h=>nomatch h
theorem ir.more{H H':Hp}{xs:List V}(h:ir H xs)(t:Addr)(m:Mix H' t)(k:∀ t,Mix H t->Mix H' t):ir H' (xs++[V.ref t]):=fun v hv=>by
 rcases List.mem_append.mp hv with q | q
 . obtain⟨u,e,z⟩:=h v q
   exact⟨u,e,k u z⟩
 exact⟨t,List.mem_singleton.mp q,m⟩
theorem ir.map{H H':Hp}{xs:List V}(h:ir H xs)(k:∀ t,Mix H t->Mix H' t):ir H' xs:=fun v hv=>by
 obtain⟨u,e,z⟩:=h v hv;exact⟨u,e,k u z⟩
theorem ir.new{H:Hp}{xs:List V}(h:ir H xs)(t:Addr)(f m:Int)(ht:H t=none)(b:0<=f/\f<=65535/\0<=m/\m<=65535):ir (L2.upd H t (.tup [.int f,.int m])) (xs++[V.ref t]):=
 h.more t ⟨f,m,aa,b⟩ fun _ z=>z.same (ac.new ht)
section
variable{X:Cx}
theorem bx:bP X (.builtin "isinstance") (fun xs H Q=>∃ x T t b,xs=[x,.ty T]/\eQ X.K H x t/\W.kitOne X.K t (.type T)=some b/\Q (.bl b) H):=by
 intro pins s Z H xs us Q I r h;obtain⟨x,T,t,b,rfl,ty,e,q⟩:=h;obtain⟨u,v,rfl,ru,rv⟩:=l7 r;cases (show v=Value.type T from rv);exact pU I ru ty e fun tk=>⟨.bl b,H,I.tok tk,rfl,q⟩
end
section
variable{D:eM}{Z:L2.St}{H:Hp}{Q:VK}{v:V}{K:W.Frag}
theorem wFor{wi:TI}{g:TG}{tb:TS}(h:wi Z H fun J H1=>∃ W:Nat->Nat->L2.St->Hp->Prop,(∃ m,W 0 m Z H1) /\ ∀ i m Z H,W i m Z H ->
 (J.stop i H/\D.nx Z H)∨(J.go i H /\ ∃ N:L2.St->Hp->Prop,(∀ Z' H',N Z' H' -> ∃ m',m' < m/\W (i+1) m' Z' H') /\ ∀ x H',J.yld i H x H'->g x Z H' fun Z2 H2=>tb { D with nx:=N,ct:=N,bk:=D.nx } Z2 H2)):zn wi g tb D Z H:=h
theorem wIList{tl:TE}{R:It->Hp->Prop}(h:tl Z H fun x H1=>∃ a,x=.ref a/\(∃ xs,SqL K H1 a xs)/\R (Itl K a) H1):oA K tl Z H R:=h
theorem wRng1{ta:TA}{R:It->Hp->Prop}(h:ta Z H fun vs H1=>∃ j:Int,vs=[.int j] /\ -(2 ^ 62)<=j/\j < 2 ^ 62/\R (Itr 0 j.toNat) H1):o8 ta Z H R:=h
theorem s_(ns:List Int)(lo hi:Option Int):∃ cs:List Int,bQ (ns.map V.int) lo hi=cs.map V.int/\cs.length<=ns.length:=by
 unfold bQ;rw[← List.map_drop,← List.map_take];exact⟨_,rfl,by rw[List.length_take,List.length_drop];omega⟩
end
theorem c5{c A B:Prop}[Decidable c](hc:c)(h:A):if decide c=true then A else B:=by
 rw[decide_eq_true hc];exact az h
theorem xC{cs:List Int}{i:Nat}{y:V}(h:(cs.map V.int)[i]?=some y):∃ c,y=V.int c:=by
 rw[List.getElem?_map]at h;cases e:cs[i]? with
 | none=>rw[e]at h;cases h
 | some z=>rw[e]at h;exact⟨z,(Option.some.inj h).symm⟩
def oM(K:W.Frag):Sp:=fun vs H Q _=>∃(a:Addr) (ns:List Int),vs=[.ref a]/\SqL K H a (ns.map V.int)/\ns.length<=63 /\ ∀ H',Q (.bl true) H'
section
variable{H:Hp}{Q:VK}
theorem wInt1{k:Bool}{P:Int->Prop}(h:P (if k=true then 1 else 0)):(∃ i,[V.bl k]=[V.int i]/\P i) ∨ ∃ k',[V.bl k]=[V.bl k']/\P (if k'=true then 1 else 0):=.inr ⟨k,rfl,h⟩
end
theorem BI(a b:Int):decide (V.int a=V.int b)=decide (a=b):=by
 by_cases h:a=b
 . rw[decide_eq_true h,decide_eq_true (congrArg V.int h)]
 rw[decide_eq_false h,decide_eq_false (fun z=>h (V.int.inj z))]
section
variable{D:eM}{Z:L2.St}{H:Hp}{Q:VK}
theorem wAnd{t u:TT}{Q:Bool->Hp->Prop}(h:t Z H fun c H1=>if c=true then u Z H1 Q else Q false H1):y4 t u Z H Q:=h
theorem wOr{t u:TT}{Q:Bool->Hp->Prop}(h:t Z H fun c H1=>if c=true then Q true H1 else u Z H1 Q):tOr t u Z H Q:=h
theorem wChain{r r':R2}{ta tb tc:TE}(h:ta Z H fun x H1=>tb Z H1 fun y H2=>r x y H2 fun z H3=>∃ k,z=.bl k/\(if k=true then tc Z H3 fun w' H4=>r' y w' H4 Q else Q (.bl false) H3)):jo r r' ta tb tc Z H Q:=h
end
theorem bK{c A B:Prop}[Decidable c](hc:¬ c)(h:B):if decide c=true then A else B:=by
 rw[decide_eq_false hc];exact ao h
theorem bR{c A B:Prop}[Decidable c](hc:¬ c)(h:A):if(!decide c)=true then A else B:=by
 rw[decide_eq_false hc];exact az h
theorem uq{b:Bool}{A B:Prop}(h1:b=true->A)(h2:b=false->B):if b=true then A else B:=by
 cases b with
 | true=>exact az (h1 rfl)
 | false=>exact ao (h2 rfl)
theorem vi{a b:Int}:V.int a=V.int b ↔ a=b:=⟨V.int.inj,congrArg _⟩
def lw:Sp:=fun vs H Q _=>∃(k:Int) (t:Addr) (f m:Int),vs=[.int k,.ref t]/\H t=some (.tup [.int f,.int m])/\(0<=f/\f<=65535)/\Q (.int ((k*f+m) % 65536)) H
def iF:Sp:=fun vs H Q _=>∃ m s:Int,vs=[.int m,.int s]/\0 < s/\Q (.int (m % s)) H
theorem wJ{k:Int}{t:Addr}{f m:Int}{H:Hp}{Q:VK}{E:XK}(h:H t=some (.tup [.int f,.int m]))(b:0<=f/\f<=65535)(q:Q (.int ((k*f+m) % 65536)) H):lw ([.int k,.ref t]++[]) H Q E:=⟨k,t,f,m,rfl,h,b,q⟩
theorem qK{m s:Int}{H:Hp}{Q:VK}{E:XK}(h:0 < s)(q:Q (.int (m % s)) H):iF ([.int m,.int s]++[]) H Q E:=⟨m,s,rfl,h,q⟩
def aD(X:Cx)(scope:Scope)(cl:List (Str×Addr))(N':List Str)(s:Shared)(H:Hp)(fp:List Addr)(pins:List (Addr×Obj)):Cx:=
 { X with N:=N',s₀:=s,H₀:=H,env:=compEnvC scope cl s.heap.objs.size X.env,outer:=X.stack,stack:=X.stack,ex:=fp,fn:=fun _=>false,pn:=X.pn++pins,xe:=fun _ _=>False }
structure ax(X:Cx)(scope:Scope)(cl:List (Str×Addr))(x:Str)(js:List Nat)(N':List Str):Prop where
 clos:closureFor scope X.env=pure cl
 kind:scope.kind=.function
 nocell:∀ y∈scope.names,y.2 ≠ .cell
 names:∀ y∈scope.names,y.2=.local->scope.names.lookup y.1=some .local
 own:scope.names.lookup x=some .local
 sub:∀ p∈cl,X.env.cells.lookup p.1=some p.2
 has:∀ y,((relabel scope X.env).names.lookup y=some .cell∨(relabel scope X.env).names.lookup y=some .free) -> ∃ c,cl.lookup y=some c
 nm:N'=x::js.map fun j=>X.N.getD j Str.empty
 see:∀(i j:Nat),js[i]?=some j -> ∃ y,X.N[j]?=some y/\(X.env.kindOf y=some .cell∨X.env.kindOf y=some .free)/\((relabel scope X.env).names.lookup y=some .cell∨(relabel scope X.env).names.lookup y=some .free)
def seen(Z:L2.St)(js:List Nat):L2.St:=none::js.map fun j=>Z.getD j none
section
variable{X:Cx}{scope:Scope}{cl:List (Str×Addr)}{x:Str}{js:List Nat}{N':List Str}{pins:List (Addr×Obj)}{Z:L2.St}{H:Hp}{s:Shared}{fp:List Addr}
theorem ax.sub'(S:ax X scope cl x js N'){y:Str}{c:Addr}(h:cl.lookup y=some c):X.env.cells.lookup y=some c:=S.sub (y,c) (PySem.mem_of_lookup h)
theorem pB(S:ax X scope cl x js N')(I:Inv X pins Z H s)(hf:∀ b∈fp,dN X pins H b)(ho:∀ b∈fp,b < s.heap.objs.size):(aD X scope cl N' s H fp pins).Ok where
 mod:=I.ok.mod
 kind:=S.kind
 glob:=I.ok.glob
 blt:=I.ok.blt
 above:=Nat.le_refl _
 inj:=fun y z c h1 h2=>I.ok.inj y z c (S.sub' h1) (S.sub' h2)
 has:=fun y h=>S.has y h
 cab:=fun y c h=>absurd h Bool.false_ne_true
 hd:=I.ok.hd
 frames:=I.ok.frames
 stk:=.inl rfl
 exf:=fun b hb=>⟨Nat.ne_of_lt (ho b hb),fun y c h=>(hf b hb).2.2.2.2.1 y c (S.sub' h)⟩
 bs:=I.bs
 bsz:=Nat.le_trans I.ok.bsz I.sz
 noex:=fun b o e hb=>by
  rcases(hf b hb).2.2.2.1 with z | z
  . exact I.ok.noex b o e z
  exact absurd (Nat.lt_of_lt_of_le (Heap.lt_size (I.ok.bs b o e).1) z) (Nat.lt_irrefl _)
 exfs:=fun b hb z=>by
  rcases List.mem_cons.mp (I.stkSub b z)with e | e
  . exact(hf b hb).2.1 e
  exact(hf b hb).2.2.1 e
 funs:=I.stack
 frf:=I.stkFree
theorem qU(S:ax X scope cl x js N')(I:Inv X pins Z H s)(hf:∀ b∈fp,dN X pins H b)(ho:∀ b∈fp,b < s.heap.objs.size){s4:Shared}{m:Str->Option Value}(hos:s4.os=s.os)(hg:s4.gens=s.gens)
 (hn:s4.heap.Ns s.heap.objs.size m) (hk:∀ b o,s.heap.get? b=some o->s4.heap.get? b=some o):Inv (aD X scope cl N' s H fp pins) [] (seen Z js) H s4 where
 ok:=pB S I hf ho
 os:=hos
 bare:=by rw[hg];exact I.bare
 base:=Un.kept hk
 loc:=by
  obtain⟨mX,_,hl⟩:=I.loc;refine⟨m,hn,fun i y v h1 h2 h3=>?_⟩;cases i with
  | zero=>
    unfold seen at h2;simp at h2
  | succ i=>
    have h1':N'[i+1]?=some y:=h1;rw[S.nm,List.getElem?_cons_succ,List.getElem?_map]at h1';unfold seen at h2;rw[List.getElem?_cons_succ,List.getElem?_map]at h2;cases ej:js[i]? with
    | none=>rw[ej]at h2;cases h2
    | some j=>
      rw[ej]at h1' h2;obtain⟨z,hz,k1,k2⟩:=S.see i j ej;have ey:z=y:=by
       have:X.N.getD j Str.empty=y:=Option.some.inj h1';rw[List.getD_eq_getElem?_getD,hz]at this;exact this
      subst ey;have ev:Z[j]?=some (some v):=by
       have q:Z.getD j none=some v:=Option.some.inj h2;rw[List.getD_eq_getElem?_getD]at q;cases e:Z[j]? with
       | none=>rw[e]at q;cases q
       | some w'=>rw[e]at q;exact congrArg some q
      have kx:X.env.scope.names.lookup z=some .cell∨X.env.scope.names.lookup z=some .free:=k1;obtain⟨u,r,l⟩:=hl j z v hz ev (.inr kx);refine⟨u,r,.inr ⟨k2,?_⟩⟩;obtain⟨c,hc⟩:=S.has z k2;rcases l with ⟨kl,_⟩ | ⟨_,c',e',cell⟩
      . rcases k1 with k1 | k1 <;> rw[k1]at kl <;> cases kl
      have:c'=c:=Option.some.inj (e'.symm.trans (S.sub' hc));subst this;obtain⟨o,q1,q2⟩:=cell;exact⟨c',hc,o,hk _ _ q1,q2⟩
 cell:=fun y c h=>by
  obtain⟨v,o,q1,q2⟩:=I.cell y c (S.sub' h);exact⟨v,o,hk _ _ q1,q2⟩
 free:=I.hok.fresh (Nat.le_refl _)
 freeC:=fun y c h=>I.freeC y c (S.sub' h)
 pin:=fun p hp=>by
  have hp':p∈X.pn++pins:=by
   have q:p∈(X.pn++pins)++[]:=hp;rw[List.append_nil]at q;exact q
  obtain⟨e,n,ne,nf,d⟩:=I.pin p hp';refine⟨hk _ _ e,n,Nat.ne_of_lt (Heap.lt_size e),fun z=>?_,d⟩;rcases List.mem_cons.mp (I.stkSub p.1 z)with q | q
  . exact ne q
  exact nf q
 hok:=I.hok.kept hk
 len:=by
  show(seen Z js).length=N'.length;rw[S.nm];unfold seen;simp
theorem kK{s':Shared}{Z':L2.St}{H':Hp}{h':Heap}(I:Inv X pins Z H s)(hf:∀ b∈fp,dN X pins H b)(J:Inv (aD X scope cl N' s H fp pins) [] Z' H' s')(hs:Heap.SameBut s.heap.objs.size s'.heap h') :
 Inv X pins Z H' { s' with heap:=h' }:=by
 have ne:∀ b o,s.heap.get? b=some o->b≠s.heap.objs.size:=fun b o e=>Nat.ne_of_lt (Heap.lt_size e);have u0:Un (frs X.stack) fp H H' s.heap s'.heap:=J.base;have u:Un (frs X.stack) fp H H' s.heap h':=
  ⟨fun b o e n h1 h2=>(hs.2 b (ne b o e)).trans (u0.keep b o e n h1 h2),fun b o e n h1 h2=>let⟨sl,q⟩:=u0.slot b o e n h1 h2;⟨sl,(hs.2 b (ne b o e)).trans q⟩,u0.free,
   fun b o e h2=>let⟨o',q⟩:=u0.there b o e h2;⟨o',(hs.2 b (ne b o e)).trans q⟩,u0.tups,u0.frzs,u0.tbls⟩
 have hfree:H' s.heap.objs.size=none:=J.free;have hok:HOk X.prog X.w H' h':=fun b ob e=>by
  refine(J.hok b ob e).stay (fun c w' hc q=>(hs.2 c ?_).trans q) (fun _ q=>q) fun _ _ q=>q;rintro rfl;rcases hc with rfl | hc
  . rw[hfree]at e;cases e
  rw[hfree]at hc;cases hc
 exact I.call' (s':={ s' with heap:=h' }) J.os u hok J.bare fun b hb=>⟨(hf b hb).2.2.2.1,(hf b hb).2.1,(hf b hb).2.2.2.2.1,(hf b hb).2.2.2.2.2⟩
end
theorem kD{prog:Program}{w:World}{A:Around}{R:Result->Shared->Prop}{s:Shared}{elt target iter:Expr}{ifs:List Expr}{scope:Scope}{pos:Pos}{it acc:Value}{env:Env}(I:Nat->Shared->Prop)
 (turn:∀ n s,I n s->wpAny (model prog w) A (pyNext it) (fun r s₁=>match r with
  | none=>R (.ok .next) s₁
  | some v=>wpAny (model prog w) A (letOwnedTupleGo target it v) (fun _ s₁'=>wpAny (model prog w) A (assign target env v) (fun _ s₂=>
   wpAny (model prog w) A (forIn ifs true fun c r=>if r=true then do let ok ← isTrue c env (eval c env);pure (ForInStep.yield ok)else pure (ForInStep.yield r)) (fun ok s₃=>
    if ok=true then wpAny (model prog w) A (eval elt env) (fun x s₄=>
     wpAny (model prog w) A (call (.builtin "list.append") [acc,x]) (fun _ s₅=>∃ m,m < n/\I m s₅) (fun _ _=>False) s₄) (fun _ _=>False) s₃
    else ∃ m,m < n/\I m s₃) (fun _ _=>False) s₂) (fun _ _=>False) s₁') (fun _ _=>False) s₁) (fun _ _=>False) s)
 (n:Nat) (h:I n s):codeAny (model prog w) A (.compLoop (.ListComp elt [⟨target,iter,ifs,0⟩] scope pos) 0 it acc env) R s:=by
 refine codeAny_loop rfl I (fun n s hI=>?_) n h;show wpAny _ A ((compTurn (.ListComp elt [⟨target,iter,ifs,0⟩] scope pos) 0 it acc env).onRaise (fun x=>do noteFrame x env;theTreesLotGoes x)) _ _ s;refine wpAny_noted ?_;rw[compTurn_list];refine wpAny_bind (wpAny_standAt (wpAny_bind (wpAny_mono (turn n s hI) (fun r s₁ h₁=>?_) fun _ _ h'=>h'.elim)));cases r with
 | none=>exact wpAny_pure h₁
 | some v=>
   refine wpAny_bind (wpAny_mono h₁ (fun _ s₁' h₁'=>?_) fun _ _ h'=>h'.elim);refine wpAny_bind (wpAny_mono h₁' (fun _ s₂ h₂=>wpAny_bind (wpAny_mono h₂ (fun ok s₃ h₃=>?_) fun _ _ h'=>h'.elim)) fun _ _ h'=>h'.elim);cases ok with
   | false=>exact wpAny_pure ⟨rfl,h₃⟩
   | true=>
     exact wpAny_bind (wpAny_bind (wpAny_mono h₃ (fun x s₄ h₄=>wpAny_bind (wpAny_mono h₄ (fun _ s₅ h₅=>wpAny_pure (wpAny_pure ⟨rfl,h₅⟩)) fun _ _ h'=>h'.elim)) fun _ _ h'=>h'.elim))
def PTs(X:Cx)(ifs:List Expr)(t:TT):Prop:=
 ∀(pins:List (Addr×Obj)) (s:Shared) (Z:L2.St) (H:Hp) (Q:Bool->Hp->Prop) (E:Value->Shared->Prop),(∀ e s',X.xe e s'->E e s')->Inv X pins Z H s->t Z H Q ->
   wpAny (model X.prog X.w) X.A (forIn ifs true fun c r=>if r=true then do let ok ← isTrue c X.env (eval c X.env);pure (ForInStep.yield ok)else pure (ForInStep.yield r)) (TP X pins Z Q) E s
theorem oU{X:Cx}:PTs X [] (fun _ H Q=>Q true H):=fun _ _ _ H _ _ _ I h=>wpAny_tests_nil ⟨H,I,h⟩
theorem oq{X:Cx}{c:Expr}{tc:TT}(hc:PT X c tc):PTs X [c] tc:=fun pins s Z H Q E hE I h=>wpAny_tests_one (wpAny_mono (hc pins s Z H Q I h) (fun _ _ q=>q) hE)
def ku(js:List Nat)(wi:TI)(tt:TT)(te:TE):TE:=fun Z H Q=>wi Z H fun J H1=>∀ D,H1 D=none -> ∃ W:Nat->Nat->L2.St->Hp->Prop,(∃ m,W 0 m (seen Z js) (upd H1 D (.lst []))) /\
 ∀ i m Z' H',W i m Z' H'->(J.stop i H'/\Q (.ref D) H')∨(J.go i H' /\ ∀ x H2,J.yld i H' x H2->tt (Z'.set 0 (some x)) H2 fun ok H3=>
   if ok=true then te (Z'.set 0 (some x)) H3 fun y H4=>∃ ys,H4 D=some (.lst ys)/\ys.length < sizeLine /\ ∃ m',m' < m/\W (i+1) m' (Z'.set 0 (some x)) (upd H4 D (.lst (ys++[y])))
   else ∃ m',m' < m/\W (i+1) m' (Z'.set 0 (some x)) H3)
section
variable{X:Cx}{scope:Scope}{cl:List (Str×Addr)}{x:Str}{js:List Nat}{N':List Str}{elt iter:Expr}{ifs:List Expr}{px pos:Pos}{wi:TI}{tt:TT}{te:TE}
theorem kE{RR:Value->Addr->Result->Shared->Prop}{pins:List (Addr×Obj)}{Z:L2.St}{H2:Hp}{s2:Shared}{Q:VK}{it:Addr}{fp:List Addr}{tn:Nat->Heap->Prop}{J:It}(S:ax X scope cl x js N')(nd:N'.Nodup)(hc:X.calm=true)
 (ht:∀ s H fp pins,PTs (aD X scope cl N' s H fp pins) ifs tt) (he:∀ s H fp pins,PE (aD X scope cl N' s H fp pins) elt te)
 (I2:Inv X pins Z H2 s2) (T:nJ X.prog X.w X.K (.Name x px) J fp it tn) (st2:tn 0 s2.heap) (f2:∀ b∈fp,dN X pins H2 b)
 (k:∀ D,H2 D=none -> ∃ W:Nat->Nat->L2.St->Hp->Prop,(∃ m,W 0 m (seen Z js) (upd H2 D (.lst []))) /\
  ∀ i m Z' H',W i m Z' H'->(J.stop i H'/\Q (.ref D) H')∨(J.go i H' /\ ∀ x H2,J.yld i H' x H2->tt (Z'.set 0 (some x)) H2 fun ok H3=>
    if ok=true then te (Z'.set 0 (some x)) H3 fun y H4=>∃ ys,H4 D=some (.lst ys)/\ys.length < sizeLine /\ ∃ m',m' < m/\W (i+1) m' (Z'.set 0 (some x)) (upd H4 D (.lst (ys++[y])))
    else ∃ m',m' < m/\W (i+1) m' (Z'.set 0 (some x)) H3))
 (fin:∀(D C:Addr) (s6:Shared) (H6:Hp) (m:Str->Option Value),s6.heap.Ns C m->(∀ h',Heap.SameBut C s6.heap h'->Inv X pins Z H6 { s6 with heap:=h' })->H6 C=none->dN X pins H6 C->Q (.ref D) H6->RR (.ref D) C (.ok .next) s6) :
 wpAny (model X.prog X.w) X.A (newList []) (fun acc s₃=>wpAny (model X.prog X.w) X.A (newFunctionEnv scope X.env.globals cl [] X.env.qual none .none (some X.env)) (fun cenv s₄=>
  codeAny (model X.prog X.w) X.A (.compStart (.ListComp elt [⟨.Name x px,iter,ifs,0⟩] scope pos) 0 (.ref it) acc { cenv with scope:=relabel scope X.env }) (RR acc cenv.locals) s₄) X.xe s₃) X.xe s2:=by
 have hDn:H2 s2.heap.objs.size=none:=I2.hok.fresh (Nat.le_refl _);obtain⟨W,⟨m0,w0⟩,turn⟩:=k s2.heap.objs.size hDn;refine wpAny_newObj_type (wpAny_newFunctionEnv S.nocell (by intro y hy;simp at hy) (fun h4 hns4 hsb4=>?_) S.kind) (by show 0<=sizeLine;exact Nat.zero_le _)
 have I3:Inv X pins Z (upd H2 s2.heap.objs.size (.lst [])) { s2 with heap:=s2.heap.push { cls:=.type "list",dict:=none,data:=.seq ([]:List Value).toArray } }:=
  I2.laid (t':=s2.toks) (fun b u e=>Heap.get?_push_of_some _ e) (Nat.le_refl _) ⟨Nat.zero_le _,[],0,.nil,Heap.get?_push_size _ rfl⟩
 have ltf:∀ b∈fp,b < s2.heap.objs.size:=fun b hb=>let⟨o,e,_⟩:=T.obj 0 _ st2 b hb;Heap.lt_size e;have f3:∀ b∈fp,dN X pins (upd H2 s2.heap.objs.size (.lst [])) b:=fun b hb=>⟨by rw[ag (Nat.ne_of_lt (ltf b hb))];exact(f2 b hb).1,(f2 b hb).2⟩
 generalize hH:upd H2 s2.heap.objs.size (.lst [])=H3 at *;generalize hS3:({ s2 with heap:=s2.heap.push { cls:=.type "list",dict:=none,data:=.seq ([]:List Value).toArray } }:Shared)=s3 at *;have o3:∀ b∈fp,b < s3.heap.objs.size:=fun b hb=>by
  rw[← hS3];show b < (s2.heap.push _).objs.size;rw[Heap.size_push];exact Nat.lt_succ_of_lt (ltf b hb)
 have k4:∀ b o,s3.heap.get? b=some o->h4.get? b=some o:=fun b o e=>(hsb4.2 b (Nat.ne_of_lt (Heap.lt_size e))).trans (Heap.get?_push_of_some _ e);have st3:tn 0 s3.heap:=T.keep 0 _ _ st2 fun b hb o e=>by rw[← hS3];exact Heap.get?_push_of_some _ e
 have st4:tn 0 h4:=T.keep 0 _ _ st3 fun b hb o e=>k4 b o e;have I4:Inv (aD X scope cl N' s3 H3 fp pins) [] (seen Z js) H3 { s3 with heap:=h4,toks:=s3.toks+([]:List (Str×Value)).length }:=qU S I3 f3 o3 rfl rfl hns4 k4;have ok:=pB S I3 f3 o3;have fp5:∀{H':Hp},(∀ b∈fp,H' b=none) -> ∀ b∈fp,dN (aD X scope cl N' s3 H3 fp pins) [] H' b:=fun hn b hb=>
  ⟨hn b hb,Nat.ne_of_lt (o3 b hb),ok.exfs b hb,.inl hb,fun y c h=>(f3 b hb).2.2.2.2.1 y c (S.sub' h),fun p hp=>(f3 b hb).2.2.2.2.2 p (by
   have q:p∈(X.pn++pins)++[]:=hp;rw[List.append_nil]at q;exact q)⟩
 have loop:codeAny (model X.prog X.w) X.A (.compLoop (.ListComp elt [⟨.Name x px,iter,ifs,0⟩] scope pos) 0 (.ref it) (.ref s2.heap.objs.size) (compEnvC scope cl s3.heap.objs.size X.env))
  (RR (.ref s2.heap.objs.size) s3.heap.objs.size) { s3 with heap:=h4,toks:=s3.toks+([]:List (Str×Value)).length }:=by
  refine kD (fun n s'=>∃ i Z' H',Inv (aD X scope cl N' s3 H3 fp pins) [] Z' H' s'/\tn i s'.heap/\(∀ b∈fp,H' b=none)/\W i n Z' H') ?_ m0 ⟨0,_,_,I4,st4,fun b hb=>(f3 b hb).1,w0⟩;rintro n s5 ⟨i,Z5,H5,I5,st5,fr5,w5⟩;rcases turn i n Z5 H5 w5 with ⟨stop,q⟩ | ⟨go,step⟩
  . refine wpAny_mono (T.done (aD X scope cl N' s3 H3 fp pins) rfl rfl rfl hc i [] s5 Z5 H5 (fun _ _=>False) I5 (fp5 fr5) st5 stop) (fun r s6 ⟨hr,I6⟩=>?_) (fun _ _ z=>z.elim)
    subst hr;obtain⟨m,hm,_⟩:=I6.loc;exact fin _ _ s6 H5 m hm (fun h' hs'=>kK I3 f3 I6 hs') I6.free (I3.fpOk (Nat.le_refl _) I6.free) q
  refine wpAny_mono (T.item (aD X scope cl N' s3 H3 fp pins) rfl rfl rfl hc i [] s5 Z5 H5 (fun _ _=>False) I5 (fp5 fr5) st5 go) (fun r s6 ⟨u,hr,h6⟩=>?_) (fun _ _ z=>z.elim);subst hr;refine wpAny_mono h6 (fun _ s6 ⟨y,H6,I6,r6,y6,st6,fr6⟩=>?_) (fun _ _ z=>z.elim);have I6':=I6.pinned (fp5 fr6) (T.obj _ _ st6);have again:∀{Z7:L2.St}{H7:Hp}{s7:Shared}{m':Nat},Inv (aD X scope cl N' s3 H3 fp pins) ([]++hJ fp s6.heap) Z7 H7 s7->m' < n->W (i+1) m' Z7 H7 ->
   ∃ m,m < n /\ ∃ i Z' H',Inv (aD X scope cl N' s3 H3 fp pins) [] Z' H' s7/\tn i s7.heap/\(∀ b∈fp,H' b=none)/\W i m Z' H':=fun {Z7 H7 s7 m'} I7 hm w7=>by
   refine⟨m',hm,i+1,Z7,H7,I7.unpinned,T.keep _ _ _ st6 fun b hb o e=>(I7.pin (b,o) (List.mem_append_right _ (List.mem_append_right _ (cF hb e)))).1,fun b hb=>?_,w7⟩;obtain⟨o,e,d⟩:=T.obj _ _ st6 b hb;exact(I7.pin (b,o) (List.mem_append_right _ (List.mem_append_right _ (cF hb e)))).2.1
  have step':=step y H6 y6;refine wpAny_mono (lD (X:=aD X scope cl N' s3 H3 fp pins) (i:=0) (x:=x) (pos:=px) nd (by show N'[0]?=some x;rw[S.nm];rfl) (.inl (lookup_relabel_local S.own)) (.inr (lookup_relabel_local S.own)) _ s6 Z5 H6 y u
   (fun Z' H'=>Z'=Z5.set 0 (some y)/\H'=H6) I6' r6 ⟨rfl,rfl⟩) (fun _ s7 ⟨Z7,H7,I7,e7,eH⟩=>?_) (fun _ _ z=>z.elim)
  subst e7;subst eH;refine wpAny_mono (ht s3 H3 fp pins _ s7 _ H7 _ (fun _ _=>False) (fun _ _ z=>z) I7 step') (fun okk s8 ⟨H8,I8,q8⟩=>?_) (fun _ _ z=>z.elim);cases okk with
  | false=>
    obtain⟨m',hm,w8⟩:=q8;exact again I8 hm w8
  | true=>
    refine wpAny_mono (he s3 H3 fp pins _ s8 _ H8 _ I8 q8) (fun ev s9 ⟨z,H9,I9,r9,ys,hys,hlen,m',hm,w9⟩=>?_) (fun _ _ z=>z.elim);refine wpAny_mono (cE (X:=aD X scope cl N' s3 H3 fp pins) _ s9 _ H9 (.ref s2.heap.objs.size) [z] (.ref s2.heap.objs.size) [ev] (fun _ H'=>H'=upd H9 s2.heap.objs.size (.lst (ys++[z]))) I9 rfl (.cons r9 .nil)
     ⟨_,ys,z,rfl,rfl,hys,hlen,rfl⟩) (fun _ s10 ⟨_,H10,I10,_,e10⟩=>?_) (fun _ _ z=>z.elim)
    subst e10;exact again I10 hm w9
 exact codeAny_compStart_list loop (T.self X.A 0 _ _ _ st4 loop)
theorem pk(S:ax X scope cl x js N')(nd:N'.Nodup)(hc:X.calm=true)(hi:PI X (.Name x px) iter wi)
 (ht:∀ s H fp pins,PTs (aD X scope cl N' s H fp pins) ifs tt) (he:∀ s H fp pins,PE (aD X scope cl N' s H fp pins) elt te)
 (hs:∀ x,foldedSetIterable iter X.env x=pure x:=by intro _;rfl):PE X (.ListComp elt [⟨.Name x px,iter,ifs,0⟩] scope pos) (ku js wi tt te):=by
 intro pins s Z H Q I h;rw[eval_ListComp];refine wpAny_comprehension_free (use:=none) rfl hs S.clos S.kind S.names (thn (hi pins s Z H _ I h) fun v s1 h1=>thn h1 fun itv s2 h2=>?_);obtain⟨it,fp,tn,J,H2,e,I2,T,st2,f2,k⟩:=h2;subst e;exact kE (RR:=fun acc C=>compPost (model X.prog X.w) X.A X.xe none (EP X pins Z Q) acc C) S nd hc ht he I2 T st2 f2 k fun D C s6 H6 m hm back _ _ q=>⟨m,hm,fun h' hs'=>⟨.ref D,H6,back h' hs',rfl,q⟩⟩
def iV(i:Nat)(t:TE):TS:=fun D Z H=>t Z H fun v H1=>D.nx (Z.set i (some v)) H1
theorem nj{i:Nat}{y:Str}{py spos:Pos}(S:ax X scope cl x js N')(nd:N'.Nodup)(hc:X.calm=true)(hi:PI X (.Name x px) iter wi)
 (ht:∀ s H fp pins,PTs (aD X scope cl N' s H fp pins) ifs tt) (he:∀ s H fp pins,PE (aD X scope cl N' s H fp pins) elt te)
 (hN:X.N.Nodup) (hy:X.N[i]?=some y) (hl:Loc X.env.scope y) (hf:X.fn y=true∨X.env.scope.names.lookup y=some .local)
 (hsw:swapsWith (.ListComp elt [⟨.Name x px,iter,ifs,0⟩] scope pos) (some (.Name y py)) spos.line X.env=pure true)
 (hs:∀ x,foldedSetIterable iter X.env x=pure x:=by intro _;rfl):PS X (.Assign [.Name y py] (.ListComp elt [⟨.Name x px,iter,ifs,0⟩] scope pos) spos) (iV i (ku js wi tt te)):=by
 intro pins s Z H D I h;rw[exec_Assign_Name_used _ _ _ _ hsw];refine wpAny_bind (wpAny_standAt (wpAny_bind ?_));show wpAny _ X.A (do let _ ← comprehension (.ListComp elt [⟨.Name x px,iter,ifs,0⟩] scope pos) scope X.env _ (newList []) false (eval iter X.env) (some (assign (.Name y py) X.env))) _ _ s;refine wpAny_bind (wpAny_mono (wpAny_comprehension_free (use:=some (assign (.Name y py) X.env)) (Q:=fun _ s'=>SP X pins D .next s') rfl hs S.clos S.kind S.names
  (thn (hi pins s Z H _ I h) fun v s1 h1=>thn h1 fun itv s2 h2=>?_)) (fun _ s' hq=>wpAny_pure (wpAny_pure hq)) fun _ _ e=>e)
 obtain⟨it,fp,tn,J,H2,e,I2,T,st2,f2,k⟩:=h2;subst e;refine kE (Q:=fun v H1=>D.nx (Z.set i (some v)) H1) (RR:=fun acc C=>compPost (model X.prog X.w) X.A X.xe (some (assign (.Name y py) X.env)) (fun _ s'=>SP X pins D .next s') acc C) S nd hc ht he I2 T st2 f2 k fun A C s6 H6 m hm back hC fC q=>?_;have I6:Inv X pins Z H6 s6:=back s6.heap (Heap.SameBut.refl ..);obtain⟨oC,es,ep,hoC,hdC,hr⟩:=id hm;have I7:Inv X (pins++[(C,oC)]) Z H6 s6:=I6.pins_of fun p hp=>by
  rcases List.mem_append.mp hp with z | z
  . exact I6.pin p (List.mem_append_right _ z)
  rw[List.mem_singleton.mp z];exact⟨hoC,hC,fC.2.1,fC.2.2.1,fun v e=>by rw[hdC]at e;cases e⟩
 show wpAny _ X.A (assign (.Name y py) X.env (.ref A)) _ _ s6;refine thn (lD hN hy hl hf _ s6 Z H6 (.ref A) (.ref A) (fun Z' H'=>Z'=Z.set i (some (.ref A))/\H'=H6) I7 rfl ⟨rfl,rfl⟩) fun _ s8 zz=>?_;obtain⟨Z8,H8,I8,e8,e9⟩:=zz;subst e8;subst e9;have h8:s8.heap.get? C=some oC:=(I8.pin (C,oC) (List.mem_append_right _ (List.mem_append_right _ (List.mem_singleton.mpr rfl)))).1;refine⟨m,⟨oC,es,ep,h8,hdC,hr⟩,fun h' hs'=>⟨_,H8,?_,q⟩⟩;have I9:Inv X pins (Z.set i (some (.ref A))) H8 s8:=I8.pins_of fun p hp=>I8.pin p (List.mem_append_right _ (List.mem_append_left _ hp));exact I9.turned (t':=s8.toks) (fun b o hb e=>(hs'.2 b hb).trans e) hC fC.2.1 fC.2.2.2.1 fC.2.2.2.2.1 fC.2.2.2.2.2
end
def ki(cells:List (Str×Addr)):List (Str×Addr)->Prop
 | []=>True
 | p::r=>cells.lookup p.1=some p.2/\ki cells r
theorem ki.all{cells:List (Str×Addr)}:∀{cl:List (Str×Addr)},ki cells cl -> ∀ p∈cl,cells.lookup p.1=some p.2
 | _::_,h,p,hp=>by
   rcases List.mem_cons.mp hp with rfl | hp
   . exact h.1
   exact ki.all h.2 p hp
def jZ(k:Option NameKind):Bool:=k == some .cell || k == some .free
theorem iA{k:Option NameKind}(h:jZ k=true):k=some .cell∨k=some .free:=by
 unfold jZ at h;rw[Bool.or_eq_true]at h;exact h.imp beq_iff_eq.mp beq_iff_eq.mp
theorem ax.of{X:Cx}{scope:Scope}{cl:List (Str×Addr)}{x:Str}{js:List Nat}{N':List Str}(clos:closureFor scope X.env=pure cl)(kind:scope.kind=.function)(nocell:scope.names.all (fun y=>y.2 != .cell)=true)
 (names:scope.names.all (fun y=>y.2 != .local || scope.names.lookup y.1 == some .local)=true) (own:scope.names.lookup x=some .local) (sub:ki X.env.cells cl)
 (has:(relabel scope X.env).names.all (fun p=>!jZ (some p.2) || (cl.lookup p.1).isSome)=true) (nm:N'=x::js.map fun j=>X.N.getD j Str.empty)
 (see:js.all (fun j=>match X.N[j]? with | some y=>jZ (X.env.kindOf y) && jZ ((relabel scope X.env).names.lookup y) | none=>false)=true):ax X scope cl x js N' where
 clos:=clos
 kind:=kind
 nocell:=fun y hy=>by
  have:=List.all_eq_true.mp nocell y hy;exact bne_iff_ne.mp this
 names:=fun y hy e=>by
  have:=List.all_eq_true.mp names y hy;rw[e]at this;exact beq_iff_eq.mp (by simpa using this)
 own:=own
 sub:=sub.all
 has:=fun y h=>by
  have go:∀ k,(relabel scope X.env).names.lookup y=some k->jZ (some k)=true -> ∃ c,cl.lookup y=some c:=fun k hk hc=>by
   have:=List.all_eq_true.mp has (y,k) (PySem.mem_of_lookup hk);simp only[hc,Bool.not_true,Bool.false_or]at this;exact Option.isSome_iff_exists.mp this
  rcases h with h | h
  . exact go _ h rfl
  exact go _ h rfl
 nm:=nm
 see:=fun i j e=>by
  have:=List.all_eq_true.mp see j (List.mem_of_getElem? e);cases ey:X.N[j]? with
  | none=>rw[ey]at this;cases this
  | some y=>
    rw[ey]at this;rw[Bool.and_eq_true]at this;exact⟨y,rfl,iA this.1,iA this.2⟩
namespace B
section
variable{X:Cx}{scope:Scope}{cl:List (Str×Addr)}{x:Str}{N':List Str}{elt iter c:Expr}{px pos:Pos}{wi:TI}{te:TE}{tc:TT}
theorem comp(js:List Nat)(N':List Str)(S:ax X scope cl x js N')(nd:N'.Nodup)(hi:Bx (PI X (.Name x px) iter wi))(he:∀ s H fp pins,Bx (PE (aD X scope cl N' s H fp pins) elt te))(hc:X.calm=true:=by rfl)
 (hs:∀ x,foldedSetIterable iter X.env x=pure x:=by intro _;rfl):Bx (PE X (.ListComp elt [⟨.Name x px,iter,[],0⟩] scope pos) (ku js wi (fun _ H Q=>Q true H) te)):=
 ⟨pk S nd hc hi.out (fun _ _ _ _=>oU) (fun s H fp pins=>(he s H fp pins).out) hs⟩
theorem compIf(js:List Nat)(N':List Str)(S:ax X scope cl x js N')(nd:N'.Nodup)(hi:Bx (PI X (.Name x px) iter wi))(hcc:∀ s H fp pins,Bx (PT (aD X scope cl N' s H fp pins) c tc))(he:∀ s H fp pins,Bx (PE (aD X scope cl N' s H fp pins) elt te))(hc:X.calm=true:=by rfl)
 (hs:∀ x,foldedSetIterable iter X.env x=pure x:=by intro _;rfl):Bx (PE X (.ListComp elt [⟨.Name x px,iter,[c],0⟩] scope pos) (ku js wi tc te)):=
 ⟨pk S nd hc hi.out (fun s H fp pins=>oq (hcc s H fp pins).out) (fun s H fp pins=>(he s H fp pins).out) hs⟩
theorem compSet(i:Nat)(js:List Nat)(N':List Str){y:Str}{py spos:Pos}(S:ax X scope cl x js N')(nd:N'.Nodup)(hN:X.N.Nodup)(hi:Bx (PI X (.Name x px) iter wi))(he:∀ s H fp pins,Bx (PE (aD X scope cl N' s H fp pins) elt te))(hc:X.calm=true:=by rfl)
 (hy:X.N[i]?=some y:=by rfl) (hl:Loc X.env.scope y:=by first | exact Or.inl rfl | exact Or.inr rfl) (hf:X.fn y=true∨X.env.scope.names.lookup y=some .local:=by first | exact .inl rfl | exact .inr rfl)
 (hsw:swapsWith (.ListComp elt [⟨.Name x px,iter,[],0⟩] scope pos) (some (.Name y py)) spos.line X.env=pure true:=by rfl)
 (hs:∀ x,foldedSetIterable iter X.env x=pure x:=by intro _;rfl):Bx (PS X (.Assign [.Name y py] (.ListComp elt [⟨.Name x px,iter,[],0⟩] scope pos) spos) (iV i (ku js wi (fun _ H Q=>Q true H) te))):=
 ⟨nj S nd hc hi.out (fun _ _ _ _=>oU) (fun s H fp pins=>(he s H fp pins).out) hN hy hl hf hsw hs⟩
end
end B
section
variable{X:Cx}
end
theorem wComp{Z:L2.St}{H:Hp}{Q:VK}{js:List Nat}{wi:TI}{tt:TT}{te:TE}(h:wi Z H fun J H1=>∀ D,H1 D=none -> ∃ W:Nat->Nat->L2.St->Hp->Prop,(∃ m,W 0 m (seen Z js) (upd H1 D (.lst []))) /\
 ∀ i m Z' H',W i m Z' H'->(J.stop i H'/\Q (.ref D) H')∨(J.go i H' /\ ∀ x H2,J.yld i H' x H2->tt (Z'.set 0 (some x)) H2 fun ok H3=>
   if ok=true then te (Z'.set 0 (some x)) H3 fun y H4=>∃ ys,H4 D=some (.lst ys)/\ys.length < sizeLine /\ ∃ m',m' < m/\W (i+1) m' (Z'.set 0 (some x)) (upd H4 D (.lst (ys++[y])))
   else ∃ m',m' < m/\W (i+1) m' (Z'.set 0 (some x)) H3)):ku js wi tt te Z H Q:=h
theorem oK(K:W.Frag){X:Cx}(h:X.K=K:=by rfl):IxR X (fe K):=by subst h;exact av
theorem p8(K:W.Frag){X:Cx}(h:X.K=K:=by rfl):bP X (.builtin "isinstance") (fun xs H Q=>∃ x T t b,xs=[x,.ty T]/\eQ K H x t/\W.kitOne K t (.type T)=some b/\Q (.bl b) H):=by subst h;exact bx
mutual
inductive d7(K:W.Frag)(H:Hp):V->PyData->Prop
 | non:d7 K H .non .none
 | bl (b:Bool):d7 K H (.bl b) (.bool b)
 | int (i:Int):d7 K H (.int i) (.int i)
 | str (x:PySem.Str):d7 K H (.str x) (.str x)
 | lst {a:Addr}{xs:List V}{ds:List PyData} (h:SqL K H a xs) (r:DatVs K H xs ds):d7 K H (.ref a) (.list ds)
 | tup {a:Addr}{xs:List V}{ds:List PyData} (h:SqT K H a xs) (r:DatVs K H xs ds):d7 K H (.ref a) (.tuple ds)
inductive DatVs(K:W.Frag)(H:Hp):List V->List PyData->Prop
 | nil:DatVs K H [] []
 | cons {x:V}{xs:List V}{d:PyData}{ds:List PyData} (h:d7 K H x d) (r:DatVs K H xs ds):DatVs K H (x::xs) (d::ds)
end
section
variable{X:Cx}{pins:List (Addr×Obj)}{Z:L2.St}{H:Hp}{s:Shared}
mutual
theorem dP(I:Inv X pins Z H s):∀{v:V}{d:PyData}{u:Value},d7 X.K H v d->aI v u -> ∃ as,Reads s.heap u d as
 | _,_,u,.non,r=>by
   cases (show u=Value.none from r);exact⟨_,.none⟩
 | _,_,u,.bl b,r=>by
   cases (show u=Value.bool b from r);exact⟨_,.bool b⟩
 | _,_,u,.int i,r=>by
   obtain⟨t,e⟩:=(show ∃ t,u=Value.int i t from r);cases e;exact⟨_,.int i t⟩
 | _,_,u,.str x,r=>by
   obtain⟨t,e⟩:=(show ∃ t,u=Value.str x t from r);cases e;exact⟨_,.str x t⟩
 | _,_,u,.lst (a:=a) h q,r=>by
   cases (show u=Value.ref a from r);obtain⟨its,rv,⟨o,n,e,c,_,d⟩,_⟩:=I.list h;obtain⟨as,z⟩:=reads_all I q rv;exact⟨_,.list e c d (by simpa using z)⟩
 | _,_,u,.tup (a:=a) h q,r=>by
   cases (show u=Value.ref a from r);obtain⟨its,rv,⟨o,e,c,n,d⟩,_⟩:=I.tuple h;obtain⟨as,z⟩:=reads_all I q rv;exact⟨_,.tuple e c d (by simpa using z)⟩
theorem reads_all(I:Inv X pins Z H s):∀{xs:List V}{ds:List PyData}{us:List Value},DatVs X.K H xs ds->aC xs us -> ∃ as,ReadsAll s.heap us ds as
 | _,_,_,.nil,.nil=>⟨_,.nil⟩
 | _,_,_,.cons h r,.cons q qs=>by
   obtain⟨a1,z1⟩:=dP I h q;obtain⟨a2,z2⟩:=reads_all I r qs;exact⟨_,.cons z1 z2⟩
end
def rQ(K:W.Frag):R2:=fun x y H Q=>∃ d e,d7 K H x d/\d7 K H y e/\d.canLay0=true/\e.canLay0=true/\d.depth<=60/\Q (.bl (!PyData.eqv d e)) H
theorem nH(K:W.Frag)(hu:X.A.units+64 < cLine)(hK:X.K=K:=by rfl):OpR X (compareOp .NotEq) (rQ K):=by
 subst hK;intro pins s Z H x y v u Q I rx ry h;obtain⟨d,e,hd,he,c1,c2,dp,q⟩:=h;obtain⟨as,r1⟩:=dP I hd rx;obtain⟨bs,r2⟩:=dP I he ry;exact SeqAt.compareNe_reads r1 r2 c1 c2 (by omega) ⟨.bl _,H,I,rfl,q⟩
theorem pf{K:W.Frag}{H:Hp}{Q:VK}{x y:V}{d:PyData}(hx:d7 K H x d)(hy:d7 K H y d)(c:d.canLay0=true)(dp:d.depth<=60)(q:Q (.bl false) H):rQ K x y H Q:=
 ⟨d,d,hx,hy,c,c,dp,by rw[SeqAt.eqv_refl d c];exact q⟩
end
def kN(v d:Addr):HO:=.ext fun h=>h.IsItemsView v d
def over(n:Nat)(H N:Hp):Hp:=fun b=>if b < n then H b else N b
theorem cZ{n:Nat}{H N:Hp}{b:Addr}(h:b < n):over n H N b=H b:=if_pos h
theorem jP{n:Nat}{H N:Hp}{b:Addr}(h:n<=b):over n H N b=N b:=if_neg (Nat.not_lt.mpr h)
section
variable{X:Cx}{pins:List (Addr×Obj)}{Z:L2.St}{H N:Hp}{s:Shared}{h':Heap}
theorem Inv.over{t':Nat}(I:Inv X pins Z H s)(k:∀ b u,s.heap.get? b=some u->h'.get? b=some u)(new:∀ b o,s.heap.objs.size<=b->N b=some o->a_ X.prog X.w (over s.heap.objs.size H N) h' b o) :
 Inv X pins Z (over s.heap.objs.size H N) { s with heap:=h',toks:=t' }:=by
 have lt:∀ b o,H b=some o->b < s.heap.objs.size:=fun b o e=>I.hok.lt e;refine I.un ⟨fun b u q _ _ _=>k b u q,fun b u q _ _ _=>⟨u.slots,k b u q⟩,fun b u q n _=>?_,fun b u q _=>⟨u,k b u q⟩,fun b xs q=>?_,fun b u xs q=>?_,fun b ps q=>⟨#[],?_⟩⟩ fun b o e=>?_
 . rw[cZ (Heap.lt_size q)];exact n
 . rw[cZ (lt _ _ q)];exact q
 . rw[cZ (lt _ _ q)];exact q
 . rw[cZ (lt _ _ q),q];simp
 by_cases hb:b < s.heap.objs.size
 . rw[cZ hb]at e
   exact(I.hok b o e).stay (fun c v _ q=>k c v q) (fun c q=>by rw[cZ (lt _ _ q)];exact q) fun c xs q=>by rw[cZ (lt _ _ q)];exact q
 have hb:=Nat.not_lt.mp hb;rw[jP hb]at e;exact new b o hb e
end
def mI(l:Addr)(as:List Addr)(kvs:List (Key×V)):Hp:=fun b=>if b=l then some (.lst (as.map V.ref))else((as.zip kvs).find? fun p=>decide (p.1=b)).map fun p=>.tup [kV p.2.1,p.2.2]
theorem qY{l:Addr}{as:List Addr}{kvs:List (Key×V)}(nd:as.Nodup):∀{j:Nat}{a:Addr}{k:Key}{x:V},a≠l->as[j]?=some a->kvs[j]?=some (k,x)->mI l as kvs a=some (.tup [kV k,x]):=by
 intro j a k x hl h1 h2;unfold mI;rw[if_neg hl];have key:∀(as:List Addr) (kvs:List (Key×V)) (j:Nat),as.Nodup->as[j]?=some a->kvs[j]?=some (k,x)->((as.zip kvs).find? fun p=>decide (p.1=a))=some (a,(k,x)):=by
  intro as
  induction as with
  | nil=>intro kvs j _ h;simp at h
  | cons b as ih=>
    intro kvs j nd h1 h2;cases kvs with
    | nil=>simp at h2
    | cons p kvs=>
      cases j with
      | zero=>
        simp at h1 h2;subst h1;subst h2;simp
      | succ j=>
        simp at h1 h2;have hm:a∈as:=List.mem_of_getElem? h1;have hne:b≠a:=fun e=>(List.nodup_cons.mp nd).1 (e ▸ hm);rw[List.zip_cons_cons,List.find?_cons_of_neg (by simpa using hne)]
        exact ih kvs j (List.nodup_cons.mp nd).2 h1 h2
 rw[key as kvs j nd h1 h2]
 rfl
theorem pL{l:Addr}{as:List Addr}{kvs:List (Key×V)}{b:Addr}{o:HO}(hl:as.length=kvs.length)(h:mI l as kvs b=some o):(b=l/\o=.lst (as.map V.ref)) ∨ ∃(j:Nat) (k:Key) (x:V),as[j]?=some b/\kvs[j]?=some (k,x)/\o=.tup [kV k,x]:=by
 unfold mI at h;split at h
 . rename_i e
   exact .inl ⟨e,(Option.some.inj h).symm⟩
 obtain⟨p,hp,e⟩:=Option.map_eq_some_iff.mp h;have hm:=List.mem_of_find?_eq_some hp;have hb0:decide (p.1=b)=true:=List.find?_some (p:=fun p:Addr×(Key×V)=>decide (p.1=b)) hp;have hb:=of_decide_eq_true hb0;obtain⟨j,hj⟩:=List.mem_iff_getElem?.mp hm;rw[List.getElem?_zip_eq_some]at hj;exact .inr ⟨j,p.2.1,p.2.2,by rw[← hb];exact hj.1,hj.2,e.symm⟩
theorem rS:∀{kvs:List (Key×V)}{vs:List (Key×Value)}{j:Nat}{k:Key}{y:Value},KV kvs vs->vs[j]?=some (k,y) -> ∃ x,kvs[j]?=some (k,x)/\aI x y
 | _,_,_,_,_,.nil,e=>by simp at e
 | _,_,0,_,_,.cons (a:=a) r _,e=>by
   simp at e;subst e;exact⟨a.2,by rw[List.getElem?_cons_zero];exact congrArg some (Prod.ext r.1 rfl),r.2⟩
 | _,_,j+1,_,_,.cons _ t,e=>by
   obtain⟨x,h1,h2⟩:=rS (j:=j) t (by simpa using e)
   exact⟨x,by simpa using h1,h2⟩
theorem zq{k:Key}{v:Value}(h:hX k v=true):aI (kV k) v:=by
 rcases br h with ⟨i,t,rfl,rfl⟩ | ⟨x,t,rfl,rfl⟩
 . exact⟨t,rfl⟩
 exact⟨t,rfl⟩
theorem ke:∀ as:List Addr,aC (as.map V.ref) (as.map Value.ref)
 | []=>.nil
 | _::as=>.cons rfl (ke as)
section
variable{X:Cx}
theorem im:bP X (.type "list") (fun xs H Q=>∃ v d kvs,xs=[.ref v]/\H v=some (kN v d)/\H d=some (.dK kvs)/\X.calm=true /\ ∀(l:Addr) (as:List Addr) (H':Hp),ac H H'->H l=none->H' l=some (.lst (as.map V.ref))->as.length=kvs.length ->
 (∀(j:Nat) (a:Addr),as[j]?=some a->H a=none /\ ∃ k x,kvs[j]?=some (k,x)/\H' a=some (.tup [kV k,x]))->Q (.ref l) H'):=by
 intro pins s Z H xs us Q I r h;obtain⟨v,d,kvs,rfl,hv,hd,hc,q⟩:=h;obtain⟨u,rfl,rx⟩:=dZ r;cases rx;obtain⟨pv,_,_⟩:=(show a_ X.prog X.w H s.heap v (kN v d)from I.hok v _ hv);obtain⟨z,hsys,vs,rel,dd⟩:=gw I.hok (.inl hd);obtain⟨ep,hat⟩:=dd.dictAt;have lenKV:kvs.length=vs.length:=Paired.length rel;refine W.kdx_call (knd:=aO X.prog X.w) (I.ok.hd hc) pv hat (by omega) fun h' tk acc c as hk hS hl hG hacc=>?_
 have hl':as.length=kvs.length:=by omega
 have nd:as.Nodup:=hG.rise.imp fun h=>Nat.ne_of_lt h;have ab:∀ a∈as,s.heap.objs.size < a:=hG.above;have get:∀(j:Nat) (a:Addr),as[j]?=some a -> ∃ key k x y,kvs[j]?=some (k,x)/\hX k key=true/\aI x y/\h'.get? a=some { cls:=.type "tuple",data:=.seq #[key,y] }:=fun j a e=>by
  obtain⟨key,k,y,e1,e2,e3⟩:=hG.pairs j a e;obtain⟨x,h1,h2⟩:=rS rel e1;exact⟨key,k,x,y,h1,e2,h2,e3⟩
 have I':=Inv.over (N:=mI s.heap.objs.size as kvs) (t':=tk) I hk fun b o hb e=>by
  rcases pL hl' e with ⟨rfl,rfl⟩ | ⟨j,k,x,e1,e2,rfl⟩
  . refine⟨by rw[List.length_map];omega,as.map Value.ref,c,ke as,?_⟩
    have ea:(as.map Value.ref).toArray=acc:=by rw[← hacc]
    rw[ea];exact hS
  obtain⟨key,k',x',y,g1,g2,g3,g4⟩:=get j b e1;rw[e2]at g1;cases g1;exact⟨by show(2:Nat)<=sizeLine;decide,[key,y],.cons (zq g2) (.cons g3 .nil),_,g4,rfl,_,rfl⟩
 have lt:∀ b o,H b=some o->b < s.heap.objs.size:=fun b o e=>I.hok.lt e;refine⟨.ref s.heap.objs.size,_,I',rfl,q s.heap.objs.size as _ (fun b o e=>by rw[cZ (lt b o e)];exact e) (I.hok.fresh (Nat.le_refl _)) ?_ hl' fun j a e=>?_⟩
 . rw[jP (Nat.le_refl _)]
   exact if_pos rfl
 have ha:=ab a (List.mem_of_getElem? e);obtain⟨key,k,x,y,g1,_⟩:=get j a e;exact⟨I.hok.fresh (Nat.le_of_lt ha),k,x,g1,by rw[jP (Nat.le_of_lt ha)];exact qY nd (Nat.ne_of_gt ha) e g1⟩
end
section
variable{X:Cx}{o:Expr}{apos cpos:Pos}{td:TE}
def nY(td:TE):TE:=fun Z H Q=>td Z H fun x H1=>∃ a kvs,x=.ref a/\H1 a=some (.dK kvs) /\ ∀ v,H1 v=none->Q (.ref v) (upd H1 v (kN v a))
theorem rW(ho:PE X o td)(hbase:attributeBase o "items" X.env (eval o X.env)=eval o X.env:=by rfl)
 (hfew:((backTo cpos (starEach [] X.env)).all (fun x=>!x.1) && (backToKw cpos (keywordEach [] X.env)).all (fun x=>x.1.isSome) && decide (([]:List Expr).length+([]:List Keyword).length+(if([]:List Keyword).isEmpty then 0 else 1) < 30))=true:=by rfl)
 (hline:(apos.endLine == cpos.line)=true:=by rfl):PE X (.Call (.Attribute o "items" apos) [] [] cpos) (nY td):=by
 intro pins s Z H Q I h;refine wpAny_Call_method hbase hfew hline PySem.F.plainAttrs_dict PySem.F.slot_dict_items PySem.F.type_dict_items (thn (ho pins s Z H _ I h) fun u s1 zz=>?_);obtain⟨x,H1,I1,rx,a,kvs,ex,ha,q1⟩:=zz;subst ex;obtain rfl:u=Value.ref a:=rx;obtain⟨t1,t2,_⟩:=qS I1 (.inl ⟨kvs,.inl ha⟩);refine⟨t1,t2,?_⟩;obtain⟨z,hsys,vs,rel,dd⟩:=gw I1.hok (.inl ha);have e0:backTo cpos (starEach [] X.env)=[]:=rfl;rw[e0];refine Calls.callWith_builtin rfl (PySem.evalArgs_none ?_);have lay:s1.heap.objs.size<=s1.heap.objs.size:=Nat.le_refl _;refine call_meetsIn PySem.F.slot_dict_items t1 PySem.F.entry_dict_items (PySem.F.args_dict_items_1 _) (meets_dict_items (aO X.prog X.w) a hsys) ⟨⟨vs,dd⟩,?_⟩;refine⟨.ref s1.heap.objs.size,upd H1 s1.heap.objs.size (kN s1.heap.objs.size a),I1.laid (t':=s1.toks) (fun b u e=>Heap.get?_push_of_some _ e) lay ?_,rfl,q1 _ (I1.hok.fresh lay)⟩;refine⟨⟨_,Heap.get?_push_size _ rfl,rfl,rfl⟩,⟨_,Heap.get?_push_size _ rfl⟩,fun h1 h2 ⟨o1,e1,c1,d1⟩ k=>⟨o1,k o1 e1,c1,d1⟩⟩
namespace B
theorem items(ho:Bx (PE X o td))(hbase:attributeBase o "items" X.env (eval o X.env)=eval o X.env:=by rfl)
 (hfew:((backTo cpos (starEach [] X.env)).all (fun x=>!x.1) && (backToKw cpos (keywordEach [] X.env)).all (fun x=>x.1.isSome) && decide (([]:List Expr).length+([]:List Keyword).length+(if([]:List Keyword).isEmpty then 0 else 1) < 30))=true:=by rfl)
 (hline:(apos.endLine == cpos.line)=true:=by rfl):Bx (PE X (.Call (.Attribute o "items" apos) [] [] cpos) (nY td)):=⟨rW ho.out hbase hfew hline⟩
end B
end
structure Mt(P:Program)(w:World)(K:W.Frag)(mg:Str->Option Value)(base:Heap)(C:Addr)(m:Str)(k:Nat)(ps:List Str)(sp:Sp):Prop where
 ex:∃(f:Addr) (fd:FuncData),c7 P w K mg base CX0 k f fd ps sp/\tR K C m f/\bY K fd ps []
structure Mkr(P:Program)(w:World)(K:W.Frag)(mg:Str->Option Value)(base:Heap)(C:Addr)(x:Str)(k:Nat)(ps:List Str)(sp:Sp):Prop where
 ex:∃(f:Addr) (fd:FuncData),c7 P w K mg base CX0 k f fd ps sp/\Mk K C f/\mg x=some (.ref C)/\bY K fd ps []
namespace B
section
variable{X:Cx}{x m f:Str}{p pos apos cpos tpos pos':Pos}{e o i value:Expr}{es:List Expr}{t:TA}{ta te ti tv td ty tx:TE}{k:Nat}{ps:List Str}{sp:Sp}{C:Addr}
theorem never{st:Stmt}:Bx (PS X st sS):=⟨rm⟩
theorem gref{a:Addr}(h:X.mg x=some (.ref a))(hg:Gl X x:=by rfl)(hd:(x == ("__debug__":Str))=false:=by decide):Bx (PE X (.Name x pos) (tC (.ref a))):=⟨oI hg h rfl hd⟩
theorem fld(he:Bx (PE X e ta))(hb:attributeBase e f X.env (eval e X.env)=eval e X.env:=by rfl):Bx (PE X (.Attribute e f pos) (vP X.K ta f)):=⟨sX he.out hb⟩
theorem sfld(ha:Bx (PE X o ta))(hv:Bx (PE X value tv))(hs:swapsWith value (some (.Attribute o f pos')) pos.line X.env=pure false:=by rfl):Bx (PS X (.Assign [.Attribute o f pos'] value pos) (uv X.K ta tv f)):=⟨xR ha.out hv.out hs⟩
theorem faug{op:Operator}{rd:V->V->Hp->VK->Prop}(hop:vx X op rd)(ha:Bx (PE X o ta))(hv:Bx (PE X value tv)):Bx (PS X (.AugAssign (.Attribute o f tpos) op value pos) (lq X.K ta tv rd f)):=⟨qg ha.out hv.out hop⟩
theorem dnew:Bx (PE X (.Dict [] [] pos) nV):=⟨rO⟩
theorem dput(hu:X.A.units+1 < cLine)(ho:Bx (PE X o td))(hi:Bx (PE X i ty))(hv:Bx (PE X value tv))(hs:swapsWith value (some (.Subscript o i pos')) pos.line X.env=pure false:=by rfl):Bx (PS X (.Assign [.Subscript o i pos'] value pos) (qD td ty tv)):=⟨uL hu ho.out hi.out hv.out hs⟩
theorem m1{m:Str}(base:attributeBase o m X.env (eval o X.env)=eval o X.env:=by rfl)(h:aQ e=true:=by rfl)(line:(apos.endLine == cpos.line)=true:=by rfl):M1 X o m apos e cpos:=by
 have t:backTo cpos (starEach [e] X.env)=[(false,eval e X.env)]:=by rw[b7 h];rfl
 exact⟨base,by rw[t];rfl,line,t⟩
theorem dget1(hu:X.A.units+1 < cLine)(ho:Bx (PE X o td))(he:Bx (PE X e ty))(m:M1 X o "get" apos e cpos:=by exact m1):Bx (PE X (.Call (.Attribute o "get" apos) [e] [] cpos) (m_ td ty)):=⟨tY hu ho.out he.out m⟩
theorem meth(he:Bx (PE X o ta))(c:Cls X.K C)(M:Mt X.prog X.w X.K X.mg X.base C m k ps sp)(hr:bF k X.A)(ha:Bx (PA X (e::es) t))(h1:aQ e=true:=by rfl)(h2:es.all aQ=true:=by rfl)
 {pl:Sem Bool} (ht':eval (.Call (.Attribute o m apos) (e::es) [] pos) X.env=(do
  let ov ← eval o X.env
  standAt apos.atName
  let(f,first) ← holding [ov] (getMethod ov m pl)
  callWith pos f first (backTo pos (starEach (e::es) X.env)) (backToKw pos (keywordEach [] X.env))):=by rfl) :
 Bx (PE X (.Call (.Attribute o m apos) (e::es) [] pos) (kn C m sp [] E0 ta t)):=by
 obtain⟨f,fd,G,hm,b⟩:=M.ex;exact⟨vE he.out c hm G hr b .nil oE ha.out (b7 h1) (cS h2) ht'⟩
theorem make(M:Mkr X.prog X.w X.K X.mg X.base C x k ps sp)(hr:bF (k+1) X.A)(ha:Bx (PA X (e::es) t))(hg:Gl X x:=by rfl)(hdb:(x == ("__debug__":Str))=false:=by decide)(h1:aQ e=true:=by rfl)(h2:es.all aQ=true:=by rfl) :
 Bx (PE X (.Call (.Name x p) (e::es) [] pos) (ua C sp [] E0 t)):=by
 obtain⟨f,fd,G,M,hm,b⟩:=M.ex;exact⟨uE M G hr hg hm b .nil oE ha.out hdb (b7 h1) (cS h2)⟩
end
end B
theorem b_list:bootBuiltins "list"=some (.type "list"):=by decide +kernel
theorem b_sum:bootBuiltins "sum"=some (.builtin "sum"):=by decide +kernel
theorem rN{X:Cx}:bP X (.builtin "sum") (fun xs H Q=>∃ l ns,xs=[.ref l]/\SqL X.K H l (List.map V.int ns)/\X.calm=true/\Q (.int (List.sum ns)) H):=by
 intro pins s Z H xs us Q I r h;obtain⟨l,ns,rfl,hl,hc,q⟩:=h;obtain⟨u,rfl,rx⟩:=dZ r;cases rx;obtain⟨its,rv,pl,_⟩:=I.list hl;have hi:IntsAre its ns:=ja rv;obtain⟨ys,e⟩:=hi.allInts.items;have hL:s.heap.IsList l (intItems ys):=by rw[← e];exact pl.isList
 refine sum_intListG (I.ok.hd hc) hL fun h' tk t' hk=>?_;have es:preSum (numAt ys) ys.size=ns.sum:=by
  rw[← hi.numsOf,show its=its.toArray.toList from rfl,e,nums_intItems,preSum_eq,List.take_of_length_le (by simp)]
 exact⟨.int ns.sum,H,I.kept (t':=tk) hk,⟨t',by rw[es]⟩,q⟩
namespace B
theorem meth0{X:Cx}{m:Str}{apos pos:Pos}{o:Expr}{ta:TE}{k:Nat}{ps:List Str}{sp:Sp}{C:Addr}(he:Bx (PE X o ta))(c:Cls X.K C)(M:Mt X.prog X.w X.K X.mg X.base C m k ps sp)(hr:bF k X.A){pl:Sem Bool}
 (ht':eval (.Call (.Attribute o m apos) [] [] pos) X.env=(do
  let ov ← eval o X.env
  standAt apos.atName
  let(f,first) ← holding [ov] (getMethod ov m pl)
  callWith pos f first (backTo pos (starEach [] X.env)) (backToKw pos (keywordEach [] X.env))):=by rfl) :
 Bx (PE X (.Call (.Attribute o m apos) [] [] pos) (kn C m sp [] E0 ta c9)):=by
 obtain⟨f,fd,G,hm,b⟩:=M.ex;exact⟨sL he.out c hm G hr b .nil oE ht'⟩
end B
structure Dm(K:W.Frag)(C:Addr)(m qual:Str)(st:Stmt)(ps:List Str):Prop where
 ex:∃(f:Addr) (fd:FuncData),Fun K m qual st f fd/\tR K C m f/\bY K fd ps []
theorem Dm.mt{P:Program}{w:World}{K:W.Frag}{mg:Str->Option Value}{base:Heap}{C:Addr}{m qual:Str}{st:Stmt}{N ps:List Str}{k:Nat}{sp:Sp}(d:Dm K C m qual st ps)(S:ak N ps (ah st))(len:∀ vs H Q E,sp vs H Q E->vs.length=ps.length)
 (hb:∀(f:Addr) (cdv:Value) (A:Around) (outer:List Env) (s:Shared) (H:Hp) (vs:List V) (Q:VK) (E:XK),bF k (A.deeper (envOfC qual (ah st) s.heap.objs.size f cdv))->sp vs H Q E ->
  ∃ t,Bx (PSs (dC CX0 P w K mg base N qual (ah st) f cdv A outer s H E).nox (bA st) t)/\t { nx:=fun _ H'=>Q .non H',rt:=Q } (c6 N vs) H):Mt P w K mg base C m (k+1) ps sp:=by
 obtain⟨f,fd,F,hm,hb'⟩:=d.ex;exact⟨f,fd,F.ok S len (fun cdv A outer s H vs Q E hr h=>let⟨t,h1,h2⟩:=hb f cdv A outer s H vs Q E hr h;⟨t,h1.out,h2⟩),hm,hb'⟩
structure Dk(K:W.Frag)(mg:Str->Option Value)(C:Addr)(x qual:Str)(st:Stmt)(ps:List Str):Prop where
 ex:∃(f:Addr) (fd:FuncData),Fun K "__init__" qual st f fd/\Mk K C f/\mg x=some (.ref C)/\bY K fd ps []
theorem Dk.mk'{P:Program}{w:World}{K:W.Frag}{mg:Str->Option Value}{base:Heap}{C:Addr}{x qual:Str}{st:Stmt}{N ps:List Str}{k:Nat}{sp:Sp}(d:Dk K mg C x qual st ps)(S:ak N ps (ah st))(len:∀ vs H Q E,sp vs H Q E->vs.length=ps.length)
 (hb:∀(f:Addr) (cdv:Value) (A:Around) (outer:List Env) (s:Shared) (H:Hp) (vs:List V) (Q:VK) (E:XK),bF k (A.deeper (envOfC qual (ah st) s.heap.objs.size f cdv))->sp vs H Q E ->
  ∃ t,Bx (PSs (dC CX0 P w K mg base N qual (ah st) f cdv A outer s H E).nox (bA st) t)/\t { nx:=fun _ H'=>Q .non H',rt:=Q } (c6 N vs) H):Mkr P w K mg base C x (k+1) ps sp:=by
 obtain⟨f,fd,F,hm,hg,hb'⟩:=d.ex;exact⟨f,fd,F.ok S len (fun cdv A outer s H vs Q E hr h=>let⟨t,h1,h2⟩:=hb f cdv A outer s H vs Q E hr h;⟨t,h1.out,h2⟩),hm,hg,hb'⟩
abbrev ar:=List (Int×Int)
def kvs(r:ar):List (Key×V):=r.map fun p=>((Sum.inl p.1:Key),V.int p.2)
def aP(r:ar)(k:Int):Option Int:=(r.find? fun p=>decide (p.1=k)).map (·.2)
def eP(r:ar)(k v:Int):ar:=if(aP r k).isSome=true then r.map (fun p=>if p.1=k then(p.1,v)else p)else r++[(k,v)]
def oV:Option Int->V
 | none=>.non
 | some i=>.int i
abbrev ROk(r:ar):Prop:=(r.map (·.1)).Nodup
theorem fv{p:Int×Int}{r:ar}{k:Int}(e:p.1=k):aP (p::r) k=some p.2:=by simp[aP,List.find?_cons,e]
theorem fm{p:Int×Int}{r:ar}{k:Int}(e:¬ p.1=k):aP (p::r) k=aP r k:=by simp[aP,List.find?_cons,e]
theorem pI{a b:Int}:((Sum.inl a:Key)=Sum.inl b) ↔ a=b:=⟨Sum.inl.inj,congrArg _⟩
theorem fg(k:Int):∀ r:ar,cy (kvs r) (Sum.inl k:Key)=(aP r k).map V.int
 | []=>rfl
 | p::r=>by
   show cy (((Sum.inl p.1:Key),V.int p.2)::kvs r) (Sum.inl k:Key)=_;by_cases e:p.1=k
   . rw[fv e,bB (pI.mpr e)];rfl
   rw[fm e,bJ (fun z=>e (pI.mp z)),fg k r]
theorem vV(r:ar)(k:Int):((kvs r).any fun kv=>decide (kv.1=(Sum.inl k:Key)))=(aP r k).isSome:=by
 rw[dO,fg];cases aP r k <;> rfl
theorem jv(r:ar)(k v:Int):ck (kvs r) (Sum.inl k:Key) (V.int v)=kvs (eP r k v):=by
 unfold ck eP;rw[vV];split
 . unfold kvs
   rw[List.map_map,List.map_map];refine List.map_congr_left fun p _=>?_;show(if(Sum.inl p.1:Key)=Sum.inl k then _ else _)=_;by_cases e:p.1=k
   . rw[if_pos (pI.mpr e)]
     show _=((Sum.inl (if p.1=k then(p.1,v)else p).1:Key),V.int (if p.1=k then(p.1,v)else p).2);rw[if_pos e]
   rw[if_neg (fun z=>e (pI.mp z))];show _=((Sum.inl (if p.1=k then(p.1,v)else p).1:Key),V.int (if p.1=k then(p.1,v)else p).2);rw[if_neg e]
 unfold kvs;rw[List.map_append]
 rfl
theorem oF(r:ar):(kvs r).length=r.length:=List.length_map ..
theorem bX(k:Int):∀{r:ar},aP r k=none ↔ ¬ k∈r.map (·.1)
 | []=>by simp[aP]
 | p::r=>by
   rw[List.map_cons,List.mem_cons];by_cases e:p.1=k
   . rw[fv e];simp[e]
   rw[fm e,bX k]
   constructor
   . intro h z
     rcases z with z | z
     . exact e z.symm
     exact h z
   intro h z;exact h (.inr z)
theorem lM{r:ar}{k v:Int}(h:(aP r k).isSome=true):(eP r k v).map (·.1)=r.map (·.1):=by
 unfold eP;rw[if_pos h,List.map_map];refine List.map_congr_left fun p _=>?_;show(if p.1=k then(p.1,v)else p).1=p.1;split <;> rfl
theorem gB{r:ar}{k v:Int}(h:aP r k=none):eP r k v=r++[(k,v)]:=by
 unfold eP;rw[h]
 rfl
theorem oB{r:ar}{k v:Int}(h:ROk r):ROk (eP r k v):=by
 cases e:aP r k with
 | some x=>rw[ROk,lM (by rw[e];rfl)];exact h
 | none=>
   rw[ROk,gB e,List.map_append];exact eu h ((bX k).mp e)
theorem ud{r:ar}{k v:Int}:(eP r k v).length=r.length+(if aP r k=none then 1 else 0):=by
 cases e:aP r k with
 | some x=>
   unfold eP;rw[e];simp
 | none=>rw[gB e];simp
abbrev af:=List ar
def plc(f m:Int)(n:Nat)(k:Int):Nat:=((k*f+m) % 65536 % (n:Int)).toNat
theorem gq{f m:Int}{n:Nat}{k:Int}(h:0 < n):((plc f m n k:Nat):Int)=(k*f+m) % 65536 % (n:Int):=by
 unfold plc;rw[Int.toNat_of_nonneg (Int.emod_nonneg _ (by omega))]
theorem eW{f m:Int}{n:Nat}{k:Int}(h:0 < n):plc f m n k < n:=by
 have e:=gq (f:=f) (m:=m) (k:=k) h;have:=Int.emod_lt_of_pos ((k*f+m) % 65536) (show(0:Int) < n by omega)
 omega
def tot(R:af):Nat:=(R.map List.length).sum
def io(f m:Int)(R:af)(k:Int):ar:=R.getD (plc f m R.length k) []
def aF(f m:Int)(R:af)(k:Int):Option Int:=aP (io f m R k) k
def d0(f m:Int)(R:af)(k v:Int):af:=R.set (plc f m R.length k) (eP (io f m R k) k v)
theorem bM{R:af}{i:Nat}(h:i < R.length):R[i]?=some (R.getD i []):=by
 rw[List.getD_eq_getElem?_getD,List.getElem?_eq_getElem h]
 rfl
theorem dG:∀(R:af) (i:Nat) (r:ar),i < R.length->tot (R.set i r)+(R.getD i []).length=tot R+r.length
 | [],i,r,h=>absurd h (Nat.not_lt_zero _)
 | a::R,0,r,_=>by
   show r.length+(R.map List.length).sum+a.length=a.length+(R.map List.length).sum+r.length;omega
 | a::R,i+1,r,h=>by
   have ih:=dG R i r (Nat.lt_of_succ_lt_succ h);have e:(a::R).getD (i+1) []=R.getD i []:=by simp
   rw[e];show a.length+tot (R.set i r)+_=a.length+tot R+r.length;omega
theorem dn:∀(R:af) (i:Nat),(R.getD i []).length<=tot R
 | [],i=>by simp
 | a::R,0=>by
   show a.length<=a.length+(R.map List.length).sum;omega
 | a::R,i+1=>by
   have ih:=dn R i;have e:(a::R).getD (i+1) []=R.getD i []:=by simp
   rw[e];show _<=a.length+tot R;omega
theorem ol(n:Nat):tot (List.replicate n [])=0:=by
 unfold tot;rw[List.map_replicate];show(List.replicate n 0).sum=0;simp
theorem d5{f m:Int}{R:af}{k v:Int}:(d0 f m R k v).length=R.length:=List.length_set ..
theorem jq{f m:Int}{R:af}{k v:Int}(h:0 < R.length):tot (d0 f m R k v)=tot R+(if aF f m R k=none then 1 else 0):=by
 have:=dG R _ (eP (io f m R k) k v) (eW (f:=f) (m:=m) (k:=k) h);rw[ud]at this;unfold d0 aF;unfold io at *;omega
theorem ny{R:af}{i:Nat}{r:ar}(ok:∀ r∈R,ROk r)(h:ROk r):∀ q∈R.set i r,ROk q:=fun q hq=>by
 rcases List.mem_or_eq_of_mem_set hq with z | z
 . exact ok q z
 rw[z];exact h
def sfl(t L:Addr)(z:Int):List (Str×V):=[("mixer",.ref t),("rows",.ref L),("held",.int z)]
theorem AJ:¬ (("mixer":Str)="rows"):=by decide +kernel
theorem yu:¬ (("mixer":Str)="held"):=by decide +kernel
theorem yS:¬ (("rows":Str)="held"):=by decide +kernel
theorem jE(t L:Addr)(z:Int):aV "held" (.int z) (aV "rows" (.ref L) (aV "mixer" (.ref t) []))=sfl t L z:=by
 show aV "held" (.int z) (if("mixer":Str)="rows" then _ else _)=_;rw[if_neg AJ];show(if("mixer":Str)="held" then _ else _)=_;rw[if_neg yu];show _::(if("rows":Str)="held" then _ else _)=_;rw[if_neg yS]
 rfl
theorem qt(t L:Addr)(z:Int):(sfl t L z).lookup ("mixer":Str)=some (.ref t):=by rw[← jE,bg,if_neg yu,bg,if_neg AJ,bg,if_pos rfl]
theorem d4(t L:Addr)(z:Int):(sfl t L z).lookup ("rows":Str)=some (.ref L):=by rw[← jE,bg,if_neg yS,bg,if_pos rfl]
theorem ji(t L:Addr)(z:Int):(sfl t L z).lookup ("held":Str)=some (.int z):=by rw[← jE,bg,if_pos rfl]
theorem ox(t L:Addr)(z y:Int):aV "held" (.int y) (sfl t L z)=sfl t L y:=by
 show(if("mixer":Str)="held" then _ else _)=_;rw[if_neg yu];show _::(if("rows":Str)="held" then _ else _)=_;rw[if_neg yS];show _::_::(if("held":Str)="held" then _ else _)=_;rw[if_pos rfl]
 rfl
structure NoS(x:Str):Prop where
 n1:¬ x="mixer"
 n2:¬ x="rows"
 n3:¬ x="held"
theorem yI(t L:Addr)(z:Int){x:Str}(h:NoS x):(sfl t L z).lookup x=none:=by
 rw[← jE,bg,if_neg h.n3,bg,if_neg h.n2,bg,if_neg h.n1]
 rfl
structure ShX(C:Addr)(H:Hp)(p:Addr)(f m:Int)(R:af)(t L:Addr)(ds:List Addr):Prop where
 ob:∃ dx,H p=some (.ins C dx (sfl t L (tot R)))
 mx:H t=some (.tup [.int f,.int m])
 bm:0<=f/\f<=65535
 rw:H L=some (.lst (ds.map V.ref))
 len:ds.length=R.length
 nd:ds.Nodup
 at_:∀(i:Nat) (d:Addr) (r:ar),ds[i]?=some d->R[i]?=some r->H d=some (.dK (kvs r))
 ok:∀ r∈R,ROk r
 pos:0 < R.length
 top:R.length<=8192
def Sh(C:Addr)(H:Hp)(p:Addr)(f m:Int)(R:af)(F:Addr->Prop):Prop:=∃ t L ds,ShX C H p f m R t L ds /\ ∀ b,F b ↔ (b=p∨b=L∨b∈ds)
def Fr(F:Addr->Prop)(H H':Hp):Prop:=∀ b o,¬ F b->H b=some o->H' b=some o
theorem Fr.refl(F:Addr->Prop)(H:Hp):Fr F H H:=fun _ _ _ h=>h
theorem Fr.trans{F:Addr->Prop}{H H1 H2:Hp}(a:Fr F H H1)(b:Fr F H1 H2):Fr F H H2:=fun c o n h=>b c o n (a c o n h)
theorem Sh.live{C:Addr}{H:Hp}{p:Addr}{f m:Int}{R:af}{F:Addr->Prop}(S:Sh C H p f m R F){b:Addr}(h:F b):∃ o,H b=some o /\ ∀ xs,o ≠ .tup xs:=by
 obtain⟨t,L,ds,S,hF⟩:=S;rcases(hF b).mp h with rfl | rfl | h
 . obtain⟨dx,e⟩:=S.ob
   exact⟨_,e,fun xs z=>by cases z⟩
 . exact⟨_,S.rw,fun xs z=>by cases z⟩
 obtain⟨i,e⟩:=List.mem_iff_getElem?.mp h;have hi:i < R.length:=by
  rw[← S.len];exact(List.getElem?_eq_some_iff.mp e).1
 exact⟨_,S.at_ i b _ e (List.getElem?_eq_getElem hi),fun xs z=>by cases z⟩
theorem Sh.fresh{C:Addr}{H:Hp}{p:Addr}{f m:Int}{R:af}{F:Addr->Prop}(S:Sh C H p f m R F){b:Addr}(h:H b=none):¬ F b:=fun z=>by
 obtain⟨o,e,_⟩:=S.live z;rw[h]at e;cases e
theorem Sh.notup{C:Addr}{H:Hp}{p:Addr}{f m:Int}{R:af}{F:Addr->Prop}(S:Sh C H p f m R F){b:Addr}{xs:List V}(h:H b=some (.tup xs)):¬ F b:=fun z=>by
 obtain⟨o,e,n⟩:=S.live z;rw[h]at e;cases e;exact n _ rfl
theorem Sh.keep{C:Addr}{H H':Hp}{p:Addr}{f m:Int}{R:af}{F G:Addr->Prop}(S:Sh C H p f m R F)(k:Fr G H H')(d:∀ b,F b -> ¬ G b)(dt:∀ b xs,H b=some (.tup xs) -> ¬ G b):Sh C H' p f m R F:=by
 obtain⟨t,L,ds,S,hF⟩:=S;have hp:¬ G p:=d p ((hF p).mpr (.inl rfl));have hL:¬ G L:=d L ((hF L).mpr (.inr (.inl rfl)));refine⟨t,L,ds,⟨?_,k _ _ (dt _ _ S.mx) S.mx,S.bm,k _ _ hL S.rw,S.len,S.nd,fun i x r e1 e2=>k _ _ (d x ((hF x).mpr (.inr (.inr (List.mem_of_getElem? e1))))) (S.at_ i x r e1 e2),S.ok,S.pos,S.top⟩,hF⟩;obtain⟨dx,e⟩:=S.ob;exact⟨dx,k _ _ hp e⟩
theorem Sh.same{C:Addr}{H H':Hp}{p:Addr}{f m:Int}{R:af}{F:Addr->Prop}(S:Sh C H p f m R F)(k:ac H H'):Sh C H' p f m R F:=
 S.keep (G:=fun _=>False) (fun b o _ e=>k b o e) (fun _ _ z=>z) fun _ _ _ z=>z
theorem Sh.pos{C:Addr}{H:Hp}{p:Addr}{f m:Int}{R:af}{F:Addr->Prop}(S:Sh C H p f m R F):0 < R.length:=by
 obtain⟨t,L,ds,S,hF⟩:=S;exact S.pos
theorem Sh.top{C:Addr}{H:Hp}{p:Addr}{f m:Int}{R:af}{F:Addr->Prop}(S:Sh C H p f m R F):R.length<=8192:=by
 obtain⟨t,L,ds,S,hF⟩:=S;exact S.top
def PrV(H:Hp)(v:V)(p:Int×Int):Prop:=∃ a,v=.ref a/\H a=some (.tup [.int p.1,.int p.2])
abbrev Prs(H:Hp)(xs:List V)(r:ar):Prop:=Paired (PrV H) xs r
theorem PrV.keep{H H':Hp}{v:V}{p:Int×Int}(h:PrV H v p)(k:∀ a xs,H a=some (.tup xs)->H' a=some (.tup xs)):PrV H' v p:=by
 obtain⟨a,e,h⟩:=h;exact⟨a,e,k a _ h⟩
theorem Prs.keep{H H':Hp}{xs:List V}{r:ar}(h:Prs H xs r)(k:∀ a xs,H a=some (.tup xs)->H' a=some (.tup xs)):Prs H' xs r:=Paired.mapP h fun _ _ z=>z.keep k
def dX(C:Addr):Sp:=fun vs H Q _=>∃(p:Addr) (k f m:Int) (R:af) (F:Addr->Prop),vs=[.ref p,.int k]/\Sh C H p f m R F/\Q (.int (plc f m R.length k)) H
def iD(C:Addr):Sp:=fun vs H Q _=>∃(p:Addr) (k f m:Int) (R:af) (t L:Addr) (ds:List Addr),vs=[.ref p,.int k]/\ShX C H p f m R t L ds /\ ∀ d,ds[plc f m R.length k]?=some d->Q (.ref d) H
def lH(C:Addr):Sp:=fun vs H Q _=>∃(p:Addr) (k v f m:Int) (R:af) (F:Addr->Prop),vs=[.ref p,.int k,.int v]/\Sh C H p f m R F/\tot R<=100000 /\ ∀ H',Sh C H' p f m (d0 f m R k v) F->Fr F H H'->Q (oV (aF f m R k)) H'
def iB(C:Addr):Sp:=fun vs H Q _=>∃(p:Addr) (k f m:Int) (R:af) (F:Addr->Prop),vs=[.ref p,.int k]/\Sh C H p f m R F/\Q (oV (aF f m R k)) H
def iN(C:Addr):Sp:=fun vs H Q _=>∃(p:Addr) (f m:Int) (R:af) (F:Addr->Prop),vs=[.ref p]/\Sh C H p f m R F/\Q (.int (tot R)) H
def dE(C:Addr):Sp:=fun vs H Q _=>∃(p:Addr) (f m:Int) (R:af) (F:Addr->Prop),vs=[.ref p]/\Sh C H p f m R F/\Q (.int R.length) H
def jJ(C:Addr):Sp:=fun vs H Q _=>∃(p:Addr) (i f m:Int) (R:af) (F:Addr->Prop),vs=[.ref p,.int i]/\Sh C H p f m R F/\0<=i/\i < R.length/\Q .non H
def lR(C:Addr):Sp:=fun vs H Q _=>∃(p:Addr) (i:Nat) (f m:Int) (R:af) (F:Addr->Prop),vs=[.ref p,.int i]/\Sh C H p f m R F/\i < R.length /\ ∀ l xs H',ac H H'->H l=none->H' l=some (.lst xs)->Prs H' xs (R.getD i [])->Q (.ref l) H'
def iP(C:Addr):Sp:=fun vs H Q _=>∃(p:Addr) (i:Nat) (f m:Int) (R:af) (F:Addr->Prop),vs=[.ref p,.int i]/\Sh C H p f m R F/\i < R.length /\
 ∀ l xs H' F',Fr F H H'->H l=none -> ¬ F' l->H' l=some (.lst xs)->Prs H' xs (R.getD i [])->Sh C H' p f m (R.set i []) F'->(∀ b,F' b->F b∨H b=none)->(∀ b,H' b=none->H b=none)->Q (.ref l) H'
def am(n:Nat):Prop:=n∈[4,8,16,32,64,128,256,512,1024,2048,4096]
def gc(C:Addr):Sp:=fun vs H Q _=>∃(x t dx:Addr) (n:Nat) (f m:Int),vs=[.ref x,.int n,.ref t]/\H x=some (.ins C dx [])/\H t=some (.tup [.int f,.int m])/\(0<=f/\f<=65535)/\am n /\
 ∀ H' F,Sh C H' x f m (List.replicate n []) F->(∀ b,F b->b=x∨H b=none)->(∀ b o,b≠x->H b=some o->H' b=some o)->Q .non H'
section
variable{D:eM}{Z:L2.St}{H:Hp}{Q:VK}{v:V}{K:W.Frag}{C:Addr}{E:XK}
theorem wFld{ta:TE}{f:Str}(h:ta Z H fun x H1=>∃ a C dx fs v,x=.ref a/\H1 a=some (.ins C dx fs)/\Cls K C/\bu K C f/\fs.lookup f=some v/\Q v H1):vP K ta f Z H Q:=h
theorem wSFld{ta tv:TE}{f:Str}(h:tv Z H fun y H1=>ta Z H1 fun x H2=>∃ a C dx fs,x=.ref a/\H2 a=some (.ins C dx fs)/\Cls K C/\bu K C f/\fs.length < 1000/\D.nx Z (upd H2 a (.ins C dx (aV f y fs)))):uv K ta tv f D Z H:=h
theorem wMeth{m:Str}{sp:Sp}{ta:TE}{t:TA}(h:ta Z H fun x H1=>∃ a dx fs,x=.ref a/\H1 a=some (.ins C dx fs)/\fs.lookup m=none/\t Z H1 fun vs H2=>sp (x::(vs++[])) H2 Q E):kn C m sp [] E ta t Z H Q:=h
theorem wMake{sp:Sp}{t:TA}(h:t Z H fun vs H1=>∀ x dx,H1 x=none->H1 dx=none->dx≠x->sp (.ref x::(vs++[])) (upd (upd H1 dx (.own x)) x (.ins C dx [])) (fun v H2=>v=.non/\Q (.ref x) H2) E):ua C sp [] E t Z H Q:=h
theorem wS{p:Addr}{f m:Int}{R:af}{F:Addr->Prop}{x:Str}{P:Prop}(S:Sh C H p f m R F)(hn:NoS x)(h:P):∃ a dx fs,V.ref p=.ref a/\H a=some (.ins C dx fs)/\fs.lookup x=none/\P:=by
 obtain⟨t,L,ds,S,_⟩:=S;obtain⟨dx,e⟩:=S.ob;exact⟨p,dx,_,rfl,e,yI _ _ _ hn,h⟩
theorem iK{p:Addr}{k f m:Int}{R:af}{F:Addr->Prop}(S:Sh C H p f m R F)(q:Q (.int (plc f m R.length k)) H):dX C (V.ref p::([V.int k]++[])) H Q E:=⟨p,k,f,m,R,F,rfl,S,q⟩
theorem wj{p:Addr}{k y f m:Int}{R:af}{F:Addr->Prop}(S:Sh C H p f m R F)(hl:tot R<=100000)(q:∀ H',Sh C H' p f m (d0 f m R k y) F->Fr F H H'->Q (oV (aF f m R k)) H'):lH C (V.ref p::([V.int k,V.int y]++[])) H Q E:=⟨p,k,y,f,m,R,F,rfl,S,hl,q⟩
theorem nX{p:Addr}{k f m:Int}{R:af}{F:Addr->Prop}(S:Sh C H p f m R F)(q:Q (oV (aF f m R k)) H):iB C (V.ref p::([V.int k]++[])) H Q E:=⟨p,k,f,m,R,F,rfl,S,q⟩
theorem nW{p:Addr}{f m:Int}{R:af}{F:Addr->Prop}(S:Sh C H p f m R F)(q:Q (.int (tot R)) H):iN C (V.ref p::([]++[])) H Q E:=⟨p,f,m,R,F,rfl,S,q⟩
theorem fh{p:Addr}{f m:Int}{R:af}{F:Addr->Prop}(S:Sh C H p f m R F)(q:Q (.int R.length) H):dE C (V.ref p::([]++[])) H Q E:=⟨p,f,m,R,F,rfl,S,q⟩
theorem wq{p:Addr}{i:Int}{f m:Int}{R:af}{F:Addr->Prop}(S:Sh C H p f m R F)(i0:0<=i)(hi:i < R.length)(q:∀ l xs H',ac H H'->H l=none->H' l=some (.lst xs)->Prs H' xs (R.getD i.toNat [])->Q (.ref l) H'):lR C (V.ref p::([V.int i]++[])) H Q E:=
 ⟨p,i.toNat,f,m,R,F,by rw[Int.toNat_of_nonneg i0];rfl,S,by omega,q⟩
theorem uJ{p:Addr}{i:Int}{f m:Int}{R:af}{F:Addr->Prop}(S:Sh C H p f m R F)(i0:0<=i)(hi:i < R.length)
 (q:∀ l xs H' F',Fr F H H'->H l=none -> ¬ F' l->H' l=some (.lst xs)->Prs H' xs (R.getD i.toNat [])->Sh C H' p f m (R.set i.toNat []) F'->(∀ b,F' b->F b∨H b=none)->(∀ b,H' b=none->H b=none)->Q (.ref l) H'):iP C (V.ref p::([V.int i]++[])) H Q E:=
 ⟨p,i.toNat,f,m,R,F,by rw[Int.toNat_of_nonneg i0];rfl,S,by omega,q⟩
theorem rY{Qf:Addr->Hp->Prop}{t:Addr}{n:Int}{f m:Int}(ht:H t=some (.tup [.int f,.int m]))(bf:0<=f/\f<=65535)(n0:0<=n)(hn:am n.toNat)
 (q:∀ p H' F,Sh C H' p f m (List.replicate n.toNat []) F->(∀ b,F b->H b=none)->ac H H'->Qf p H') :
 ∀ x dx,H x=none->H dx=none->dx≠x->gc C (V.ref x::([V.int n,V.ref t]++[])) (upd (upd H dx (.own x)) x (.ins C dx [])) (fun v H2=>v=.non/\Qf x H2) E:=fun x dx hx hdx hne=>by
 have s0:ac H (upd (upd H dx (.own x)) x (.ins C dx [])):=(ac.new hdx).trans (ac.new (by rw[ag hne.symm];exact hx))
 refine⟨x,t,dx,n.toNat,f,m,by rw[Int.toNat_of_nonneg n0];rfl,aa,s0 _ _ ht,bf,hn,fun H' F S g k=>⟨rfl,q x H' F S (fun b hb=>?_) fun b o e=>k b o (ai e hx) (s0 b o e)⟩⟩
 rcases g b hb with rfl | z
 . exact hx
 exact s0.free z
end
def CN(Pv:Nat->L2.St->Hp->Prop)(n i:Nat)(D:Addr)(Z:L2.St)(y:V)(H4:Hp):Prop:=∃ ys,H4 D=some (.lst ys)/\ys.length < sizeLine /\ ∃ m',m' < n - i/\(m'=n - (i+1)/\i+1<=n/\Pv (i+1) Z (upd H4 D (.lst (ys++[y]))))
def CO(Pv:Nat->L2.St->Hp->Prop)(n i:Nat)(Z:L2.St)(H3:Hp):Prop:=∃ m',m' < n - i/\(m'=n - (i+1)/\i+1<=n/\Pv (i+1) Z H3)
theorem CN.mk{Pv:Nat->L2.St->Hp->Prop}{n i:Nat}{D:Addr}{Z:L2.St}{y:V}{H4:Hp}{ys:List V}(hi:i < n)(hD:H4 D=some (.lst ys))(hl:ys.length < sizeLine)(h:Pv (i+1) Z (upd H4 D (.lst (ys++[y])))):CN Pv n i D Z y H4:=
 ⟨ys,hD,hl,n - (i+1),by omega,rfl,hi,h⟩
theorem CO.mk{Pv:Nat->L2.St->Hp->Prop}{n i:Nat}{Z:L2.St}{H3:Hp}(hi:i < n)(h:Pv (i+1) Z H3):CO Pv n i Z H3:=⟨n - (i+1),by omega,rfl,hi,h⟩
section
variable{K:W.Frag}{n:Nat}{lo:Int}{a D:Addr}{xs:List V}{Z0:L2.St}{H1:Hp}{Q:VK}{tt:TT}{te:TE}
theorem n9{Qf:Hp->Prop}(Pv:Nat->L2.St->Hp->Prop)(h0:Pv 0 Z0 H1)
 (step:∀ i Z' H',i < n->Pv i Z' H'->tt (Z'.set 0 (some (.int (lo+i)))) H' fun ok H3=>if ok=true then te (Z'.set 0 (some (.int (lo+i)))) H3 (fun y H4=>CN Pv n i D (Z'.set 0 (some (.int (lo+i)))) y H4)else CO Pv n i (Z'.set 0 (some (.int (lo+i)))) H3)
 (fin:∀ Z H,Pv n Z H->Qf H) :
 ∃ W:Nat->Nat->L2.St->Hp->Prop,(∃ m,W 0 m Z0 H1) /\ ∀ i m Z' H',W i m Z' H'->((Itr lo n).stop i H'/\Qf H')∨((Itr lo n).go i H' /\ ∀ x H2,(Itr lo n).yld i H' x H2->tt (Z'.set 0 (some x)) H2 fun ok H3=>
   if ok=true then te (Z'.set 0 (some x)) H3 fun y H4=>∃ ys,H4 D=some (.lst ys)/\ys.length < sizeLine /\ ∃ m',m' < m/\W (i+1) m' (Z'.set 0 (some x)) (upd H4 D (.lst (ys++[y])))
   else ∃ m',m' < m/\W (i+1) m' (Z'.set 0 (some x)) H3):=by
 refine⟨fun i m Z H=>m=n - i/\i<=n/\Pv i Z H,⟨n,by omega,Nat.zero_le _,h0⟩,?_⟩
 rintro i m Z' H' ⟨rfl,hi,p⟩;by_cases hlt:i < n
 . refine .inr ⟨hlt,fun x H2 y=>?_⟩
   obtain⟨rfl,rfl⟩:=y;exact step i Z' _ hlt p
 have e:i=n:=by omega
 subst e;exact .inl ⟨Nat.le_refl _,fin _ _ p⟩
theorem cQ{Qf:Hp->Prop}(Pv:Nat->L2.St->Hp->Prop)(h0:Pv 0 Z0 H1)
 (step:∀ i Z' H',i < n->Pv i Z' H'->te (Z'.set 0 (some (.int (lo+i)))) H' (fun y H4=>CN Pv n i D (Z'.set 0 (some (.int (lo+i)))) y H4))
 (fin:∀ Z H,Pv n Z H->Qf H) :
 ∃ W:Nat->Nat->L2.St->Hp->Prop,(∃ m,W 0 m Z0 H1) /\ ∀ i m Z' H',W i m Z' H'->((Itr lo n).stop i H'/\Qf H')∨((Itr lo n).go i H' /\ ∀ x H2,(Itr lo n).yld i H' x H2 ->
   if true=true then te (Z'.set 0 (some x)) H2 fun y H4=>∃ ys,H4 D=some (.lst ys)/\ys.length < sizeLine /\ ∃ m',m' < m/\W (i+1) m' (Z'.set 0 (some x)) (upd H4 D (.lst (ys++[y])))
   else ∃ m',m' < m/\W (i+1) m' (Z'.set 0 (some x)) H2):=
 n9 (tt:=fun _ H Q=>Q true H) Pv h0 (fun i Z' H' hi p=>az (step i Z' H' hi p)) fin
theorem qz{Qf:Hp->Prop}(Pv:Nat->L2.St->Hp->Prop)(h0:Pv 0 Z0 H1)(hl:∀ i Z H,i<=xs.length->Pv i Z H->SqL K H a xs)
 (step:∀ i x Z' H',xs[i]?=some x->i < xs.length->Pv i Z' H'->tt (Z'.set 0 (some x)) H' fun ok H3=>if ok=true then te (Z'.set 0 (some x)) H3 (fun y H4=>CN Pv xs.length i D (Z'.set 0 (some x)) y H4)else CO Pv xs.length i (Z'.set 0 (some x)) H3)
 (fin:∀ Z H,Pv xs.length Z H->Qf H) :
 ∃ W:Nat->Nat->L2.St->Hp->Prop,(∃ m,W 0 m Z0 H1) /\ ∀ i m Z' H',W i m Z' H'->((Itl K a).stop i H'/\Qf H')∨((Itl K a).go i H' /\ ∀ x H2,(Itl K a).yld i H' x H2->tt (Z'.set 0 (some x)) H2 fun ok H3=>
   if ok=true then te (Z'.set 0 (some x)) H3 fun y H4=>∃ ys,H4 D=some (.lst ys)/\ys.length < sizeLine /\ ∃ m',m' < m/\W (i+1) m' (Z'.set 0 (some x)) (upd H4 D (.lst (ys++[y])))
   else ∃ m',m' < m/\W (i+1) m' (Z'.set 0 (some x)) H3):=by
 refine⟨fun i m Z H=>m=xs.length - i/\i<=xs.length/\Pv i Z H,⟨xs.length,by omega,Nat.zero_le _,h0⟩,?_⟩
 rintro i m Z' H' ⟨rfl,hi,p⟩;have q:=hl i Z' H' hi p;by_cases hlt:i < xs.length
 . refine .inr ⟨⟨xs,xs[i],q,by simp[hlt]⟩,fun x H2 y=>?_⟩
   obtain⟨rfl,y⟩:=y;exact step i x Z' _ (y xs q) hlt p
 have e:i=xs.length:=by omega
 subst e;exact .inl ⟨⟨xs,q,Nat.le_refl _⟩,fin _ _ p⟩
theorem du{Qf:Hp->Prop}(Pv:Nat->L2.St->Hp->Prop)(h0:Pv 0 Z0 H1)(hl:∀ i Z H,i<=xs.length->Pv i Z H->SqL K H a xs)
 (step:∀ i x Z' H',xs[i]?=some x->i < xs.length->Pv i Z' H'->te (Z'.set 0 (some x)) H' (fun y H4=>CN Pv xs.length i D (Z'.set 0 (some x)) y H4))
 (fin:∀ Z H,Pv xs.length Z H->Qf H) :
 ∃ W:Nat->Nat->L2.St->Hp->Prop,(∃ m,W 0 m Z0 H1) /\ ∀ i m Z' H',W i m Z' H'->((Itl K a).stop i H'/\Qf H')∨((Itl K a).go i H' /\ ∀ x H2,(Itl K a).yld i H' x H2 ->
   if true=true then te (Z'.set 0 (some x)) H2 fun y H4=>∃ ys,H4 D=some (.lst ys)/\ys.length < sizeLine /\ ∃ m',m' < m/\W (i+1) m' (Z'.set 0 (some x)) (upd H4 D (.lst (ys++[y])))
   else ∃ m',m' < m/\W (i+1) m' (Z'.set 0 (some x)) H2):=
 qz (tt:=fun _ H Q=>Q true H) Pv h0 hl (fun i x Z' H' e hi p=>az (step i x Z' H' e hi p)) fin
end
section
variable{C:Addr}{H H':Hp}{p:Addr}{f m:Int}{R:af}{t L:Addr}{ds:List Addr}
theorem ShX.place{C:Addr}{H:Hp}(X:ShX C H p f m R t L ds)(k:Int):∃ d,ds[plc f m R.length k]?=some d/\H d=some (.dK (kvs (io f m R k))):=by
 have lt:=eW (f:=f) (m:=m) (k:=k) X.pos;have lt':plc f m R.length k < ds.length:=by rw[X.len];exact lt
 exact⟨ds[plc f m R.length k],List.getElem?_eq_getElem lt',X.at_ _ _ _ (List.getElem?_eq_getElem lt') (bM lt)⟩
theorem ShX.set{i:Nat}{d:Addr}{r:ar}(X:ShX C H p f m R t L ds)(hd:ds[i]?=some d)(ok:ROk r)(h1:∃ dx,H' p=some (.ins C dx (sfl t L (tot (R.set i r)))))(h2:H' d=some (.dK (kvs r)))
 (h3:∀ b o,b≠p->b≠d->H b=some o->H' b=some o):ShX C H' p f m (R.set i r) t L ds:=by
 have hi:i < R.length:=by rw[← X.len];exact(List.getElem?_eq_some_iff.mp hd).1
 have hd0:=X.at_ i d _ hd (bM hi);obtain⟨dx,hp⟩:=X.ob;refine⟨h1,h3 _ _ (aA X.mx hp (by intro z;cases z)) (aA X.mx hd0 (by intro z;cases z)) X.mx,X.bm,h3 _ _ (aA X.rw hp (by intro z;cases z)) (aA X.rw hd0 (by intro z;cases z)) X.rw,by rw[List.length_set];exact X.len,X.nd,fun j x q e1 e2=>?_,ny X.ok ok,by rw[List.length_set];exact X.pos,by rw[List.length_set];exact X.top⟩
 by_cases e:i=j
 . subst e
   rw[hd]at e1;cases e1;rw[List.getElem?_set_self hi]at e2;cases e2;exact h2
 rw[List.getElem?_set_ne e]at e2;have hx:=X.at_ j x q e1 e2;refine h3 _ _ (aA hx hp (by intro z;cases z)) (fun z=>e ?_) hx
 subst z;have l1:=(List.getElem?_eq_some_iff.mp hd).1;exact(List.getElem?_inj l1 X.nd).mp (hd.trans e1.symm)
theorem ShX.emptied{i:Nat}{d':Addr}(X:ShX C H p f m R t L ds)(hi:i < R.length)(hn:H d'=none)(h1:∃ dx,H' p=some (.ins C dx (sfl t L (tot (R.set i [])))))(h2:H' d'=some (.dK []))
 (h4:H' L=some (.lst ((ds.set i d').map V.ref))) (h3:∀ b o,b≠p->b≠L->H b=some o->H' b=some o):ShX C H' p f m (R.set i []) t L (ds.set i d'):=by
 obtain⟨dx,hp⟩:=X.ob;have live:∀ x∈ds,∃ r,H x=some (.dK (kvs r)):=fun x hx=>by
  obtain⟨j,e⟩:=List.mem_iff_getElem?.mp hx;have hj:j < R.length:=by rw[← X.len];exact(List.getElem?_eq_some_iff.mp e).1
  exact⟨_,X.at_ j x _ e (bM hj)⟩
 have nin:d'∉ds:=fun z=>by
  obtain⟨r,e⟩:=live _ z;rw[hn]at e;cases e
 refine⟨h1,h3 _ _ (aA X.mx hp (by intro z;cases z)) (aA X.mx X.rw (by intro z;cases z)) X.mx,X.bm,h4,by rw[List.length_set,List.length_set];exact X.len,?_,fun j x q e1 e2=>?_,ny X.ok (by simp[ROk]),by rw[List.length_set];exact X.pos,by rw[List.length_set];exact X.top⟩
 . have key:∀(l:List Addr) (i:Nat),l.Nodup->d'∉l->(l.set i d').Nodup:=by
    intro l
    induction l with
    | nil=>intro i h _;simpa using h
    | cons a l ih=>
      intro i h hn;obtain⟨h1,h2⟩:=List.nodup_cons.mp h;cases i with
      | zero=>exact List.nodup_cons.mpr ⟨fun z=>hn (List.mem_cons_of_mem _ z),h2⟩
      | succ i=>
        refine List.nodup_cons.mpr ⟨fun z=>?_,ih i h2 fun z=>hn (List.mem_cons_of_mem _ z)⟩;rcases List.mem_or_eq_of_mem_set z with z | z
        . exact h1 z
        exact hn (z ▸ List.mem_cons_self ..)
   exact key ds i X.nd nin
 by_cases e:i=j
 . subst e
   rw[List.getElem?_set_self (by rw[X.len];exact hi)]at e1
   cases e1;rw[List.getElem?_set_self hi]at e2;cases e2;exact h2
 rw[List.getElem?_set_ne e]at e1 e2;have hx:=X.at_ j x q e1 e2;exact h3 _ _ (aA hx hp (by intro z;cases z)) (aA hx X.rw (by intro z;cases z)) hx
end
theorem sZ{H:Hp}:∀{as:List Addr}{r:ar},as.length=r.length->(∀(j:Nat) (a:Addr),as[j]?=some a -> ∃ k x,(kvs r)[j]?=some (k,x)/\H a=some (.tup [kV k,x]))->Prs H (as.map V.ref) r
 | [],[],_,_=>.nil
 | a::as,p::r,hl,h=>by
   refine .cons ⟨a,rfl,?_⟩ (sZ (Nat.succ.inj hl) fun j b e=>h (j+1) b e);obtain⟨k,x,e,z⟩:=h 0 a rfl;cases e;exact z
 | [],_::_,hl,_=>by cases hl
 | _::_,[],hl,_=>by cases hl
def pj:Sp:=fun vs H Q _=>∃ n:Int,vs=[.int n]/\Q (.bl true) H
def so:Sp:=fun vs H Q _=>∃ n:Nat,vs=[.int n]/\am n/\Q (.bl true) H
theorem am.bounds{n:Nat}(h:am n):4<=n/\n<=4096:=by
 unfold am at h;simp only[List.mem_cons,List.not_mem_nil,or_false]at h;rcases h with rfl | rfl | rfl | rfl | rfl | rfl | rfl | rfl | rfl | rfl | rfl <;> decide
theorem l5{r:ar}{k:Int}:(cy (kvs r) (Sum.inl k:Key)).getD V.non=oV (aP r k):=by
 rw[fg];cases aP r k <;> rfl
theorem wIf{Z:L2.St}{H:Hp}{Q:VK}{t:TT}{ta tb:TE}(h:t Z H fun c H1=>if c=true then ta Z H1 Q else tb Z H1 Q):tIf t ta tb Z H Q:=h
end SW
namespace SW.B
open PySem PySem.Spec PyProof.Rows L2 SW
theorem cmpI{X:Cx}{a b:Expr}{ta tb:TE}{pos:Pos}{op:CmpOp}{r:R2}(ho:OpR X (compareOp op) r)(ha:Bx (PE X a ta))(hb:Bx (PE X b tb))(hm:behindInMarks op b=false:=by first | rfl | with_unfolding_all rfl):Bx (PE X (.Compare a [op] [b] pos) (tOp r ta tb)):=⟨oz ho ha.out hb.out hm⟩
theorem tcmpI{X:Cx}{a b:Expr}{ta tb:TE}{pos:Pos}{op:CmpOp}{r:R2}(ho:OpR X (compareOp op) r)(ha:Bx (PE X a ta))(hb:Bx (PE X b tb))(hm:behindInMarks op b=false:=by first | rfl | with_unfolding_all rfl):Bx (PT X (.Compare a [op] [b] pos) (kW (tOp r ta tb))):=⟨oy ho ha.out hb.out hm⟩
end SW.B
namespace SW
open PySem PySem.Spec PyProof.Rows L2
theorem cY(f:Str)(v:V):∀ fs:List (Str×V),(aV f v fs).length<=fs.length+1
 | []=>Nat.le_refl _
 | (k,x)::r=>by
   show(if k=f then(k,v)::r else(k,x)::aV f v r).length<=_;split
   . show r.length+1<=r.length+1+1;omega
   have:=cY f v r;show(aV f v r).length+1<=r.length+1+1;omega
end SW
namespace SW
open PySem PySem.Spec PyProof.Rows L2
section
variable{D:eM}{Z:L2.St}{H:Hp}{Q:VK}{K:W.Frag}
theorem wDGet1{td ty:TE}(h:td Z H fun x H1=>∃ a,x=.ref a/\IsD H1 a/\ty Z H1 fun y H2=>∃ o,cK H2 a y o/\Q (o.getD .non) H2):m_ td ty Z H Q:=h
theorem wItems{td:TE}(h:td Z H fun x H1=>∃ a kvs,x=.ref a/\H1 a=some (.dK kvs) /\ ∀ v,H1 v=none->Q (.ref v) (upd H1 v (kN v a))):nY td Z H Q:=h
theorem wDPut{td ty tv:TE}(h:tv Z H fun v H1=>td Z H1 fun x H2=>ty Z H2 fun y H3=>∃ a H4,x=.ref a/\jR H3 a y v H4/\D.nx Z H4):qD td ty tv D Z H:=h
theorem wFAug{ta tv:TE}{rd:V->V->Hp->VK->Prop}{f:Str}(h:ta Z H fun x H1=>∃ a C dx fs v,x=.ref a/\H1 a=some (.ins C dx fs)/\Cls K C/\bu K C f/\fs.lookup f=some v /\
 tv Z H1 fun y H2=>rd v y H2 fun z H3=>∃ dx' fs',H3 a=some (.ins C dx' fs')/\fs'.length < 1000/\D.nx Z (upd H3 a (.ins C dx' (aV f z fs')))):lq K ta tv rd f D Z H:=h
theorem wCompSet{i:Nat}{t:TE}(h:t Z H fun v H1=>D.nx (Z.set i (some v)) H1):iV i t D Z H:=h
theorem wSl{r:V->Option Int->Option Int->Hp->VK->Prop}{te:TE}{tl th:TO}(h:te Z H fun x H1=>tl Z H1 fun l H2=>th Z H2 fun u H3=>r x l u H3 Q):tSl r te tl th Z H Q:=h
theorem wNoPart{Q:Option Int->Hp->Prop}(h:Q none H):lP Z H Q:=h
theorem wPart{t:TE}{Q:Option Int->Hp->Prop}(h:t Z H fun x H1=>∃ i,x=.int i/\Q (some i) H1):rP t Z H Q:=h
end
section
variable{X:Cx}{pins:List (Addr×Obj)}{Z:L2.St}{H:Hp}{s:Shared}{h':Heap}
theorem Inv.turnedNew{t':Nat}{fp:List Addr}{a:Addr}{o:HO}(I:Inv X pins Z H s)(k:∀ b u,b∉fp->s.heap.get? b=some u->h'.get? b=some u)(hf:∀ b∈fp,dN X pins H b)(hp:s.heap.objs.size<=a)
 (new:a_ X.prog X.w (upd H a o) h' a o):Inv X pins Z (upd H a o) { s with heap:=h',toks:=t' }:=by
 have lt:∀ b u,H b=some u->b < s.heap.objs.size:=fun b u e=>I.hok.lt e;have old:∀ b u,H b=some u->upd H a o b=some u:=fun b u e=>by rw[ag (Nat.ne_of_lt (Nat.lt_of_lt_of_le (lt b u e) hp))];exact e
 have nfp:∀ b u,H b=some u->b∉fp:=fun b u e z=>by
  have:=(hf b z).1;rw[e]at this;cases this
 refine I.call (g':=s.gens) (d':=s.drawn) (t':=t') (ch:=fp) ⟨fun b u q _ _ hx=>k b u hx q,fun b u q _ _ hx=>⟨u.slots,k b u hx q⟩,fun b u q n _=>?_,fun b u q hx=>⟨u,k b u hx q⟩,fun b xs q=>old b _ q,fun b u v q=>old b _ q,fun b ps q=>⟨#[],by rw[old b _ q];simp⟩⟩ (fun b u e=>?_) I.bare
  fun b hb=>⟨(hf b hb).2.2.2.1,(hf b hb).2.1,(hf b hb).2.2.2.2.1,(hf b hb).2.2.2.2.2⟩
 . rw[ag (Nat.ne_of_lt (Nat.lt_of_lt_of_le (Heap.lt_size q) hp))];exact n
 by_cases hb:b=a
 . subst hb
   rw[aa]at e;cases e;exact new
 rw[ag hb]at e;refine(I.hok b u e).stay (fun c v hc q=>k c v ?_ q) (fun c q=>old c _ q) fun c xs q=>old c _ q;rcases hc with z | z
 . rw[z];exact nfp b u e
 exact nfp c _ z
theorem Inv.turnedL{t':Nat}{fp:List Addr}(I:Inv X pins Z H s)(k:∀ b u,b∉fp->s.heap.get? b=some u->h'.get? b=some u)(hf:∀ b∈fp,dN X pins H b):Inv X pins Z H { s with heap:=h',toks:=t' }:=by
 have nfp:∀ b u,H b=some u->b∉fp:=fun b u e z=>by
  have:=(hf b z).1;rw[e]at this;cases this
 refine I.call (g':=s.gens) (d':=s.drawn) (t':=t') (ch:=fp) ⟨fun b u q _ _ hx=>k b u hx q,fun b u q _ _ hx=>⟨u.slots,k b u hx q⟩,fun b u q n _=>n,fun b u q hx=>⟨u,k b u hx q⟩,fun b xs q=>q,fun b u v q=>q,fun b ps q=>⟨#[],by rw[q];simp⟩⟩ (fun b u e=>?_) I.bare
  fun b hb=>⟨(hf b hb).2.2.2.1,(hf b hb).2.1,(hf b hb).2.2.2.2.1,(hf b hb).2.2.2.2.2⟩
 refine(I.hok b u e).stay (fun c v hc q=>k c v ?_ q) (fun c q=>q) fun c xs q=>q;rcases hc with z | z
 . rw[z];exact nfp b u e
 exact nfp c _ z
end
section
variable{X:Cx}{elts:List Expr}{k:Nat}{tp:Pos}
end
namespace B
end B
section
variable{prog:Program}{w:World}{A:Around}{E:Value->Shared->Prop}{s:Shared}
set_option maxRecDepth 100000 in
end
section
variable{X:Cx}{o e:Expr}{to te:TE}{pos p2:Pos}{hi:Option Expr}{th:TO}
end
namespace B
end B
theorem Prs.len{H:Hp}{xs:List V}{r:ar}(h:Prs H xs r):xs.length=r.length:=Paired.length h
theorem Prs.get{H:Hp}:∀{xs:List V}{r:ar}{i:Nat}{p:Int×Int},Prs H xs r->r[i]?=some p -> ∃ a,xs[i]?=some (.ref a)/\H a=some (.tup [.int p.1,.int p.2])
 | _,_,_,_,.nil,h=>by simp at h
 | _,_,0,p,.cons (b:=b) ⟨a,e,h⟩ _,g=>by
   simp at g;subst g;exact⟨a,by rw[e];rfl,h⟩
 | _,_,i+1,p,.cons _ t,g=>by
   obtain⟨a,e,h⟩:=Prs.get (i:=i) t (by simpa using g)
   exact⟨a,by simpa using e,h⟩
theorem Prs.dat{K:W.Frag}{H:Hp}:∀{xs:List V}{r:ar},Prs H xs r->DatVs K H xs (r.map fun p=>.tuple [.int p.1,.int p.2])
 | _,_,.nil=>.nil
 | _,_,.cons ⟨a,e,h⟩ t=>by
   subst e;exact .cons (.tup (SqT.of h) (.cons (.int _) (.cons (.int _) .nil))) (Prs.dat t)
structure LR(H:Hp)(q:Addr)(R:af)(ls:List Addr):Prop where
 top:H q=some (.lst (ls.map V.ref))
 len:ls.length=R.length
 nd:ls.Nodup
 nq:q∉ls
 at_:∀(i:Nat) (l:Addr) (r:ar),ls[i]?=some l->R[i]?=some r -> ∃ xs,H l=some (.lst xs)/\Prs H xs r
theorem LR.keep{H H':Hp}{q:Addr}{R:af}{ls:List Addr}{G:Addr->Prop}(S:LR H q R ls)(k:Fr G H H')(hq:¬ G q)(hl:∀ b∈ls,¬ G b)(dt:∀ b xs,H b=some (.tup xs) -> ¬ G b):LR H' q R ls:=
 ⟨k _ _ hq S.top,S.len,S.nd,S.nq,fun i l r e1 e2=>by
  obtain⟨xs,h1,h2⟩:=S.at_ i l r e1 e2;exact⟨xs,k _ _ (hl l (List.mem_of_getElem? e1)) h1,h2.keep fun a ys e=>k _ _ (dt a ys e) e⟩⟩
theorem LR.same{H H':Hp}{q:Addr}{R:af}{ls:List Addr}(S:LR H q R ls)(k:ac H H'):LR H' q R ls:=
 S.keep (G:=fun _=>False) (fun b o _ e=>k b o e) (fun z=>z) (fun _ _ z=>z) fun _ _ _ z=>z
theorem LR.live{H:Hp}{q:Addr}{R:af}{ls:List Addr}(S:LR H q R ls){b:Addr}(h:b∈ls):∃ xs,H b=some (.lst xs):=by
 obtain⟨i,e⟩:=List.mem_iff_getElem?.mp h;have hi:i < R.length:=by rw[← S.len];exact(List.getElem?_eq_some_iff.mp e).1
 obtain⟨xs,h1,_⟩:=S.at_ i b _ e (bM hi);exact⟨xs,h1⟩
theorem LR.place{H:Hp}{q:Addr}{R:af}{ls:List Addr}(S:LR H q R ls){i:Nat}(h:i < R.length):∃ l xs,ls[i]?=some l/\H l=some (.lst xs)/\Prs H xs (R.getD i []):=by
 have h':i < ls.length:=by rw[S.len];exact h
 obtain⟨xs,h1,h2⟩:=S.at_ i _ _ (List.getElem?_eq_getElem h') (bM h);exact⟨_,xs,List.getElem?_eq_getElem h',h1,h2⟩
theorem LR.set{H H':Hp}{q:Addr}{R:af}{ls:List Addr}{i:Nat}{l:Addr}{xs:List V}{r:ar}(S:LR H q R ls)(hl:ls[i]?=some l)(h1:H' l=some (.lst xs))(h2:Prs H' xs r)(k:∀ b o,b≠l->H b=some o->H' b=some o):LR H' q (R.set i r) ls:=by
 have lt:i < R.length:=by rw[← S.len];exact(List.getElem?_eq_some_iff.mp hl).1
 obtain⟨ys,hl0⟩:=S.live (List.mem_of_getElem? hl);refine⟨k _ _ (fun z=>S.nq (z ▸ List.mem_of_getElem? hl)) S.top,by rw[List.length_set];exact S.len,S.nd,S.nq,fun j y p e1 e2=>?_⟩
 by_cases e:i=j
 . subst e
   rw[hl]at e1;cases e1;rw[List.getElem?_set_self lt]at e2;cases e2;exact⟨xs,h1,h2⟩
 rw[List.getElem?_set_ne e]at e2;obtain⟨zs,g1,g2⟩:=S.at_ j y p e1 e2;refine⟨zs,k _ _ (fun z=>e ?_) g1,g2.keep fun a us ea=>k _ _ (aA ea hl0 (by intro z;cases z)) ea⟩
 subst z;exact(List.getElem?_inj (List.getElem?_eq_some_iff.mp hl).1 S.nd).mp (hl.trans e1.symm)
def iy:Sp:=fun vs H Q _=>∃ p:Addr,vs=[.ref p]/\Row H p /\ ∀ v H',-1000000000<=v->v<=1000000000->Row H' p->al p H H'->Q (.int v) H'
theorem qM{p:Addr}{H:Hp}{Q:VK}{E:XK}(hp:Row H p)(k:∀ v H',-1000000000<=v->v<=1000000000->Row H' p->al p H H'->Q (.int v) H'):iy ([.ref p]++[]) H Q E:=⟨p,rfl,hp,k⟩
namespace B
theorem fldK(K:W.Frag){X:Cx}{e:Expr}{ta:TE}{f:Str}{pos:Pos}(he:Bx (PE X e ta))(h:X.K=K:=by rfl)(hb:attributeBase e f X.env (eval e X.env)=eval e X.env:=by rfl):Bx (PE X (.Attribute e f pos) (vP K ta f)):=by subst h;exact⟨sX he.out hb⟩
end B
theorem rG{α:Type}(xs:List α)(x:α):atI (xs++[x]) (-1)=some x:=by
 unfold atI ixN;rw[if_neg (by decide),if_pos (by rw[List.length_append];show -(((xs.length+1:Nat)):Int) <= -1;omega)]
 show(xs++[x])[((-1:Int)+((xs++[x]).length:Nat)).toNat]?=some x;have e:((-1:Int)+((xs++[x]).length:Nat)).toNat=xs.length:=by
  rw[List.length_append];show((-1:Int)+((xs.length+1:Nat):Int)).toNat=xs.length;omega
 rw[e];simp
theorem b_range:bootBuiltins "range"=some (.type "range"):=by decide +kernel
theorem b_set:bootBuiltins "set"=some (.type "set"):=by decide +kernel
theorem b_min:bootBuiltins "min"=some (.builtin "min"):=by decide +kernel
theorem b_max:bootBuiltins "max"=some (.builtin "max"):=by decide +kernel
def fE(ns:List Int):Nat:=(firstMet (fun i=>ns.getD i 0) ns.length).length
def gF(i:Int)(n:Nat):List Int:=(List.range n).map fun(k:Nat)=>i+(k:Int)
theorem qP{i:Int}:∀{n:Nat}{acc:List Value},acc.length=n->(∀(j:Nat) v,acc[j]?=some v -> ∃ t,v=.int (i+j*1) t)->aC ((gF i n).map V.int) acc:=by
 intro n acc hl h;have key:∀(acc:List Value) (b:Nat),(∀(j:Nat) v,acc[j]?=some v -> ∃ t,v=.int (i+((b+j:Nat):Int)) t)->aC (((List.range' b acc.length).map fun(k:Nat)=>i+(k:Int)).map V.int) acc:=by
  intro acc
  induction acc with
  | nil=>intro b _;exact .nil
  | cons v acc ih=>
    intro b h;refine .cons ?_ (ih (b+1) fun j v e=>?_)
    . obtain⟨t,e⟩:=h 0 v rfl
      exact⟨t,e⟩
    obtain⟨t,e'⟩:=h (j+1) v (by simpa using e)
    exact⟨t,by rw[e',show b+(j+1)=b+1+j by omega]⟩
 have:=key acc 0 fun j v e=>by
  obtain⟨t,e'⟩:=h j v e;exact⟨t,by rw[e',Int.mul_one,Nat.zero_add]⟩
 rw[hl]at this;unfold gF;rw[List.range_eq_range'];exact this
section
variable{X:Cx}
theorem lL:bP X (.type "range") (fun xs H Q=>∃ i j,xs=[.int i,.int j] /\ ∀ p,H p=none->Q (.ref p) (upd H p (.rng i j))):=by
 intro pins s Z H xs us Q I r h;obtain⟨i,j,rfl,q⟩:=h;obtain⟨u,w',rfl,⟨t,rfl⟩,⟨t',rfl⟩⟩:=l7 r;refine call_range_2 ⟨.ref s.heap.objs.size,upd H s.heap.objs.size (.rng i j),I.laid (t':=s.toks+1) (fun b u e=>Heap.get?_push_of_some _ e) (Nat.le_refl _) ?_,rfl,q _ (I.hok.fresh (Nat.le_refl _))⟩;exact⟨t,t',s.toks,Heap.get?_push_size _ rfl⟩
theorem j7:bP X (.type "list") (fun xs H Q=>∃ r i j,xs=[.ref r]/\H r=some (.rng i j)/\(-(2 ^ 62)<=i/\i < 2 ^ 62 /\ -(2 ^ 62)<=j/\j < 2 ^ 62)/\i<=j/\j - i<=1000000/\X.calm=true /\ ∀ l,H l=none->Q (.ref l) (upd H l (.lst ((gF i (j - i).toNat).map V.int)))):=by
 intro pins s Z H xs us Q I r h;obtain⟨a,i,j,rfl,ha,⟨h1,h2,h3,h4⟩,hij,hsz,hc,q⟩:=h;obtain⟨u,rfl,rx⟩:=dZ r;cases rx;obtain⟨t,u',v',g⟩:=(show a_ X.prog X.w H s.heap a (.rng i j)from I.hok a _ ha);have hn:Builtin.Range.rangeSize i j 1=((j - i).toNat:Int):=by rw[rangeSize_one];split <;> omega
 refine call_list_range (n:=(j - i).toNat) (I.ok.hd hc) (show IsRange s.heap a i j 1 t u' v' from g) (small_one h1 h2 h3 h4) hn (by omega) fun h' tk acc c hk hS hacc=>?_
 have vs:aC ((gF i (j - i).toNat).map V.int) acc.toList:=qP (by rw[Array.length_toList];exact hacc.1) fun k v e=>hacc.2 k v (by simpa using e)
 have ll:((gF i (j - i).toNat).map V.int).length=(j - i).toNat:=by unfold gF;simp
 refine⟨.ref s.heap.objs.size,_,I.laid (t':=tk) hk (Nat.le_refl _) (show a_ X.prog X.w _ h' _ (.lst ((gF i (j - i).toNat).map V.int))from⟨by rw[ll,sizeLine_eq];omega,acc.toList,c,vs,hS⟩),rfl,q _ (I.hok.fresh (Nat.le_refl _))⟩
theorem qa:bP X (.type "set") (fun xs H Q=>∃ l ns,xs=[.ref l]/\SqL X.K H l (List.map V.int ns)/\List.length ns+1 < 4096/\X.calm=true /\ ∀ a S,H a=none->Q (.ref a) (upd H a (.set S (fE ns)))):=by
 intro pins s Z H xs us Q I r h;obtain⟨l,ns,rfl,hl,hn,hc,q⟩:=h;obtain⟨u,rfl,rx⟩:=dZ r;cases rx;obtain⟨its,rv,pl,_⟩:=I.list hl;have hi:IntsAre its ns:=ja rv;have le:=rv.length;rw[List.length_map]at le;refine call_set_list (items:=its.toArray) (I.ok.hd hc) pl.isList hi (by rw[List.size_toArray,← le];exact hn) fun h' tk hS hk=>?_
 have e:(firstMet (fun i=>ns.getD i 0) its.toArray.size).length=fE ns:=by rw[List.size_toArray,← le];rfl
 rw[e]at hS;exact⟨.ref s.heap.objs.size,_,I.laid (t':=tk) (fun b u g=>hk b u (Heap.lt_size g) g) (Nat.le_refl _) (show a_ X.prog X.w _ h' _ (.set _ _)from hS),rfl,q _ _ (I.hok.fresh (Nat.le_refl _))⟩
theorem qA:bP X (.builtin "len") (fun xs H Q=>∃ a S n,xs=[.ref a]/\H a=some (.set S n)/\Q (.int (n:Nat)) H):=by
 intro pins s Z H xs us Q I r h;obtain⟨a,S,n,rfl,ha,q⟩:=h;obtain⟨u,rfl,rx⟩:=dZ r;cases rx;obtain⟨o,es,ep,t,ho,hex,hd,_,_,hb,hf,hn⟩:=(show a_ X.prog X.w H s.heap a (.set S n)from I.hok a _ ha);have:(scanBound:Nat)=4096:=rfl;exact call_len_set ho hex hd hf (by omega) ⟨.int n,H,I.tok _,⟨_,by rw[hn]⟩,q⟩
end
structure MT where
 el:Option af
 mv:Nat
 nw:af
def aK(f m:Int)(N:af)(r:ar):af:=r.foldl (fun N p=>d0 f m N p.1 p.2) N
def aW(f m:Int):af->af->Nat->Nat->af×af
 | E,N,_,0=>(E,N)
 | E,N,i,c+1=>aW f m (E.set i []) (aK f m N (E.getD i [])) (i+1) c
def fF(f m:Int)(n:Nat):af->Nat->Nat->List Int
 | _,_,0=>[]
 | E,i,c+1=>((E.getD i []).map fun p=>((plc f m n p.1:Nat):Int))++fF f m n E (i+1) c
def due(pc:Nat)(M:MT):Nat:=match M.el with
 | none=>0
 | some E=>min (M.mv+pc) E.length - M.mv
def dg(f m:Int)(pc:Nat)(M:MT):MT:=match M.el with
 | none=>M
 | some E=>if M.mv+due pc M=E.length then⟨none,0,(aW f m E M.nw M.mv (due pc M)).2⟩else⟨some (aW f m E M.nw M.mv (due pc M)).1,M.mv+due pc M,(aW f m E M.nw M.mv (due pc M)).2⟩
def onE(f m:Int)(M:MT)(k:Int):Option Int:=match M.el with
 | none=>none
 | some E=>aF f m E k
def cX(f m:Int)(M:MT)(k:Int):Option Int:=match onE f m M k with
 | some v=>some v
 | none=>aF f m M.nw k
def en(N:af):Nat:=if N.length < tot N then min (N.length*2) 4096 else if tot N*8 < N.length then max (N.length / 2) 4 else N.length
def beg(M:MT):MT:=match M.el with
 | some _=>M
 | none=>if en M.nw=M.nw.length then M else⟨some M.nw,M.mv,List.replicate (en M.nw) []⟩
def tch(f m:Int)(pc:Nat)(M:MT)(k:Int):Nat:=due pc M+fE (((plc f m M.nw.length k:Nat):Int)::(match M.el with | none=>[] | some E=>fF f m M.nw.length E M.mv (due pc M)))
 + (match(dg f m pc M).el with | none=>0 | some E=>if(dg f m pc M).mv<=plc f m E.length k then 1 else 0)
def cnt(M:MT):Nat:=(match M.el with | none=>0 | some E=>tot E)+tot M.nw
structure POk(f m:Int)(N:af):Prop where
 at_:∀(i:Nat) r p,N[i]?=some r->p∈r->plc f m N.length p.1=i
 ok:∀ r∈N,ROk r
structure TOk(f m:Int)(M:MT):Prop where
 nw:POk f m M.nw
 sz:am M.nw.length
 el:∀ E,M.el=some E->POk f m E/\am E.length/\M.mv < E.length/\(∀ i r,i < M.mv->E[i]?=some r->r=[])/\(∀ k,aF f m E k≠none->aF f m M.nw k=none)
 no:M.el=none->M.mv=0
theorem dj{f m:Int}{N:af}{k:Int}:aF f m N k=aP (N.getD (plc f m N.length k) []) k:=rfl
theorem gz{R:af}{i j:Nat}{r:ar}(h:i < R.length):(R.set i r).getD j []=if i=j then r else R.getD j []:=by
 rw[List.getD_eq_getElem?_getD,List.getElem?_set];by_cases e:i=j
 . rw[if_pos e,if_pos e,if_pos h];rfl
 rw[if_neg e,if_neg e,List.getD_eq_getElem?_getD]
theorem kP{r:ar}{k v j:Int}:aP (eP r k v) j=if j=k then some v else aP r j:=by
 have h:=tm (kvs r) (Sum.inl k:Key) (Sum.inl j) (V.int v);rw[jv,fg,fg]at h;by_cases e:j=k
 . rw[if_pos (pI.mpr e)]at h
   rw[if_pos e];cases q:aP (eP r k v) j with
   | none=>rw[q]at h;cases h
   | some z=>rw[q]at h;injection h with h;injection h with h;rw[h]
 rw[if_neg (fun z=>e (pI.mp z))]at h;rw[if_neg e];cases q:aP (eP r k v) j with
 | none=>rw[q]at h;cases q2:aP r j with
   | none=>rfl
   | some z=>rw[q2]at h;cases h
 | some z=>rw[q]at h;cases q2:aP r j with
   | none=>rw[q2]at h;cases h
   | some y=>rw[q2]at h;injection h with h;injection h with h;rw[h]
theorem kc{f m:Int}{N:af}{k v j:Int}(h:0 < N.length):aF f m (d0 f m N k v) j=if j=k then some v else aF f m N j:=by
 unfold aF io;rw[d5];unfold d0 io;rw[gz (eW h)];by_cases e:j=k
 . subst e
   rw[if_pos rfl,if_pos rfl,kP,if_pos rfl]
 rw[if_neg e];split
 . rename_i e2
   rw[kP,if_neg e,e2]
 rfl
theorem vI{r:ar}{k v:Int}{p:Int×Int}(h:p∈eP r k v):p.1=k∨p∈r:=by
 cases e:aP r k with
 | none=>
   rw[gB e]at h;rcases List.mem_append.mp h with h | h
   . exact .inr h
   exact .inl (by rw[List.mem_singleton.mp h])
 | some z=>
   unfold eP at h;rw[e,if_pos (show(some z).isSome=true from rfl)]at h;obtain⟨q,hq,rfl⟩:=List.mem_map.mp h;by_cases e2:q.1=k
   . rw[if_pos e2];exact .inl e2
   rw[if_neg e2];exact .inr hq
theorem POk.set{f m:Int}{N:af}{i:Nat}{r:ar}(P:POk f m N)(h:∀ p∈r,plc f m N.length p.1=i)(hr:ROk r):POk f m (N.set i r):=by
 refine⟨fun j q p e hp=>?_,ny P.ok hr⟩;rw[List.length_set];by_cases z:i=j
 . subst z
   have lt:i < (N.set i r).length:=(List.getElem?_eq_some_iff.mp e).1;rw[List.length_set]at lt;rw[List.getElem?_set_self lt]at e;cases e;exact h p hp
 rw[List.getElem?_set_ne z]at e;exact P.at_ j q p e hp
theorem POk.put{f m:Int}{N:af}{k v:Int}(P:POk f m N)(h:0 < N.length):POk f m (d0 f m N k v):=
 P.set (fun p hp=>by
  rcases vI hp with e | e
  . rw[e]
  exact P.at_ _ _ p (bM (eW h)) e) (oB (P.ok _ (List.mem_of_getElem? (bM (eW h)))))
theorem POk.empty{f m:Int}{N:af}{i:Nat}(P:POk f m N):POk f m (N.set i []):=P.set (fun p hp=>(List.not_mem_nil hp).elim) List.nodup_nil
theorem ek{f m:Int}:∀{r:ar}{N:af},(aK f m N r).length=N.length
 | [],_=>rfl
 | p::r,N=>by
   show(aK f m (d0 f m N p.1 p.2) r).length=_;rw[ek,d5]
theorem je{f m:Int}:∀{r:ar}{N:af},POk f m N->0 < N.length->POk f m (aK f m N r)
 | [],_,P,_=>P
 | p::r,N,P,h=>je (r:=r) (P.put h) (by rw[d5];exact h)
theorem d_{f m:Int}{k:Int}:∀{r:ar}{N:af},ROk r->0 < N.length->aF f m (aK f m N r) k=match aP r k with | some v=>some v | none=>aF f m N k
 | [],_,_,_=>rfl
 | p::r,N,ok,h=>by
   obtain⟨h1,h2⟩:=List.nodup_cons.mp (show(p.1::r.map (·.1)).Nodup from ok);show aF f m (aK f m (d0 f m N p.1 p.2) r) k=_;rw[d_ h2 (by rw[d5];exact h),kc h]
   by_cases e:p.1=k
   . have:aP r k=none:=(bX k).mpr (by rw[← e];exact h1)
     rw[this,fv e,if_pos e.symm]
   rw[fm e,if_neg (fun z=>e z.symm)]
theorem jO{f m:Int}:∀{r:ar}{N:af},ROk r->0 < N.length->(∀ p∈r,aF f m N p.1=none)->tot (aK f m N r)=tot N+r.length
 | [],_,_,_,_=>rfl
 | p::r,N,ok,h,hn=>by
   obtain⟨h1,h2⟩:=List.nodup_cons.mp (show(p.1::r.map (·.1)).Nodup from ok);show tot (aK f m (d0 f m N p.1 p.2) r)=_;rw[jO h2 (by rw[d5];exact h) (fun q hq=>?_),jq h,hn p (List.mem_cons_self ..),if_pos rfl,List.length_cons]
   . omega
   rw[kc h,if_neg (fun z=>h1 (List.mem_map.mpr ⟨q,hq,z⟩))];exact hn q (List.mem_cons_of_mem _ hq)
structure lS(f m:Int)(E N:af)(i:Nat):Prop where
 e:POk f m E
 n:POk f m N
 e0:0 < E.length
 n0:0 < N.length
 dis:∀ k,aF f m E k≠none->aF f m N k=none
 bare:∀ j r,j < i->E[j]?=some r->r=[]
theorem qv{r:ar}{k v:Int}(h:aP r k=some v):∃ p∈r,p.1=k:=by
 unfold aP at h;obtain⟨p,e,_⟩:=Option.map_eq_some_iff.mp h;exact⟨p,List.mem_of_find?_eq_some e,of_decide_eq_true (List.find?_some (p:=fun p:Int×Int=>decide (p.1=k)) e)⟩
theorem lS.row{f m:Int}{E N:af}{i:Nat}(P:lS f m E N i)(hi:i < E.length):ROk (E.getD i [])/\(∀ k,plc f m E.length k≠i->aP (E.getD i []) k=none) /\ ∀ p∈E.getD i [],aF f m E p.1=aP (E.getD i []) p.1:=by
 have e:=bM hi;refine⟨P.e.ok _ (List.mem_of_getElem? e),fun k hk=>?_,fun p hp=>?_⟩
 . cases q:aP (E.getD i []) k with
   | none=>rfl
   | some v=>
     obtain⟨p,hp,ep⟩:=qv q;exact absurd (P.e.at_ i _ p e hp) (by rw[ep];exact hk)
 rw[dj,P.e.at_ i _ p e hp]
theorem lS.step{f m:Int}{E N:af}{i:Nat}(P:lS f m E N i)(hi:i < E.length):lS f m (E.set i []) (aK f m N (E.getD i [])) (i+1) /\
 (∀ k,(match aF f m (E.set i []) k with | some v=>some v | none=>aF f m (aK f m N (E.getD i [])) k)=match aF f m E k with | some v=>some v | none=>aF f m N k)/\tot (E.set i [])+tot (aK f m N (E.getD i []))=tot E+tot N:=by
 obtain⟨ok,out,ins⟩:=P.row hi;have se:∀ k,aF f m (E.set i []) k=if plc f m E.length k=i then none else aF f m E k:=fun k=>by
  rw[dj,List.length_set,gz hi];by_cases e:plc f m E.length k=i
  . rw[if_pos e.symm,if_pos e];rfl
  rw[if_neg (fun z=>e z.symm),if_neg e];rfl
 have key:∀ k,plc f m E.length k=i->aF f m E k=aP (E.getD i []) k:=fun k e=>by rw[dj,e]
 refine⟨⟨P.e.empty,je P.n P.n0,by rw[List.length_set];exact P.e0,by rw[ek];exact P.n0,fun k hk=>?_,fun j r hj e=>?_⟩,fun k=>?_,?_⟩
 . rw[se]at hk
   by_cases e:plc f m E.length k=i
   . rw[if_pos e]at hk;exact absurd rfl hk
   rw[if_neg e]at hk;rw[d_ ok P.n0,out k e];exact P.dis k hk
 . by_cases z:i=j
   . subst z
     rw[List.getElem?_set_self hi]at e;cases e
     rfl
   rw[List.getElem?_set_ne z]at e;exact P.bare j r (by omega) e
 . rw[se,d_ ok P.n0]
   by_cases e:plc f m E.length k=i
   . rw[if_pos e,key k e]
   rw[if_neg e,out k e]
 have h1:=dG E i [] hi;have h2:=jO (f:=f) (m:=m) (N:=N) ok P.n0 fun p hp=>P.dis _ (by
  rw[ins p hp];exact fun z=>(bX p.1).mp z (List.mem_map.mpr ⟨p,hp,rfl⟩))
 rw[h2];have:([]:ar).length=0:=rfl;omega
theorem iX{f m:Int}:∀(c:Nat) {E N:af}{i:Nat},lS f m E N i->i+c<=E.length->lS f m (aW f m E N i c).1 (aW f m E N i c).2 (i+c)/\(aW f m E N i c).1.length=E.length/\(aW f m E N i c).2.length=N.length /\
 (∀ k,(match aF f m (aW f m E N i c).1 k with | some v=>some v | none=>aF f m (aW f m E N i c).2 k)=match aF f m E k with | some v=>some v | none=>aF f m N k)/\tot (aW f m E N i c).1+tot (aW f m E N i c).2=tot E+tot N
 | 0,E,N,i,P,_=>⟨P,rfl,rfl,fun _=>rfl,rfl⟩
 | c+1,E,N,i,P,h=>by
   obtain⟨P1,l1,t1⟩:=P.step (show i < E.length by omega)
   obtain⟨P2,a2,b2,l2,t2⟩:=iX c P1 (by rw[List.length_set];omega)
   refine⟨?_,by show(aW f m (E.set i []) (aK f m N (E.getD i [])) (i+1) c).1.length=_;rw[a2,List.length_set],by show(aW f m (E.set i []) (aK f m N (E.getD i [])) (i+1) c).2.length=_;rw[b2,ek],fun k=>(l2 k).trans (l1 k),t2.trans t1⟩
   have e:i+(c+1)=i+1+c:=by omega
   rw[e];exact P2
theorem lO{f m:Int}{E:af}(h0:0 < E.length)(h:∀ j r,j < E.length->E[j]?=some r->r=[])(k:Int):aF f m E k=none:=by
 rw[dj];have lt:=eW (f:=f) (m:=m) (k:=k) h0;rw[h _ _ lt (bM lt)]
 rfl
theorem dv{E:af}(h:∀ j r,j < E.length->E[j]?=some r->r=[]):tot E=0:=by
 have key:∀ E:af,(∀ r∈E,r=[])->tot E=0:=by
  intro E
  induction E with
  | nil=>intro _;rfl
  | cons a E ih=>
    intro h;have:=ih fun r hr=>h r (List.mem_cons_of_mem _ hr);have e:=h a (List.mem_cons_self ..);subst e;show([]:ar).length+tot E=0;rw[this]
    rfl
 refine key E fun r hr=>?_;obtain⟨i,e⟩:=List.mem_iff_getElem?.mp hr;exact h i r (List.getElem?_eq_some_iff.mp e).1 e
theorem am.pos{n:Nat}(h:am n):0 < n:=by have:=h.bounds;omega
theorem TOk.pair{f m:Int}{M:MT}{E:af}(T:TOk f m M)(e:M.el=some E):lS f m E M.nw M.mv:=by
 obtain⟨P,s,_,b,d⟩:=T.el E e;exact⟨P,T.nw,s.pos,T.sz.pos,d,b⟩
theorem jx{pc:Nat}{M:MT}{E:af}(e:M.el=some E)(h:M.mv < E.length):M.mv+due pc M<=E.length:=by
 unfold due;rw[e];show M.mv+(min (M.mv+pc) E.length - M.mv)<=E.length;omega
theorem vt{f m:Int}{pc:Nat}{M:MT}(T:TOk f m M):TOk f m (dg f m pc M)/\(∀ k,cX f m (dg f m pc M) k=cX f m M k)/\cnt (dg f m pc M)=cnt M:=by
 cases e:M.el with
 | none=>
   have:dg f m pc M=M:=by unfold dg;rw[e]
   rw[this];exact⟨T,fun _=>rfl,rfl⟩
 | some E=>
   obtain⟨P,s,hm,b,d⟩:=T.el E e;obtain⟨P2,l1,l2,lk,tt⟩:=iX (due pc M) (T.pair e) (jx e hm);by_cases z:M.mv+due pc M=E.length
   . have eg:dg f m pc M=⟨none,0,(aW f m E M.nw M.mv (due pc M)).2⟩:=by unfold dg;rw[e];exact if_pos z
     have bare:∀ j r,j < (aW f m E M.nw M.mv (due pc M)).1.length->(aW f m E M.nw M.mv (due pc M)).1[j]?=some r->r=[]:=fun j r hj=>P2.bare j r (by rw[l1]at hj;omega)
     rw[eg];refine⟨⟨P2.n,by show am (aW f m E M.nw M.mv (due pc M)).2.length;rw[l2];exact T.sz,(fun E' h=>by cases h),fun _=>rfl⟩,fun k=>?_,?_⟩
     . have h1:=lk k
       rw[lO P2.e0 bare]at h1;refine Eq.trans (show aF f m (aW f m E M.nw M.mv (due pc M)).2 k=_ from h1) ?_;unfold cX onE;rw[e]
     have h1:=dv bare;unfold cnt;rw[e];show 0+tot (aW f m E M.nw M.mv (due pc M)).2=tot E+tot M.nw;omega
   have eg:dg f m pc M=⟨some (aW f m E M.nw M.mv (due pc M)).1,M.mv+due pc M,(aW f m E M.nw M.mv (due pc M)).2⟩:=by unfold dg;rw[e];exact if_neg z
   rw[eg];have:=jx (pc:=pc) e hm;refine⟨⟨P2.n,by show am (aW f m E M.nw M.mv (due pc M)).2.length;rw[l2];exact T.sz,(fun E' h=>by
    cases h;exact⟨P2.e,by rw[l1];exact s,by show M.mv+due pc M < _;rw[l1];omega,P2.bare,P2.dis⟩),fun h=>by cases h⟩,fun k=>?_,?_⟩
   . have h1:=lk k
     unfold cX onE;rw[e];exact h1
   unfold cnt;rw[e];exact tt
theorem qj{N:af}(h:am N.length):am (en N):=by
 unfold en;generalize tot N=t;unfold am at h;simp only[List.mem_cons,List.not_mem_nil,or_false]at h;rcases h with h | h | h | h | h | h | h | h | h | h | h <;> rw[h] <;> (split;· unfold am;decide) <;> (split;· unfold am;decide) <;> (unfold am;decide)
def tfl(t:Addr)(pc:Int)(el:V)(mv:Int)(n:Addr)(tc:Int):List (Str×V):=[("mixer",.ref t),("pace",.int pc),("elder",el),("moved",.int mv),("newer",.ref n),("touches",.int tc)]
section
variable(t:Addr)(pc:Int)(el:V)(mv:Int)(n:Addr)(tc:Int)
theorem qk:(tfl t pc el mv n tc).lookup ("mixer":Str)=some (.ref t):=by kernel_rfl
theorem tU:(tfl t pc el mv n tc).lookup ("pace":Str)=some (.int pc):=by kernel_rfl
theorem aY:(tfl t pc el mv n tc).lookup ("elder":Str)=some el:=by kernel_rfl
theorem cI:(tfl t pc el mv n tc).lookup ("moved":Str)=some (.int mv):=by kernel_rfl
theorem bc:(tfl t pc el mv n tc).lookup ("newer":Str)=some (.ref n):=by kernel_rfl
theorem l_:(tfl t pc el mv n tc).lookup ("touches":Str)=some (.int tc):=by kernel_rfl
theorem k_(v:V):aV "elder" v (tfl t pc el mv n tc)=tfl t pc v mv n tc:=by kernel_rfl
theorem kX(z:Int):aV "moved" (.int z) (tfl t pc el mv n tc)=tfl t pc el z n tc:=by kernel_rfl
theorem qx(z:Addr):aV "newer" (.ref z) (tfl t pc el mv n tc)=tfl t pc el mv z tc:=by kernel_rfl
theorem mV(z:Int):aV "touches" (.int z) (tfl t pc el mv n tc)=tfl t pc el mv n z:=by kernel_rfl
theorem xO:aV "touches" (.int tc) (aV "newer" (.ref n) (aV "moved" (.int mv) (aV "elder" el (aV "pace" (.int pc) (aV "mixer" (.ref t) [])))))=tfl t pc el mv n tc:=by kernel_rfl
end
structure NoT(x:Str):Prop where
 no:∀(t:Addr) (pc:Int) (el:V) (mv:Int) (n:Addr) (tc:Int),(tfl t pc el mv n tc).lookup x=none
theorem oW:NoT "look":=⟨fun _ _ _ _ _ _=>by kernel_rfl⟩
theorem sO:NoT "state":=⟨fun _ _ _ _ _ _=>by kernel_rfl⟩
theorem vQ:NoT "many":=⟨fun _ _ _ _ _ _=>by kernel_rfl⟩
theorem nr:NoT "touched":=⟨fun _ _ _ _ _ _=>by kernel_rfl⟩
theorem tQ:NoT "sizes":=⟨fun _ _ _ _ _ _=>by kernel_rfl⟩
theorem m7:NoT "shelves":=⟨fun _ _ _ _ _ _=>by kernel_rfl⟩
theorem qN:NoT "go_on":=⟨fun _ _ _ _ _ _=>by kernel_rfl⟩
theorem jV:NoT "due_places":=⟨fun _ _ _ _ _ _=>by kernel_rfl⟩
theorem jY:NoT "move_place":=⟨fun _ _ _ _ _ _=>by kernel_rfl⟩
theorem mZ:NoT "end_move":=⟨fun _ _ _ _ _ _=>by kernel_rfl⟩
theorem fN:NoT "stands_on_elder":=⟨fun _ _ _ _ _ _=>by kernel_rfl⟩
theorem jQ:NoT "shelf_with":=⟨fun _ _ _ _ _ _=>by kernel_rfl⟩
theorem jW:NoT "begin_move":=⟨fun _ _ _ _ _ _=>by kernel_rfl⟩
theorem iW:NoT "wanted_size":=⟨fun _ _ _ _ _ _=>by kernel_rfl⟩
def nF(CS:Addr)(H:Hp)(f m:Int)(v:V)(o:Option af)(FE:Addr->Prop):Prop:=match o with
 | none=>v=.non /\ ∀ b,¬ FE b
 | some E=>∃ e,v=.ref e/\Sh CS H e f m E FE
structure TbX(CS CT:Addr)(H:Hp)(p:Addr)(f m:Int)(pc:Nat)(M:MT)(tc:Int)(t n:Addr)(v:V)(FN FE:Addr->Prop):Prop where
 ob:∃ dx,H p=some (.ins CT dx (tfl t pc v M.mv n tc))
 mx:H t=some (.tup [.int f,.int m])
 bm:0<=f/\f<=65535
 nw:Sh CS H n f m M.nw FN
 el:nF CS H f m v M.el FE
 ne:∀ b,FE b -> ¬ FN b
 np:¬ FN p /\ ¬ FE p
def Tb(CS CT:Addr)(H:Hp)(p:Addr)(f m:Int)(pc:Nat)(M:MT)(tc:Int)(F:Addr->Prop):Prop:=∃ t n v FN FE,TbX CS CT H p f m pc M tc t n v FN FE /\ ∀ b,F b ↔ (b=p∨FN b∨FE b)
section
variable{CS CT:Addr}{H H':Hp}{p:Addr}{f m:Int}{pc:Nat}{M:MT}{tc:Int}{t n:Addr}{v:V}{FN FE F G:Addr->Prop}
theorem nF.keep{o:Option af}(S:nF CS H f m v o FE)(k:Fr G H H')(d:∀ b,FE b -> ¬ G b)(dt:∀ b xs,H b=some (.tup xs) -> ¬ G b):nF CS H' f m v o FE:=by
 cases o with
 | none=>exact S
 | some E=>
   obtain⟨e,he,S⟩:=S;exact⟨e,he,S.keep k d dt⟩
theorem nF.live{o:Option af}(S:nF CS H f m v o FE){b:Addr}(h:FE b):∃ o',H b=some o' /\ ∀ xs,o' ≠ .tup xs:=by
 cases o with
 | none=>exact absurd h (S.2 b)
 | some E=>
   obtain⟨e,he,S⟩:=S;exact S.live h
theorem Tb.live(S:Tb CS CT H p f m pc M tc F){b:Addr}(h:F b):∃ o',H b=some o' /\ ∀ xs,o' ≠ .tup xs:=by
 obtain⟨t,n,v,FN,FE,X,hF⟩:=S;rcases(hF b).mp h with rfl | h | h
 . obtain⟨dx,e⟩:=X.ob
   exact⟨_,e,fun xs z=>by cases z⟩
 . exact X.nw.live h
 exact X.el.live h
theorem Tb.fresh(S:Tb CS CT H p f m pc M tc F){b:Addr}(h:H b=none):¬ F b:=fun z=>by
 obtain⟨o,e,_⟩:=S.live z;rw[h]at e;cases e
theorem Tb.keep(S:Tb CS CT H p f m pc M tc F)(k:Fr G H H')(d:∀ b,F b -> ¬ G b)(dt:∀ b xs,H b=some (.tup xs) -> ¬ G b):Tb CS CT H' p f m pc M tc F:=by
 obtain⟨t,n,v,FN,FE,X,hF⟩:=S;obtain⟨dx,e⟩:=X.ob;exact⟨t,n,v,FN,FE,⟨⟨dx,k _ _ (d p ((hF p).mpr (.inl rfl))) e⟩,k _ _ (dt _ _ X.mx) X.mx,X.bm,X.nw.keep k (fun b hb=>d b ((hF b).mpr (.inr (.inl hb)))) dt,X.el.keep k (fun b hb=>d b ((hF b).mpr (.inr (.inr hb)))) dt,X.ne,X.np⟩,hF⟩
theorem Tb.same(S:Tb CS CT H p f m pc M tc F)(k:ac H H'):Tb CS CT H' p f m pc M tc F:=
 S.keep (G:=fun _=>False) (fun b o _ e=>k b o e) (fun _ _ z=>z) fun _ _ _ z=>z
theorem Tb.self(S:Tb CS CT H p f m pc M tc F):F p:=by
 obtain⟨t,n,v,FN,FE,X,hF⟩:=S;exact(hF p).mpr (.inl rfl)
end
abbrev Gr(H:Hp)(F F':Addr->Prop):Prop:=∀ b,F' b->F b∨H b=none
def nk(CS CT:Addr):Sp:=fun vs H Q _=>∃(p:Addr) (f m:Int) (pc:Nat) (M:MT) (tc:Int) (F:Addr->Prop),vs=[.ref p]/\Tb CS CT H p f m pc M tc F/\TOk f m M/\pc<=1000 /\
 ∀ l H',ac H H'->H l=none->H' l=some (.lst ((gF M.mv (due pc M)).map V.int))->Q (.ref l) H'
def pw(CS CT:Addr):Sp:=fun vs H Q _=>∃(p:Addr) (i:Nat) (f m:Int) (pc:Nat) (E N:af) (mv:Nat) (tc:Int) (F:Addr->Prop),vs=[.ref p,.int i]/\Tb CS CT H p f m pc ⟨some E,mv,N⟩ tc F/\i < E.length/\lS f m E N i/\tot E+tot N<=90000 /\
 ∀ l H' F',Tb CS CT H' p f m pc ⟨some (E.set i []),mv,aK f m N (E.getD i [])⟩ tc F'->Gr H F F'->Fr F H H'->H l=none -> ¬ F' l->H' l=some (.lst (((E.getD i []).map fun q=>((plc f m N.length q.1:Nat):Int)).map V.int))->Q (.ref l) H'
def jX(M:MT):MT:=match M.el with
 | none=>M
 | some E=>if M.mv=E.length then⟨none,0,M.nw⟩else M
def nK(CS CT:Addr):Sp:=fun vs H Q _=>∃(p:Addr) (f m:Int) (pc:Nat) (M:MT) (tc:Int) (F:Addr->Prop),vs=[.ref p]/\Tb CS CT H p f m pc M tc F /\
 ∀ H' F',Tb CS CT H' p f m pc (jX M) tc F'->Gr H F F'->Fr F H H'->Q .non H'
def cL(f m:Int)(M:MT)(k:Int):Bool:=match M.el with
 | none=>false
 | some E=>decide (M.mv<=plc f m E.length k)
def gG(CS CT:Addr):Sp:=fun vs H Q _=>∃(p:Addr) (k f m:Int) (pc:Nat) (M:MT) (tc:Int) (F:Addr->Prop),vs=[.ref p,.int k]/\Tb CS CT H p f m pc M tc F/\Q (.bl (cL f m M k)) H
def qG(CS CT:Addr):Sp:=fun vs H Q _=>∃(p:Addr) (k f m:Int) (pc:Nat) (M:MT) (tc:Int) (F:Addr->Prop),vs=[.ref p,.int k]/\Tb CS CT H p f m pc M tc F/\TOk f m M/\pc<=1000/\(cnt M<=4000∨M.el=none) /\
 ∀ H' F',Tb CS CT H' p f m pc (dg f m pc M) (tch f m pc M k) F'->Gr H F F'->Fr F H H'->Q .non H'
def lF(CS CT:Addr):Sp:=fun vs H Q _=>∃(p:Addr) (k f m:Int) (pc:Nat) (M:MT) (tc:Int) (t n:Addr) (v:V) (FN FE:Addr->Prop),vs=[.ref p,.int k]/\TbX CS CT H p f m pc M tc t n v FN FE /\
 (∀ E,M.el=some E->aF f m E k≠none->Q v H)/\(onE f m M k=none->Q (.ref n) H)
def lI(CS CT:Addr):Sp:=fun vs H Q _=>∃(p:Addr) (f m:Int) (pc:Nat) (M:MT) (tc:Int) (F:Addr->Prop),vs=[.ref p]/\Tb CS CT H p f m pc M tc F/\Q (.int (en M.nw:Nat)) H
def gp(CS CT:Addr):Sp:=fun vs H Q _=>∃(p:Addr) (f m:Int) (pc:Nat) (M:MT) (tc:Int) (F:Addr->Prop),vs=[.ref p]/\Tb CS CT H p f m pc M tc F/\am M.nw.length /\
 ∀ H' F',Tb CS CT H' p f m pc (beg M) tc F'->Gr H F F'->Fr F H H'->Q .non H'
def wK(f m:Int)(pc:Nat)(M:MT):MT:=beg (dg f m pc M)
def lu(CS CT:Addr):Sp:=fun vs H Q _=>∃(p:Addr) (k f m:Int) (pc:Nat) (M:MT) (tc:Int) (F:Addr->Prop),vs=[.ref p,.int k]/\Tb CS CT H p f m pc M tc F/\TOk f m M/\pc<=1000/\cnt M<=4000 /\
 ∀ H' F',Tb CS CT H' p f m pc (wK f m pc M) (tch f m pc M k) F'->Gr H F F'->Fr F H H'->Q (oV (cX f m M k)) H'
def fM(CS CT:Addr):Sp:=fun vs H Q _=>∃(p:Addr) (f m:Int) (pc:Nat) (M:MT) (tc:Int) (t n:Addr) (v:V) (FN FE:Addr->Prop),vs=[.ref p]/\TbX CS CT H p f m pc M tc t n v FN FE /\
 ∀ l,H l=none->Q (.ref l) (upd H l (.lst (match M.el with | none=>[.ref n] | some _=>[v,.ref n])))
def lA(CS CT:Addr):Sp:=fun vs H Q _=>∃(p:Addr) (f m:Int) (pc:Nat) (M:MT) (tc:Int) (F:Addr->Prop),vs=[.ref p]/\Tb CS CT H p f m pc M tc F /\ ∀ H',ac H H'->Q (.int (cnt M:Nat)) H'
def PrT(K:W.Frag)(H:Hp)(v:V)(p:Int×Int):Prop:=∃ a,v=.ref a/\SqT K H a [.int p.1,.int p.2]
def uK(K:W.Frag)(H:Hp)(v:V)(r:ar):Prop:=∃ b ys,v=.ref b/\SqT K H b ys/\Paired (PrT K H) ys r
def ik(K:W.Frag)(H:Hp)(a:Addr)(R:af):Prop:=∃ xs,SqT K H a xs/\Paired (uK K H) xs R
def laid(f m:Int)(R:af):af:=R.foldl (fun N r=>aK f m N r) (List.replicate R.length [])
def gP(K:W.Frag)(CS:Addr):Sp:=fun vs H Q _=>∃(a t:Addr) (f m:Int) (R:af),vs=[.ref a,.ref t]/\ik K H a R/\am R.length/\tot R<=5000/\H t=some (.tup [.int f,.int m])/\(0<=f/\f<=65535) /\
 ∀ p H' F,Sh CS H' p f m (laid f m R) F->(∀ b,F b->H b=none)->ac H H'->Q (.ref p) H'
def M0:MT:=⟨none,0,List.replicate 4 []⟩
section
variable{CS CT:Addr}{H:Hp}{Q:VK}{E:XK}{p:Addr}{k y f m:Int}{pc:Nat}{M:MT}{tc:Int}{F:Addr->Prop}
theorem wT{x:Str}{P:Prop}(S:Tb CS CT H p f m pc M tc F)(hn:NoT x)(h:P):∃ a dx fs,V.ref p=.ref a/\H a=some (.ins CT dx fs)/\fs.lookup x=none/\P:=by
 obtain⟨t,n,v,FN,FE,X,hF⟩:=S;obtain⟨dx,e⟩:=X.ob;exact⟨p,dx,_,rfl,e,hn.no _ _ _ _ _ _,h⟩
theorem tF(S:Tb CS CT H p f m pc M tc F)(T:TOk f m M)(hp:pc<=1000)(hc:cnt M<=4000)(q:∀ H' F',Tb CS CT H' p f m pc (wK f m pc M) (tch f m pc M k) F'->Gr H F F'->Fr F H H'->Q (oV (cX f m M k)) H'):lu CS CT (V.ref p::([V.int k]++[])) H Q E:=⟨p,k,f,m,pc,M,tc,F,rfl,S,T,hp,hc,q⟩
theorem xl(S:Tb CS CT H p f m pc M tc F)(q:∀ H',ac H H'->Q (.int (cnt M:Nat)) H'):lA CS CT (V.ref p::([]++[])) H Q E:=⟨p,f,m,pc,M,tc,F,rfl,S,q⟩
end
theorem d8{f m:Int}:∀(j:Nat) (E N:af) (i:Nat),aW f m E N i (j+1)=((aW f m E N i j).1.set (i+j) [],aK f m (aW f m E N i j).2 ((aW f m E N i j).1.getD (i+j) []))
 | 0,E,N,i=>rfl
 | j+1,E,N,i=>by
   show aW f m (E.set i []) (aK f m N (E.getD i [])) (i+1) (j+1)=_;rw[d8 j];have e:i+1+j=i+(j+1):=by omega
   rw[e]
   rfl
theorem fP{f m:Int}:∀(j:Nat) (E N:af) (i k:Nat),i+j<=k->i+j<=E.length->(aW f m E N i j).1.getD k []=E.getD k []
 | 0,_,_,_,_,_,_=>rfl
 | j+1,E,N,i,k,h,hl=>by
   show(aW f m (E.set i []) (aK f m N (E.getD i [])) (i+1) j).1.getD k []=_;rw[fP j _ _ _ _ (by omega) (by rw[List.length_set];omega),gz (by omega),if_neg (by omega)]
theorem fJ{f m:Int}{n:Nat}:∀(j:Nat) (E:af) (i:Nat),fF f m n E i (j+1)=fF f m n E i j++(E.getD (i+j) []).map fun p=>((plc f m n p.1:Nat):Int)
 | 0,E,i=>by
   show((E.getD i []).map fun p=>((plc f m n p.1:Nat):Int))++[]=[]++_;rw[List.append_nil,List.nil_append]
   rfl
 | j+1,E,i=>by
   show((E.getD i []).map fun p=>((plc f m n p.1:Nat):Int))++fF f m n E (i+1) (j+1)=(((E.getD i []).map fun p=>((plc f m n p.1:Nat):Int))++fF f m n E (i+1) j)++_;rw[fJ j,List.append_assoc,show i+1+j=i+(j+1) by omega]
theorem fI{f m:Int}:∀(j:Nat) (E N:af) (i:Nat),(aW f m E N i j).1.length=E.length
 | 0,_,_,_=>rfl
 | j+1,E,N,i=>by
   rw[d8];show((aW f m E N i j).1.set (i+j) []).length=_;rw[List.length_set,fI j]
theorem gT{f m:Int}{n:Nat}:∀(j:Nat) (E N:af) (i:Nat),i+j<=E.length->tot (aW f m E N i j).1+(fF f m n E i j).length=tot E
 | 0,_,_,_,_=>rfl
 | j+1,E,N,i,h=>by
   have ih:=gT (f:=f) (m:=m) (n:=n) j E N i (by omega)
   have t:=dG (aW f m E N i j).1 (i+j) [] (by rw[fI];omega)
   rw[fP j E N i (i+j) (Nat.le_refl _) (by omega)]at t
   rw[d8,fJ,List.length_append,List.length_map];show tot ((aW f m E N i j).1.set (i+j) [])+_=_;have e0:([]:ar).length=0:=rfl;omega
theorem cO{f m:Int}:∀{r:ar}{N:af},0 < N.length->tot (aK f m N r)<=tot N+r.length
 | [],_,_=>Nat.le_refl _
 | p::r,N,h=>by
   show tot (aK f m (d0 f m N p.1 p.2) r)<=_;have:=cO (f:=f) (m:=m) (r:=r) (N:=d0 f m N p.1 p.2) (by rw[d5];exact h)
   rw[jq h]at this;rw[List.length_cons];split at this <;> omega
theorem ib{f m:Int}{N:af}{r:ar}{j:Nat}{p:Int×Int}(h:r[j]?=some p):aK f m N (r.take (j+1))=d0 f m (aK f m N (r.take j)) p.1 p.2:=by
 rw[List.take_add_one,h];unfold aK;rw[List.foldl_append]
 rfl
def mid(f m:Int)(M:MT)(j:Nat):MT:=match M.el with
 | none=>M
 | some E=>⟨some (aW f m E M.nw M.mv j).1,M.mv,(aW f m E M.nw M.mv j).2⟩
def rch(f m:Int)(M:MT)(j:Nat):List Int:=match M.el with
 | none=>[]
 | some E=>fF f m M.nw.length E M.mv j
theorem Gr.trans{H H1:Hp}{F F1 F2:Addr->Prop}(a:Gr H F F1)(k:Fr F H H1)(b:Gr H1 F1 F2):Gr H F F2:=fun c hc=>by
 rcases b c hc with z | z
 . exact a c z
 by_cases hF:F c
 . exact .inl hF
 cases e:H c with
 | none=>exact .inr rfl
 | some o=>rw[k c o hF e]at z;cases z
section
variable{CS CT:Addr}{H H':Hp}{p:Addr}{f m:Int}{pc:Nat}{M:MT}{tc:Int}{t n:Addr}{v:V}{FN FE F G:Addr->Prop}
theorem TbX.tb(X:TbX CS CT H p f m pc M tc t n v FN FE):Tb CS CT H p f m pc M tc (fun b=>b=p∨FN b∨FE b):=⟨t,n,v,FN,FE,X,fun _=>Iff.rfl⟩
end
theorem vM{f m:Int}{pc:Nat}{M:MT}:jX { mid f m M (due pc M)with mv:=M.mv+due pc M }=dg f m pc M:=by
 unfold jX mid dg;cases e:M.el with
 | none=>
   have:due pc M=0:=by unfold due;rw[e]
   simp only[e,this];cases M;simp at e;subst e
   rfl
 | some E=>
   simp only[fI]
theorem xU{f m:Int}{pc:Nat}{M:MT}{k:Int}:tch f m pc M k=due pc M+fE (((plc f m M.nw.length k:Nat):Int)::rch f m M (due pc M))+(if cL f m (dg f m pc M) k=true then 1 else 0):=by
 unfold tch rch cL
 congr 1
 cases (dg f m pc M).el with
 | none=>rfl
 | some E=>
   simp only[];by_cases z:(dg f m pc M).mv<=plc f m E.length k
   . rw[if_pos z,if_pos (decide_eq_true z)]
   rw[if_neg z,if_neg (by rw[decide_eq_false z];exact Bool.false_ne_true)]
theorem qX{f m:Int}{M:MT}{k:Int}{E:af}(e:M.el=some E)(h:aF f m E k≠none):aF f m E k=cX f m M k:=by
 unfold cX onE;rw[e];cases z:aF f m E k with
 | none=>exact absurd z h
 | some x=>simp[z]
theorem sy{f m:Int}{M:MT}{k:Int}(h:onE f m M k=none):aF f m M.nw k=cX f m M k:=by
 unfold cX;rw[h]
theorem wITup{K:W.Frag}{Z:L2.St}{H:Hp}{tl:TE}{R:It->Hp->Prop}(h:tl Z H fun x H1=>∃ a,x=.ref a/\(∃ xs,SqT K H1 a xs)/\R (Itt K a) H1):w_ K tl Z H R:=h
theorem wDIn{Z:L2.St}{H:Hp}{Q:VK}{td ty:TE}(h:ty Z H fun y H1=>td Z H1 fun x H2=>∃ a o,x=.ref a/\cK H2 a y o/\Q (.bl o.isSome) H2):xw ty td Z H Q:=h
namespace B
theorem tdin{X:Cx}{a d:Expr}{ty td:TE}{pos:Pos}(hu:X.A.units+1 < cLine)(hk:Bx (PE X a ty))(hd:Bx (PE X d td))(h1:behindInMarks .In d=false:=by first | rfl | with_unfolding_all rfl):Bx (PT X (.Compare a [.In] [d] pos) (tB (xw ty td))):=⟨tV (xA hu hk.out hd.out) h1⟩
end B
end SW
namespace SW
open PySem PySem.Spec PyProof.Rows L2
structure bD(X:Cx)(scope:Scope)(cl:List (Str×Addr))(os:List Str)(js:List Nat)(N':List Str):Prop where
 clos:closureFor scope X.env=pure cl
 kind:scope.kind=.function
 nocell:∀ y∈scope.names,y.2 ≠ .cell
 names:∀ y∈scope.names,y.2=.local->scope.names.lookup y.1=some .local
 sub:∀ p∈cl,X.env.cells.lookup p.1=some p.2
 has:∀ y,((relabel scope X.env).names.lookup y=some .cell∨(relabel scope X.env).names.lookup y=some .free) -> ∃ c,cl.lookup y=some c
 nm:N'=os++js.map fun j=>X.N.getD j Str.empty
 see:∀(i j:Nat),js[i]?=some j -> ∃ y,X.N[j]?=some y/\(X.env.kindOf y=some .cell∨X.env.kindOf y=some .free)/\((relabel scope X.env).names.lookup y=some .cell∨(relabel scope X.env).names.lookup y=some .free)
def gd(n:Nat)(Z:L2.St)(js:List Nat):L2.St:=List.replicate n none++js.map fun j=>Z.getD j none
section
variable{X:Cx}{scope:Scope}{cl:List (Str×Addr)}{os:List Str}{js:List Nat}{N':List Str}{pins:List (Addr×Obj)}{Z:L2.St}{H:Hp}{s:Shared}{fp:List Addr}
theorem bD.sub'(S:bD X scope cl os js N'){y:Str}{c:Addr}(h:cl.lookup y=some c):X.env.cells.lookup y=some c:=S.sub (y,c) (PySem.mem_of_lookup h)
theorem mM(S:bD X scope cl os js N')(I:Inv X pins Z H s)(hf:∀ b∈fp,dN X pins H b)(ho:∀ b∈fp,b < s.heap.objs.size):(aD X scope cl N' s H fp pins).Ok where
 mod:=I.ok.mod
 kind:=S.kind
 glob:=I.ok.glob
 blt:=I.ok.blt
 above:=Nat.le_refl _
 inj:=fun y z c h1 h2=>I.ok.inj y z c (S.sub' h1) (S.sub' h2)
 has:=fun y h=>S.has y h
 cab:=fun y c h=>absurd h Bool.false_ne_true
 hd:=I.ok.hd
 frames:=I.ok.frames
 stk:=.inl rfl
 exf:=fun b hb=>⟨Nat.ne_of_lt (ho b hb),fun y c h=>(hf b hb).2.2.2.2.1 y c (S.sub' h)⟩
 bs:=I.bs
 bsz:=Nat.le_trans I.ok.bsz I.sz
 noex:=fun b o e hb=>by
  rcases(hf b hb).2.2.2.1 with z | z
  . exact I.ok.noex b o e z
  exact absurd (Nat.lt_of_lt_of_le (Heap.lt_size (I.ok.bs b o e).1) z) (Nat.lt_irrefl _)
 exfs:=fun b hb z=>by
  rcases List.mem_cons.mp (I.stkSub b z)with e | e
  . exact(hf b hb).2.1 e
  exact(hf b hb).2.2.1 e
 funs:=I.stack
 frf:=I.stkFree
theorem p9(S:bD X scope cl os js N')(I:Inv X pins Z H s)(hf:∀ b∈fp,dN X pins H b)(ho:∀ b∈fp,b < s.heap.objs.size){s4:Shared}{m:Str->Option Value}(hos:s4.os=s.os)(hg:s4.gens=s.gens)
 (hn:s4.heap.Ns s.heap.objs.size m) (hk:∀ b o,s.heap.get? b=some o->s4.heap.get? b=some o):Inv (aD X scope cl N' s H fp pins) [] (gd os.length Z js) H s4 where
 ok:=mM S I hf ho
 os:=hos
 bare:=by rw[hg];exact I.bare
 base:=Un.kept hk
 loc:=by
  obtain⟨mX,_,hl⟩:=I.loc;refine⟨m,hn,fun i y v h1 h2 h3=>?_⟩;by_cases hio:i < os.length
  . unfold gd at h2
    rw[List.getElem?_append_left (by rw[List.length_replicate];exact hio),List.getElem?_replicate_of_lt hio]at h2
    cases h2
  obtain⟨i',rfl⟩:∃ i',i=os.length+i':=⟨i - os.length,by omega⟩
  have h1':N'[os.length+i']?=some y:=h1;rw[S.nm,List.getElem?_append_right (by omega),Nat.add_sub_cancel_left,List.getElem?_map]at h1'
  unfold gd at h2;rw[List.getElem?_append_right (by rw[List.length_replicate];omega),List.length_replicate,Nat.add_sub_cancel_left,List.getElem?_map]at h2
  revert h1' h2
  generalize i'=i;intro h2 h1';cases ej:js[i]? with
  | none=>rw[ej]at h2;cases h2
  | some j=>
    rw[ej]at h1' h2;obtain⟨z,hz,k1,k2⟩:=S.see i j ej;have ey:z=y:=by
     have:X.N.getD j Str.empty=y:=Option.some.inj h1';rw[List.getD_eq_getElem?_getD,hz]at this;exact this
    subst ey;have ev:Z[j]?=some (some v):=by
     have q:Z.getD j none=some v:=Option.some.inj h2;rw[List.getD_eq_getElem?_getD]at q;cases e:Z[j]? with
     | none=>rw[e]at q;cases q
     | some w'=>rw[e]at q;exact congrArg some q
    have kx:X.env.scope.names.lookup z=some .cell∨X.env.scope.names.lookup z=some .free:=k1;obtain⟨u,r,l⟩:=hl j z v hz ev (.inr kx);refine⟨u,r,.inr ⟨k2,?_⟩⟩;obtain⟨c,hc⟩:=S.has z k2;rcases l with ⟨kl,_⟩ | ⟨_,c',e',cell⟩
    . rcases k1 with k1 | k1 <;> rw[k1]at kl <;> cases kl
    have:c'=c:=Option.some.inj (e'.symm.trans (S.sub' hc));subst this;obtain⟨o,q1,q2⟩:=cell;exact⟨c',hc,o,hk _ _ q1,q2⟩
 cell:=fun y c h=>by
  obtain⟨v,o,q1,q2⟩:=I.cell y c (S.sub' h);exact⟨v,o,hk _ _ q1,q2⟩
 free:=I.hok.fresh (Nat.le_refl _)
 freeC:=fun y c h=>I.freeC y c (S.sub' h)
 pin:=fun p hp=>by
  have hp':p∈X.pn++pins:=by
   have q:p∈(X.pn++pins)++[]:=hp;rw[List.append_nil]at q;exact q
  obtain⟨e,n,ne,nf,d⟩:=I.pin p hp';refine⟨hk _ _ e,n,Nat.ne_of_lt (Heap.lt_size e),fun z=>?_,d⟩;rcases List.mem_cons.mp (I.stkSub p.1 z)with q | q
  . exact ne q
  exact nf q
 hok:=I.hok.kept hk
 len:=by
  show(gd os.length Z js).length=N'.length;rw[S.nm];unfold gd;simp
end
def nR(n:Nat)(js:List Nat)(wi:TI)(gt:TG)(tt:TT)(te:TE):TE:=fun Z H Q=>wi Z H fun J H1=>∀ D,H1 D=none -> ∃ W:Nat->Nat->L2.St->Hp->Prop,(∃ m,W 0 m (gd n Z js) (upd H1 D (.lst []))) /\
 ∀ i m Z' H',W i m Z' H'->(J.stop i H'/\Q (.ref D) H')∨(J.go i H' /\ ∀ x H2,J.yld i H' x H2->gt x Z' H2 fun Z2 H2'=>tt Z2 H2' fun ok H3=>
   if ok=true then te Z2 H3 fun y H4=>∃ ys,H4 D=some (.lst ys)/\ys.length < sizeLine /\ ∃ m',m' < m/\W (i+1) m' Z2 (upd H4 D (.lst (ys++[y])))
   else ∃ m',m' < m/\W (i+1) m' Z2 H3)
section
variable{X:Cx}{scope:Scope}{cl:List (Str×Addr)}{os:List Str}{js:List Nat}{N':List Str}{elt iter:Expr}{ifs:List Expr}{tgt:Expr}{pos:Pos}{wi:TI}{gt:TG}{tt:TT}{te:TE}
theorem nc{RR:Value->Addr->Result->Shared->Prop}{pins:List (Addr×Obj)}{Z:L2.St}{H2:Hp}{s2:Shared}{Q:VK}{it:Addr}{fp:List Addr}{tn:Nat->Heap->Prop}{J:It}(S:bD X scope cl os js N')(hc:X.calm=true)(hg:∀ s H fp pins,PG (aD X scope cl N' s H fp pins) tgt gt)
 (ht:∀ s H fp pins,PTs (aD X scope cl N' s H fp pins) ifs tt) (he:∀ s H fp pins,PE (aD X scope cl N' s H fp pins) elt te)
 (I2:Inv X pins Z H2 s2) (T:nJ X.prog X.w X.K tgt J fp it tn) (st2:tn 0 s2.heap) (f2:∀ b∈fp,dN X pins H2 b)
 (k:∀ D,H2 D=none -> ∃ W:Nat->Nat->L2.St->Hp->Prop,(∃ m,W 0 m (gd os.length Z js) (upd H2 D (.lst []))) /\
  ∀ i m Z' H',W i m Z' H'->(J.stop i H'/\Q (.ref D) H')∨(J.go i H' /\ ∀ x H2,J.yld i H' x H2->gt x Z' H2 fun Z2 H2'=>tt Z2 H2' fun ok H3=>
    if ok=true then te Z2 H3 fun y H4=>∃ ys,H4 D=some (.lst ys)/\ys.length < sizeLine /\ ∃ m',m' < m/\W (i+1) m' Z2 (upd H4 D (.lst (ys++[y])))
    else ∃ m',m' < m/\W (i+1) m' Z2 H3))
 (fin:∀(D C:Addr) (s6:Shared) (H6:Hp) (m:Str->Option Value),s6.heap.Ns C m->(∀ h',Heap.SameBut C s6.heap h'->Inv X pins Z H6 { s6 with heap:=h' })->H6 C=none->dN X pins H6 C->Q (.ref D) H6->RR (.ref D) C (.ok .next) s6) :
 wpAny (model X.prog X.w) X.A (newList []) (fun acc s₃=>wpAny (model X.prog X.w) X.A (newFunctionEnv scope X.env.globals cl [] X.env.qual none .none (some X.env)) (fun cenv s₄=>
  codeAny (model X.prog X.w) X.A (.compStart (.ListComp elt [⟨tgt,iter,ifs,0⟩] scope pos) 0 (.ref it) acc { cenv with scope:=relabel scope X.env }) (RR acc cenv.locals) s₄) X.xe s₃) X.xe s2:=by
 have hDn:H2 s2.heap.objs.size=none:=I2.hok.fresh (Nat.le_refl _);obtain⟨W,⟨m0,w0⟩,turn⟩:=k s2.heap.objs.size hDn;refine wpAny_newObj_type (wpAny_newFunctionEnv S.nocell (by intro y hy;simp at hy) (fun h4 hns4 hsb4=>?_) S.kind) (by show 0<=sizeLine;exact Nat.zero_le _)
 have I3:Inv X pins Z (upd H2 s2.heap.objs.size (.lst [])) { s2 with heap:=s2.heap.push { cls:=.type "list",dict:=none,data:=.seq ([]:List Value).toArray } }:=
  I2.laid (t':=s2.toks) (fun b u e=>Heap.get?_push_of_some _ e) (Nat.le_refl _) ⟨Nat.zero_le _,[],0,.nil,Heap.get?_push_size _ rfl⟩
 have ltf:∀ b∈fp,b < s2.heap.objs.size:=fun b hb=>let⟨o,e,_⟩:=T.obj 0 _ st2 b hb;Heap.lt_size e;have f3:∀ b∈fp,dN X pins (upd H2 s2.heap.objs.size (.lst [])) b:=fun b hb=>⟨by rw[ag (Nat.ne_of_lt (ltf b hb))];exact(f2 b hb).1,(f2 b hb).2⟩
 generalize hH:upd H2 s2.heap.objs.size (.lst [])=H3 at *;generalize hS3:({ s2 with heap:=s2.heap.push { cls:=.type "list",dict:=none,data:=.seq ([]:List Value).toArray } }:Shared)=s3 at *;have o3:∀ b∈fp,b < s3.heap.objs.size:=fun b hb=>by
  rw[← hS3];show b < (s2.heap.push _).objs.size;rw[Heap.size_push];exact Nat.lt_succ_of_lt (ltf b hb)
 have k4:∀ b o,s3.heap.get? b=some o->h4.get? b=some o:=fun b o e=>(hsb4.2 b (Nat.ne_of_lt (Heap.lt_size e))).trans (Heap.get?_push_of_some _ e);have st3:tn 0 s3.heap:=T.keep 0 _ _ st2 fun b hb o e=>by rw[← hS3];exact Heap.get?_push_of_some _ e
 have st4:tn 0 h4:=T.keep 0 _ _ st3 fun b hb o e=>k4 b o e;have I4:Inv (aD X scope cl N' s3 H3 fp pins) [] (gd os.length Z js) H3 { s3 with heap:=h4,toks:=s3.toks+([]:List (Str×Value)).length }:=p9 S I3 f3 o3 rfl rfl hns4 k4;have ok:=mM S I3 f3 o3;have fp5:∀{H':Hp},(∀ b∈fp,H' b=none) -> ∀ b∈fp,dN (aD X scope cl N' s3 H3 fp pins) [] H' b:=fun hn b hb=>
  ⟨hn b hb,Nat.ne_of_lt (o3 b hb),ok.exfs b hb,.inl hb,fun y c h=>(f3 b hb).2.2.2.2.1 y c (S.sub' h),fun p hp=>(f3 b hb).2.2.2.2.2 p (by
   have q:p∈(X.pn++pins)++[]:=hp;rw[List.append_nil]at q;exact q)⟩
 have loop:codeAny (model X.prog X.w) X.A (.compLoop (.ListComp elt [⟨tgt,iter,ifs,0⟩] scope pos) 0 (.ref it) (.ref s2.heap.objs.size) (compEnvC scope cl s3.heap.objs.size X.env))
  (RR (.ref s2.heap.objs.size) s3.heap.objs.size) { s3 with heap:=h4,toks:=s3.toks+([]:List (Str×Value)).length }:=by
  refine kD (fun n s'=>∃ i Z' H',Inv (aD X scope cl N' s3 H3 fp pins) [] Z' H' s'/\tn i s'.heap/\(∀ b∈fp,H' b=none)/\W i n Z' H') ?_ m0 ⟨0,_,_,I4,st4,fun b hb=>(f3 b hb).1,w0⟩;rintro n s5 ⟨i,Z5,H5,I5,st5,fr5,w5⟩;rcases turn i n Z5 H5 w5 with ⟨stop,q⟩ | ⟨go,step⟩
  . refine wpAny_mono (T.done (aD X scope cl N' s3 H3 fp pins) rfl rfl rfl hc i [] s5 Z5 H5 (fun _ _=>False) I5 (fp5 fr5) st5 stop) (fun r s6 ⟨hr,I6⟩=>?_) (fun _ _ z=>z.elim)
    subst hr;obtain⟨m,hm,_⟩:=I6.loc;exact fin _ _ s6 H5 m hm (fun h' hs'=>kK I3 f3 I6 hs') I6.free (I3.fpOk (Nat.le_refl _) I6.free) q
  refine wpAny_mono (T.item (aD X scope cl N' s3 H3 fp pins) rfl rfl rfl hc i [] s5 Z5 H5 (fun _ _=>False) I5 (fp5 fr5) st5 go) (fun r s6 ⟨u,hr,h6⟩=>?_) (fun _ _ z=>z.elim);subst hr;refine wpAny_mono h6 (fun _ s6 ⟨y,H6,I6,r6,y6,st6,fr6⟩=>?_) (fun _ _ z=>z.elim);have I6':=I6.pinned (fp5 fr6) (T.obj _ _ st6);have again:∀{Z7:L2.St}{H7:Hp}{s7:Shared}{m':Nat},Inv (aD X scope cl N' s3 H3 fp pins) ([]++hJ fp s6.heap) Z7 H7 s7->m' < n->W (i+1) m' Z7 H7 ->
   ∃ m,m < n /\ ∃ i Z' H',Inv (aD X scope cl N' s3 H3 fp pins) [] Z' H' s7/\tn i s7.heap/\(∀ b∈fp,H' b=none)/\W i m Z' H':=fun {Z7 H7 s7 m'} I7 hm w7=>by
   refine⟨m',hm,i+1,Z7,H7,I7.unpinned,T.keep _ _ _ st6 fun b hb o e=>(I7.pin (b,o) (List.mem_append_right _ (List.mem_append_right _ (cF hb e)))).1,fun b hb=>?_,w7⟩;obtain⟨o,e,d⟩:=T.obj _ _ st6 b hb;exact(I7.pin (b,o) (List.mem_append_right _ (List.mem_append_right _ (cF hb e)))).2.1
  have step':=step y H6 y6;refine wpAny_mono (hg s3 H3 fp pins _ s6 Z5 H6 y u _ I6' r6 step') (fun _ s7 ⟨Z7,H7,I7,step'⟩=>?_) (fun _ _ z=>z.elim);refine wpAny_mono (ht s3 H3 fp pins _ s7 _ H7 _ (fun _ _=>False) (fun _ _ z=>z) I7 step') (fun okk s8 ⟨H8,I8,q8⟩=>?_) (fun _ _ z=>z.elim);cases okk with
  | false=>
    obtain⟨m',hm,w8⟩:=q8;exact again I8 hm w8
  | true=>
    refine wpAny_mono (he s3 H3 fp pins _ s8 _ H8 _ I8 q8) (fun ev s9 ⟨z,H9,I9,r9,ys,hys,hlen,m',hm,w9⟩=>?_) (fun _ _ z=>z.elim);refine wpAny_mono (cE (X:=aD X scope cl N' s3 H3 fp pins) _ s9 _ H9 (.ref s2.heap.objs.size) [z] (.ref s2.heap.objs.size) [ev] (fun _ H'=>H'=upd H9 s2.heap.objs.size (.lst (ys++[z]))) I9 rfl (.cons r9 .nil)
     ⟨_,ys,z,rfl,rfl,hys,hlen,rfl⟩) (fun _ s10 ⟨_,H10,I10,_,e10⟩=>?_) (fun _ _ z=>z.elim)
    subst e10;exact again I10 hm w9
 exact codeAny_compStart_list loop (T.self X.A 0 _ _ _ st4 loop)
theorem tH(S:bD X scope cl os js N')(hc:X.calm=true)(hg:∀ s H fp pins,PG (aD X scope cl N' s H fp pins) tgt gt)(hi:PI X tgt iter wi)
 (ht:∀ s H fp pins,PTs (aD X scope cl N' s H fp pins) ifs tt) (he:∀ s H fp pins,PE (aD X scope cl N' s H fp pins) elt te)
 (hs:∀ x,foldedSetIterable iter X.env x=pure x:=by intro _;rfl):PE X (.ListComp elt [⟨tgt,iter,ifs,0⟩] scope pos) (nR os.length js wi gt tt te):=by
 intro pins s Z H Q I h;rw[eval_ListComp];refine wpAny_comprehension_free (use:=none) rfl hs S.clos S.kind S.names (thn (hi pins s Z H _ I h) fun v s1 h1=>thn h1 fun itv s2 h2=>?_);obtain⟨it,fp,tn,J,H2,e,I2,T,st2,f2,k⟩:=h2;subst e;exact nc (RR:=fun acc C=>compPost (model X.prog X.w) X.A X.xe none (EP X pins Z Q) acc C) S hc hg ht he I2 T st2 f2 k fun D C s6 H6 m hm back _ _ q=>⟨m,hm,fun h' hs'=>⟨.ref D,H6,back h' hs',rfl,q⟩⟩
end
namespace B
section
variable{X:Cx}{scope:Scope}{cl:List (Str×Addr)}{tgt:Expr}{N':List Str}{elt iter c:Expr}{pos:Pos}{wi:TI}{gt:TG}{te:TE}{tc:TT}{os:List Str}
theorem compNIf(os:List Str)(js:List Nat)(N':List Str)(S:bD X scope cl os js N')(hi:Bx (PI X tgt iter wi))(hg:∀ s H fp pins,Bx (PG (aD X scope cl N' s H fp pins) tgt gt))(hcc:∀ s H fp pins,Bx (PT (aD X scope cl N' s H fp pins) c tc))(he:∀ s H fp pins,Bx (PE (aD X scope cl N' s H fp pins) elt te))(hc:X.calm=true:=by rfl)
 (hs:∀ x,foldedSetIterable iter X.env x=pure x:=by intro _;rfl):Bx (PE X (.ListComp elt [⟨tgt,iter,[c],0⟩] scope pos) (nR os.length js wi gt tc te)):=
 ⟨tH S hc (fun s H fp pins=>(hg s H fp pins).out) hi.out (fun s H fp pins=>oq (hcc s H fp pins).out) (fun s H fp pins=>(he s H fp pins).out) hs⟩
end
end B
theorem bD.of{X:Cx}{scope:Scope}{cl:List (Str×Addr)}{os:List Str}{js:List Nat}{N':List Str}(clos:closureFor scope X.env=pure cl)(kind:scope.kind=.function)(nocell:scope.names.all (fun y=>y.2 != .cell)=true)
 (names:scope.names.all (fun y=>y.2 != .local || scope.names.lookup y.1 == some .local)=true) (sub:ki X.env.cells cl)
 (has:(relabel scope X.env).names.all (fun p=>!jZ (some p.2) || (cl.lookup p.1).isSome)=true) (nm:N'=os++js.map fun j=>X.N.getD j Str.empty)
 (see:js.all (fun j=>match X.N[j]? with | some y=>jZ (X.env.kindOf y) && jZ ((relabel scope X.env).names.lookup y) | none=>false)=true):bD X scope cl os js N' where
 clos:=clos
 kind:=kind
 nocell:=fun y hy=>by
  have:=List.all_eq_true.mp nocell y hy;exact bne_iff_ne.mp this
 names:=fun y hy e=>by
  have:=List.all_eq_true.mp names y hy;rw[e]at this;exact beq_iff_eq.mp (by simpa using this)
 sub:=sub.all
 has:=fun y h=>by
  have go:∀ k,(relabel scope X.env).names.lookup y=some k->jZ (some k)=true -> ∃ c,cl.lookup y=some c:=fun k hk hc=>by
   have:=List.all_eq_true.mp has (y,k) (PySem.mem_of_lookup hk);simp only[hc,Bool.not_true,Bool.false_or]at this;exact Option.isSome_iff_exists.mp this
  rcases h with h | h
  . exact go _ h rfl
  exact go _ h rfl
 nm:=nm
 see:=fun i j e=>by
  have:=List.all_eq_true.mp see j (List.mem_of_getElem? e);cases ey:X.N[j]? with
  | none=>rw[ey]at this;cases this
  | some y=>
    rw[ey]at this;rw[Bool.and_eq_true]at this;exact⟨y,rfl,iA this.1,iA this.2⟩
theorem wCompN{n:Nat}{Z:L2.St}{H:Hp}{Q:VK}{js:List Nat}{wi:TI}{gt:TG}{tt:TT}{te:TE}(h:wi Z H fun J H1=>∀ D,H1 D=none -> ∃ W:Nat->Nat->L2.St->Hp->Prop,(∃ m,W 0 m (gd n Z js) (upd H1 D (.lst []))) /\
 ∀ i m Z' H',W i m Z' H'->(J.stop i H'/\Q (.ref D) H')∨(J.go i H' /\ ∀ x H2,J.yld i H' x H2->gt x Z' H2 fun Z2 H2'=>tt Z2 H2' fun ok H3=>
   if ok=true then te Z2 H3 fun y H4=>∃ ys,H4 D=some (.lst ys)/\ys.length < sizeLine /\ ∃ m',m' < m/\W (i+1) m' Z2 (upd H4 D (.lst (ys++[y])))
   else ∃ m',m' < m/\W (i+1) m' Z2 H3)):nR n js wi gt tt te Z H Q:=h
end SW
namespace SW
open PySem PySem.Spec PyProof.Rows L2
namespace B
theorem gtupK(K:W.Frag){X:Cx}{es:List Expr}{pos:Pos}{kk n:Nat}{u:TGs}(h:Bx (PGs X es u))(hK:X.K=K:=by rfl)(hc:X.calm=true:=by rfl)(hn:(assignEach es X.env).length=n:=by rfl)(hst:(assignEach es X.env).findIdx? (·.1)=none:=by rfl):Bx (PG X (.Tuple es kk pos) (xb K n u)):=by
 subst hK;exact⟨sB hc h.out hn hst⟩
end B
section
variable{prog:Program}{w:World}{A:Around}{E:Value->Shared->Prop}{s:Shared}
theorem zb{it l:Addr}{i:Nat}{xs:Array Value}{x:Value}{Q:Value->Shared->Prop}(gi:s.heap.IsTupleIter it l i)(gl:s.heap.IsTuple l xs)(ex:xs[i]?=some x)(q:∀ h',h'.IsTupleIter it l (i+1)->Heap.SameBut it s.heap h'->Q x { s with heap:=h' }) :
 wpAny (model prog w) A (Builtin.SmallTypes.nextOf (.ref it)) Q E s:=by
 obtain⟨u,g1,g2,g3⟩:=id gi;obtain⟨v,e1,_,n,e2⟩:=gl;unfold Builtin.SmallTypes.nextOf;refine wpAny_bind (wpAny_callSpecial?_slot (name:=Str.ofString "__next__") gi.typeIs F.slot_tuple_iterator_next (wpAny_call_entry F.slot_tuple_iterator_next gi.typeIs F.entry_tuple_iterator_next ?_ (F.args_tuple_iterator_next_1 _)));show wpAny _ _ (field (.ref it) 0 >>= _) _ _ _;refine wpAny_bind (wpAny_field g1 g3 (x:=.ref l) rfl (show wpAny _ _ (if(Value.ref l == Value.none)=true then _ else _) _ _ _ from ?_));rw[if_neg (fun z:(Value.ref l == Value.none)=true=>Bool.false_ne_true z)];show wpAny _ _ (field (.ref it) 1 >>= _) _ _ _;refine wpAny_bind (wpAny_field g1 g3 (x:=.int i 0) rfl (show wpAny _ _ (seqItems? (.ref l) >>= _) _ _ _ from wpAny_bind (wpAny_seqItems e1 e2 ?_)));simp only[Int.toNat_natCast,ex];refine wpAny_bind (wpAny_setField g1 g3 (by simp) (wpAny_pure ⟨x,rfl,wpAny_pure (q _ ⟨_,Heap.get?_update_self _ g1 (Obj.isFreed_of_fields (Obj.data_mapFields g3 _)),(Obj.cls_mapFields ..).trans g2,?_⟩ (Heap.SameBut.update ..))⟩))
 rw[Obj.data_mapFields g3];simp[rawInt]
theorem Ai{it l:Addr}{i:Nat}{xs:Array Value}{Q:Value->Shared->Prop}(hh:A.handled=none)(gi:s.heap.IsTupleIter it l i)(gl:s.heap.IsTuple l xs)(ex:xs[i]?=none)
 (qE:∀ h' e,Heap.ExtBut it s.heap h'->(∃ o,h'.get? e=some o/\o.cls=.type "StopIteration")->E (.ref e) { s with heap:=h' }):wpAny (model prog w) A (Builtin.SmallTypes.nextOf (.ref it)) Q E s:=by
 obtain⟨u,g1,g2,g3⟩:=id gi;obtain⟨v,e1,_,n,e2⟩:=gl;unfold Builtin.SmallTypes.nextOf;refine wpAny_bind (wpAny_callSpecial?_slot (name:=Str.ofString "__next__") gi.typeIs F.slot_tuple_iterator_next (wpAny_call_entry F.slot_tuple_iterator_next gi.typeIs F.entry_tuple_iterator_next ?_ (F.args_tuple_iterator_next_1 _)));show wpAny _ _ (field (.ref it) 0 >>= _) _ _ _;refine wpAny_bind (wpAny_field g1 g3 (x:=.ref l) rfl (show wpAny _ _ (if(Value.ref l == Value.none)=true then _ else _) _ _ _ from ?_));rw[if_neg (fun z:(Value.ref l == Value.none)=true=>Bool.false_ne_true z)];show wpAny _ _ (field (.ref it) 1 >>= _) _ _ _;refine wpAny_bind (wpAny_field g1 g3 (x:=.int i 0) rfl (show wpAny _ _ (seqItems? (.ref l) >>= _) _ _ _ from wpAny_bind (wpAny_seqItems e1 e2 ?_)));simp only[Int.toNat_natCast,ex];refine wpAny_bind (wpAny_rule (wpAny_bind (wpAny_setField g1 g3 (by simp) (show wpAny _ _ (newExc (.type "StopIteration") [] >>= _) _ _ _ from wpAny_bind ?_))))
 simp only[newExc,newTuple];refine wpAny_bind (wpAny_newObj_type (wpAny_bind (m:=firstArgMember _ _) (wpAny_of_eq (a:=Value.none) (by first | rfl | (simp only[firstArgMember];rfl)) (wpAny_newObj_type ?_ (by size_fits)))) (by size_fits))
 simp only[raiseNew];refine wpAny_bind (wpAny_handled ?_)
 first | rw[show A.in1.handled=none from hh] | rw[hh]
 exact wpAny_bind (wpAny_pure (wpAny_throw (qE _ _ (((Heap.SameBut.update ..).extBut.push _).push _) ⟨_,Heap.get?_push_size _ rfl,rfl⟩)))
end
section
variable{X:Cx}{elts:List Expr}{k:Nat}{tp:Pos}
end
namespace B
end B
theorem dL(K:W.Frag){X:Cx}(h:X.K=K:=by rfl):bP X (.type "tuple") (fun xs H Q=>∃ p ys,xs=[.ref p]/\((SqL K H p ys /\ ∀ l,H l=none->Q (.ref l) (upd H l (.tup ys)))∨(SqT K H p ys/\Q (.ref p) H))):=by subst h;exact cN
theorem ig{α β:Type}{F:α -> β -> Prop}{x:α}{y:β}:∀{xs:List α}{ys:List β},Paired F xs ys->F x y->Paired F (xs++[x]) (ys++[y])
 | _,_,.nil,h=>.cons h .nil
 | _,_,.cons a t,h=>.cons a (ig t h)
abbrev b8(H H':Hp):Prop:=∀ a xs,H a=some (.tup xs)->H' a=some (.tup xs)
theorem b8.same{H H':Hp}(s:ac H H'):b8 H H':=fun a xs e=>s _ _ e
theorem b8.upd{H:Hp}{q:Addr}{o:HO}(h:∀ xs,H q≠some (.tup xs)):b8 H (upd H q o):=fun a xs e=>by
 have n:a≠q:=fun z=>h xs (by rw[← z];exact e)
 rw[ag n];exact e
def lN(H:Hp)(v:V)(r:ar):Prop:=∃ b ys,v=.ref b/\H b=some (.tup ys)/\Prs H ys r
def dF(H:Hp)(v:V)(R:af):Prop:=∃ a xs,v=.ref a/\H a=some (.tup xs)/\Paired (lN H) xs R
def ElU(H:Hp)(v:V):Option af->Prop
 | none=>v=.non
 | some E=>dF H v E
def StU(H:Hp)(v:V)(M:MT):Prop:=∃ a e w,v=.ref a/\H a=some (.tup [e,.int (M.mv:Nat),w])/\ElU H e M.el/\dF H w M.nw
theorem lN.keep{H H':Hp}{v:V}{r:ar}(h:lN H v r)(k:b8 H H'):lN H' v r:=by
 obtain⟨b,ys,e,hb,p⟩:=h;exact⟨b,ys,e,k _ _ hb,p.keep k⟩
theorem dF.keep{H H':Hp}{v:V}{R:af}(h:dF H v R)(k:b8 H H'):dF H' v R:=by
 obtain⟨b,ys,e,hb,p⟩:=h;exact⟨b,ys,e,k _ _ hb,Paired.mapP p fun _ _ z=>lN.keep z k⟩
theorem ElU.keep{H H':Hp}{v:V}{o:Option af}(h:ElU H v o)(k:b8 H H'):ElU H' v o:=by
 cases o with
 | none=>exact h
 | some E=>exact dF.keep h k
theorem StU.keep{H H':Hp}{v:V}{M:MT}(h:StU H v M)(k:b8 H H'):StU H' v M:=by
 obtain⟨a,e,w,hv,ha,he,hw⟩:=h;exact⟨a,e,w,hv,k _ _ ha,he.keep k,hw.keep k⟩
def jM(CS:Addr):Sp:=fun vs H Q _=>∃(p:Addr) (f m:Int) (R:af) (F:Addr->Prop),vs=[.ref p]/\Sh CS H p f m R F /\ ∀ v H',ac H H'->dF H' v R->Q v H'
def jH(CS CT:Addr):Sp:=fun vs H Q _=>∃(p:Addr) (f m:Int) (pc:Nat) (M:MT) (tc:Int) (F:Addr->Prop),vs=[.ref p]/\Tb CS CT H p f m pc M tc F /\ ∀ v H',ac H H'->StU H' v M->Q v H'
def szE:Option af->V
 | none=>.non
 | some E=>.int (E.length:Nat)
def jg(CS CT:Addr):Sp:=fun vs H Q _=>∃(p:Addr) (f m:Int) (pc:Nat) (M:MT) (tc:Int) (F:Addr->Prop),vs=[.ref p]/\Tb CS CT H p f m pc M tc F /\ ∀ a,H a=none->Q (.ref a) (upd H a (.tup [szE M.el,.int (M.nw.length:Nat)]))
def fS(CS CT:Addr):Sp:=fun vs H Q _=>∃(p:Addr) (f m:Int) (pc:Nat) (M:MT) (tc:Int) (F:Addr->Prop),vs=[.ref p]/\Tb CS CT H p f m pc M tc F/\Q (.int tc) H
section
variable{CS CT:Addr}{H:Hp}{Q:VK}{E:XK}{p:Addr}{f m:Int}{pc:Nat}{M:MT}{tc:Int}{F:Addr->Prop}
theorem li{R:af}(S:Sh CS H p f m R F)(q:∀ v H',ac H H'->dF H' v R->Q v H'):jM CS ([.ref p]++[]) H Q E:=⟨p,f,m,R,F,rfl,S,q⟩
theorem uT(S:Tb CS CT H p f m pc M tc F)(q:∀ v H',ac H H'->StU H' v M->Q v H'):jH CS CT (V.ref p::([]++[])) H Q E:=⟨p,f,m,pc,M,tc,F,rfl,S,q⟩
theorem vY(S:Tb CS CT H p f m pc M tc F)(q:∀ a,H a=none->Q (.ref a) (upd H a (.tup [szE M.el,.int (M.nw.length:Nat)]))):jg CS CT (V.ref p::([]++[])) H Q E:=⟨p,f,m,pc,M,tc,F,rfl,S,q⟩
theorem pH(S:Tb CS CT H p f m pc M tc F)(q:Q (.int tc) H):fS CS CT (V.ref p::([]++[])) H Q E:=⟨p,f,m,pc,M,tc,F,rfl,S,q⟩
end
theorem _root_.L2.SqT.but{K:W.Frag}{H H':Hp}{x C dx b:Addr}{fs:List (Str×V)}{ys:List V}(hx:H x=some (.ins C dx fs))(k:∀ c o,c≠x->H c=some o->H' c=some o)(h:SqT K H b ys):SqT K H' b ys:=by
 rcases h with (z | ⟨o,z⟩) | z
 . exact .inl (.inl (k _ _ (aA z hx (by intro z;cases z)) z))
 . exact .inl (.inr ⟨o,k _ _ (aA z hx (by intro z;cases z)) z⟩)
 exact .inr z
theorem ik.but{K:W.Frag}{H H':Hp}{x C dx a:Addr}{fs:List (Str×V)}{R:af}(hx:H x=some (.ins C dx fs))(k:∀ c o,c≠x->H c=some o->H' c=some o)(h:ik K H a R):ik K H' a R:=by
 obtain⟨xs,hs,p⟩:=h;refine⟨xs,hs.but hx k,Paired.mapP p fun v r ⟨b,ys,e,hb,q⟩=>⟨b,ys,e,hb.but hx k,Paired.mapP q fun v p ⟨a,e,ha⟩=>⟨a,e,ha.but hx k⟩⟩⟩
theorem dF.rowsT{K:W.Frag}{H:Hp}{v:V}{R:af}(h:dF H v R):∃ a,v=.ref a/\ik K H a R:=by
 obtain⟨a,xs,e,ha,p⟩:=h;exact⟨a,e,xs,SqT.of ha,Paired.mapP p fun v r ⟨b,ys,e,hb,q⟩=>⟨b,ys,e,SqT.of hb,Paired.mapP q fun v p ⟨a,e,ha⟩=>⟨a,e,SqT.of ha⟩⟩⟩
def ElT(K:W.Frag)(H:Hp)(v:V):Option af->Prop
 | none=>v=.non
 | some E=>∃ a,v=.ref a/\ik K H a E
theorem ElU.elT{K:W.Frag}{H:Hp}{v:V}{o:Option af}(h:ElU H v o):ElT K H v o:=by
 cases o with
 | none=>exact h
 | some E=>exact dF.rowsT h
def iG(CS CT:Addr):Sp:=fun vs H Q _=>∃(x t dx:Addr) (f m:Int) (pc:Nat) (v:V) (M:MT),vs=[.ref x,.ref t,.int pc,v]/\H x=some (.ins CT dx [])/\H t=some (.tup [.int f,.int m])/\(0<=f/\f<=65535)/\TOk f m M/\cnt M<=5000/\(v=.non/\M=M0∨StU H v M) /\
 ∀ H' F,Tb CS CT H' x f m pc M 0 F->(∀ b,F b->b=x∨H b=none)->(∀ b o,b≠x->H b=some o->H' b=some o)->Q .non H'
section
variable{CS CT:Addr}{H:Hp}{Q:VK}{E:XK}{f m:Int}
theorem uj{Qf:Addr->Hp->Prop}{t:Addr}{n:Int}{v:V}{M:MT}(ht:H t=some (.tup [.int f,.int m]))(bf:0<=f/\f<=65535)(n0:0<=n)(T:TOk f m M)(hc:cnt M<=5000)(hv:v=.non/\M=M0∨StU H v M)
 (q:∀ p H' F,Tb CS CT H' p f m n.toNat M 0 F->(∀ b,F b->H b=none)->ac H H'->Qf p H') :
 ∀ x dx,H x=none->H dx=none->dx≠x->iG CS CT (V.ref x::([V.ref t,V.int n,v]++[])) (upd (upd H dx (.own x)) x (.ins CT dx [])) (fun v H2=>v=.non/\Qf x H2) E:=fun x dx hx hdx hne=>by
 have s0:ac H (upd (upd H dx (.own x)) x (.ins CT dx [])):=(ac.new hdx).trans (ac.new (by rw[ag hne.symm];exact hx))
 refine⟨x,t,dx,f,m,n.toNat,v,M,by rw[Int.toNat_of_nonneg n0];rfl,aa,s0 _ _ ht,bf,T,hc,hv.imp id (fun u=>u.keep (b8.same s0)),fun H' F S g k=>⟨rfl,q x H' F S (fun b hb=>?_) fun b o e=>k b o (ai e hx) (s0 b o e)⟩⟩
 rcases g b hb with rfl | z
 . exact hx
 exact s0.free z
end
theorem jn{f m:Int}{N:af}{j:Nat}(hj:j < N.length):∀(r p:ar),ROk (p++r)->(∀ q∈r,plc f m N.length q.1=j)->aK f m (N.set j p) r=N.set j (p++r)
 | [],p,_,_=>by rw[List.append_nil];rfl
 | q::r,p,ok,h=>by
   show aK f m (d0 f m (N.set j p) q.1 q.2) r=_;have e1:plc f m (N.set j p).length q.1=j:=by rw[List.length_set];exact h q (List.mem_cons_self ..)
   have e2:io f m (N.set j p) q.1=p:=by
    unfold io;rw[e1,gz hj,if_pos rfl]
   have e3:aP p q.1=none:=(bX q.1).mpr fun z=>by
    have ok':(p.map (·.1)++(q::r).map (·.1)).Nodup:=by rw[← List.map_append];exact ok
    exact(List.nodup_append.mp ok').2.2 _ z _ (List.mem_map.mpr ⟨q,List.mem_cons_self ..,rfl⟩) rfl
   have e4:d0 f m (N.set j p) q.1 q.2=N.set j (p++[q]):=by
    unfold d0;rw[e1,e2,gB e3,List.set_set]
   have e5:p++q::r=(p++[q])++r:=by simp
   rw[e4,e5];exact jn hj r (p++[q]) (by rw[← e5];exact ok) fun x hx=>h x (List.mem_cons_of_mem _ hx)
theorem oQ{f m:Int}{n:Nat}:∀(R A:af),A.length+R.length=n->(∀(i:Nat) r,R[i]?=some r->ROk r /\ ∀ p∈r,plc f m n p.1=A.length+i)->R.foldl (fun N r=>aK f m N r) (A++List.replicate R.length [])=A++R
 | [],A,_,_=>rfl
 | r::R,A,hn,h=>by
   have h0:=h 0 r rfl;show R.foldl _ (aK f m (A++List.replicate (R.length+1) []) r)=_;have hl:(A++List.replicate (R.length+1) ([]:ar)).length=n:=by
    rw[List.length_append,List.length_replicate];rw[List.length_cons]at hn;exact hn
   have hj:A.length < (A++List.replicate (R.length+1) ([]:ar)).length:=by
    rw[List.length_append,List.length_replicate];omega
   have es:∀ x:ar,(A++List.replicate (R.length+1) ([]:ar)).set A.length x=(A++[x])++List.replicate R.length []:=fun x=>by
    rw[List.set_append_right _ _ (Nat.le_refl _),Nat.sub_self,List.replicate_succ,List.set_cons_zero,List.append_assoc]
    rfl
   have e0:(A++List.replicate (R.length+1) ([]:ar)).set A.length []=A++List.replicate (R.length+1) []:=by
    rw[es,List.replicate_succ,List.append_assoc]
    rfl
   have e1:=jn (f:=f) (m:=m) hj r [] h0.1 (fun q hq=>by rw[hl];exact h0.2 q hq)
   rw[e0,es]at e1;rw[e1];have ih:=oQ (f:=f) (m:=m) (n:=n) R (A++[r]) (by rw[List.length_append];rw[List.length_cons]at hn;show A.length+1+R.length=n;omega) fun i q e=>by
    have:=h (i+1) q e;refine⟨this.1,fun p hp=>?_⟩;rw[this.2 p hp,List.length_append];show _=A.length+1+i;omega
   rw[show([]++r:ar)=r from rfl,ih,List.append_assoc]
   rfl
theorem oJ{f m:Int}{R:af}(P:POk f m R):laid f m R=R:=
 oQ (n:=R.length) R [] (Nat.zero_add _) fun i r e=>⟨P.ok r (List.mem_of_getElem? e),fun p hp=>by rw[P.at_ i r p e hp];exact(Nat.zero_add _).symm⟩
section
variable{CS CT:Addr}{H H':Hp}{p p2:Addr}{f m f2 m2:Int}{pc pc2:Nat}{M M2:MT}{tc tc2:Int}{F F' G:Addr->Prop}
end
theorem wSeqC{D:eM}{Z:L2.St}{H:Hp}{t u:TS}(h:∀ N:L2.St->Hp->Prop,N=u D->t { D with nx:=N } Z H):uo t u D Z H:=h _ rfl
theorem wGo{N N':L2.St->Hp->Prop}{Z:L2.St}{H:Hp}(e:N=N')(h:N' Z H):N Z H:=e ▸ h
@[elab_as_elim] theorem len0{α:Type}{P:List α -> Prop}(us:List α)(hl:us.length=0)(h:Unit->P []):P us:=by
  cases us with
  | nil=>exact h ()
  | cons a l=>cases hl
@[elab_as_elim] theorem len1{α:Type}{P:List α -> Prop}(us:List α)(hl:us.length=1)(h:∀ a,P [a]):P us:=by
  cases us with
  | nil=>cases hl
  | cons a l=>exact len0 (P:=fun l=>P (a::l)) l (Nat.succ.inj hl) fun _=>h a
@[elab_as_elim] theorem len2{α:Type}{P:List α -> Prop}(us:List α)(hl:us.length=2)(h:∀ a b,P [a,b]):P us:=by
  cases us with
  | nil=>cases hl
  | cons a l=>exact len1 (P:=fun l=>P (a::l)) l (Nat.succ.inj hl) fun b=>h a b
@[elab_as_elim] theorem len3{α:Type}{P:List α -> Prop}(us:List α)(hl:us.length=3)(h:∀ a b c,P [a,b,c]):P us:=by
  cases us with
  | nil=>cases hl
  | cons a l=>exact len2 (P:=fun l=>P (a::l)) l (Nat.succ.inj hl) fun b c=>h a b c
@[elab_as_elim] theorem len4{α:Type}{P:List α -> Prop}(us:List α)(hl:us.length=4)(h:∀ a b c d,P [a,b,c,d]):P us:=by
  cases us with
  | nil=>cases hl
  | cons a l=>exact len3 (P:=fun l=>P (a::l)) l (Nat.succ.inj hl) fun b c d=>h a b c d
@[elab_as_elim] theorem len5{α:Type}{P:List α -> Prop}(us:List α)(hl:us.length=5)(h:∀ a b c d e,P [a,b,c,d,e]):P us:=by
  cases us with
  | nil=>cases hl
  | cons a l=>exact len4 (P:=fun l=>P (a::l)) l (Nat.succ.inj hl) fun b c d e=>h a b c d e
theorem walkX{q:Program}{loose:List Str}{XP:(Str->Option Value)->Heap->Prop}{K:Params->W.Frag}{as:List Addr}{n t:Nat}{r:W.RowW}{d:DefRec}{kwd:List (Str×Expr)}{run:Value->List Value->Sem Value}
 (e:∀ P,as=(K P).map (·.1)) (h:W.WalkO q loose XP (W.InK K) r d kwd run):W.WalkX q loose XP (W.X.obsZ as) (W.X.valZ K n t) r d kwd run:=
 fun w s₀ s₁ mg mb G y a o pm cd doc dV kV ho hd hcd hD hmg hg args vals as' L hpre=>h w s₀ s₁ mg mb G (W.InK.keeps w _ _ (W.X.z_facts e y).2.1 (W.Laid.keeps L)) a o pm cd doc dV kV ho hd hcd hD hmg hg args vals as' hpre
def Cut(M:L2.St->Hp->Prop)(G:(L2.St->Hp->Prop)->Prop):Prop:=∀ N,N=M->G N
theorem wCut{M:L2.St->Hp->Prop}{G:(L2.St->Hp->Prop)->Prop}(h:∀ N,N=M->G N):Cut M G:=h
theorem cU{K:PySem.W.Frag}{a:Addr}{xs:List V}{g:TG}{tb:TS}{D:eM}{Z:L2.St}{H:Hp}(Pv:Nat->L2.St->Hp->Prop)(h0:Pv 0 Z H)(hl:∀ i Z H,i<=xs.length->Pv i Z H->SqL K H a xs)
 (hs:∀ i x Z H,xs[i]?=some x->Pv i Z H->Cut (Pv (i+1)) fun N=>g x Z H fun Z2 H2=>tb { D with nx:=N,ct:=N,bk:=D.nx } Z2 H2) (hd:∀ Z H,Pv xs.length Z H->D.nx Z H) :
 ∃ W:Nat->Nat->L2.St->Hp->Prop,(∃ m,W 0 m Z H) /\ ∀ i m Z H,W i m Z H ->
   ((Itl K a).stop i H/\D.nx Z H)∨((Itl K a).go i H /\ ∃ N:L2.St->Hp->Prop,(∀ Z' H',N Z' H' -> ∃ m',m' < m/\W (i+1) m' Z' H') /\ ∀ x H',(Itl K a).yld i H x H'->g x Z H' fun Z2 H2=>tb { D with nx:=N,ct:=N,bk:=D.nx } Z2 H2):=
 jt Pv h0 hl (fun i x Z H e p=>hs i x Z H e p _ rfl) hd
theorem kL{lo:Int}{n:Nat}{g:TG}{tb:TS}{D:eM}{Z:L2.St}{H:Hp}(Pv:Nat->L2.St->Hp->Prop)(h0:Pv 0 Z H)
 (hs:∀ i Z H,i < n->Pv i Z H->Cut (Pv (i+1)) fun N=>g (.int (lo+i)) Z H fun Z2 H2=>tb { D with nx:=N,ct:=N,bk:=D.nx } Z2 H2) (hd:∀ Z H,Pv n Z H->D.nx Z H) :
 ∃ W:Nat->Nat->L2.St->Hp->Prop,(∃ m,W 0 m Z H) /\ ∀ i m Z H,W i m Z H ->
   ((Itr lo n).stop i H/\D.nx Z H)∨((Itr lo n).go i H /\ ∃ N:L2.St->Hp->Prop,(∀ Z' H',N Z' H' -> ∃ m',m' < m/\W (i+1) m' Z' H') /\ ∀ x H',(Itr lo n).yld i H x H'->g x Z H' fun Z2 H2=>tb { D with nx:=N,ct:=N,bk:=D.nx } Z2 H2):=
 gQ Pv h0 (fun i Z H e p=>hs i Z H e p _ rfl) hd
section
variable{K:W.Frag}{H:Hp}{p C dx:Addr}{fs:List (Str×V)}{v:V}{f:Str}
theorem bo{R:Addr->Addr->V->Prop}(hp:H p=some (.ins C dx fs))(hc:Cls K C)(hn:bu K C f)(hl:fs.lookup f=some v)(h:R p C v):∃ a C dx fs v,V.ref p=.ref a/\H a=some (.ins C dx fs)/\Cls K C/\bu K C f/\fs.lookup f=some v/\R a C v:=⟨p,C,dx,fs,v,rfl,hp,hc,hn,hl,h⟩
theorem eG{R:Addr->Addr->Addr->List (Str×V)->Prop}(hp:H p=some (.ins C dx fs))(hc:Cls K C)(hn:bu K C f)(hl:fs.length < 1000)(h:R p C dx fs):∃ a C dx fs,V.ref p=.ref a/\H a=some (.ins C dx fs)/\Cls K C/\bu K C f/\fs.length < 1000/\R a C dx fs:=⟨p,C,dx,fs,rfl,hp,hc,hn,hl,h⟩
theorem fB{x:V}{T:String}{t:Value}{b:Bool}{R:Bool->Prop}(ty:eQ K H x t)(e:W.kitOne K t (.type T)=some b)(h:R b):∃ x' T' t' b',[x,V.ty T]=[x',V.ty T']/\eQ K H x' t'/\W.kitOne K t' (.type T')=some b'/\R b':=⟨x,T,t,b,rfl,ty,e,h⟩
theorem bG{l:Addr}{ys:List V}{R:List V->Prop}(h1:SqL K H l ys∨SqT K H l ys)(h:R ys):∃ p ys,[V.ref l]=[V.ref p]/\(SqL K H p ys∨SqT K H p ys)/\R ys:=⟨l,ys,rfl,h1,h⟩
end
section
variable{CS CT:Addr}{H:Hp}{Q:VK}{E:XK}{p:Addr}{k f m:Int}{pc:Nat}{M:MT}{tc:Int}{F:Addr->Prop}
theorem BB(S:Tb CS CT H p f m pc M tc F)(T:TOk f m M)(hp:pc<=1000)(hc:cnt M<=4000∨M.el=none)(q:∀ H' F',Tb CS CT H' p f m pc (dg f m pc M) (tch f m pc M k) F'->Gr H F F'->Fr F H H'->Q .non H'):qG CS CT (V.ref p::([V.int k]++[])) H Q E:=⟨p,k,f,m,pc,M,tc,F,rfl,S,T,hp,hc,q⟩
theorem xr{t n:Addr}{v:V}{FN FE:Addr->Prop}(X:TbX CS CT H p f m pc M tc t n v FN FE)(q1:∀ E,M.el=some E->aF f m E k≠none->Q v H)(q2:onE f m M k=none->Q (.ref n) H):lF CS CT (V.ref p::([V.int k]++[])) H Q E:=⟨p,k,f,m,pc,M,tc,t,n,v,FN,FE,rfl,X,q1,q2⟩
theorem uV(S:Tb CS CT H p f m pc M tc F)(hs:am M.nw.length)(q:∀ H' F',Tb CS CT H' p f m pc (beg M) tc F'->Gr H F F'->Fr F H H'->Q .non H'):gp CS CT (V.ref p::([]++[])) H Q E:=⟨p,f,m,pc,M,tc,F,rfl,S,hs,q⟩
theorem zc(S:Tb CS CT H p f m pc M tc F)(q:Q (.int (en M.nw:Nat)) H):lI CS CT (V.ref p::([]++[])) H Q E:=⟨p,f,m,pc,M,tc,F,rfl,S,q⟩
theorem zI(S:Tb CS CT H p f m pc M tc F)(T:TOk f m M)(hp:pc<=1000)(q:∀ l H',ac H H'->H l=none->H' l=some (.lst ((gF M.mv (due pc M)).map V.int))->Q (.ref l) H'):nk CS CT (V.ref p::([]++[])) H Q E:=⟨p,f,m,pc,M,tc,F,rfl,S,T,hp,q⟩
theorem AD(S:Tb CS CT H p f m pc M tc F)(q:∀ H' F',Tb CS CT H' p f m pc (jX M) tc F'->Gr H F F'->Fr F H H'->Q .non H'):nK CS CT (V.ref p::([]++[])) H Q E:=⟨p,f,m,pc,M,tc,F,rfl,S,q⟩
theorem q_(S:Tb CS CT H p f m pc M tc F)(q:Q (.bl (cL f m M k)) H):gG CS CT (V.ref p::([V.int k]++[])) H Q E:=⟨p,k,f,m,pc,M,tc,F,rfl,S,q⟩
theorem pS{t n:Addr}{v:V}{FN FE:Addr->Prop}(X:TbX CS CT H p f m pc M tc t n v FN FE)(q:∀ l,H l=none->Q (.ref l) (upd H l (.lst (match M.el with | none=>[.ref n] | some _=>[v,.ref n])))):fM CS CT (V.ref p::([]++[])) H Q E:=⟨p,f,m,pc,M,tc,t,n,v,FN,FE,rfl,X,q⟩
theorem tK{R:af}{t L:Addr}{ds:List Addr}(X:ShX CS H p f m R t L ds)(q:∀ d,ds[plc f m R.length k]?=some d->Q (.ref d) H):iD CS (V.ref p::([V.int k]++[])) H Q E:=⟨p,k,f,m,R,t,L,ds,rfl,X,q⟩
end
theorem fs{N P:List Str}{sc:Scope}(a:sc.kind=.function:=by rfl)(b:sc.isCoroutine=false:=by rfl)(c:sc.isGenerator=false:=by rfl)(d:N.Nodup:=by decide +kernel)(e:N.take P.length=P:=by rfl)(f:∀ x∈P,sc.names.lookup x=some .local∨sc.names.lookup x=some .cell:=by decide +kernel)(h:∀ y∈sc.names,y.2 ≠ .free:=by decide +kernel):ak N P sc:=⟨a,b,c,d,e,f,h⟩
theorem bd1{K:W.Frag}{x qual p0:Str}{st:Stmt}{f:Addr}{fd:FuncData}(F:Fun K x qual st f fd)(h:∀(kV doc pm:Value) (an:Option Addr) (cdv ct:Value) (a0:Value),bindArgs (W.fnOf x qual (cP st) (bA st) (ah st) .none kV doc pm an cdv ct) ⟨[a0],[]⟩=pure ([(p0,a0)]):=by intros;rfl):bY K fd [p0] []:=F.binds fun _ _ _ _ _ _ us hl=>len1 us hl fun a0=>h _ _ _ _ _ _ a0
theorem bd2{K:W.Frag}{x qual p0 p1:Str}{st:Stmt}{f:Addr}{fd:FuncData}(F:Fun K x qual st f fd)(h:∀(kV doc pm:Value) (an:Option Addr) (cdv ct:Value) (a0 a1:Value),bindArgs (W.fnOf x qual (cP st) (bA st) (ah st) .none kV doc pm an cdv ct) ⟨[a0,a1],[]⟩=pure ([(p0,a0),(p1,a1)]):=by intros;rfl):bY K fd [p0,p1] []:=F.binds fun _ _ _ _ _ _ us hl=>len2 us hl fun a0 a1=>h _ _ _ _ _ _ a0 a1
theorem bd3{K:W.Frag}{x qual p0 p1 p2:Str}{st:Stmt}{f:Addr}{fd:FuncData}(F:Fun K x qual st f fd)(h:∀(kV doc pm:Value) (an:Option Addr) (cdv ct:Value) (a0 a1 a2:Value),bindArgs (W.fnOf x qual (cP st) (bA st) (ah st) .none kV doc pm an cdv ct) ⟨[a0,a1,a2],[]⟩=pure ([(p0,a0),(p1,a1),(p2,a2)]):=by intros;rfl):bY K fd [p0,p1,p2] []:=F.binds fun _ _ _ _ _ _ us hl=>len3 us hl fun a0 a1 a2=>h _ _ _ _ _ _ a0 a1 a2
theorem bd4{K:W.Frag}{x qual p0 p1 p2 p3:Str}{st:Stmt}{f:Addr}{fd:FuncData}(F:Fun K x qual st f fd)(h:∀(kV doc pm:Value) (an:Option Addr) (cdv ct:Value) (a0 a1 a2 a3:Value),bindArgs (W.fnOf x qual (cP st) (bA st) (ah st) .none kV doc pm an cdv ct) ⟨[a0,a1,a2,a3],[]⟩=pure ([(p0,a0),(p1,a1),(p2,a2),(p3,a3)]):=by intros;rfl):bY K fd [p0,p1,p2,p3] []:=F.binds fun _ _ _ _ _ _ us hl=>len4 us hl fun a0 a1 a2 a3=>h _ _ _ _ _ _ a0 a1 a2 a3
theorem bd5{K:W.Frag}{x qual p0 p1 p2 p3 p4:Str}{st:Stmt}{f:Addr}{fd:FuncData}(F:Fun K x qual st f fd)(h:∀(kV doc pm:Value) (an:Option Addr) (cdv ct:Value) (a0 a1 a2 a3 a4:Value),bindArgs (W.fnOf x qual (cP st) (bA st) (ah st) .none kV doc pm an cdv ct) ⟨[a0,a1,a2,a3,a4],[]⟩=pure ([(p0,a0),(p1,a1),(p2,a2),(p3,a3),(p4,a4)]):=by intros;rfl):bY K fd [p0,p1,p2,p3,p4] []:=F.binds fun _ _ _ _ _ _ us hl=>len5 us hl fun a0 a1 a2 a3 a4=>h _ _ _ _ _ _ a0 a1 a2 a3 a4
theorem b_enumerate:bootBuiltins "enumerate"=some (.type "enumerate"):=by decide +kernel
section
variable{X:Cx}{elts:List Expr}{k:Nat}{tp:Pos}
end
namespace B
end B
theorem walks_list{prog:Program}{w:World}{A:Around}(hh:A.handled=none)(I l:Addr)(hne:l≠I)(items:Array Value):Walks prog w A I [I,l] [I] items.size (fun i v=>items[i]?=some v) (fun i h=>h.IsListIter I l i/\h.IsList l items) where
 sub:=by simp
 frame:=fun i h h' st k=>⟨st.1.at fun o e=>k I (by simp) o e,st.2.at fun o e=>k l (by simp) o e⟩
 item:=fun i s Q E hi st hQ=>by
  refine wpAny_pyNext_list_item st.1 st.2 (x:=items[i]) (by simp[hi]) fun h' a sb=>?_
  exact hQ items[i] h' s.toks (by simp[hi]) ⟨a,st.2.extBut sb.extBut hne⟩ fun b o hb e=>sb.extBut b o (fun z=>hb (by simp[z])) e
 done:=fun s Q E st hQ=>by
  refine wpAny_pyNext_list_end hh st.1 st.2 (by simp) fun h' kk=>?_
  exact hQ h' s.toks fun b o hb e=>kk b o (fun z=>hb (by simp[z])) e
 self:=fun i s Q E st hQ=>wpAny_pyIter_listiter st.1 hQ
theorem my:∀ bs:List Bool,(List.range bs.length).all (fun i=>bs.getD i false)=bs.all id
 | []=>rfl
 | b::bs=>by
   rw[List.length_cons,List.range_succ_eq_map,List.all_cons,List.all_map,List.all_cons]
   congr 1
   exact my bs
theorem b_all:bootBuiltins "all"=some (.builtin "all"):=by decide +kernel
theorem kU{X:Cx}:bP X (.builtin "all") (fun xs H Q=>∃ l bs,xs=[.ref l]/\SqL X.K H l (List.map V.bl bs)/\X.calm=true/\Q (.bl (List.all bs id)) H):=by
 intro pins s Z H xs us Q I r h;obtain⟨l,bs,rfl,hl,hc,q⟩:=h;obtain⟨u,rfl,rx⟩:=dZ r;cases rx;obtain⟨its,rv,pl,_⟩:=I.list hl;have le:=rv.length;rw[List.length_map]at le;have hv:∀(i:Nat) v,its[i]?=some v->v=.bool (bs.getD i false):=fun i v e=>by
  have hi:i < its.length:=(List.getElem?_eq_some_iff.mp e).1;obtain⟨u,hu,ru⟩:=rv.get (i:=i) (x:=V.bl bs[i]) (by simp[le ▸ hi])
  rw[e]at hu;cases hu;rw[show v=Value.bool bs[i]from ru,List.getD_eq_getElem?_getD,List.getElem?_eq_getElem (by omega)]
  rfl
 have lt:l < s.heap.objs.size:=by
  obtain⟨o,e,_⟩:=pl.isList;exact Heap.lt_size e
 have W:=walks_list (prog:=X.prog) (w:=X.w) (A:=X.A.in1) (show X.A.in1.handled=none from I.ok.hd hc) s.heap.objs.size l (Nat.ne_of_lt lt) its.toArray;refine call_all_walk (wpAny_pyIter_list pl.isList ⟨_,_,_,_,_,_,fun i=>bs.getD i false,rfl,W,And.intro ?_ ?_,?_,fun h' tk hk=>?_⟩)
 . exact⟨_,Heap.get?_push_size _ rfl,rfl,rfl⟩
 . exact pl.isList.push _
 . intro i v s' Q' E' hp hq
   rw[hv i v (by simpa using hp)]
   exact wpAny_truthy_bool hq
 have ea:(List.range its.toArray.size).all (fun i=>bs.getD i false)=bs.all id:=by
  rw[List.size_toArray,← le];exact my bs
 rw[ea];refine⟨.bl (bs.all id),H,I.kept (t':=tk) (fun b o e=>hk b o (fun z=>?_) (Heap.get?_push_of_some _ e)),rfl,q⟩;rw[List.mem_singleton]at z;subst z;exact absurd (Heap.lt_size e) (Nat.lt_irrefl _)
theorem b_dict:bootBuiltins "dict"=some (.type "dict"):=by decide +kernel
section
variable{prog:Program}{w:World}{A:Around}{E:Value->Shared->Prop}{s:Shared}{T:String}{r d:Addr}{n:Nat}{P:Nat->Value->Prop}{OK:Heap->Prop}
end
section
variable{X:Cx}{e st:Expr}{te ts:TE}{pos p2:Pos}
end
section
variable{K:W.Frag}{a D:Addr}{xs:List V}{Z0:L2.St}{H1:Hp}{gt:TG}{tt:TT}{te:TE}
theorem m4{Qf:Hp->Prop}(Pv:Nat->L2.St->Hp->Prop)(h0:Pv 0 Z0 H1)(hl:∀ i Z H,i<=xs.length->Pv i Z H->SqT K H a xs)
 (step:∀ i x Z' H',xs[i]?=some x->i < xs.length->Pv i Z' H'->tt (Z'.set 0 (some x)) H' fun ok H3=>if ok=true then te (Z'.set 0 (some x)) H3 (fun y H4=>CN Pv xs.length i D (Z'.set 0 (some x)) y H4)else CO Pv xs.length i (Z'.set 0 (some x)) H3)
 (fin:∀ Z H,Pv xs.length Z H->Qf H) :
 ∃ W:Nat->Nat->L2.St->Hp->Prop,(∃ m,W 0 m Z0 H1) /\ ∀ i m Z' H',W i m Z' H'->((Itt K a).stop i H'/\Qf H')∨((Itt K a).go i H' /\ ∀ x H2,(Itt K a).yld i H' x H2->tt (Z'.set 0 (some x)) H2 fun ok H3=>
   if ok=true then te (Z'.set 0 (some x)) H3 fun y H4=>∃ ys,H4 D=some (.lst ys)/\ys.length < sizeLine /\ ∃ m',m' < m/\W (i+1) m' (Z'.set 0 (some x)) (upd H4 D (.lst (ys++[y])))
   else ∃ m',m' < m/\W (i+1) m' (Z'.set 0 (some x)) H3):=by
 refine⟨fun i m Z H=>m=xs.length - i/\i<=xs.length/\Pv i Z H,⟨xs.length,by omega,Nat.zero_le _,h0⟩,?_⟩
 rintro i m Z' H' ⟨rfl,hi,p⟩;have q:=hl i Z' H' hi p;by_cases hlt:i < xs.length
 . refine .inr ⟨⟨xs,xs[i],q,by simp[hlt]⟩,fun x H2 y=>?_⟩
   obtain⟨rfl,y⟩:=y;exact step i x Z' _ (y xs q) hlt p
 have e:i=xs.length:=by omega
 subst e;exact .inl ⟨⟨xs,q,Nat.le_refl _⟩,fin _ _ p⟩
theorem fq{Qf:Hp->Prop}(Pv:Nat->L2.St->Hp->Prop)(h0:Pv 0 Z0 H1)(hl:∀ i Z H,i<=xs.length->Pv i Z H->SqT K H a xs)
 (step:∀ i x Z' H',xs[i]?=some x->i < xs.length->Pv i Z' H'->te (Z'.set 0 (some x)) H' (fun y H4=>CN Pv xs.length i D (Z'.set 0 (some x)) y H4))
 (fin:∀ Z H,Pv xs.length Z H->Qf H) :
 ∃ W:Nat->Nat->L2.St->Hp->Prop,(∃ m,W 0 m Z0 H1) /\ ∀ i m Z' H',W i m Z' H'->((Itt K a).stop i H'/\Qf H')∨((Itt K a).go i H' /\ ∀ x H2,(Itt K a).yld i H' x H2 ->
   if true=true then te (Z'.set 0 (some x)) H2 fun y H4=>∃ ys,H4 D=some (.lst ys)/\ys.length < sizeLine /\ ∃ m',m' < m/\W (i+1) m' (Z'.set 0 (some x)) (upd H4 D (.lst (ys++[y])))
   else ∃ m',m' < m/\W (i+1) m' (Z'.set 0 (some x)) H2):=
 m4 (tt:=fun _ H Q=>Q true H) Pv h0 hl (fun i x Z' H' e hi p=>az (step i x Z' H' e hi p)) fin
theorem pK{Qf:Hp->Prop}(Pv:Nat->L2.St->Hp->Prop)(h0:Pv 0 Z0 H1)(hl:∀ i Z H,i<=xs.length->Pv i Z H->SqT K H a xs)
 (step:∀ i x Z' H',xs[i]?=some x->i < xs.length->Pv i Z' H'->gt x Z' H' fun Z2 H2'=>tt Z2 H2' fun ok H3=>if ok=true then te Z2 H3 (fun y H4=>CN Pv xs.length i D Z2 y H4)else CO Pv xs.length i Z2 H3)
 (fin:∀ Z H,Pv xs.length Z H->Qf H) :
 ∃ W:Nat->Nat->L2.St->Hp->Prop,(∃ m,W 0 m Z0 H1) /\ ∀ i m Z' H',W i m Z' H'->((Itt K a).stop i H'/\Qf H')∨((Itt K a).go i H' /\ ∀ x H2,(Itt K a).yld i H' x H2->gt x Z' H2 fun Z2 H2'=>tt Z2 H2' fun ok H3=>
   if ok=true then te Z2 H3 fun y H4=>∃ ys,H4 D=some (.lst ys)/\ys.length < sizeLine /\ ∃ m',m' < m/\W (i+1) m' Z2 (upd H4 D (.lst (ys++[y])))
   else ∃ m',m' < m/\W (i+1) m' Z2 H3):=by
 refine⟨fun i m Z H=>m=xs.length - i/\i<=xs.length/\Pv i Z H,⟨xs.length,by omega,Nat.zero_le _,h0⟩,?_⟩
 rintro i m Z' H' ⟨rfl,hi,p⟩;have q:=hl i Z' H' hi p;by_cases hlt:i < xs.length
 . refine .inr ⟨⟨xs,xs[i],q,by simp[hlt]⟩,fun x H2 y=>?_⟩
   obtain⟨rfl,y⟩:=y;exact step i x Z' _ (y xs q) hlt p
 have e:i=xs.length:=by omega
 subst e;exact .inl ⟨⟨xs,q,Nat.le_refl _⟩,fin _ _ p⟩
end
section
variable{X:Cx}
def AR:R2:=fun x y H Q=>∃ a b xs ys,x=.ref a/\y=.ref b/\H a=some (.tup xs)/\H b=some (.tup ys)/\xs.length+ys.length<=sizeLine /\ ∀ p H',ac H H'->H' p=some (.tup (xs++ys))->Q (.ref p) H'
theorem da:OpR X (binaryOp .Add) AR:=by
 intro pins s Z H x y v u Q I rx ry h;obtain⟨a,b,xs,ys,rfl,rfl,ha,hb,hz,q⟩:=h;by_cases hx:xs=[]
 . subst hx
   cases rx;cases ry;obtain⟨its,r1,p1,_⟩:=I.tuple (SqT.of ha);obtain⟨its2,r2,p2,_⟩:=I.tuple (SqT.of hb);obtain⟨⟨cls,dd,data,sl⟩,ho,hc,n,hd⟩:=id p1;obtain⟨⟨cls2,dd2,data2,sl2⟩,ho2,hc2,n2,hd2⟩:=id p2;simp only at hc hd hc2 hd2;subst hc hd hc2 hd2;have e1:its=[]:=r1.nil_iff.mpr rfl;subst e1;exact concat_meets ⟨_,ho,rfl⟩ ⟨_,ho2,rfl⟩ noFill_tuple_add seq_tuple_add PySem.F.slot_tuple_add PySem.F.entry_tuple_add (PySem.F.args_tuple_add_2 _ _)
    (tuple_addW0 a b [].toArray its2.toArray n n2 dd dd2 sl sl2 (by simp)) ⟨ho,ho2,⟨.ref b,H,I,rfl,q b H (fun _ _ e=>e) hb⟩⟩
 exact vh pins s Z H _ _ v u Q I rx ry ⟨a,b,xs,ys,rfl,rfl,SqT.of ha,SqT.of hb,hx,hz,fun e=>q a H (fun _ _ e=>e) (by rw[e,List.append_nil];exact ha),fun _ p hp=>q p _ (ac.new hp) aa⟩
theorem o_(hu:X.A.units < cLine):OpR X (compareOp .Eq) (fun x y H Q=>∃ a b xs,x=.ref a/\y=.ref b/\SqT X.K H a xs/\SqT X.K H b []/\Q (.bl xs.isEmpty) H):=by
 intro pins s Z H x y v u Q I rx ry h;obtain⟨a,b,xs,rfl,rfl,ha,hb,q⟩:=h;cases rx;cases ry;obtain⟨i1,r1,t1,_⟩:=I.tuple ha;obtain⟨i2,r2,t2,_⟩:=I.tuple hb;have e2:i2=[]:=by cases r2;rfl
 subst e2;have ez:(i1.toArray.size == 0)=xs.isEmpty:=by cases r1 <;> rfl
 refine SeqAt.eq_tupleAt (e:=fun _=>true) t1 t2 hu (fun j _ h2=>absurd h2 (by simp)) ⟨.bl xs.isEmpty,H,I,?_,q⟩
 show Value.bool _=Value.bool _;rw[← ez];simp
end
def TK(H H':Hp):Prop:=∀ a xs,H a=some (.tup xs)->H' a=some (.tup xs)
theorem TK.trans{H H1 H2:Hp}(a:TK H H1)(b:TK H1 H2):TK H H2:=fun c o h=>b c o (a c o h)
theorem ac.tk{H H':Hp}(s:ac H H'):TK H H':=fun a xs e=>s a _ e
theorem aH{α β:Type}{F:α -> β -> Prop}:∀{xs:List α}{ys:List β},Paired F xs ys->xs.length=ys.length
 | _,_,.nil=>rfl
 | _,_,.cons _ t=>by rw[List.length_cons,List.length_cons,aH t]
theorem aX{α β:Type}{F:α -> β -> Prop}:∀{xs:List α}{ys:List β}{i:Nat}{v:α},Paired F xs ys->xs[i]?=some v -> ∃ d,ys[i]?=some d/\F v d
 | _,_,_,_,.nil,h=>by simp at h
 | _,_,0,v,.cons (b:=b) hd _,g=>by
   simp at g;subst g;exact⟨b,rfl,hd⟩
 | _,_,i+1,v,.cons _ t,g=>by
   obtain⟨d,e,h⟩:=aX (i:=i) t (by simpa using g)
   exact⟨d,by simpa using e,h⟩
theorem ie{α β:Type}{F:α -> β -> Prop}:∀{xs:List α}{ys:List β} (n:Nat),Paired F xs ys->Paired F (xs.take n) (ys.take n)
 | _,_,_,.nil=>by rw[List.take_nil,List.take_nil];exact .nil
 | _,_,0,.cons _ _=>.nil
 | _,_,n+1,.cons h t=>.cons h (ie n t)
theorem ii{α β:Type}{F:α -> β -> Prop}:∀{xs:List α}{ys:List β} (n:Nat),Paired F xs ys->Paired F (xs.drop n) (ys.drop n)
 | _,_,_,.nil=>by rw[List.drop_nil,List.drop_nil];exact .nil
 | _,_,0,.cons h t=>.cons h t
 | _,_,n+1,.cons _ t=>ii n t
theorem aG{α β:Type}{F:α -> β -> Prop}{xs2:List α}{ys2:List β}(g:Paired F xs2 ys2):∀{xs:List α}{ys:List β},Paired F xs ys->Paired F (xs++xs2) (ys++ys2)
 | _,_,.nil=>g
 | _,_,.cons h t=>.cons h (aG g t)
def oN:Option Nat->V
 | none=>.non
 | some n=>.int n
theorem uU(a b:Option Int):yn (oV a) (oV b)=true:=by cases a <;> cases b <;> rfl
end SW
namespace SW
open PySem PySem.Spec PyProof.Rows L2
namespace B
theorem dget{X:Cx}{o i:Expr}{td ty:TE}{pos:Pos}(hu:X.A.units+1 < cLine)(ho:Bx (PE X o td))(hi:Bx (PE X i ty))(hs:za i:=by exact fun _ _=>rfl):Bx (PE X (.Subscript o i pos) (sv td ty)):=⟨vy hu ho.out hi.out hs⟩
end B
theorem wDGet{Z:L2.St}{H:Hp}{Q:VK}{td ty:TE}(h:td Z H fun x H1=>ty Z H1 fun y H2=>∃ a v,x=.ref a/\cK H2 a y (some v)/\Q v H2):sv td ty Z H Q:=h
section
variable{H:Hp}{Q:VK}{E:XK}{p:Addr}
end
section
variable{C:Addr}{H:Hp}{Q:VK}{E:XK}{p wa oa:Addr}{L:LS}
end
section
variable{C:Addr}{H H':Hp}{p:Addr}{L:LS}{wa oa:Addr}
theorem yt{a b:PySem.Str}(h:(a == b)=false):¬ V.str a=V.str b:=fun z=>by
 injection z with z;rw[z]at h;exact absurd (beq_self_eq_true b) (by rw[h];exact Bool.false_ne_true)
end
end SW
namespace SW
open PySem PySem.Spec PyProof.Rows L2
section
variable{X:Cx}{scope:Scope}{cl:List (Str×Addr)}{os:List Str}{js:List Nat}{N':List Str}{elt tgt iter:Expr}{ifs:List Expr}{pos:Pos}{wi:TI}{gt:TG}{tt:TT}{te:TE}
end
namespace B
end B
section
variable{X:Cx}{pins:List (Addr×Obj)}{Z:L2.St}{H:Hp}{s:Shared}
end
section
variable{a D:Addr}{o:Obj}{kvs:List (Key×V)}{Z0:L2.St}{H1:Hp}{tt:TT}{te:TE}
end
section
variable{K:W.Frag}{H:Hp}
end
theorem gU:∀ r:ar,PyData.canLayAll0 (r.map fun p=>PyData.tuple [.int p.1,.int p.2])=true
 | []=>rfl
 | _::r=>gU r
theorem fK:∀ r:ar,PyData.depthAll (r.map fun p=>PyData.tuple [.int p.1,.int p.2])<=1
 | []=>by decide
 | _::r=>by
   have:=fK r;simp only[List.map_cons,PyData.depthAll,PyData.depth];omega
theorem um(ds:List PyData):PyData.eqv (.list ds) (.list [])=ds.isEmpty:=by cases ds <;> rfl
theorem yF{K:W.Frag}{H:Hp}{Q:VK}{a b:Addr}{xs:List V}{ds:List PyData}(ha:SqL K H a xs)(hd:DatVs K H xs ds)(hb:SqL K H b [])(c:(PyData.list ds).canLay0=true)(dp:(PyData.list ds).depth<=60)(q:Q (.bl (!ds.isEmpty)) H):rQ K (.ref a) (.ref b) H Q:=
 ⟨.list ds,.list [],.lst ha hd,.lst hb .nil,c,rfl,dp,by rw[um];exact q⟩
namespace B
theorem tdnotin{X:Cx}{a d:Expr}{ty td:TE}{pos:Pos}(hu:X.A.units+1 < cLine)(hk:Bx (PE X a ty))(hd:Bx (PE X d td))(h1:behindInMarks .NotIn d=false:=by first | rfl | with_unfolding_all rfl):Bx (PT X (.Compare a [.NotIn] [d] pos) (tB (lz ty td))):=⟨tV (qr hu hk.out hd.out) h1⟩
end B
theorem wDNotIn{Z:L2.St}{H:Hp}{Q:VK}{td ty:TE}(h:ty Z H fun y H1=>td Z H1 fun x H2=>∃ a o,x=.ref a/\cK H2 a y o/\Q (.bl (!o.isSome)) H2):lz ty td Z H Q:=h
namespace B
end B
end SW
namespace SW
open PySem PySem.Spec PyProof.Rows L2
def yQ(K:W.Frag)(ta tb:TE):TE:=fun Z H Q=>ta Z H fun x H1=>(x=.non/\tb Z H1 Q) ∨ ∃ a xs,x=.ref a/\SqT K H1 a xs/\if xs.isEmpty=true then tb Z H1 Q else Q x H1
theorem yX{X:Cx}{a b:Expr}{rest:List Expr}{pos:Pos}{ta tb:TE}(ha:PE X a ta)(hb:PE X (.BoolOp .Or (b::rest) pos) tb):PE X (.BoolOp .Or (a::b::rest) pos) (yQ X.K ta tb):=by
 intro pins s Z H Q I h;refine BoolOp_or (thn (ha pins s Z H _ I h) fun v s1 zz=>?_);obtain⟨x,H1,I1,r1,q1⟩:=zz;rcases q1 with ⟨e,q1⟩ | ⟨a,xs,e,hx,q1⟩
 . subst e
   cases r1;exact truthy_none (hb pins s1 Z H1 Q I1 q1)
 subst e;cases r1;obtain⟨its,r,ht,hz⟩:=I1.tuple hx;have hl:=r.length;refine truthy_tuple (items:=its.toArray) ht (by rw[List.size_toArray,← hl];exact Int.lt_of_le_of_lt (Int.ofNat_le.mpr hz) (by decide)) ?_
 have I2:Inv X pins Z H1 { s1 with toks:=s1.toks+1+1 }:=I1.kept (t':=s1.toks+1+1) fun _ _ e=>e;cases xs with
 | nil=>
   cases r;exact hb pins _ Z H1 Q I2 q1
 | cons y ys=>
   cases r with
   | cons r0 rs=>exact⟨.ref a,H1,I2,rfl,q1⟩
theorem B.orA{X:Cx}{a b:Expr}{rest:List Expr}{pos:Pos}{ta tb:TE}(ha:Bx (PE X a ta))(hb:Bx (PE X (.BoolOp .Or (b::rest) pos) tb)):Bx (PE X (.BoolOp .Or (a::b::rest) pos) (yQ X.K ta tb)):=⟨yX ha.out hb.out⟩
theorem wOrA{K:W.Frag}{ta tb:TE}{Z:L2.St}{H:Hp}{Q:VK}(h:ta Z H fun x H1=>(x=.non/\tb Z H1 Q) ∨ ∃ a xs,x=.ref a/\SqT K H1 a xs/\if xs.isEmpty=true then tb Z H1 Q else Q x H1):yQ K ta tb Z H Q:=h
theorem e_(l:Addr)(items:Array Value) :
 Meets (Builtin.«enumerate.__new__» ⟨[.type "enumerate",.ref l],[]⟩) (fun _ R s=>s.heap.IsTuple l items /\
  R (.ok (.ret (.ref (s.heap.push { cls:=.type "tuple_iterator",data:=.fields #[.ref l,.int 0 0] }).objs.size)))
    { s with heap:=(s.heap.push { cls:=.type "tuple_iterator",data:=.fields #[.ref l,.int 0 0] }).push { cls:=.type "enumerate",data:=.fields #[.none,.bool false,.ref s.heap.objs.size,rawInt 0,.none,.none] } }):=
 .of_wp fun prog w A R s h=>by
  obtain⟨hp,g,d,tk,os⟩:=s;obtain⟨hl,h⟩:=h;have hsub:=sub_enumerate;have hL:Heap.IsTuple (Shared.heap ⟨hp,g,d,tk,os⟩) l items:=hl;obtain⟨o,ho,hc,n,hd⟩:=id hl;obtain⟨c,dd,dat,sl⟩:=o;simp only at hc hd;subst hc hd
  wp_walk using AutoSeq1.wpAny_loadPart' ho
  refine wpAny_stack_any fun st=>wpAny_pure ?_;split
  . rename_i c _ _ _ _ _
    cases (c == Value.type "enumerate")
    . wp_walk using AutoSeq1.wpAny_loadPart' ho,wpAny_pyIter_tuple hL
      exact⟨_,rfl,h⟩
    wp_walk using AutoSeq1.wpAny_loadPart' ho,wpAny_pyIter_tuple hL
    exact⟨_,rfl,h⟩
  wp_walk using AutoSeq1.wpAny_loadPart' ho,wpAny_pyIter_tuple hL
  exact⟨_,rfl,h⟩
theorem fi{prog:Program}{w:World}{A:Around}{E:Value->Shared->Prop}{s:Shared}{l:Addr}{items:Array Value}{Q:Value->Shared->Prop}(hL:s.heap.IsTuple l items)
 (h:∀ h',IsEnum h' (s.heap.objs.size+1) s.heap.objs.size 0 .none->h'.IsTupleIter s.heap.objs.size l 0->h'.objs.size=s.heap.objs.size+2 ->
  (∀ b o,s.heap.get? b=some o->h'.get? b=some o)->Q (.ref (s.heap.objs.size+1)) { s with heap:=h' }) :
 wpAny (model prog w) A (call (.type "enumerate") [.ref l]) Q E s:=by
 refine callType_new F.called_enumerate (by decide) (F.typeCall_enumerate_1 _) (F.newCall_enumerate_1 _) (fun obj=>F.args_object_init_2 obj _) F.entry_enumerate_new
  (e_ l items) ⟨hL,?_⟩
 have hz:(s.heap.push { cls:=.type "tuple_iterator",data:=.fields #[.ref l,.int 0 0] }).objs.size=s.heap.objs.size+1:=Heap.size_push ..;show _/\_;rw[hz];have he:IsEnum ((s.heap.push { cls:=.type "tuple_iterator",data:=.fields #[.ref l,.int 0 0] }).push
  { cls:=.type "enumerate",data:=.fields #[.none,.bool false,.ref s.heap.objs.size,rawInt 0,.none,.none] }) (s.heap.objs.size+1) s.heap.objs.size 0 .none:=by
  have:=Heap.get?_push_size (s.heap.push { cls:=.type "tuple_iterator",data:=.fields #[.ref l,.int 0 0] })
   (o:={ cls:=.type "enumerate",data:=.fields #[.none,.bool false,.ref s.heap.objs.size,rawInt 0,.none,.none] }) rfl
  rw[hz]at this;exact this
 refine⟨⟨_,he,rfl⟩,h _ he ⟨_,Heap.get?_push_of_some _ (Heap.get?_push_size _ rfl),rfl,rfl⟩ (by rw[Heap.size_push,hz]) fun b o x=>Heap.get?_push_of_some _ (Heap.get?_push_of_some _ x)⟩
theorem hU{prog:Program}{w:World}{A:Around}(hh:A.handled=none)(it l:Addr)(hne:l≠it)(items:Array Value) :
 Draws prog w A it [it,l] items.size (fun i v=>items[i]?=some v) (fun i h=>h.IsTupleIter it l i/\h.IsTuple l items) where
 live:=fun _ _ st=>let⟨o,ho,_⟩:=st.1;⟨o,ho⟩
 frame:=fun _ _ _ st hk=>⟨st.1.at fun o e=>hk it (by simp) o e,st.2.at fun o e=>hk l (by simp) o e⟩
 item:=fun i s Q E hi st hQ=>by
  refine zb st.1 st.2 (x:=items[i]) (by simp[hi]) fun h' hit' hs'=>?_
  exact hQ _ h' s.toks (by simp[hi]) ⟨hit',st.2.extBut hs'.extBut hne⟩ hs'
 done:=fun s Q E st hE=>Ai hh st.1 st.2 (by simp) hE
def pX(K:W.Frag)(l:Addr):It:=
 ⟨fun i H=>∃ xs x,SqT K H l xs/\xs[i]?=some x,
  fun i H v H'=>∃ T x,H T=none/\v=.ref T/\(∀ xs,SqT K H l xs->xs[i]?=some x)/\H'=upd H T (.tup [.int i,x]),
  fun i H=>∃ xs,SqT K H l xs/\xs.length=i⟩
theorem nI{P:Program}{w:World}{K:W.Frag}{elts:List Expr}{k:Nat}{pos:Pos}(l e it:Addr)(hne:e≠it)(hle:l≠e)(hli:l≠it):nJ P w K (.Tuple elts k pos) (pX K l) [e,it] e
 (fun i h=>(∃ old,IsEnum h e it ((i:Nat):Int) old)/\h.IsTupleIter it l i) where
 mem:=by simp
 obj:=fun i h st b hb=>by
  obtain⟨⟨old,s1⟩,⟨o1,e1,c1,d1⟩⟩:=st;simp only[List.mem_cons,List.not_mem_nil,or_false]at hb;rcases hb with rfl | rfl
  . exact⟨_,s1,fun v q=>by cases q⟩
  exact⟨_,e1,fun v q=>by rw[d1]at q;cases q⟩
 keep:=fun i h h' st kk=>by
  obtain⟨⟨old,s1⟩,s4⟩:=st;exact⟨⟨old,kk e (by simp) _ s1⟩,s4.at fun o g=>kk it (by simp) o g⟩
 item:=by
  intro X hP hw hK hc i pins s Z H E I hf st hg;subst hP hw hK;obtain⟨xs,x,hl,hx⟩:=hg;obtain⟨⟨old,s1⟩,s4⟩:=st;obtain⟨its1,rv1,p1,hz1⟩:=I.tuple hl;obtain⟨u1,hu1,ru1⟩:=rv1.get hx;have hlt:i < its1.toArray.size:=by
   rw[List.size_toArray];exact(List.getElem?_eq_some_iff.mp hu1).1
  refine wpAny_pyNext_enum_itemD (hU (prog:=X.prog) (w:=X.w) (A:=X.A.in1) (I.ok.hd hc) it l hli its1.toArray) s1 ⟨s4,p1⟩ hlt hne (by simp[hne,hle.symm]) fun x' h1 tk hPx a1 a4 a5 a6 kk=>?_
  have ex:x'=u1:=by
   have:its1.toArray[i]?=some x':=hPx;rw[← Array.getElem?_toList]at this;rw[show its1.toArray.toList[i]?=some u1 from hu1]at this;exact(Option.some.inj this).symm
  subst ex;refine⟨_,rfl,wpAny_letOwnedTupleGo_enum a1 fun h2 b1 sb=>?_⟩;have ezT:s.heap.objs.size≠e:=Nat.ne_of_gt (Heap.lt_size s1);have g5:h2.get? s.heap.objs.size=some { cls:=.type "tuple",data:=.seq #[.int i tk,x'] }:=sb.extBut _ _ ezT a5;have keep2:∀ b u,b∉[e,it]->s.heap.get? b=some u->h2.get? b=some u:=fun b u hb g=>by
   simp only[List.mem_cons,List.not_mem_nil,or_false,not_or]at hb;exact sb.extBut _ _ hb.1 (kk b u hb.1 hb.2 g)
  have I2:=Inv.turnedNew (t':=tk+1) (h':=h2) (a:=s.heap.objs.size) (o:=.tup [.int i,x]) I keep2 hf (Nat.le_refl _)
   ⟨by show(2:Nat)<=sizeLine;decide,[.int i tk,x'],.cons ⟨_,rfl⟩ (.cons ru1 .nil),_,g5,rfl,_,rfl⟩
  refine⟨.ref s.heap.objs.size,_,I2,rfl,⟨_,x,I.hok.fresh (Nat.le_refl _),rfl,fun zs hz=>by rw[I.tuple_inj hz hl];exact hx,rfl⟩,⟨⟨_,b1⟩,a4.1.extBut sb.extBut hne.symm⟩,fun b hb=>?_⟩
  rw[ag ?_]
  . exact(hf b hb).1
  obtain⟨o1,e1,_⟩:=s4;simp only[List.mem_cons,List.not_mem_nil,or_false]at hb;rcases hb with rfl | rfl
  . exact Nat.ne_of_lt (Heap.lt_size s1)
  exact Nat.ne_of_lt (Heap.lt_size e1)
 done:=by
  intro X hP hw hK hc i pins s Z H E I hf st hg;subst hP hw hK;obtain⟨xs,hl,hx⟩:=hg;obtain⟨⟨old,s1⟩,s4⟩:=st;obtain⟨its1,rv1,p1,hz1⟩:=I.tuple hl;have l1:=rv1.length;have e1:its1.toArray.size=i:=by rw[List.size_toArray];omega
  subst e1;refine wpAny_pyNext_enum_endD (hU (prog:=X.prog) (w:=X.w) (A:=X.A.in1) (I.ok.hd hc) it l hli its1.toArray) s1 ⟨s4,p1⟩ fun h1 kk=>⟨rfl,Inv.turnedL (t':=s.toks) I (fun b u hb g=>?_) hf⟩;simp only[List.mem_cons,List.not_mem_nil,or_false,not_or]at hb;exact kk b u hb.2 g
 self:=fun _ _ _ _ _ st h=>by
  obtain⟨⟨old,s1⟩,_⟩:=st;exact wpAny_pyIter_enum s1 h
section
variable{X:Cx}{elts:List Expr}{k:Nat}{tp:Pos}
def nu(K:W.Frag)(ta:TA):TI:=fun Z H R=>ta Z H fun vs H1=>∃ l,vs=[.ref l]/\(∃ xs,SqT K H1 l xs)/\R (pX K l) H1
theorem rX{a:Expr}{ta:TA}{p pos:Pos}(hg:Gl X "enumerate")(hm:X.mg "enumerate"=none)(ha:PA X [a] ta)(hs:starEach [a] X.env=[(false,eval a X.env)]) :
 PI X (.Tuple elts k tp) (.Call (.Name "enumerate" p) [a] [] pos) (nu X.K ta):=by
 intro pins s Z H R I h;refine Call_ (jb I hg hm b_enumerate (PyProof.Rows.callWith_type1 (thn (ha pos pins s Z H _ I h) fun us s1 ⟨vs,H1,I1,r1,q1⟩=>?_) hs rfl));obtain⟨l,e,⟨xs,hl⟩,q⟩:=q1;subst e;obtain⟨u,rfl,ru⟩:=dZ r1;cases ru;obtain⟨its1,rv1,p1,_⟩:=I1.tuple hl;have hlt:l < s1.heap.objs.size:=p1.lt;refine fi p1 fun h' he hit hsz hk=>wpAny_pyIter_enum he ?_;refine⟨s1.heap.objs.size+1,[s1.heap.objs.size+1,s1.heap.objs.size],_,_,H1,rfl,I1.kept (t':=s1.toks) hk,nI l _ _ (Nat.succ_ne_self _) (Nat.ne_of_lt (Nat.lt_succ_of_lt hlt)) (Nat.ne_of_lt hlt),⟨⟨_,he⟩,hit⟩,fun b hb=>?_,q⟩;have hb':s1.heap.objs.size<=b:=by
  simp only[List.mem_cons,List.not_mem_nil,or_false]at hb;rcases hb with rfl | rfl
  . exact Nat.le_add_right _ 1
  exact Nat.le_refl _
 exact I1.fpOk hb' (I1.hok.fresh hb')
end
theorem B.ienumT{X:Cx}{elts:List Expr}{k:Nat}{tp:Pos}{a:Expr}{t:TA}{p pos:Pos}(hm:X.mg "enumerate"=none)(ha:Bx (PA X [a] t))(hg:Gl X "enumerate":=by rfl)(h1:aQ a=true:=by rfl):Bx (PI X (.Tuple elts k tp) (.Call (.Name "enumerate" p) [a] [] pos) (nu X.K t)):=
 ⟨rX hg hm ha.out (by rw[b7 h1];rfl)⟩
theorem wEnumT{K:W.Frag}{Z:L2.St}{H:Hp}{ta:TA}{R:It->Hp->Prop}(h:ta Z H fun vs H1=>∃ l,vs=[.ref l]/\(∃ xs,SqT K H1 l xs)/\R (pX K l) H1):nu K ta Z H R:=h
theorem p5{K:PySem.W.Frag}{l:Addr}{xs:List V}{g:TG}{tb:TS}{D:eM}{Z:L2.St}{H:Hp}(Pv:Nat->L2.St->Hp->Prop)(h0:Pv 0 Z H)(hl:∀ i Z H,Pv i Z H->SqT K H l xs)
 (hs:∀ i x Z H T,xs[i]?=some x->H T=none->Pv i Z H->g (.ref T) Z (upd H T (.tup [.int i,x])) fun Z2 H2=>tb { D with nx:=Pv (i+1),ct:=Pv (i+1),bk:=D.nx } Z2 H2) (hd:∀ Z H,Pv xs.length Z H->D.nx Z H) :
 ∃ W:Nat->Nat->L2.St->Hp->Prop,(∃ m,W 0 m Z H) /\ ∀ i m Z H,W i m Z H ->
   ((pX K l).stop i H/\D.nx Z H)∨((pX K l).go i H /\ ∃ N:L2.St->Hp->Prop,(∀ Z' H',N Z' H' -> ∃ m',m' < m/\W (i+1) m' Z' H') /\ ∀ x H',(pX K l).yld i H x H'->g x Z H' fun Z2 H2=>tb { D with nx:=N,ct:=N,bk:=D.nx } Z2 H2):=by
 refine⟨fun i m Z H=>m=xs.length - i/\i<=xs.length/\Pv i Z H,⟨xs.length,by simp,Nat.zero_le _,h0⟩,?_⟩
 rintro i m Z H ⟨rfl,hi,p⟩;have q:=hl i Z H p;by_cases hlt:i < xs.length
 . refine .inr ⟨⟨xs,xs[i],q,by simp[hlt]⟩,Pv (i+1),fun Z' H' p'=>⟨xs.length - (i+1),by omega,rfl,hlt,p'⟩,fun v H' y=>?_⟩
   obtain⟨T,x,hT,rfl,hx,rfl⟩:=y;exact hs i x Z H T (hx xs q) hT p
 have e:i=xs.length:=by omega
 subst e;exact .inl ⟨⟨xs,q,rfl⟩,hd _ _ p⟩
end SW
namespace SW
open PySem PySem.Spec PyProof.Rows L2
section
variable{prog:Program}{w:World}{A:Around}{E:Value->Shared->Prop}{s:Shared}
theorem fz{t sl:Addr}{items:Array Value}{vl vu:Value}{lo hi:Option Int}{Q:Value->Shared->Prop}(ht:IsTup s.heap t items)(hs:s.heap.IsSliceOf sl vl vu .none)(pl:IsPart vl lo)(pu:IsPart vu hi)
 (hw:HT.sIx items.size 0 lo=0/\HT.sIx items.size items.size hi=items.size) (h:Q (.ref t) s):wpAny (model prog w) A (getItem (.ref t) (.ref sl)) Q E s:=by
 obtain⟨os,hos,hcs,hds⟩:=id hs;have hTs:s.TypeIs (.ref sl) "slice":=⟨os,hos,hcs⟩;unfold getItem
 try with_reducible refine wpAny_holding ?_
 first | refine wpAny_bind (wpAny_pure ?_) | skip
 refine wpAny_bind (wpAny_sequenceKey ht.typeIs (by decide) ?_)
 refine wpAny_bind (wpAny_callSpecial?_slot (name:=Str.ofString "__getitem__") ht.typeIs PyProof.Rows.slot_tuple_getitem
  (wpAny_call_entry PyProof.Rows.slot_tuple_getitem ht.typeIs entry_tuple_getitem ?_ (args_tuple_getitem _ _)))
 show wpAny _ _ (Builtin.Tuple.tupleItemsOf (.ref t) >>= _) _ _ s;refine wpAny_bind (tupleItemsOf_ ht ?_);refine wpAny_bind (wpAny_typeOf hTs ?_);rw[if_pos (by decide)]
 refine wpAny_bind (HT.dS hs pl pu ?_);have hyes:(((HT.sIx items.size 0 lo:Nat):Int) == 0 && (1:Int) == 1 && (HT.sIx items.size items.size hi - HT.sIx items.size 0 lo) == items.size)=true:=by
  rw[hw.1,hw.2];simp
 show wpAny _ _ (if(((HT.sIx items.size 0 lo:Nat):Int) == 0 && (1:Int) == 1 && (HT.sIx items.size items.size hi - HT.sIx items.size 0 lo) == items.size)=true then _ else _) _ _ s;rw[if_pos hyes];unfold Builtin.Tuple.tupleIsExact;refine wpAny_bind (wpAny_bind (wpAny_typeOf ht.typeIs (wpAny_pure ?_)));rw[if_pos (by decide)]
 refine wpAny_bind (wpAny_rule ?_)
 first
  | exact wpAny_pure ⟨_,rfl,wpAny_pure h⟩
  | exact wpAny_bind (wpAny_pure (wpAny_pure ⟨_,rfl,wpAny_pure h⟩))
end
section
variable{X:Cx}
def Bq:V->Option Int->Option Int->Hp->VK->Prop:=fun x lo hi H Q=>∃ a xs,x=.ref a/\H a=some (.tup xs) /\ ∀ p H',ac H H'->H' p=some (.tup (bQ xs lo hi))->Q (.ref p) H'
theorem qo{xs:List V}{lo hi:Option Int}(hw:HT.sIx xs.length 0 lo=0/\HT.sIx xs.length xs.length hi=xs.length):bQ xs lo hi=xs:=by
 unfold bQ;rw[hw.1,hw.2,List.drop_zero,Nat.sub_zero,List.take_length]
theorem cM:SlR X Bq:=by
 intro pins s Z H x v vl vu lo hi sl Q I rx hs pl pu h;obtain⟨a,xs,rfl,hx,q⟩:=h;by_cases hw:HT.sIx xs.length 0 lo=0/\HT.sIx xs.length xs.length hi=xs.length
 . cases rx
   obtain⟨its,r,ht,hz⟩:=I.tuple (SqT.of hx);have hlen:its.toArray.size=xs.length:=by rw[List.size_toArray];exact r.length.symm
   refine⟨"tuple",_,PyProof.Rows.slot_tuple_getitem.lookup,ht.typeIs,?_⟩;exact fz ht hs pl pu (by rw[hlen];exact hw) ⟨.ref a,H,I,rfl,q a H (fun _ _ e=>e) (by rw[qo hw];exact hx)⟩
 exact zh pins s Z H _ v vl vu lo hi sl Q I rx hs pl pu ⟨a,xs,rfl,SqT.of hx,hw,fun p hp=>q p _ (ac.new hp) aa⟩
end
theorem gJ:fillsNumberSlot (.type "tuple") "mul"=pure false:=
 PySem.fillsNumberSlot_seq (id:="tuple.__mul__") (r:=some (.builtin "tuple.__rmul__")) F.slot_tuple_mul.lookup (by decide +kernel) F.slot_tuple_rmul.lookup (by decide +kernel)
theorem l6:seqRepeat? (.type "tuple")=pure (some (.builtin "tuple.__mul__")):=by
 unfold seqRepeat?;rw[PySem.seqSlot_of (T:="tuple") (name:="__mul__") (id:="tuple.__mul__") F.slot_tuple_mul.lookup (by decide +kernel),PySem.seqSlot_of (T:="tuple") (name:="__rmul__") (id:="tuple.__rmul__") F.slot_tuple_rmul.lookup (by decide +kernel)]
 rfl
theorem d6(a:Int)(t:Tok)(l:Addr)(items:Array Value)(n:Nat)(dd:Option Addr)(sl:Array (Option Value)) :
 Meets (Builtin.«int.__rmul__» ⟨[.int a t,.ref l],[]⟩) (fun _ R s=>s.heap.get? l=some { cls:=.type "tuple",dict:=dd,data:=.seq items n,slots:=sl } /\ R (.ok (.ret Value.notImplemented)) s):=
 .of_wp fun prog w A R s h=>by obtain⟨hp,g,d,tk,os⟩:=s;obtain⟨hl,h⟩:=h;wp_walk;exact⟨_,rfl,h⟩
theorem nM(l:Addr)(items:Array Value)(n:Nat)(dd:Option Addr)(sl:Array (Option Value))(k:Int)(t:Tok)(h1:1 < k)(h2:k < 2 ^ 62)(h0:items.isEmpty=false)(hz:items.size*k.toNat<=sizeLine)(hz2:((List.replicate k.toNat items).foldl (· ++ ·) #[]).size<=sizeLine) :
 Meets (Builtin.«tuple.__mul__» ⟨[.ref l,.int k t],[]⟩) (fun _ R s=>s.heap.get? l=some { cls:=.type "tuple",dict:=dd,data:=.seq items n,slots:=sl } /\
  R (.ok (.ret (.ref s.heap.objs.size))) { s with heap:=s.heap.push { cls:=.type "tuple",data:=.seq ((List.replicate k.toNat items).foldl (· ++ ·) #[]) },toks:=s.toks }):=
 .of_wp fun prog w A R s h=>by
  obtain⟨hp,g,d,tk,os⟩:=s;obtain⟨hl,h⟩:=h;have e1:¬ (decide (k < -(2 ^ 63)) || decide (k ≥ 2 ^ 63))=true:=by simp;omega
  have e2:¬ (items.isEmpty || k == 1)=true:=by rw[h0];simp;omega
  have e3:¬ (decide (k<=0) || items.isEmpty)=true:=by rw[h0];simp;omega
  have hk:((k.toNat:Nat):Int)=k:=Int.toNat_of_nonneg (by omega)
  have hm:(items.size:Int)*k=((items.size*k.toNat:Nat):Int):=by rw[Int.natCast_mul,hk]
  have e4:¬ (items.size:Int)*k > (2 ^ 63 - 1) / 8:=by
   rw[hm];have:(sizeLine:Nat)<=(2 ^ 63 - 1) / 8:=by decide
   omega
  have e5:¬ Builtin.Tuple.tupleTooMany ((items.size:Int)*k)=true:=by
   unfold Builtin.Tuple.tupleTooMany;rw[hm];intro z;have:=of_decide_eq_true z;omega
  have f1:=AutoSeq1.idx_int
  wp_walk using AutoSeq1.wpAny_loadPart' hl
  rw[if_neg e1]
  wp_walk using AutoSeq1.wpAny_loadPart' hl
  rw[if_neg e2];show wpAny _ _ (if(decide (k<=0) || items.isEmpty)=true then _ else _) _ _ _;rw[if_neg e3];show wpAny _ _ (if(items.size:Int)*k > (2 ^ 63 - 1) / 8 then _ else _) _ _ _;rw[if_neg e4];show wpAny _ _ (if Builtin.Tuple.tupleTooMany ((items.size:Int)*k)=true then _ else _) _ _ _;rw[if_neg e5];exact wpAny_bind (m:=Builtin.Tuple.tupleExact _) (wpAny_newObj_type (wpAny_pure ⟨_,rfl,h⟩) hz2)
section
variable{X:Cx}
def wA:R2:=fun x y H Q=>∃ l k xs,x=.ref l/\y=.int k/\H l=some (.tup xs)/\xs≠[]/\1 < k/\k < 2 ^ 62/\xs.length*k.toNat<=sizeLine /\ ∀ p,H p=none->Q (.ref p) (upd H p (.tup (List.replicate k.toNat xs).flatten))
theorem c_:OpR X (binaryOp .Mult) wA:=by
 intro pins s Z H x y v u Q I rx ry h;obtain⟨l,k,xs,rfl,rfl,hH,hne,h1,h2,hz,q⟩:=h;cases rx;obtain⟨t,rfl⟩:=ry;obtain⟨its,r,ht,hz0⟩:=I.tuple (SqT.of hH);obtain⟨⟨c,dd,dat,sl⟩,ho,hc,n,hd⟩:=id ht;simp only at hc hd;subst hc hd;have hl:=r.length;have hlen:its.toArray.size*k.toNat<=sizeLine:=by rw[List.size_toArray,← hl];exact hz
 have h0:its.toArray.isEmpty=false:=by
  cases r with
  | nil=>exact absurd rfl hne
  | cons a b=>rfl
 have hnew:List.foldl (fun x1 x2=>x1++x2) #[] (List.replicate k.toNat its.toArray)=(List.replicate k.toNat its).flatten.toArray:=by
  have:=kM its k.toNat [];rw[List.nil_append]at this;exact this
 have hz2:(List.foldl (fun x1 x2=>x1++x2) #[] (List.replicate k.toNat its.toArray)).size<=sizeLine:=by
  rw[hnew,List.size_toArray,oP,← hl,Nat.mul_comm];exact hz
 refine wpAny_binaryOp_repeat_ref (T:="tuple") (U:="int") (by decide) ⟨_,ho,rfl⟩ (fun s'=>typeIs_int s' k t) gJ F.fills_int_mul F.slot_int_rmul l6 F.slot_int_index.lookup
  (call_meets F.slot_int_rmul (typeIs_int s k t) F.entry_int_rmul (F.args_int_rmul_2 _ _) (d6 k t l its.toArray n dd sl)
   ⟨ho,rfl,⟨_,ho,rfl⟩,call_meets F.slot_tuple_mul ⟨_,ho,rfl⟩ F.entry_tuple_mul (F.args_tuple_mul_2 _ _) (nM l its.toArray n dd sl k t h1 h2 h0 hlen hz2) ⟨ho,?_⟩⟩)
 rw[hnew];refine⟨.ref _,_,I.laid (t':=s.toks) (o:=.tup (List.replicate k.toNat xs).flatten) (fun b ob q=>Heap.get?_push_of_some _ q) (Nat.le_refl _) ?_,rfl,q _ (I.hok.fresh (Nat.le_refl _))⟩;exact⟨by rw[oP,Nat.mul_comm];exact hz,_,r.rep k.toNat,IsTup.new _ _⟩
end
section
variable{X:Cx}
def Cu(K:W.Frag):R2:=fun x y H Q=>∃(d:PyData) (p:Addr) (xs:List V) (ds:List PyData),d7 K H x d/\y=.ref p/\SqL K H p xs/\DatVs K H xs ds/\d.canLay0=true/\PyData.canLayAll0 ds=true/\d.depth<=60/\Q (.bl (ds.any fun e=>PyData.eqv e d)) H
theorem wN(K:W.Frag)(hu:X.A.units+64 < cLine)(hK:X.K=K:=by rfl):OpR X (compareOp .In) (Cu K):=by
 subst hK;intro pins s Z H x y v u Q I rx ry h;obtain⟨d,p,xs,ds,hd,rfl,hl,hds,c1,c2,dp,q⟩:=h;obtain⟨as,r1⟩:=dP I hd rx;obtain⟨bs,r2⟩:=dP I (.lst hl hds) ry;refine SeqAt.in_list_reads r2 r1 c2 c1 ?_ ⟨.bl _,H,I,rfl,q⟩;have:=Nat.min_le_right (PyData.depthAll ds) d.depth;omega
end
theorem jU(l:Addr)(items:Array Value)(n:Nat)(x:Value)(e:Value->Bool)(j:Nat)(hj:j < items.size)(hit:e items[j]=true)(k:Nat)(hs1:items.size<=sizeLine) :
 ∀ i:Nat,j - i=k->i<=j->(∀ m (hm:m < items.size),i<=m->m < j->e items[m]=false)->Meets (Builtin.«list.remove.loop» ⟨[.ref l,x,rawInt i],[]⟩)
   (fun A R s=>s.heap.get? l=some { cls:=.type "list",dict:=none,data:=.seq items n,slots:=#[] } /\ (∀ y,y∈items->SeqAt.EqAt A.in1 s y x (e y))/\R (.ok (.ret .none)) { s with heap:=s.heap.update l (Obj.mapSeq fun xs=>xs.eraseIdxIfInBounds j) }):=by
 induction k with
 | zero=>
   intro i hk hij hno prog w A R s h;obtain⟨hp,g,d,tk,os⟩:=s;obtain⟨hl,he,h⟩:=h;have hij':i=j:=by omega
   subst hij'
   wp_walk using AutoSeq1.wpAny_loadPart' hl
   have hi:items[((i:Nat):Int).toNat]?=some items[i]:=by simp[hj]
   rw[hi];refine wpAny_bind (he _ (Array.getElem_mem hj) prog w _ _ ?_);rw[hit];have hz':(items.eraseIdxIfInBounds i).size<=sizeLine+1:=Nat.le_trans (MeetsSeq.size_erased items _) (Nat.le_succ_of_le hs1)
   wp_walk using (wpAny_updateSeq hl rfl (hz:=hs1) (_hz':=hz')),AutoSeq1.wpAny_loadPart' hl
   simpa using h
 | succ k ih=>
   intro i hk hij hno prog w A R s h;obtain⟨hp,g,d,tk,os⟩:=s;obtain⟨hl,he,h⟩:=h;have hlt:i < items.size:=by omega
   wp_walk using AutoSeq1.wpAny_loadPart' hl
   have hi:items[((i:Nat):Int).toNat]?=some items[i]:=by simp[hlt]
   have hc:((i:Int)+1)=((i+1:Nat):Int):=by push_cast;rfl
   rw[hi];refine wpAny_bind (he _ (Array.getElem_mem hlt) prog w _ _ ?_);rw[hno i hlt (Nat.le_refl _) (by omega)]
   wp_walk
   rw[hc];exact⟨plainId_quiet MeetsSeq.plain_remove_loop _,codeAny_builtin MeetsSeq.entry_remove_loop (by
    rw[Around.under_plainId MeetsSeq.plain_remove_loop _];exact ih (i+1) (by omega) (by omega) (fun m hm h1 h2=>hno m hm (by omega) h2) prog w A R _ ⟨hl,he,h⟩)⟩
theorem jT(l:Addr)(items:Array Value)(n:Nat)(x:Value)(e:Value->Bool)(j:Nat)(hj:j < items.size)
 (hit:e items[j]=true) (hno:∀ m (hm:m < items.size),m < j->e items[m]=false) (hs1:items.size<=sizeLine) :
 Meets (Builtin.«list.remove» ⟨[.ref l,x],[]⟩)
  (fun A R s=>s.heap.get? l=some { cls:=.type "list",dict:=none,data:=.seq items n,slots:=#[] } /\ (∀ y,y∈items->SeqAt.EqAt A.in1 s y x (e y))/\R (.ok (.ret .none)) { s with heap:=s.heap.update l (Obj.mapSeq fun xs=>xs.eraseIdxIfInBounds j) }):=by
 intro prog w A R s h;obtain⟨hp,g,d,tk,os⟩:=s;obtain⟨hl,he,h⟩:=h
 wp_walk using AutoSeq1.wpAny_loadPart' hl
 exact⟨plainId_quiet MeetsSeq.plain_remove_loop _,codeAny_builtin MeetsSeq.entry_remove_loop (by
  rw[Around.under_plainId MeetsSeq.plain_remove_loop _];exact jU l items n x e j hj hit _ hs1 0 rfl (Nat.zero_le _) (fun m hm _ h2=>hno m hm h2) prog w A R _ ⟨hl,he,h⟩)⟩
theorem mL{α:Type}(e:α -> Bool):∀(xs:List α),xs.any e=true -> ∃ j,∃ h:j < xs.length,e xs[j]=true /\ ∀ m (hm:m < xs.length),m < j->e xs[m]=false
 | [],h=>by cases h
 | x::xs,h=>by
   cases hx:e x with
   | true=>exact⟨0,Nat.zero_lt_succ _,hx,fun m _ z=>absurd z (Nat.not_lt_zero _)⟩
   | false=>
     rw[List.any_cons,hx,Bool.false_or]at h;obtain⟨j,hj,h1,h2⟩:=mL e xs h;refine⟨j+1,Nat.succ_lt_succ hj,h1,fun m hm z=>?_⟩;cases m with
     | zero=>exact hx
     | succ m=>exact h2 m (Nat.lt_of_succ_lt_succ hm) (Nat.lt_of_succ_lt_succ z)
section
variable{X:Cx}
def vC(K:W.Frag):V->List V->Hp->VK->Prop:=fun x vs H Q=>∃(l:Addr) (y:V) (d:PyData) (xs:List V) (ds:List PyData),x=.ref l/\vs=[y]/\H l=some (.lst xs)/\d7 K H y d/\DatVs K H xs ds/\d.canLay0=true/\PyData.canLayAll0 ds=true/\d.depth<=50 /\
 (ds.any fun e=>PyData.eqv e d)=true /\ ∀ j,j < xs.length->Q .non (upd H l (.lst (xs.eraseIdx j)))
theorem qc(K:W.Frag)(hu:X.A.units+64 < cLine)(hK:X.K=K:=by rfl):MtM X "list.remove" (vC K):=by
 subst hK;intro pins s Z H x vs v us Q I rx rv h;obtain⟨l,y,d,xs,ds,rfl,rfl,hH,hd,hds,c1,c2,dp,hany,q⟩:=h;cases rx;obtain⟨u,rfl,ru⟩:=rv.one;obtain⟨z,its,n,r,hl,e⟩:=I.lstM hH;obtain⟨as,r1⟩:=dP I hd ru;obtain⟨bs,r2⟩:=reads_all I hds r;have heq:∀ A:Around,A.units+62 < cLine -> ∀ y,y∈its.toArray->SeqAt.EqAt A.in1 s y u (PyData.eqv (SeqAt.readOf s.heap y) d):=fun A hA=>
  SeqAt.items_eqAt (A:=A) (vs:=its.toArray) (by simpa using r2) r1 c2 c1 (by have:=Nat.min_le_right (PyData.depthAll ds) d.depth;omega)
 have hany2:its.any (fun y=>PyData.eqv (SeqAt.readOf s.heap y) d)=true:=by
  have:=SeqAt.any_by_data (s:=s) (vs:=its.toArray) (d:=d) (by simpa using r2) c2
  rw[hany]at this
  simpa using this
 obtain⟨j,hj,h1,h2⟩:=mL _ its hany2;refine call_meets F.slot_list_remove ⟨_,e,rfl⟩ F.entry_list_remove (F.args_list_remove_2 _ _) (jT l its.toArray n u (fun y=>PyData.eqv (SeqAt.readOf s.heap y) d) j (by rw[List.size_toArray];exact hj) (by simpa using h1) (fun m hm z=>by simpa using h2 m (by rw[List.size_toArray]at hm;exact hm) z) (by rw[List.size_toArray];omega)) ⟨e,?_,?_⟩
 . exact fun y hy=>heq _ (by omega) y hy
 refine⟨.non,_,I.lset (its':=its.eraseIdx j) hH e ?_ (r.eraseIdx j) ?_,rfl,q j (by omega)⟩
 . show its.toArray.eraseIdxIfInBounds j=(its.eraseIdx j).toArray
   rw[List.eraseIdxIfInBounds_toArray]
 have:=gK xs j;omega
end
def dB(H:Hp)(v:V)(r:ar):Prop:=∃ b ys,v=.ref b/\H b=some (.tup ys)/\Prs H ys r
def bt(H:Hp)(v:V)(R:af):Prop:=∃ a xs,v=.ref a/\H a=some (.tup xs)/\Paired (dB H) xs R
def ElV(H:Hp)(v:V):Option af->Prop
 | none=>v=.non
 | some R=>bt H v R
structure Sta where
 el:Option af
 mv:Int
 nw:af
def StV(H:Hp)(v:V)(S:Sta):Prop:=∃ u ve vn,v=.ref u/\H u=some (.tup [ve,.int S.mv,vn])/\ElV H ve S.el/\bt H vn S.nw
theorem dB.keep{H H':Hp}{v:V}{r:ar}(h:dB H v r)(k:TK H H'):dB H' v r:=by
 obtain⟨b,ys,e,h1,h2⟩:=h;exact⟨b,ys,e,k _ _ h1,h2.keep k⟩
theorem ba{H H':Hp}{xs:List V}{R:af}(h:Paired (dB H) xs R)(k:TK H H'):Paired (dB H') xs R:=Paired.mapP h fun _ _ z=>z.keep k
theorem bt.keep{H H':Hp}{v:V}{R:af}(h:bt H v R)(k:TK H H'):bt H' v R:=by
 obtain⟨b,ys,e,h1,h2⟩:=h;exact⟨b,ys,e,k _ _ h1,ba h2 k⟩
theorem ElV.keep{H H':Hp}{v:V}{e:Option af}(h:ElV H v e)(k:TK H H'):ElV H' v e:=by
 cases e with
 | none=>exact h
 | some R=>exact bt.keep h k
theorem StV.keep{H H':Hp}{v:V}{S:Sta}(h:StV H v S)(k:TK H H'):StV H' v S:=by
 obtain⟨u,ve,vn,e,h1,h2,h3⟩:=h;exact⟨u,ve,vn,e,k _ _ h1,h2.keep k,h3.keep k⟩
inductive Flt where
 | places
 | moved
 | at_ (kind:Nat) (sh:Bool) (i:Nat)
def shN:Bool->PySem.Str
 | true=>"elder"
 | false=>"newer"
def fkN:Nat->PySem.Str
 | 0=>"place"
 | 1=>"emptied"
 | _=>"twice"
def CL:Flt->List V
 | .places=>[.str "places"]
 | .moved=>[.str "moved"]
 | .at_ k sh i=>[.str (fkN k),.str (shN sh),.int i]
def mC(H:Hp)(v:V):Option Flt->Prop
 | none=>v=.non
 | some f=>∃ u,v=.ref u/\H u=some (.tup (CL f))
abbrev eO:=Bool×Nat×Int
def bV(sh:Bool)(i:Nat)(r:ar):List eO:=r.map fun p=>(sh,i,p.1)
def aJ(sh:Bool):Nat->af->List eO
 | _,[]=>[]
 | i,r::rs=>bV sh i r++aJ sh (i+1) rs
theorem fR(sh:Bool):∀(R:af) (i:Nat) (r:ar),aJ sh i (R++[r])=aJ sh i R++bV sh (i+R.length) r
 | [],i,r=>by show bV sh i r++[]=[]++bV sh (i+0) r;rw[List.append_nil];rfl
 | q::R,i,r=>by
   show bV sh i q++aJ sh (i+1) (R++[r])=(bV sh i q++aJ sh (i+1) R)++_;rw[fR sh R (i+1) r,List.append_assoc,List.length_cons]
   congr 3
   omega
def aM(f m:Int)(sz:Bool->Nat)(mv:Bool->Int):List Int->List eO->Option Flt
 | _,[]=>none
 | ks,(sh,i,k)::ts=>if(k*f+m) % 65536 % (sz sh:Int)≠i then some (.at_ 0 sh i)else if(i:Int) < mv sh then some (.at_ 1 sh i)else if k∈ks then some (.at_ 2 sh i)else aM f m sz mv (ks++[k]) ts
theorem bC(f m:Int)(sz:Bool->Nat)(mv:Bool->Int)(ks:List Int)(sh:Bool)(i:Nat)(k:Int)(ts:List eO):aM f m sz mv ks ((sh,i,k)::ts)=if(k*f+m) % 65536 % (sz sh:Int)≠i then some (.at_ 0 sh i)else if(i:Int) < mv sh then some (.at_ 1 sh i)else if k∈ks then some (.at_ 2 sh i)else aM f m sz mv (ks++[k]) ts:=rfl
theorem jG(f m:Int)(sz:Bool->Nat)(mv:Bool->Int):∀(a b:List eO) (ks:List Int),aM f m sz mv ks (a++b)=match aM f m sz mv ks a with | some x=>some x | none=>aM f m sz mv (ks++a.map (·.2.2)) b
 | [],b,ks=>by show aM f m sz mv ks b=aM f m sz mv (ks++[]) b;rw[List.append_nil]
 | (sh,i,k)::a,b,ks=>by
   rw[List.cons_append,bC,bC];by_cases h1:(k*f+m) % 65536 % (sz sh:Int)≠i
   . rw[if_pos h1,if_pos h1]
   rw[if_neg h1,if_neg h1];by_cases h2:(i:Int) < mv sh
   . rw[if_pos h2,if_pos h2]
   rw[if_neg h2,if_neg h2];by_cases h3:k∈ks
   . rw[if_pos h3,if_pos h3]
   rw[if_neg h3,if_neg h3,jG f m sz mv a b (ks++[k]),List.map_cons,List.append_assoc];rfl
instance (n:Nat):Decidable (am n):=inferInstanceAs (Decidable (n∈[4,8,16,32,64,128,256,512,1024,2048,4096]))
def bp(S:Sta):Bool:=decide (am S.nw.length) && match S.el with | none=>true | some E=>decide (am E.length) && (decide (E.length=2*S.nw.length) || decide (S.nw.length=2*E.length))
def bS(S:Sta):Bool:=decide (0<=S.mv) && decide (S.mv < match S.el with | none=>1 | some E=>(E.length:Int))
def szOf(S:Sta):Bool->Nat:=fun b=>if b then(S.el.getD []).length else S.nw.length
def gH(S:Sta):Bool->Int:=fun b=>if b then S.mv else 0
def bO(S:Sta):List eO:=aJ true 0 (S.el.getD [])++aJ false 0 S.nw
def aB(f m:Int)(S:Sta):Option Flt:=if bp S=false then some .places else if bS S=false then some .moved else aM f m (szOf S) (gH S) [] (bO S)
theorem kB(sh:Bool)(i:Nat)(r:ar):(bV sh i r).length=r.length:=List.length_map ..
theorem cJ(sh:Bool):∀(R:af) (i:Nat),(aJ sh i R).length=tot R
 | [],_=>rfl
 | r::R,i=>by
   show(bV sh i r++aJ sh (i+1) R).length=r.length+tot R;rw[List.length_append,kB,cJ sh R]
def TrV(H:Hp)(v:V)(t:eO):Prop:=∃ b,v=.ref b/\H b=some (.tup [.str (shN t.1),.int (t.2.1:Nat),.int t.2.2])
abbrev gf(H:Hp)(xs:List V)(ts:List eO):Prop:=Paired (TrV H) xs ts
theorem TrV.keep{H H':Hp}{v:V}{t:eO}(h:TrV H v t)(k:TK H H'):TrV H' v t:=by
 obtain⟨b,e,h⟩:=h;exact⟨b,e,k _ _ h⟩
theorem gf.keep{H H':Hp}{xs:List V}{ts:List eO}(h:gf H xs ts)(k:TK H H'):gf H' xs ts:=Paired.mapP h fun _ _ z=>z.keep k
def kbs(ks:List Int):List (Key×V):=ks.map fun k=>(Sum.inl k,V.bl true)
theorem gj(ks:List Int)(k:Int):(cy (kbs ks) (Sum.inl k)).isSome=decide (k∈ks):=by
 induction ks with
 | nil=>rfl
 | cons j ks ih=>
   unfold cy kbs at ih ⊢;rw[List.map_cons];by_cases h:j=k
   . subst h
     simp
   have h2:¬ k=j:=fun z=>h z.symm;simp[h,h2]at ih ⊢
   simpa using ih
theorem jm{ks:List Int}{k:Int}(h:k∉ks):ck (kbs ks) (Sum.inl k) (V.bl true)=kbs (ks++[k]):=by
 have e:(cy (kbs ks) (Sum.inl k)).isSome=false:=by rw[gj];exact decide_eq_false h
 unfold ck;rw[dO,e,if_neg Bool.false_ne_true];unfold kbs;rw[List.map_append]
 rfl
theorem lj(ks:List Int):(kbs ks).length=ks.length:=List.length_map ..
theorem nn(K:W.Frag){X:Cx}(h:X.K=K:=by rfl):bP X (.type "list") (fun xs H Q=>∃ p ys,xs=[.ref p]/\(SqL K H p ys∨SqT K H p ys) /\ ∀ l,H l=none->Q (.ref l) (upd H l (.lst ys))):=by subst h;exact db
namespace B
theorem ppnil{X:Cx}{pos:Pos}:Bx (PPs X pos [] [] []):=⟨vD⟩
theorem ppcons{X:Cx}{pos:Pos}{k v:Expr}{ks:List (Option Expr)}{vs:List Expr}{tk tv:TE}{trs:List (TE×TE)}(hk:Bx (PE X k tk))(hv:Bx (PE X v tv))(hr:Bx (PPs X pos ks vs trs)):Bx (PPs X pos (some k::ks) (v::vs) ((tk,tv)::trs)):=⟨tu hk.out hv.out hr.out⟩
theorem disp{X:Cx}{pos:Pos}{keys:List (Option Expr)}{values:List Expr}{trs:List (TE×TE)}(h:Bx (PPs X pos keys values trs))(hall:keys.all (·.isSome)=true:=by rfl)(hl:keys.length=values.length:=by rfl)(h0:keys≠[]:=by intro h;cases h)(h15:keys.length<=15:=by exact Nat.le_of_ble_eq_true rfl):Bx (PE X (.Dict keys values pos) (sI trs)):=⟨uC h.out hall hl h0 h15⟩
end B
theorem wf{trs:List (TE×TE)}{Z:L2.St}{H:Hp}{Q:VK}(h:∀ p,H p=none->fO trs Z (upd H p (.dK [])) fun ps H2=>H2 p=some (.dK []) /\ ∃ kvs:List (Key×V),ps=kvs.map (fun kv=>(kV kv.1,kv.2))/\kvs.length<=15/\Q (.ref p) (upd H2 p (.dK (fL [] kvs)))):sI trs Z H Q:=h
theorem wPairs{tk tv:TE}{r:List (TE×TE)}{Z:L2.St}{H:Hp}{Q:List (V×V)->Hp->Prop}(h:tk Z H fun x H1=>tv Z H1 fun y H2=>fO r Z H2 fun ps H3=>Q ((x,y)::ps) H3):fO ((tk,tv)::r) Z H Q:=h
theorem wPairs0{Z:L2.St}{H:Hp}{Q:List (V×V)->Hp->Prop}(h:Q [] H):fO [] Z H Q:=h
theorem qL{a b:PySem.Str}{x y:V}(hab:(a == b)=false):fL [] [((Sum.inr a:Key),x),(Sum.inr b,y)]=[(Sum.inr a,x),(Sum.inr b,y)]:=by
 show ck (ck [] (Sum.inr a:Key) x) (Sum.inr b) y=_;unfold ck;have hn:¬ a=b:=fun z=>by rw[z,beq_self_eq_true]at hab;cases hab
 simp[hn]
theorem wl{Qf:List (Key×V)->Prop}{H:Hp}{p:Addr}{a b:PySem.Str}{x y:V}(hp:H p=some (.dK []))(q:Qf [(Sum.inr a,x),(Sum.inr b,y)]) :
 H p=some (.dK []) /\ ∃ kvs:List (Key×V),[(V.str a,x),(V.str b,y)]=kvs.map (fun kv=>(kV kv.1,kv.2))/\kvs.length<=15/\Qf kvs:=
 ⟨hp,[(Sum.inr a,x),(Sum.inr b,y)],rfl,by show(2:Nat)<=15;decide,q⟩
theorem wk{a b:PySem.Str}{x y:V}:cy [((Sum.inr a:Key),x),(Sum.inr b,y)] (Sum.inr a)=some x:=bB rfl
theorem wu{a b:PySem.Str}{x y:V}(hab:(a == b)=false):cy [((Sum.inr a:Key),x),(Sum.inr b,y)] (Sum.inr b)=some y:=by
 have hn:¬ ((Sum.inr a:Key))=Sum.inr b:=fun z=>by injection z with z;rw[z,beq_self_eq_true]at hab;cases hab
 rw[bJ hn];exact bB rfl
theorem kZ(k:Int):∀ ks:List Int,inV (V.int k) (ks.map V.int)=decide (k∈ks)
 | []=>rfl
 | j::ks=>by
   have ih:=kZ k ks;show(eqV (V.int j) (V.int k) || inV (V.int k) (ks.map V.int))=decide (k∈j::ks);rw[ih,Bool.eq_iff_iff,Bool.or_eq_true,decide_eq_true_iff,decide_eq_true_iff,List.mem_cons];show((j == k)=true∨k∈ks) ↔ _;rw[beq_iff_eq];exact⟨fun z=>z.elim (fun e=>.inl e.symm) .inr,fun z=>z.elim (fun e=>.inl e.symm) .inr⟩
theorem aw{α:Type}{xs:List α}{i:Nat}{v:α}(h:xs[i]?=some v):xs.take (i+1)=xs.take i++[v]:=by rw[List.take_add_one,h];rfl
theorem B.ilistK(K:W.Frag){X:Cx}{tg l:Expr}{tl:TE}(hl:Bx (PE X l tl))(h:X.K=K:=by rfl):Bx (PI X tg l (oA K tl)):=by subst h;exact⟨pD hl.out⟩
mutual
inductive Any(H:Hp):V->PyData->Prop
 | non:Any H .non .none
 | bl (b:Bool):Any H (.bl b) (.bool b)
 | int (i:Int):Any H (.int i) (.int i)
 | str (x:PySem.Str):Any H (.str x) (.str x)
 | lst {a:Addr}{xs:List V}{ds:List PyData} (h:H a=some (.lst xs)) (r:Anys H xs ds):Any H (.ref a) (.list ds)
 | tup {a:Addr}{xs:List V}{ds:List PyData} (h:H a=some (.tup xs)) (r:Anys H xs ds):Any H (.ref a) (.tuple ds)
 | dic {a:Addr} (h:H a=some (.dK [])):Any H (.ref a) (.dict [])
inductive Anys(H:Hp):List V->List PyData->Prop
 | nil:Anys H [] []
 | cons {x:V}{xs:List V}{d:PyData}{ds:List PyData} (h:Any H x d) (r:Anys H xs ds):Anys H (x::xs) (d::ds)
end
mutual
theorem Any.same{H H':Hp}(s:ac H H'):∀{v:V}{d:PyData},Any H v d->Any H' v d
 | _,_,.non=>.non
 | _,_,.bl b=>.bl b
 | _,_,.int i=>.int i
 | _,_,.str x=>.str x
 | _,_,.lst h r=>.lst (s _ _ h) (Anys.same s r)
 | _,_,.tup h r=>.tup (s _ _ h) (Anys.same s r)
 | _,_,.dic h=>.dic (s _ _ h)
theorem Anys.same{H H':Hp}(s:ac H H'):∀{xs:List V}{ds:List PyData},Anys H xs ds->Anys H' xs ds
 | _,_,.nil=>.nil
 | _,_,.cons h r=>.cons (Any.same s h) (Anys.same s r)
end
theorem Anys.len{H:Hp}:∀{xs:List V}{ds:List PyData},Anys H xs ds->xs.length=ds.length
 | _,_,.nil=>rfl
 | _,_,.cons _ r=>congrArg (· + 1) (Anys.len r)
theorem Anys.get{H:Hp}:∀{xs:List V}{ds:List PyData}{i:Nat}{x:V},Anys H xs ds->xs[i]?=some x -> ∃ d,ds[i]?=some d/\Any H x d
 | _,_,0,_,.cons h r,e=>⟨_,rfl,by cases e;exact h⟩
 | _,_,i+1,_,.cons h r,e=>Anys.get (i:=i) r e
theorem Anys.app{H:Hp}{ys:List V}{es:List PyData}(g:Anys H ys es):∀{xs:List V}{ds:List PyData},Anys H xs ds->Anys H (xs++ys) (ds++es)
 | _,_,.nil=>g
 | _,_,.cons h r=>.cons h (Anys.app g r)
theorem Anys.take{H:Hp}:∀{xs:List V}{ds:List PyData} (n:Nat),Anys H xs ds->Anys H (xs.take n) (ds.take n)
 | _,_,0,_=>.nil
 | _,_,n+1,.nil=>.nil
 | _,_,n+1,.cons h r=>.cons h (Anys.take n r)
theorem Anys.drop{H:Hp}:∀{xs:List V}{ds:List PyData} (n:Nat),Anys H xs ds->Anys H (xs.drop n) (ds.drop n)
 | _,_,0,r=>r
 | _,_,n+1,.nil=>.nil
 | _,_,n+1,.cons h r=>Anys.drop n r
def bL(p:Addr)(H:Hp):Hp:=fun a=>if a=p then none else H a
theorem uX(p:Addr)(H:Hp):ac (bL p H) H:=fun a o e=>by
 unfold bL at e;by_cases c:a=p
 . rw[if_pos c]at e;cases e
 rw[if_neg c]at e;exact e
theorem gN{p:Addr}{H H':Hp}(k:al p H H'):ac (bL p H) (bL p H'):=fun a o e=>by
 unfold bL at e ⊢;by_cases c:a=p
 . rw[if_pos c]at e;cases e
 rw[if_neg c]at e;rw[if_neg c];exact k _ _ c e
theorem iJ{p a:Addr}{H:Hp}{o:HO}(h:H a=some o)(n:a≠p):bL p H a=some o:=by
 unfold bL;rw[if_neg n];exact h
def bW:PyData->Bool
 | .int _=>true
 | _=>false
def cA(lo:Int):PyData->Bool
 | .int i=>decide (lo<=i) && decide (i<=1000000000)
 | _=>false
def bz:PyData->Bool
 | .tuple [a,b]=>cA 0 a && cA (-1000000000) b
 | _=>false
def b_:PyData->Bool
 | .tuple ps=>ps.all bz
 | _=>false
def ap:PyData->Bool
 | .tuple rs=>rs.all b_
 | _=>false
def cg:PyData->Bool
 | .none=>true
 | d=>ap d
def aq:PyData->Bool
 | .tuple [e,m,n]=>cg e && bW m && ap n
 | _=>false
theorem vg{H:Hp}{v:V}{d:PyData}(h:Any H v d)(e:bz d=true):∃ q:Int×Int,PrV H v q/\d=.tuple [.int q.1,.int q.2]/\(0<=q.1/\q.1<=1000000000)/\(-1000000000<=q.2/\q.2<=1000000000):=by
 unfold bz at e;split at e
 . rename_i a b
   cases h with
   | tup h r=>
     cases r with
     | cons h1 r=>
       cases r with
       | cons h2 r=>
         cases r;rw[Bool.and_eq_true]at e;obtain⟨e1,e2⟩:=e;cases h1 with
         | int i=>
           cases h2 with
           | int j=>
             have e1:(decide (0<=i) && decide (i<=1000000000))=true:=e1;have e2:(decide (-1000000000<=j) && decide (j<=1000000000))=true:=e2;rw[Bool.and_eq_true,decide_eq_true_iff,decide_eq_true_iff]at e1 e2;exact⟨(i,j),⟨_,rfl,h⟩,rfl,e1,e2⟩
           | _=>cases e2
         | _=>cases e1
 cases e
def dm(r:ar):PyData:=.tuple (r.map fun q=>.tuple [.int q.1,.int q.2])
def bh(R:af):PyData:=.tuple (R.map dm)
theorem ze{H:Hp}{v:V}{d:PyData}(h:Any H v d)(e:b_ d=true):∃ r:ar,dB H v r/\d=dm r:=by
 unfold b_ at e;split at e
 . rename_i ps
   cases h with
   | @tup a xs _ h r=>
     have key:∀{xs:List V}{ps:List PyData},Anys H xs ps->ps.all bz=true -> ∃ r:ar,Prs H xs r/\ps=r.map fun q=>PyData.tuple [.int q.1,.int q.2]:=by
      intro xs ps r
      induction ps generalizing xs with
      | nil=>intro _;cases r;exact⟨[],.nil,rfl⟩
      | cons d ps ih=>
        intro e;rw[List.all_cons,Bool.and_eq_true]at e;cases r with
        | cons h1 r=>
          obtain⟨q,hq,rfl,_⟩:=vg h1 e.1;obtain⟨r',hr',rfl⟩:=ih r e.2;exact⟨q::r',.cons hq hr',rfl⟩
     obtain⟨r',hr',rfl⟩:=key r e;exact⟨r',⟨_,_,rfl,h,hr'⟩,rfl⟩
 cases e
theorem rows_of{H:Hp}{v:V}{d:PyData}(h:Any H v d)(e:ap d=true):∃ R:af,bt H v R/\d=bh R:=by
 unfold ap at e;split at e
 . rename_i ps
   cases h with
   | @tup a xs _ h r=>
     have key:∀{xs:List V}{ps:List PyData},Anys H xs ps->ps.all b_=true -> ∃ R:af,Paired (dB H) xs R/\ps=R.map dm:=by
      intro xs ps r
      induction ps generalizing xs with
      | nil=>intro _;cases r;exact⟨[],.nil,rfl⟩
      | cons d ps ih=>
        intro e;rw[List.all_cons,Bool.and_eq_true]at e;cases r with
        | cons h1 r=>
          obtain⟨q,hq,rfl⟩:=ze h1 e.1;obtain⟨r',hr',rfl⟩:=ih r e.2;exact⟨q::r',.cons hq hr',rfl⟩
     obtain⟨r',hr',rfl⟩:=key r e;exact⟨r',⟨_,_,rfl,h,hr'⟩,rfl⟩
 cases e
def elD:Option af->PyData
 | none=>.none
 | some R=>bh R
def stD(S:Sta):PyData:=.tuple [elD S.el,.int S.mv,bh S.nw]
theorem zM{H:Hp}{v:V}{d:PyData}(h:Any H v d)(e:cg d=true):∃ R:Option af,ElV H v R/\d=elD R:=by
 unfold cg at e;split at e
 . cases h;exact⟨none,rfl,rfl⟩
 obtain⟨R,h1,h2⟩:=rows_of h e;exact⟨some R,h1,h2⟩
theorem jj{H:Hp}{v:V}{d:PyData}(h:Any H v d)(e:aq d=true):∃ S:Sta,StV H v S/\d=stD S:=by
 unfold aq at e;split at e
 . rename_i a b c
   cases h with
   | tup h r=>
     cases r with
     | cons h1 r=>
       cases r with
       | cons h2 r=>
         cases r with
         | cons h3 r=>
           cases r;rw[Bool.and_eq_true,Bool.and_eq_true]at e;obtain⟨⟨e1,e2⟩,e3⟩:=e;obtain⟨el,g1,rfl⟩:=zM h1 e1;obtain⟨nw,g3,rfl⟩:=rows_of h3 e3;cases h2 with
           | int i=>exact⟨⟨el,i,nw⟩,⟨_,_,_,rfl,h,g1,g3⟩,rfl⟩
           | _=>cases e2
 cases e
theorem xL{H:Hp}{v:V}{q:Int×Int}(h:PrV H v q):Any H v (.tuple [.int q.1,.int q.2]):=by
 obtain⟨a,rfl,h⟩:=h;exact .tup h (.cons (.int _) (.cons (.int _) .nil))
theorem lW{H:Hp}:∀{xs:List V}{r:ar},Prs H xs r->Anys H xs (r.map fun q=>PyData.tuple [.int q.1,.int q.2])
 | _,_,.nil=>.nil
 | _,_,.cons h r=>.cons (xL h) (lW r)
theorem vS{H:Hp}{v:V}{r:ar}(h:dB H v r):Any H v (dm r):=by
 obtain⟨b,ys,rfl,h1,h2⟩:=h;exact .tup h1 (lW h2)
theorem gD{H:Hp}:∀{xs:List V}{R:af},Paired (dB H) xs R->Anys H xs (R.map dm)
 | _,_,.nil=>.nil
 | _,_,.cons h r=>.cons (vS h) (gD r)
theorem cR{H:Hp}{v:V}{R:af}(h:bt H v R):Any H v (bh R):=by
 obtain⟨b,ys,rfl,h1,h2⟩:=h;exact .tup h1 (gD h2)
theorem su{H:Hp}{v:V}{e:Option af}(h:ElV H v e):Any H v (elD e):=by
 cases e with
 | none=>rw[show v=V.non from h];exact .non
 | some R=>exact cR h
theorem fQ{H:Hp}{v:V}{S:Sta}(h:StV H v S):Any H v (stD S):=by
 obtain⟨u,ve,vn,rfl,h1,h2,h3⟩:=h;exact .tup h1 (.cons (su h2) (.cons (.int _) (.cons (cR h3) .nil)))
def tyD:PyData->String
 | .none=>"NoneType"
 | .bool _=>"bool"
 | .int _=>"int"
 | .str _=>"str"
 | .list _=>"list"
 | .tuple _=>"tuple"
 | .dict _=>"dict"
def lK:PyData->Bool
 | .int _=>true
 | .bool _=>true
 | _=>false
def iI:PyData->Bool
 | .bool _=>true
 | _=>false
def dM:PyData->Bool
 | .tuple _=>true
 | _=>false
theorem Any.ty{K:W.Frag}{H:Hp}{v:V}{d:PyData}(h:Any H v d):eQ K H v (.type (tyD d)):=by
 cases h with
 | non=>exact .non
 | bl b=>exact .bl b
 | int i=>exact .int i
 | str x=>exact .str x
 | lst h r=>exact .lst h
 | tup h r=>exact .tup h
 | dic h=>exact .dK h
theorem gI{K:W.Frag}(d:PyData):W.kitOne K (.type (tyD d)) (.type "int")=some (lK d):=by
 cases d with
 | none=>show W.kitOne [] (.type "NoneType") (.type "int")=some false;decide +kernel
 | bool b=>show W.kitOne [] (.type "bool") (.type "int")=some true;decide +kernel
 | int i=>show W.kitOne [] (.type "int") (.type "int")=some true;decide +kernel
 | str x=>show W.kitOne [] (.type "str") (.type "int")=some false;decide +kernel
 | list x=>show W.kitOne [] (.type "list") (.type "int")=some false;decide +kernel
 | tuple x=>show W.kitOne [] (.type "tuple") (.type "int")=some false;decide +kernel
 | dict x=>show W.kitOne [] (.type "dict") (.type "int")=some false;decide +kernel
theorem di{K:W.Frag}(d:PyData):W.kitOne K (.type (tyD d)) (.type "bool")=some (iI d):=by
 cases d with
 | none=>show W.kitOne [] (.type "NoneType") (.type "bool")=some false;decide +kernel
 | bool b=>show W.kitOne [] (.type "bool") (.type "bool")=some true;decide +kernel
 | int i=>show W.kitOne [] (.type "int") (.type "bool")=some false;decide +kernel
 | str x=>show W.kitOne [] (.type "str") (.type "bool")=some false;decide +kernel
 | list x=>show W.kitOne [] (.type "list") (.type "bool")=some false;decide +kernel
 | tuple x=>show W.kitOne [] (.type "tuple") (.type "bool")=some false;decide +kernel
 | dict x=>show W.kitOne [] (.type "dict") (.type "bool")=some false;decide +kernel
theorem cn{K:W.Frag}(d:PyData):W.kitOne K (.type (tyD d)) (.type "tuple")=some (dM d):=by
 cases d with
 | none=>show W.kitOne [] (.type "NoneType") (.type "tuple")=some false;decide +kernel
 | bool b=>show W.kitOne [] (.type "bool") (.type "tuple")=some false;decide +kernel
 | int i=>show W.kitOne [] (.type "int") (.type "tuple")=some false;decide +kernel
 | str x=>show W.kitOne [] (.type "str") (.type "tuple")=some false;decide +kernel
 | list x=>show W.kitOne [] (.type "list") (.type "tuple")=some false;decide +kernel
 | tuple x=>show W.kitOne [] (.type "tuple") (.type "tuple")=some true;decide +kernel
 | dict x=>show W.kitOne [] (.type "dict") (.type "tuple")=some false;decide +kernel
theorem Fn.imp{P:Program}{w:World}{K:W.Frag}{mg:Str->Option Value}{base:Heap}{x:Str}{k:Nat}{ps:List Str}{sp sp':Sp}(F:Fn P w K mg base x k ps sp)(h:∀ vs H Q E,sp' vs H Q E->sp vs H Q E):Fn P w K mg base x k ps sp':=by
 obtain⟨f,fd,a,b⟩:=F.ex;exact⟨f,fd,a.imp h,b⟩
section
variable{X:Cx}
theorem oZ(hu:X.A.units < cLine):OpR X (compareOp .NotEq) (fun x y H Q=>∃ a b xs,x=.ref a/\y=.ref b/\SqL X.K H a xs/\SqL X.K H b []/\Q (.bl (!xs.isEmpty)) H):=by
 intro pins s Z H x y v u Q I rx ry h;obtain⟨a,b,xs,rfl,rfl,ha,hb,q⟩:=h;cases rx;cases ry;obtain⟨i1,r1,⟨o1,n1,g1,c1,_,d1⟩,_⟩:=I.list ha;obtain⟨i2,r2,⟨o2,n2,g2,c2,_,d2⟩,_⟩:=I.list hb;have e2:i2=[]:=by cases r2;rfl
 subst e2;cases r1 with
 | nil=>exact SeqAt.RcNeAt.lists (items:=#[]) (items2:=#[]) (e:=fun _=>true) ⟨o1,g1,c1,n1,d1⟩ ⟨o2,g2,c2,n2,d2⟩ rfl hu (fun j h1 _=>absurd h1 (by simp)) _ _ _ _ ⟨.bl false,H,I,rfl,q⟩
 | cons a b=>exact SeqAt.RcNeAt.lists_lengths ⟨o1,g1,c1,n1,d1⟩ ⟨o2,g2,c2,n2,d2⟩ (by simp) hu _ _ _ _ ⟨.bl true,H,I,rfl,q⟩
theorem uM(hu:X.A.units < cLine):OpR X (compareOp .NotEq) (fun x y H Q=>∃ a b xs,x=.ref a/\y=.ref b/\SqT X.K H a xs/\SqT X.K H b []/\Q (.bl (!xs.isEmpty)) H):=by
 intro pins s Z H x y v u Q I rx ry h;obtain⟨a,b,xs,rfl,rfl,ha,hb,q⟩:=h;cases rx;cases ry;obtain⟨i1,r1,t1,_⟩:=I.tuple ha;obtain⟨i2,r2,t2,_⟩:=I.tuple hb;have e2:i2=[]:=by cases r2;rfl
 subst e2;have ez:(i1.toArray.size == 0)=xs.isEmpty:=by cases r1 <;> rfl
 refine SeqAt.RcNeAt.tuples (e:=fun _=>true) t1 t2 hu (fun j _ h2=>absurd h2 (by simp)) _ _ _ _ ⟨.bl (!xs.isEmpty),H,I,?_,q⟩
 show Value.bool _=Value.bool _;rw[← ez];simp
end
mutual
def szD:PyData->Nat
 | .tuple ds=>1+szL ds
 | _=>1
def szL:List PyData->Nat
 | []=>0
 | d::ds=>szD d+szL ds
end
theorem vW(d:PyData):1<=szD d:=by
 cases d with
 | tuple ds=>rw[szD];omega
 | _=>simp[szD]
theorem oX:∀ ds:List PyData,ds.length<=szL ds
 | []=>Nat.zero_le _
 | d::ds=>by
   have:=oX ds;have:=vW d;rw[szL,List.length_cons];omega
theorem lT{x:PyData}:∀{ds:List PyData},x∈ds->szD x<=szL ds
 | d::ds,h=>by
   rw[szL];rcases List.mem_cons.mp h with rfl | h
   . omega
   have:=lT h;omega
theorem c8:∀(a b:List PyData),szL (a++b)=szL a+szL b
 | [],b=>by rw[List.nil_append,szL,Nat.zero_add]
 | d::a,b=>by rw[List.cons_append,szL,szL,c8 a b,Nat.add_assoc]
theorem rH(ds:List PyData)(n:Nat):szL (ds.take n)<=szL ds:=by
 have:=c8 (ds.take n) (ds.drop n);rw[List.take_append_drop]at this;omega
theorem qW(ds:List PyData)(n:Nat):szL (ds.drop n)<=szL ds:=by
 have:=c8 (ds.take n) (ds.drop n);rw[List.take_append_drop]at this;omega
theorem bT(ds:List PyData):szD (.tuple ds)=1+szL ds:=by rw[szD]
theorem bI(ds:List PyData):szD (.list ds)=1:=by rw[szD];intro _ h;cases h
theorem oY(ds:List (PyData×PyData)):szD (.dict ds)=1:=by rw[szD];intro _ h;cases h
theorem aZ(i:Int):szD (.int i)=1:=by rw[szD];intro _ h;cases h
theorem bN(i:Bool):szD (.bool i)=1:=by rw[szD];intro _ h;cases h
theorem cm(i:PySem.Str):szD (.str i)=1:=by rw[szD];intro _ h;cases h
theorem aU:szD .none=1:=by rw[szD];intro _ h;cases h
theorem nC:∀ r:ar,szL (r.map fun q=>PyData.tuple [.int q.1,.int q.2])=3*r.length
 | []=>by rw[List.map_nil,szL];rfl
 | q::r=>by rw[List.map_cons,szL,nC r,bT,szL,szL,szL,aZ,aZ,List.length_cons];omega
theorem vG(r:ar):szD (dm r)=1+3*r.length:=by unfold dm;rw[bT,nC]
theorem jL:∀ R:af,szL (R.map dm)=R.length+3*tot R
 | []=>by rw[List.map_nil,szL];rfl
 | r::R=>by
   have e:tot (r::R)=r.length+tot R:=by unfold tot;rw[List.map_cons,List.sum_cons]
   rw[List.map_cons,szL,jL R,vG,List.length_cons,e];omega
theorem gk(R:af):szD (bh R)=1+(R.length+3*tot R):=by unfold bh;rw[bT,jL]
theorem r_(e:Option af):szD (elD e)=1+((e.getD []).length+3*tot (e.getD [])):=by
 cases e with
 | none=>show szD .none=_;rw[aU];rfl
 | some R=>exact gk R
theorem jD(S:Sta):szD (stD S)=2+szD (elD S.el)+szD (bh S.nw):=by
 unfold stD;rw[bT,szL,szL,szL,szL];rw[aZ];omega
theorem dQ{p:Addr}{H H':Hp}(s:ac H H'):ac (bL p H) (bL p H'):=gN (ac.but s)
theorem eh{p:Addr}{H H':Hp}{v:V}{d:PyData}(h:Any (bL p H) v d)(k:al p H H'):Any (bL p H') v d:=h.same (gN k)
theorem fY{p:Addr}{H H':Hp}{v:List V}{d:List PyData}(h:Anys (bL p H) v d)(k:al p H H'):Anys (bL p H') v d:=h.same (gN k)
theorem yz{p:Addr}{H:Hp}{v:V}{d:PyData}(h:Any (bL p H) v d):Any H v d:=h.same (uX p H)
def cf(p:Addr)(n:Nat)(H:Hp)(vs:List V):Prop:=∀ v∈vs,∃ d,Any (bL p H) v d/\szD d<=n
theorem cf.nil{p:Addr}{n:Nat}{H:Hp}:cf p n H []:=fun v h=>by cases h
theorem cf.but{p:Addr}{n:Nat}{H H':Hp}{vs:List V}(A:cf p n H vs)(k:al p H H'):cf p n H' vs:=fun v h=>by
 obtain⟨d,h1,h2⟩:=A v h;exact⟨d,eh h1 k,h2⟩
theorem cf.same{p:Addr}{n:Nat}{H H':Hp}{vs:List V}(A:cf p n H vs)(s:ac H H'):cf p n H' vs:=A.but (ac.but s)
theorem cf.cons{p:Addr}{n:Nat}{H:Hp}{v:V}{vs:List V}(A:cf p n H vs){d:PyData}(h:Any (bL p H) v d)(hs:szD d<=n):cf p n H (v::vs):=fun x hx=>by
 rcases List.mem_cons.mp hx with rfl | hx
 . exact⟨d,h,hs⟩
 exact A x hx
theorem cf.new{p:Addr}{n:Nat}{H:Hp}{vs:List V}{t:Addr}{o:HO}(A:cf p n H vs)(h:H t=none):cf p n (upd H t o) vs:=A.same (ac.new h)
theorem lE{p t:Addr}{H:Hp}{xs:List V}{ds:List PyData}(hp:Row H p)(h:H t=none)(r:Anys (bL p H) xs ds):Any (bL p (upd H t (.tup xs))) (.ref t) (.tuple ds):=
 .tup (iJ aa (hp.ne0 h).symm) (r.same (dQ (ac.new h)))
theorem lU{p t:Addr}{H:Hp}{xs:List V}{ds:List PyData}(hp:Row H p)(h:H t=none)(r:Anys (bL p H) xs ds):Any (bL p (upd H t (.lst xs))) (.ref t) (.list ds):=
 .lst (iJ aa (hp.ne0 h).symm) (r.same (dQ (ac.new h)))
theorem vw{p t:Addr}{H:Hp}(hp:Row H p)(h:H t=none):Any (bL p (upd H t (.dK []))) (.ref t) (.dict []):=
 .dic (iJ aa (hp.ne0 h).symm)
theorem dz{p t:Addr}{H:Hp}{xs:List V}(hp:Row H p)(h:H t=some (.tup xs)):bL p H t=some (.tup xs):=iJ h (hp.ne h)
theorem iH{p:Addr}{H:Hp}(hp:Row H p):TK H (bL p H):=fun a xs e=>dz hp e
def ut(ds:List PyData)(lo hi:Option Int):List PyData:=(ds.drop (HT.sIx ds.length 0 lo)).take (HT.sIx ds.length ds.length hi - HT.sIx ds.length 0 lo)
theorem Anys.cut{H:Hp}{xs:List V}{ds:List PyData}(h:Anys H xs ds)(lo hi:Option Int):Anys H (bQ xs lo hi) (ut ds lo hi):=by
 unfold bQ ut;rw[h.len];exact Anys.take _ (Anys.drop _ h)
theorem fo(ds:List PyData)(lo hi:Option Int):szL (ut ds lo hi)<=szL ds:=Nat.le_trans (rH _ _) (qW _ _)
theorem cf.tup{p:Addr}{n:Nat}{H:Hp}{vs:List V}{t:Addr}{xs:List V}{ds:List PyData}(A:cf p n H vs)(hp:Row H p)(h:H t=none)(r:Anys (bL p H) xs ds)(hs:szD (.tuple ds)<=n):cf p n (upd H t (.tup xs)) (.ref t::vs):=(A.new h).cons (lE hp h r) hs
theorem cf.lst{p:Addr}{n:Nat}{H:Hp}{vs:List V}{t:Addr}{xs:List V}{ds:List PyData}(A:cf p n H vs)(hp:Row H p)(h:H t=none)(r:Anys (bL p H) xs ds)(hs:1<=n):cf p n (upd H t (.lst xs)) (.ref t::vs):=(A.new h).cons (lU hp h r) (by rw[bI];exact hs)
theorem cf.dic{p:Addr}{n:Nat}{H:Hp}{vs:List V}{t:Addr}(A:cf p n H vs)(hp:Row H p)(h:H t=none)(hs:1<=n):cf p n (upd H t (.dK [])) (.ref t::vs):=(A.new h).cons (vw hp h) (by rw[oY];exact hs)
theorem an0{H:Hp}:Anys H [] []:=.nil
theorem an1{H:Hp}{a:V}{x:PyData}(h:Any H a x):Anys H [a] [x]:=.cons h .nil
theorem an2{H:Hp}{a b:V}{x y:PyData}(h:Any H a x)(k:Any H b y):Anys H [a,b] [x,y]:=.cons h (.cons k .nil)
theorem an3{H:Hp}{a b c:V}{x y z:PyData}(h:Any H a x)(k:Any H b y)(l:Any H c z):Anys H [a,b,c] [x,y,z]:=.cons h (.cons k (.cons l .nil))
theorem gb(a:PyData):szD (.tuple [a])=1+szD a:=by rw[bT,szL,szL];rfl
theorem jB(a b:PyData):szD (.tuple [a,b])=1+szD a+szD b:=by rw[bT,szL,szL,szL];omega
theorem eJ(a b c:PyData):szD (.tuple [a,b,c])=1+szD a+szD b+szD c:=by rw[bT,szL,szL,szL,szL];omega
theorem Ac:szD (.tuple [])=1:=by rw[bT,szL]
section
variable{X:Cx}
end
section
variable{t:Addr}{pc:Int}{ve:V}{mv:Int}{qn sp:Addr}
end
section
variable{H H':Hp}{md t sp qn qe:Addr}{ve:V}{f m:Int}{pc:Nat}{M:MT}{ss:Spots}{lsN lsE:List Addr}{F G:Addr->Prop}
end
section
variable{H H' H3:Hp}{md t sp qn qe q:Addr}{ve:V}{f m:Int}{pc:Nat}{M:MT}{ss:Spots}{lsN lsE ls:List Addr}{R:af}
end
section
variable{prog:Program}{w:World}{A:Around}{E:Value->Shared->Prop}{s:Shared}
end
section
variable{X:Cx}
end
end SW
set_option maxHeartbeats 4000000
namespace SW
open PySem PySem.Spec PyProof.Rows L2
def iQ(r:ar):PyData:=.tuple (r.map fun p=>.tuple [.int p.1,.int p.2])
def elE:Option af->PyData
 | none=>.none
 | some E=>.tuple (E.map iQ)
def stE(M:MT):PyData:=.tuple [elE M.el,.int (M.mv:Nat),.tuple (M.nw.map iQ)]
theorem lN.dat{K:W.Frag}{H:Hp}{v:V}{r:ar}(h:lN H v r):d7 K H v (iQ r):=by
 obtain⟨b,ys,rfl,hb,p⟩:=h;exact .tup (SqT.of hb) p.dat
theorem kT{K:W.Frag}{H:Hp}:∀{xs:List V}{R:af},Paired (lN H) xs R->DatVs K H xs (R.map iQ)
 | _,_,.nil=>.nil
 | _,_,.cons h t=>.cons h.dat (kT t)
theorem dF.dat{K:W.Frag}{H:Hp}{v:V}{R:af}(h:dF H v R):d7 K H v (.tuple (R.map iQ)):=by
 obtain⟨b,ys,rfl,hb,p⟩:=h;exact .tup (SqT.of hb) (kT p)
theorem StU.dat{K:W.Frag}{H:Hp}{v:V}{M:MT}(h:StU H v M):d7 K H v (stE M):=by
 obtain⟨a,e,w,rfl,ha,he,hw⟩:=h;refine .tup (SqT.of ha) (.cons ?_ (.cons (.int _) (.cons hw.dat .nil)));cases z:M.el with
 | none=>rw[z]at he;rw[show e=.non from he];exact .non
 | some E=>rw[z]at he;exact dF.dat he
theorem iR:∀ R:af,PyData.canLayAll0 (R.map iQ)=true
 | []=>rfl
 | r::R=>by
   show(PyData.canLayAll0 (r.map fun p=>PyData.tuple [.int p.1,.int p.2]) && PyData.canLayAll0 (R.map iQ))=true;rw[gU,iR]
   rfl
theorem kf(R:af):PyData.depthAll (R.map iQ)<=2:=by
 induction R with
 | nil=>decide
 | cons r R ih=>
   have:=fK r;simp only[List.map_cons,PyData.depthAll,iQ,PyData.depth];omega
theorem ux(M:MT):(stE M).canLay0=true:=by
 show((elE M.el).canLay0 && (true && (PyData.canLayAll0 (M.nw.map iQ) && true)))=true;rw[iR];cases M.el with
 | none=>rfl
 | some E=>show(PyData.canLayAll0 (E.map iQ) && (true && (true && true)))=true;rw[iR];rfl
theorem sw(M:MT):(stE M).depth<=60:=by
 have h:=kf M.nw;have h2:(elE M.el).depth<=3:=by
  cases M.el with
  | none=>simp only[elE,PyData.depth];omega
  | some E=>have:=kf E;simp only[elE,PyData.depth];omega
 simp only[stE,PyData.depth,PyData.depthAll];omega
theorem wt{K:W.Frag}{H:Hp}{Q:VK}{a b:Addr}{e:V}{E:PyData}{n:Int}(h1:H a=some (.tup [e,.int n]))(h2:H b=some (.tup [e,.int n]))(he:d7 K H e E)(c:E.canLay0=true)(d:E.depth=0)(q:Q (.bl false) H):rQ K (.ref a) (.ref b) H Q:=
 pf (d:=.tuple [E,.int n]) (.tup (SqT.of h1) (.cons he (.cons (.int _) .nil))) (.tup (SqT.of h2) (.cons he (.cons (.int _) .nil))) (by show(E.canLay0 && (true && true))=true;rw[c];rfl) (by simp only[PyData.depth,PyData.depthAll,d];omega) q
theorem zg{K:W.Frag}{H:Hp}{Q:VK}{a b:Addr}{M:MT}{n:Int}(h1:H a=some (.tup [szE M.el,.int n]))(h2:H b=some (.tup [szE M.el,.int n]))(q:Q (.bl false) H):rQ K (.ref a) (.ref b) H Q:=by
 cases e:M.el with
 | none=>rw[e]at h1 h2;exact wt (E:=.none) h1 h2 .non rfl rfl q
 | some E=>rw[e]at h1 h2;exact wt (E:=.int (E.length:Nat)) h1 h2 (.int _) rfl rfl q
end SW
set_option maxHeartbeats 4000000
namespace SW
open PySem PySem.Spec PyProof.Rows L2
def Rat(M:MT):Prop:=∀ E,M.el=some E->E.length=2*M.nw.length∨M.nw.length=2*E.length
theorem lZ:typeLookup (.type "list") "keys"=pure none:=by rw[typeLookup_type,builtinLookup_eq_fast];kernel_rfl
theorem ip:typeLookup (.type "list") "__getattr__"=pure none:=by rw[typeLookup_type,builtinLookup_eq_fast];kernel_rfl
theorem dR:entryFor table "list.__getattribute__"=some Builtin.«object.__getattribute__»:=
 entryFor_alias (id':="object.__getattribute__") (by kernel_rfl) (by decide +kernel) (by decide +kernel) (by kernel_rfl)
theorem lC{prog:Program}{w:World}{A:Around}{E:Value->Shared->Prop}{s:Shared}{l:Addr}{o:Obj}{xs:Array Value}{n:Nat}{Q:Option Value->Shared->Prop}(ho:s.heap.get? l=some o)(hc:o.cls=.type "list")(hd:o.data=.seq xs n)(hn:o.dict=none)(hA:A.handled=none)
 (h:∀ h' tk,(∀ b ob,s.heap.get? b=some ob->h'.get? b=some ob)->Q none { s with heap:=h',toks:=tk }):wpAny (model prog w) A (getAttr? (.ref l) "keys") Q E s:=by
 obtain⟨hp,g,d,tk,os⟩:=s;obtain⟨oc,od,odt,osl⟩:=o;obtain rfl:oc=.type "list":=hc;obtain rfl:odt=.seq xs n:=hd;obtain rfl:od=none:=hn;have ho:hp.get? l=some { cls:=.type "list",data:=.seq xs n,slots:=osl }:=ho;have f1:=sub_AttributeError;have f3:=F.slot_list_getattribute.lookup;have f4:=F.slot_list_getattribute.bind (.ref l);have f5:=ip;have hT:∀ tk,Shared.TypeIs { heap:=hp,gens:=g,drawn:=d,toks:=tk,os:=os } (.ref l) "list":=fun _=>⟨_,ho,rfl⟩;unfold getAttr? getAttrBy? getAttrBy
 repeat (any_goals (first
  | assumption
  | ((with_reducible show wpAny _ _ (call (Value.builtin "list.__getattribute__") _ _) _ _ _)
     refine call_meets F.slot_list_getattribute ⟨_,ho,rfl⟩ dR (F.args_list_getattribute_2 _ _) (meets_getattribute_miss_list l xs n osl "keys" _ lZ (by decide +kernel)) ⟨ho,hA,fun h' tk' e hx=>?_⟩)
  | wp_step))
 obtain⟨t1,u1,he⟩:=hx.there;show wpAny (model prog w) A (getattributeRaised _ _ _ _ _ _ _) _ _ _;unfold getattributeRaised
 repeat (any_goals (first
  | assumption
  | wp_step))
 exact h _ _ hx.keeps
theorem hW:entryFor table "dict.update.loop"=some Builtin.«dict.update.loop»:=entryFor_of_tree (by kernel_rfl)
theorem wD{prog:Program}{w:World}{A:Around}{R:Result->Shared->Prop}(hA:A.handled=none){d it l:Addr}{ps:List (Addr×Key×Value×Value)}(hdi:d≠it)(hld:l≠d)(hli:l≠it)(hsz:ps.length<=100000) :
 ∀(c i:Nat) (s:Shared) (t:Tok) (kvs:List (Key×Value)),i+c=ps.length->s.heap.IsList l (ps.map fun p=>Value.ref p.1).toArray->s.heap.IsListIter it l i ->
   (∀ p∈ps,s.heap.IsTuple p.1 #[p.2.2.1,p.2.2.2]/\(aO prog w).is p.2.1 p.2.2.1=true/\p.1≠d/\p.1≠it)->s.heap.DictOf (aO prog w) d kvs->kvs.length<=i ->
   (∀ h' tk,(∀ b o,b≠d->b≠it->s.heap.get? b=some o->h'.get? b=some o)->h'.DictOf (aO prog w) d ((ps.drop i).foldl (fun kv p=>stored kv p.2.1 p.2.2.2) kvs)->R (.ok (.ret .none)) { s with heap:=h',toks:=tk }) ->
   codeAny (model prog w) A (.builtin "dict.update.loop" ⟨[.ref d,.ref it,.int i t,.none],[]⟩) R s
 | 0,i,s,t,kvs,hic,hl,hit,hps,hd,hk,k=>by
   refine codeAny_builtin hW ?_;show wpAny _ _ (pyNext (.ref it) >>= _) _ _ s;refine wpAny_bind (wpAny_pyNext_list_end ?_ hit hl ?_ fun h' hx=>?_)
   . exact hA
   . simp;omega
   show wpAny _ _ (Builtin.Dict.addKeywords d [] >>= _) _ _ _;refine wpAny_bind (wpAny_pure (wpAny_pure ?_));refine k h' s.toks (fun b o n1 n2 e=>hx _ _ n2 e) ?_;rw[List.drop_eq_nil_of_le (by omega)]
   obtain⟨o,es,ep,e1,r⟩:=hd;exact⟨o,es,ep,hx _ _ hdi e1,r⟩
 | c+1,i,s,t,kvs,hic,hl,hit,hps,hd,hk,k=>by
   refine codeAny_builtin hW ?_;show wpAny _ _ (pyNext (.ref it) >>= _) _ _ s;obtain⟨p,hp⟩:∃ p,ps[i]?=some p:=⟨ps[i]'(by omega),List.getElem?_eq_getElem (by omega)⟩
   refine wpAny_bind (wpAny_pyNext_list_item hit hl (x:=.ref p.1) (by simp[hp]) fun h1 hit1 hs1=>?_)
   obtain⟨⟨ot,hto,htc,n,htd⟩,hkey,npd,npi⟩:=hps p (List.mem_of_getElem? hp);have hto1:h1.get? p.1=some ot:=(hs1.2 _ npi).trans hto;show wpAny _ _ (holding _ _ >>= _) _ _ _;refine wpAny_bind (wpAny_holding ?_);refine wpAny_bind (wpAny_tryCatch ?_);unfold Builtin.Dict.pairItems;refine wpAny_bind (wpAny_typeOf ⟨ot,hto1,htc⟩ ?_);rw[if_pos (by decide)]
   refine wpAny_bind ?_;unfold seqItems?;refine wpAny_bind (wpAny_load (s:={ s with heap:=h1 }) hto1 ?_);rw[htd];refine wpAny_pure (wpAny_pure ?_);show wpAny _ _ (holding _ (dictSet d p.2.2.1 p.2.2.2)) _ _ _;have hd1:h1.DictOf (aO prog w) d kvs:=hd.sameBut hs1 hdi;refine wpAny_holding (wpAny_dictSet_pairs (hsz:=by rw[sizeLine_eq];omega) hkey hd1 fun h2 hd2 hs2=>?_)
   refine wpAny_pure ⟨by kernel_rfl,?_⟩
   refine wD hA hdi hld hli hsz c (i+1) _ _ _ (by omega) ?_ ?_ (fun q hq=>?_) hd2 ?_ fun h' tk g1 g2=>?_
   . obtain⟨o,e1,e2⟩:=hl
     exact⟨o,(hs2.2 _ hld).trans ((hs1.2 _ hli).trans e1),e2⟩
   . obtain⟨o,e1,e2⟩:=hit1
     exact⟨o,(hs2.2 _ hdi.symm).trans e1,e2⟩
   . obtain⟨⟨o,e1,e2⟩,r⟩:=hps q hq
     exact⟨⟨o,(hs2.2 _ r.2.1).trans ((hs1.2 _ r.2.2).trans e1),e2⟩,r⟩
   . unfold stored
     split
     . rw[List.length_map];omega
     rw[List.length_append];exact Nat.succ_le_succ hk
   refine k h' tk (fun b o n1 n2 e=>g1 b o n1 n2 ((hs2.2 _ n1).trans ((hs1.2 _ n2).trans e))) ?_;rw[List.drop_eq_getElem_cons (show i < ps.length by omega),List.foldl_cons,(List.getElem?_eq_some_iff.mp hp).2]
   exact g2
theorem iu{prog:Program}{w:World}{A:Around}{E:Value->Shared->Prop}{s:Shared}{l:Addr}{o:Obj}{n:Nat}{ps:List (Addr×Key×Value×Value)}{Q:Value->Shared->Prop}(hA:A.handled=none)
 (ho:s.heap.get? l=some o) (hc:o.cls=.type "list") (hd:o.data=.seq (ps.map fun p=>Value.ref p.1).toArray n) (hn:o.dict=none) (hsz:ps.length<=100000)
 (hps:∀ p∈ps,s.heap.IsTuple p.1 #[p.2.2.1,p.2.2.2]/\(aO prog w).is p.2.1 p.2.2.1=true)
 (h:∀ h' tk,(∀ b ob,s.heap.get? b=some ob->h'.get? b=some ob)->h'.DictOf (aO prog w) s.heap.objs.size (ps.foldl (fun kv p=>stored kv p.2.1 p.2.2.2) [])->Q (.ref s.heap.objs.size) { s with heap:=h',toks:=tk }) :
 wpAny (model prog w) A (call (.type "dict") [.ref l]) Q E s:=by
 refine callType_codes (Q₁:=fun obj s₁=>obj=.ref s.heap.objs.size/\s₁={ s with heap:=s.heap.push { cls:=.type "dict",data:=.dict #[] } }) F.kt_called_dict (F.kt_typeCall_dict_1 _) F.entry_dict_init (kt_code_dict_new _ ⟨rfl,rfl⟩) ?_;rintro obj s₁ ⟨rfl,rfl⟩;have hnew:(s.heap.push { cls:=.type "dict",data:=.dict #[] }).DictOf (aO prog w) s.heap.objs.size []:=Heap.DictOf.new s.heap;have ho1:(s.heap.push { cls:=.type "dict",data:=.dict #[] }).get? l=some o:=Heap.get?_push_of_some _ ho;have hll:l < s.heap.objs.size:=Heap.lt_size ho;refine⟨hnew.typeIs,F.args_dict_init_2 _ _,?_⟩;unfold Builtin.«dict.__init__»;refine wpAny_bind ?_;unfold Builtin.Dict.selfAndRest;refine wpAny_bind (wpAny_notOrdered_dict hnew.typeIs ?_);show wpAny _ _ (pure (s.heap.objs.size,[Value.ref l])) _ _ _;refine wpAny_pure ?_;show wpAny _ _ (Builtin.Dict.updateFrom "dict.__init__" s.heap.objs.size (.ref l) [] .none) _ _ _;unfold Builtin.Dict.updateFrom;refine wpAny_bind (wpAny_typeOf (T:="list") ⟨o,ho1,hc⟩ ?_);rw[if_pos (by decide)]
 refine wpAny_bind (lC (s:={ s with heap:=s.heap.push { cls:=.type "dict",data:=.dict #[] } }) ho1 hc hd hn hA fun h1 tk1 k1=>?_);rw[if_pos (by rfl)]
 refine wpAny_bind (wpAny_rule ?_);have ho2:h1.get? l=some o:=k1 _ _ ho1;have hl2:h1.IsList l (ps.map fun p=>Value.ref p.1).toArray:=⟨o,ho2,hc,n,hd⟩;refine wpAny_bind (wpAny_pyIter_list (s:={ s with heap:=h1,toks:=tk1 }) hl2 ?_);have hsz1:s.heap.objs.size < h1.objs.size:=by
  obtain⟨q,_,_,hq,_⟩:=hnew;exact Heap.lt_size (k1 _ _ hq)
 refine wpAny_pure ⟨by kernel_rfl,?_⟩
 refine wD (A:=A.in1) (l:=l) (ps:=ps) hA (Nat.ne_of_lt hsz1) (Nat.ne_of_lt hll) (Nat.ne_of_lt (Nat.lt_trans hll hsz1)) hsz ps.length 0 { s with heap:=h1.push { cls:=.type "list_iterator",data:=.fields #[.ref l,.int 0 0] },toks:=tk1 } _ [] (by omega) ⟨o,Heap.get?_push_of_some _ ho2,hc,n,hd⟩ ⟨{ cls:=.type "list_iterator",data:=.fields #[.ref l,.int 0 0] },Heap.get?_push_size _ rfl,rfl,rfl⟩ (fun p hp=>?_) ?_ (Nat.le_refl _) fun h' tk g1 g2=>?_
 . obtain⟨⟨ot,e1,e2⟩,e3⟩:=hps p hp
   have:=Heap.lt_size e1;exact⟨⟨ot,Heap.get?_push_of_some _ (k1 _ _ (Heap.get?_push_of_some _ e1)),e2⟩,e3,Nat.ne_of_lt this,Nat.ne_of_lt (Nat.lt_trans this hsz1)⟩
 . obtain⟨q,es,ep,hq,r⟩:=hnew
   exact⟨q,es,ep,Heap.get?_push_of_some _ (k1 _ _ hq),r⟩
 refine⟨rfl,h h' tk (fun b ob e=>?_) g2⟩;have hb:=Heap.lt_size e;exact g1 b ob (Nat.ne_of_lt hb) (Nat.ne_of_lt (Nat.lt_trans hb hsz1)) (Heap.get?_push_of_some _ (k1 _ _ (Heap.get?_push_of_some _ e)))
def mQ(ps:List (Int×V)):List (Key×V):=ps.foldl (fun kv p=>ck kv (.inl p.1) p.2) []
theorem sf(ps:List (Int×V)):∀ kv:List (Key×V),(ps.foldl (fun kv p=>ck kv (.inl p.1) p.2) kv).length<=kv.length+ps.length:=by
 induction ps with
 | nil=>intro kv;simp
 | cons p r ih=>
   intro kv;have h1:=ih (ck kv (.inl p.1) p.2);have h2:=dD kv (.inl p.1) p.2;simp only[List.foldl_cons,List.length_cons];omega
theorem kF:∀{ps:List (Addr×Int×V)}{zs:List (Addr×Key×Value×Value)},Paired (fun(p:Addr×Int×V) (z:Addr×Key×Value×Value)=>z.1=p.1/\z.2.1=.inl p.2.1/\aI p.2.2 z.2.2.2) ps zs -> ∀{kv:List (Key×V)}{vs:List (Key×Value)},KV kv vs ->
 KV ((ps.map fun p=>(p.2.1,p.2.2)).foldl (fun kv p=>ck kv (.inl p.1) p.2) kv) (zs.foldl (fun kv p=>stored kv p.2.1 p.2.2.2) vs)
 | _,_,.nil,_,_,r=>r
 | _,_,.cons (a:=p) (b:=z) e t,_,_,r=>by
   simp only[List.map_cons,List.foldl_cons];rw[e.2.1];exact kF t (r.put _ e.2.2)
theorem nQ{X:Cx}(hc:X.calm=true:=by rfl):bP X (.type "dict") (fun xs H Q=>∃(a:Addr) (ps:List (Addr×Int×V)),xs=[.ref a]/\SqL X.K H a (ps.map fun p=>.ref p.1)/\(∀ p∈ps,SqT X.K H p.1 [.int p.2.1,p.2.2])/\ps.length<=100000 /\
 ∀ d,H d=none->Q (.ref d) (upd H d (.dK (mQ (ps.map fun p=>(p.2.1,p.2.2)))))):=by
 intro pins s Z H xs us Q I r h;obtain⟨a,ps,rfl,ha,hp,hz,q⟩:=h;obtain⟨u,rfl,rx⟩:=dZ r;cases rx;obtain⟨its,rv,⟨o,n,e1,e2,e3,e4⟩,_⟩:=I.list ha;have key:∀(ps:List (Addr×Int×V)) (its:List Value),aC (ps.map fun p=>V.ref p.1) its->(∀ p∈ps,SqT X.K H p.1 [.int p.2.1,p.2.2]) -> ∃ zs:List (Addr×Key×Value×Value),zs.length=ps.length/\its=zs.map (fun z=>Value.ref z.1) /\
  Paired (fun(p:Addr×Int×V) (z:Addr×Key×Value×Value)=>z.1=p.1/\z.2.1=.inl p.2.1/\aI p.2.2 z.2.2.2) ps zs /\ ∀ z∈zs,s.heap.IsTuple z.1 #[z.2.2.1,z.2.2.2]/\(aO X.prog X.w).is z.2.1 z.2.2.1=true:=by
  intro ps
  induction ps with
  | nil=>intro its rv _;cases rv;exact⟨[],rfl,rfl,.nil,fun z hz=>nomatch hz⟩
  | cons p r ih=>
    intro its rv hp;cases rv with
    | cons r1 t1=>
      cases r1;obtain⟨zs,l1,l2,l3,l4⟩:=ih _ t1 fun q hq=>hp q (List.mem_cons_of_mem _ hq);obtain⟨its2,w1,w2,_⟩:=I.tuple (hp p List.mem_cons_self);cases w1 with
      | cons a1 w1=>
        cases w1 with
        | cons a2 w1=>
          cases w1;obtain⟨t,rfl⟩:=a1;refine⟨(p.1,.inl p.2.1,.int p.2.1 t,_)::zs,by simp[l1],by rw[List.map_cons,l2],.cons ⟨rfl,rfl,a2⟩ l3,fun z hz=>?_⟩
          rcases List.mem_cons.mp hz with rfl | hz
          . exact⟨w2,h_ _ _ _ _⟩
          exact l4 z hz
 obtain⟨zs,l1,l2,l3,l4⟩:=key ps its rv hp;subst l2;refine iu (I.ok.hd hc) e1 e2 e4 e3 (by omega) l4 fun h' tk hk hd'=>?_
 refine⟨.ref s.heap.objs.size,_,I.laid (a:=s.heap.objs.size) (o:=.dK (mQ (ps.map fun p:Addr×Int×V=>(p.2.1,p.2.2)))) (t':=tk) hk (Nat.le_refl _) (nv ?_ (beq_eq_false_iff_ne.mpr (Ne.symm (Nat.ne_of_lt I.big))) (kF l3 .nil) hd'),rfl,q _ (I.hok.fresh (Nat.le_refl _))⟩;have:=sf (ps.map fun p=>(p.2.1,p.2.2)) [];unfold mQ;rw[List.length_map,List.length_nil]at this;rw[sizeLine_eq];omega
def eD(M:MT):Sta:=⟨M.el,(M.mv:Int),M.nw⟩
theorem StU.stv{H:Hp}{v:V}{M:MT}(h:StU H v M):StV H v (eD M):=by
 obtain⟨a,e,w,rfl,ha,he,hw⟩:=h;refine⟨a,e,w,rfl,ha,?_,hw⟩;show ElV H e M.el
 revert he
 cases M.el with
 | none=>exact id
 | some E=>exact id
def j8(R:af):List Int:=R.flatMap fun r=>r.map (·.1)
theorem mz{R:af}{k:Int}:k∈j8 R ↔ ∃(i:Nat) (r:ar) (p:Int×Int),R[i]?=some r/\p∈r/\p.1=k:=by
 unfold j8;rw[List.mem_flatMap]
 constructor
 . rintro⟨r,hr,hk⟩
   obtain⟨p,hp,e⟩:=List.mem_map.mp hk;obtain⟨i,hi⟩:=List.getElem?_of_mem hr;exact⟨i,r,p,hi,hp,e⟩
 rintro⟨i,r,p,hi,hp,e⟩;exact⟨r,List.mem_of_getElem? hi,List.mem_map.mpr ⟨p,hp,e⟩⟩
theorem f_{k v:Int}:∀{r:ar},ROk r->(k,v)∈r->aP r k=some v
 | [],_,h=>nomatch h
 | p::r,ok,h=>by
   have nd:p.1∉r.map (·.1)/\ROk r:=List.nodup_cons.mp ok;rcases List.mem_cons.mp h with e | e
   . subst e;exact fv rfl
   rw[fm fun z=>nd.1 (z ▸ List.mem_map.mpr ⟨_,e,rfl⟩)];exact f_ nd.2 e
theorem POk.look{f m:Int}{N:af}(P:POk f m N){i:Nat}{r:ar}{p:Int×Int}(hr:N[i]?=some r)(hp:p∈r):aF f m N p.1=some p.2:=by
 rw[dj,P.at_ i r p hr hp,List.getD_eq_getElem?_getD,hr];exact f_ (P.ok r (List.mem_of_getElem? hr)) hp
theorem POk.nodup{f m:Int}{N:af}(P:POk f m N):(j8 N).Nodup:=by
 unfold j8 List.Nodup;rw[List.pairwise_flatMap];refine⟨fun r hr=>P.ok r hr,List.pairwise_iff_getElem.mpr fun i j hi hj hij x hx y hy e=>?_⟩;obtain⟨p,hp,e1⟩:=List.mem_map.mp hx;obtain⟨q,hq,e2⟩:=List.mem_map.mp hy;have h1:=P.at_ i _ p (List.getElem?_eq_getElem hi) hp;have h2:=P.at_ j _ q (List.getElem?_eq_getElem hj) hq;rw[e1]at h1;rw[e2,← e]at h2;omega
theorem TOk.nodup{f m:Int}{M:MT}(T:TOk f m M):(j8 (M.el.getD [])++j8 M.nw).Nodup:=by
 cases e:M.el with
 | none=>exact T.nw.nodup
 | some E=>
   obtain⟨h1,h2,h3,h4,h5⟩:=T.el E e;refine List.nodup_append.mpr ⟨h1.nodup,T.nw.nodup,fun x hx y hy z=>?_⟩;obtain⟨i,r,p,hi,hp,e1⟩:=mz.mp hx;obtain⟨j,r',q,hj,hq,e2⟩:=mz.mp hy;have l1:=h1.look hi hp;have l2:=T.nw.look hj hq;have:=h5 p.1 (by rw[l1];simp)
   rw[e1,z,← e2,l2]at this;cases this
def sg(f m mv:Int)(R:af):Prop:=∀(i:Nat) (r:ar),R[i]?=some r -> ∀ x∈r,(x.1*f+m) % 65536 % (R.length:Int)=i /\ ¬ (i:Int) < mv
theorem POk.inplc{f m:Int}{N:af}(P:POk f m N):sg f m 0 N:=fun i r hr x hx=>by
 have hi:i < N.length:=(List.getElem?_eq_some_iff.mp hr).1;refine⟨?_,by omega⟩
 rw[← gq (by omega),P.at_ i r x hr hx]
theorem ms{f m mv:Int}{R:af}(h:sg f m mv R)(sh:Bool):∀ t∈aJ sh 0 R,t.1=sh/\(t.2.2*f+m) % 65536 % (R.length:Int)=t.2.1 /\ ¬ (t.2.1:Int) < mv:=by
 have gen:∀(A:af) (i:Nat),(∀ j r,A[j]?=some r->R[i+j]?=some r) -> ∀ t∈aJ sh i A,t.1=sh/\(t.2.2*f+m) % 65536 % (R.length:Int)=t.2.1 /\ ¬ (t.2.1:Int) < mv:=by
  intro A
  induction A with
  | nil=>intro i _ t ht;cases ht
  | cons r A ih=>
    intro i hA t ht;rcases List.mem_append.mp (show t∈bV sh i r++aJ sh (i+1) A from ht)with z | z
    . obtain⟨x,hx,rfl⟩:=List.mem_map.mp z
      exact⟨rfl,h i r (hA 0 r rfl) x hx⟩
    exact ih (i+1) (fun j r' e=>by have:=hA (j+1) r' e;rw[show i+1+j=i+(j+1) by omega];exact this) t z
 exact gen R 0 fun j r e=>by rw[Nat.zero_add];exact e
theorem gE(sh:Bool):∀(R:af) (i:Nat),(aJ sh i R).map (·.2.2)=j8 R
 | [],_=>rfl
 | r::R,i=>by
   show(bV sh i r++aJ sh (i+1) R).map (·.2.2)=r.map (·.1)++j8 R;rw[List.map_append,gE sh R];unfold bV;rw[List.map_map]
   rfl
theorem jC{f m:Int}{sz:Bool->Nat}{mv:Bool->Int}:∀(ts:List eO) (ks:List Int),(∀ t∈ts,(t.2.2*f+m) % 65536 % (sz t.1:Int)=t.2.1 /\ ¬ (t.2.1:Int) < mv t.1)->(ks++ts.map (·.2.2)).Nodup->aM f m sz mv ks ts=none
 | [],_,_,_=>rfl
 | (sh,i,k)::ts,ks,h,nd=>by
   have h0:=h (sh,i,k) (List.mem_cons_self ..);have h1:(k*f+m) % 65536 % (sz sh:Int)=i:=h0.1;have h2:¬ (i:Int) < mv sh:=h0.2;rw[bC,if_neg (fun z=>z h1),if_neg h2];have e:ks++((sh,i,k)::ts).map (·.2.2)=(ks++[k])++ts.map (·.2.2):=by rw[List.map_cons,List.append_assoc];rfl
   rw[e]at nd;have h3:k∉ks:=fun z=>by
    have nd2:=(List.nodup_append.mp nd).1;exact(List.nodup_append.mp nd2).2.2 k z k (List.mem_singleton.mpr rfl) rfl
   rw[if_neg h3];exact jC ts _ (fun t ht=>h t (List.mem_cons_of_mem _ ht)) nd
theorem TOk.trips{f m:Int}{M:MT}(T:TOk f m M):∀ t∈bO (eD M),(t.2.2*f+m) % 65536 % (szOf (eD M) t.1:Int)=t.2.1 /\ ¬ (t.2.1:Int) < gH (eD M) t.1:=by
 have he:sg f m M.mv (M.el.getD []):=by
  cases e:M.el with
  | none=>intro i r hr;cases hr
  | some E=>
    obtain⟨h1,h2,h3,h4,h5⟩:=T.el E e;intro i r hr x hx;refine⟨(h1.inplc i r hr x hx).1,fun z=>?_⟩;rw[h4 i r (by omega) hr]at hx
    cases hx
 intro t ht;rcases List.mem_append.mp (show t∈aJ true 0 (M.el.getD [])++aJ false 0 M.nw from ht)with z | z
 . obtain⟨e1,e2,e3⟩:=ms he true t z
   rw[e1];exact⟨e2,e3⟩
 obtain⟨e1,e2,e3⟩:=ms T.nw.inplc false t z;rw[e1];exact⟨e2,e3⟩
theorem TOk.sound{f m:Int}{M:MT}(T:TOk f m M)(R:Rat M):aB f m (eD M)=none:=by
 have h1:bp (eD M)=true:=by
  unfold bp;rw[Bool.and_eq_true];refine⟨decide_eq_true T.sz,?_⟩;show(match M.el with | none=>true | some E=>decide (am E.length) && (decide (E.length=2*M.nw.length) || decide (M.nw.length=2*E.length)))=true;cases e:M.el with
  | none=>rfl
  | some E=>
    show(decide (am E.length) && (decide (E.length=2*M.nw.length) || decide (M.nw.length=2*E.length)))=true;rw[Bool.and_eq_true,Bool.or_eq_true,decide_eq_true_iff,decide_eq_true_iff,decide_eq_true_iff];exact⟨(T.el E e).2.1,R E e⟩
 have h2:bS (eD M)=true:=by
  unfold bS;rw[Bool.and_eq_true,decide_eq_true_iff,decide_eq_true_iff];refine⟨Int.natCast_nonneg _,?_⟩;show(M.mv:Int) < match M.el with | none=>1 | some E=>(E.length:Int);cases e:M.el with
  | none=>have:=T.no e;show(M.mv:Int) < 1;omega
  | some E=>have:=(T.el E e).2.2.1;show(M.mv:Int) < (E.length:Int);omega
 unfold aB;rw[if_neg (by rw[h1];intro z;cases z),if_neg (by rw[h2];intro z;cases z)]
 refine jC _ _ T.trips ?_;rw[List.nil_append];unfold bO;rw[List.map_append,gE,gE];exact T.nodup
def cW(M:MT):ar:=(M.el.getD []).flatten++M.nw.flatten
theorem bq(R:af):R.flatten.length=tot R:=List.length_flatten ..
theorem fZ(M:MT):(cW M).length=cnt M:=by
 unfold cW cnt;rw[List.length_append,bq,bq];cases M.el with
 | none=>rfl
 | some E=>rfl
theorem ij(R:af):R.flatten.map (·.1)=j8 R:=by
 unfold j8;rw[List.map_flatten,List.flatMap_def]
theorem TOk.pairs{f m:Int}{M:MT}(T:TOk f m M):ROk (cW M):=by
 unfold cW;show((_++_:ar).map (·.1)).Nodup;rw[List.map_append,ij,ij];exact T.nodup
theorem mn{R:af}{p:Int×Int}:p∈R.flatten ↔ ∃(i:Nat) (r:ar),R[i]?=some r/\p∈r:=by
 rw[List.mem_flatten]
 constructor
 . rintro⟨r,hr,hp⟩
   obtain⟨i,hi⟩:=List.getElem?_of_mem hr;exact⟨i,r,hi,hp⟩
 rintro⟨i,r,hi,hp⟩;exact⟨r,List.mem_of_getElem? hi,hp⟩
theorem TOk.tell{f m:Int}{M:MT}(T:TOk f m M){p:Int×Int}(h:p∈cW M):cX f m M p.1=some p.2:=by
 unfold cX onE;rcases List.mem_append.mp h with z | z
 . obtain⟨i,r,hi,hp⟩:=mn.mp z
   cases e:M.el with
   | none=>rw[e]at hi;cases hi
   | some E=>
     rw[e]at hi;have:=(T.el E e).1.look hi hp;show(match aF f m E p.1 with | some v=>some v | none=>aF f m M.nw p.1)=_;rw[this]
 obtain⟨i,r,hi,hp⟩:=mn.mp z;have l:=T.nw.look hi hp;cases e:M.el with
 | none=>exact l
 | some E=>
   show(match aF f m E p.1 with | some v=>some v | none=>aF f m M.nw p.1)=_;cases e2:aF f m E p.1 with
   | none=>exact l
   | some v=>
     have:=(T.el E e).2.2.2.2 p.1 (by rw[e2];simp)
     rw[l]at this;cases this
def InB(p:Int×Int):Prop:=(0<=p.1/\p.1<=1000000000) /\ -1000000000<=p.2/\p.2<=1000000000
theorem g_{r:ar}{k v:Int}(h:aP r k=some v):(k,v)∈r:=by
 unfold aP at h;cases e:r.find? fun p=>decide (p.1=k)with
 | none=>rw[e]at h;cases h
 | some p=>
   rw[e]at h;have h1:=List.find?_some e;have h2:=List.mem_of_find?_eq_some e;have h3:p.1=k:=of_decide_eq_true h1;have h4:p.2=v:=Option.some.inj h;rw[← h3,← h4];exact h2
theorem mK{R:af}(h:∀ p∈R.flatten,InB p):ap (bh R)=true:=by
 show(R.map dm).all b_=true;rw[List.all_eq_true];intro d hd;obtain⟨r,hr,rfl⟩:=List.mem_map.mp hd;show(r.map fun q=>PyData.tuple [.int q.1,.int q.2]).all bz=true;rw[List.all_eq_true];intro d hd;obtain⟨p,hp,rfl⟩:=List.mem_map.mp hd;obtain⟨⟨a,b⟩,c,e⟩:=h p (List.mem_flatten.mpr ⟨r,hr,hp⟩);show(decide (0<=p.1) && decide (p.1<=1000000000) && (decide (-1000000000<=p.2) && decide (p.2<=1000000000)))=true;simp[a,b,c,e]
theorem wR{M:MT}(h:∀ p∈cW M,InB p):aq (stD (eD M))=true:=by
 have h1:=mK (R:=M.nw) fun p hp=>h p (List.mem_append_right _ hp);show(cg (elD M.el) && bW (.int (M.mv:Int)) && ap (bh M.nw))=true;rw[h1,Bool.and_true];have h3:bW (.int (M.mv:Int))=true:=rfl;rw[h3,Bool.and_true];cases e:M.el with
 | none=>rfl
 | some E=>
   have h2:ap (bh E)=true:=mK fun p hp=>h p (List.mem_append_left _ (by rw[e];exact hp))
   exact h2
theorem uc{kv:List (Key×V)}{k:Key}{v:V}(h:∀ p∈kv,p.1≠k):ck kv k v=kv++[(k,v)]:=by
 unfold ck;rw[if_neg];intro z;obtain⟨p,hp,e⟩:=List.any_eq_true.mp z;exact h p hp (of_decide_eq_true e)
section
variable{X:Cx}
theorem uW{l b:Addr}{us ws:Array Value}{n k:Nat}{od:Option Addr}{osl:Array (Option Value)}(h0:¬ (!us.isEmpty && Builtin.List.listTooLong (us.size+ws.size))=true)
 (h1:us.size<=sizeLine) (h2:(us++ws).size<=sizeLine+1):Meets (Builtin.«list.extend» ⟨[.ref l,.ref b],[]⟩) (fun _ R s=>
  s.heap.get? l=some { cls:=.type "list",data:=.seq us n } /\
  s.heap.get? b=some ⟨.type "tuple",od,.seq ws k,osl⟩ /\
  R (.ok (.ret .none)) { s with heap:=s.heap.update l (Obj.mapSeq fun x=>x++ws) }):=by
 refine Meets.of_wp fun prog w A R s h=>?_;obtain⟨hp,g,d,tk,os⟩:=s;obtain⟨ha,hb,h⟩:=h;have f1:=AutoSeq1.idx_int;have f2:=AutoSeq1.sub_tuple_tuple;have f3:=AutoSeq1.sub_list_list;have f4:=AutoSeq1.sub_tuple_list;have f5:=AutoSeq1.sub_list_tuple
 wp_walk using (wpAny_updateSeq ha rfl (hz:=h1) (_hz':=h2)),AutoSeq1.wpAny_loadPart' ha,AutoSeq1.wpAny_loadPart' hb
 exact⟨_,rfl,h⟩
def tO(K:W.Frag):V->List V->Hp->VK->Prop:=fun x vs H Q=>∃ l b xs zs,x=.ref l/\vs=[.ref b]/\H l=some (.lst xs)/\SqT K H b zs/\xs.length+zs.length<=sizeLine/\Q .non (upd H l (.lst (xs++zs)))
theorem nA:MtM X "list.extend" (tO X.K):=by
 intro pins s Z H x vs v us Q I rx rv h;obtain⟨l,b,xs,zs,rfl,rfl,hH,hB,hz,q⟩:=h;cases rx;obtain⟨u,rfl,ru⟩:=rv.one;cases ru;obtain⟨z,its,n,r,hl,e⟩:=I.lstM hH;obtain⟨its2,r2,⟨ot,e2,c2,n2,d2⟩,z2⟩:=I.tuple hB;have hl2:=r2.length;have hsz:its.toArray.size+its2.toArray.size<=sizeLine:=by rw[List.size_toArray,List.size_toArray];omega
 have hlong:¬ (!its.toArray.isEmpty && Builtin.List.listTooLong (its.toArray.size+its2.toArray.size))=true:=by
  rw[mG hsz,Bool.and_false];exact Bool.false_ne_true
 obtain⟨oc,od,odt,osl⟩:=ot;obtain rfl:oc=.type "tuple":=c2;obtain rfl:odt=.seq its2.toArray n2:=d2;refine call_meets F.slot_list_extend ⟨_,e,rfl⟩ F.entry_list_extend (F.args_list_extend_2 _ _) (uW hlong (by rw[List.size_toArray];omega) (by rw[Array.size_append];omega)) ⟨e,e2,?_⟩
 refine⟨.non,_,I.lset (its':=its++its2) hH e (by simp) (r.append r2) ?_,rfl,q⟩
 rw[List.length_append];omega
end
section
variable{X:Cx}{pins:List (Addr×Obj)}{Z:L2.St}{H:Hp}{s:Shared}
end
section
variable{X:Cx}{pins:List (Addr×Obj)}{Z:L2.St}{H:Hp}{s:Shared}{kS D:Addr}{vs:List Value}{kz:List Int}{keys:Array Value}{e e1:Nat}{A:Around}{E:Value->Shared->Prop}{PP:PySem.Fin->Shared->Prop}
end
section
variable{X:Cx}{pins:List (Addr×Obj)}{Z:L2.St}{H:Hp}{s:Shared}{c P:Addr}{pos:Pos}{qual:Str}{params:Arguments}{body:Expr}{scope:Scope}{firstLine:Nat}{E:Value->Shared->Prop}{Q:Value->Shared->Prop}{A:Around}
end
section
variable{K:W.Frag}{P:Addr}
variable(hP:K.lookup P=some (W.tabObj #[]))
include hP
end
end SW
set_option maxHeartbeats 2000000
namespace SW
open PySem PySem.Spec PyProof.Rows L2
section
variable{C CT P b:Addr}{H H':Hp}{p:Addr}{f m:Int}{pc:Nat}{M:MT}{tc:Int}{F:Addr->Prop}{R:af}{pos:Pos}{qual:Str}
end
end SW
set_option maxHeartbeats 2000000
namespace SW
open PySem PySem.Spec PyProof.Rows L2
end SW
set_option maxHeartbeats 2000000
namespace SW
open PySem PySem.Spec PyProof.Rows L2
section
variable{K:W.Frag}{H:Hp}{x y:V}{n:Nat}
end
section
variable{H:Hp}{Q:VK}{E:XK}{p:Addr}
end
section
variable{f m:Int}{pc:Nat}
end
end SW
set_option maxHeartbeats 2000000
namespace SW
open PySem PySem.Spec PyProof.Rows L2
section
variable{K:W.Frag}{H:Hp}
end
end SW
set_option maxHeartbeats 2000000
namespace SW
open PySem PySem.Spec PyProof.Rows L2
end SW
set_option maxHeartbeats 2000000
namespace SW
open PySem PySem.Spec PyProof.Rows L2
end SW
set_option maxHeartbeats 2000000
namespace SW
open PySem PySem.Spec PyProof.Rows L2
section
variable{f m:Int}{M:MT}{cur:Int}
end
end SW
set_option maxHeartbeats 2000000
namespace SW
open PySem PySem.Spec PyProof.Rows L2
end SW
namespace SW
open PySem PySem.Spec PyProof.Rows L2
section
variable{X:Cx}
open PySem.Builtin PySem.Builtin.Str in
open PySem.Builtin PySem.Builtin.Str in
end
section
variable{X:Cx}{tg:Expr}
end
open PySem.Builtin PySem.Builtin.Str in
section
variable{X:Cx}
end
section
variable{D:Addr}{x0:PySem.Str}{Z0:L2.St}{H1:Hp}{te:TE}
end
end SW
namespace SW
open PySem PySem.Spec PyProof.Rows L2
end SW
namespace SW
open PySem PySem.Spec PyProof.Rows L2
section
variable{X:Cx}{tg:Expr}
end
section
variable{prog:Program}{w:World}{A:Around}{E:Value->Shared->Prop}
end
end SW
set_option maxHeartbeats 2000000
namespace SW
open PySem PySem.Spec PyProof.Rows L2
theorem rF{P:Program}{w:World}{H:Hp}{h:Heap}{fs:List Addr}(x:HOk P w H h)(n:∀ b∈fs,H b=none):HOk P w H (W.hideAll h fs):=fun a o e=>
 (x a o e).stay (fun b u hb q=>W.hideAll_get fs q fun z=>by
  have z:=n b z;rcases hb with rfl | hb
  . rw[z]at e;cases e
  rw[z]at hb;cases hb) (fun _ q=>q) fun _ _ q=>q
structure mP(P:Program)(w:World)(outer:List Env)(H:Hp)(s s':Shared)(ea C t:Addr)(B:Heap)(H':Hp):Prop where
 fly:Heap.FlyingW B outer ea (.ref C) (.ref t) s'.heap
 hok:HOk P w H' B
 keep:∀ b o,s.heap.get? b=some o->H b=none->b∉frs outer->B.get? b=some o
 there:∀ b o,s.heap.get? b=some o->b∉frs outer -> ∃ o',B.get? b=some o'
 slot:∀ b o,s.heap.get? b=some o->b∈frs outer -> ∃ sl,s'.heap.get? b=some { o with slots:=sl }
 free:∀ b o,s.heap.get? b=some o->H b=none->H' b=none
 tups:∀ b xs,H b=some (.tup xs)->H' b=some (.tup xs)
 frzs:∀ b o u,H b=some (.frz o u)->H' b=some (.frz o u)
 tbls:∀ b ps,H b=some (.tbl ps) -> ∃ more,H' b=some (.tbl (ps++more))
 bare:AllBare s'.gens
 os:s'.os=s.os
def CXr(P:Program)(w:World):CXT:=fun outer H s E e s'=>∃(ea C t:Addr) (B:Heap) (H':Hp),e=.ref ea/\mP P w outer H s s' ea C t B H'/\E (.ref C) none H'
section
variable{P:Program}{w:World}{outer:List Env}{H H':Hp}{s s':Shared}{ea C t:Addr}{B h6:Heap}
theorem mP.un(L:mP P w outer H s s' ea C t B H')(hB:B.StaysIn h6)(sm:s'.heap.UpToSlots h6):Un (frs outer) [] H H' s.heap h6:=by
 have sl6:∀ b o,s.heap.get? b=some o->b∈frs outer -> ∃ sl,h6.get? b=some { o with slots:=sl }:=fun b o q hf=>by
  obtain⟨sl,e⟩:=L.slot b o q hf;obtain⟨o',e',nd⟩:=(L.fly.2.2.1.mem hf).2;rw[e]at e';cases e';obtain⟨sl',e6⟩:=sm _ _ e nd;exact⟨sl',e6⟩
 refine⟨fun b o q n hf _=>hB _ _ (L.keep b o q n hf),fun b o q n hf _=>sl6 b o q hf,fun b o q n _=>L.free b o q n,fun b o q _=>?_,L.tups,L.frzs,L.tbls⟩;by_cases hf:b∈frs outer
 . obtain⟨sl,e⟩:=sl6 b o q hf
   exact⟨_,e⟩
 obtain⟨o',e⟩:=L.there b o q hf;exact⟨o',hB _ _ e⟩
end
section
variable{P:Program}{w:World}{K:W.Frag}{mg:Str->Option Value}{base:Heap}{N:List Str}{qual:Str}{scope:Scope}{f:Addr}{cd:Value}{A:Around}{outer:List Env}{s₀:Shared}{H₀:Hp}{E:XK}
theorem kG{X:Cx}{pins:List (Addr×Obj)}{Z:L2.St}{H:Hp}{s:Shared}(I:L2.Inv X pins Z H s){b:Addr}(h:b < X.s₀.heap.objs.size)(hb:b∉X.fs):b∉frs X.stack:=fun z=>by
 rcases List.mem_cons.mp (I.stkSub b z)with e | e
 . have:=I.ok.above
   rw[← e]at this;exact absurd h (Nat.not_lt.mpr this)
 exact hb e
theorem uO{pins:List (Addr×Obj)}{Z:L2.St}{H:Hp}{s:Shared}{h':Heap}{e C:Addr}{vs:List Value}
 (I:L2.Inv (dC (CXr P w) P w K mg base N qual scope f cd A outer s₀ H₀ E) pins Z H s) (hx:Heap.MadeExcOf s.heap h' e (.ref C) vs) (hE:E (.ref C) none H) :
 (dC (CXr P w) P w K mg base N qual scope f cd A outer s₀ H₀ E).xe (.ref e) { s with heap:=h' }:=by
 have hin:∀ env∈(dC (CXr P w) P w K mg base N qual scope f cd A outer s₀ H₀ E).stack,∀ b,env.frame=some b->b∈frs (dC (CXr P w) P w K mg base N qual scope f cd A outer s₀ H₀ E).stack:=fun env he b hb=>List.mem_filterMap.mpr ⟨env,he,hb⟩;refine wpAny_leaves_madeW (base:=W.hideAll s.heap (frs (dC (CXr P w) P w K mg base N qual scope f cd A outer s₀ H₀ E).stack)) (h:=s.heap) I.ok.frames rfl (fun b o q=>W.of_hideAll _ q) (W.funFrames_hide I.stack hin) hx fun h'' t fl tup tn sm=>?_;have lt:∀{b o},s₀.heap.get? b=some o->b < s₀.heap.objs.size:=fun q=>Heap.lt_size q;refine⟨e,C,t,_,H,rfl,⟨fl,rF I.hok I.stkFree,fun b o q n hf=>?_,fun b o q hf=>?_,fun b o q hf=>?_,fun b o q n=>I.base.free b o q n (by show b∉[];simp),I.base.tups,I.base.frzs,I.base.tbls,I.bare,I.os⟩,hE⟩
 . exact W.hideAll_get _ (I.base.keep b o q n hf (by show b∉[];simp)) (kG I (lt q) hf)
 . obtain⟨o',e'⟩:=I.base.there b o q (by show b∉[];simp)
   exact⟨o',W.hideAll_get _ e' (kG I (lt q) hf)⟩
 obtain⟨sl,e1⟩:=I.base.slot b o q (I.ok.frf b hf) hf (by show b∉[];simp)
 obtain⟨o',e',nd⟩:=(fl.2.2.1.mem hf).2;have e2:=hx.keeps _ _ e1;have nd1:∀ vs,({ o with slots:=sl }:Obj).data ≠ .fields vs:=by
  obtain⟨o2,e2',nd2⟩:=(I.funs.mem hf).2;rw[e1]at e2';cases e2';exact nd2
 obtain⟨sl',e6⟩:=sm _ _ e2 nd1;exact⟨sl',e6⟩
end
section
variable{P:Program}{w:World}{K:W.Frag}{mg:Str->Option Value}{base:Heap}{N:List Str}{qual:Str}{scope:Scope}{f:Addr}{cd:Value}{A:Around}{outer:List Env}{s₀:Shared}{H₀:Hp}{E:XK}
def Ar(K:W.Frag)(C:Addr):Prop:=W.excIn K C [.type "ValueError",.type "Exception",.type "BaseException",.type "object"] "ValueError.__new__"=true
theorem uN{h:Heap}{C:Addr}{bmB:List Value}{newId:String}(X:K.In h)(q:W.excIn K C bmB newId=true):∃ bm N nm q bs hdct sn sub ab col dd k0 k1 k2 k3 k5 mN,h.get? C=some (excClassObj nm q C N bs bm hdct sn sub ab col dd k0 k1 k2 k3 k5 newId)/\h.Ns N mN/\mN "__init__"=none/\OwnTail h bmB bm:=by
 unfold W.excIn at q;split at q
 . rename_i dd cd sl ho
   split at q
   . rename_i C' bm k0 k1 k2 k3 n k5 hm hs
     simp only[Bool.and_eq_true,beq_iff_eq,Bool.not_eq_true']at q;obtain⟨⟨⟨⟨⟨rfl,rfl⟩,hdel⟩,ht⟩,hok⟩,hni⟩:=q;obtain⟨nm,bs,mro,ns,qn,hd,sn,sub,ab,col,del⟩:=cd
     dsimp only at hm hdel hok hni
     subst hm hdel;have hsl:sl=#[k0,k1,k2,k3,some (.builtin n),k5]:=by
      obtain⟨l⟩:=sl;simp only at hs;rw[hs]
     subst hsl;exact⟨bm,ns,nm,qn,bs,hd,sn,sub,ab,col,dd,k0,k1,k2,k3,k5,_,X _ _ ho,.of_isNs (W.isNs_of_in X hok),W.nsMap_none_of_in X hok hni,W.tail_of_in X ht⟩
   cases q
 cases q
def tD(E:XK)(C:Addr):TS:=fun _ _ H=>E (.ref C) none H
theorem sT{x msg:Str}{kk}{C:Addr}{np p1 cpos pos:Pos}(hm:mg x=some (.ref C))(hx:Ar K C)(hg:Gl (dC (CXr P w) P w K mg base N qual scope f cd A outer s₀ H₀ E) x)(hd:(x == ("__debug__":Str))=false) :
 PS (dC (CXr P w) P w K mg base N qual scope f cd A outer s₀ H₀ E) (.Raise (some (.Call (.Name x np) [.Constant (.str msg) kk p1] [] cpos)) none pos) (tD E C):=by
 intro pins s Z H D I h;obtain⟨bm,N',nm,q,bs,hdct,sn,sub,ab,col,dd,k0,k1,k2,k3,k5,mN,hC,hN,hni,T⟩:=uN I.ok.mod.kin hx;refine wpAny_Raise_call_subT (C:=C) (nm:=nm) (q:=q) (N:=N') (bs:=bs) (bm:=bm) (hdct:=hdct) (sn:=sn) (sub:=sub) (ab:=ab) (col:=col) (dd:=dd) (k0:=k0) (k1:=k1) (k2:=k2) (k3:=k3) (k5:=k5)
  PySem.F.excBase_ValueError (mN:=mN) (T.hasType PySem.F.excBase_ValueError.hasBase) (I.ok.hd rfl) rfl hni (fw I hg hm ⟨rfl,?_⟩ hd)
 refine Calls.evalArgs_plain ?_;refine thn ((oG rZ qR) cpos pins s Z H (fun vs H'=>H'=H/\vs.length<=sizeLine) I ⟨rfl,by show(1:Nat)<=sizeLine;decide⟩) fun us s2 zz=>?_
 obtain⟨vs,H2,I2,r,e,hl⟩:=zz;subst e;exact⟨rfl,by show us.length<=sizeLine;rw[← r.length];exact hl,I2.bk _ _ hC,hN.keeps I2.bk,T.keeps I2.bk,fun h' e hx=>uO I2 hx h⟩
end
section
variable{X:Cx}{pins:List (Addr×Obj)}{Z:L2.St}{H:Hp}{s:Shared}
theorem qB{M:Model}{A:Around}{E:Value->Shared->Prop}{i:Nat}{x:Str}{pos:Pos}{Q:Unit->Shared->Prop}(I:L2.Inv X pins Z H s)(hN:X.N.Nodup)(hi:X.N[i]?=some x)(hk:X.env.scope.names.lookup x=some .local)
 (h:∀ s',L2.Inv X pins (Z.set i none) H s'->Q () s'):wpAny M A (do bindName X.env x .none;unbindBehindTheSuite X.env x pos) Q E s:=by
 have hcls:(X.env.scope.kind == .class || (X.env.scope.kind == .module && X.env.locals != X.env.globals))=false:=by rw[I.ok.kind];rfl
 have hl:X.env.kindOf x=some .local:=hk;refine wpAny_bind (wpAny_bindName (gC (v:=.non) I hN hi (.inl hk) rfl (fun s1 I1=>?_) (.inr hk)));obtain⟨m,hn,hm⟩:=id I1.loc;have hiσ:i < (Z.set i (some V.non)).length:=by rw[I1.len];exact(List.getElem?_eq_some_iff.mp hi).1
 have hmx:∃ u,m x=some u:=by
  obtain⟨u,_,q⟩:=hm i x .non hi (List.getElem?_set_self (by simpa using hiσ)) (.inl hk)
  rcases q with ⟨_,e⟩ | ⟨k,_⟩
  . exact⟨u,e⟩
  rcases k with k | k <;> rw[hl]at k <;> cases k
 obtain⟨u,hmu⟩:=hmx;unfold unbindBehindTheSuite;refine wpAny_onRaise ?_;unfold unbindName;refine wpAny_bind (wpAny_point (wpAny_bind ?_));unfold deleteName;simp only[hl,hcls];rw[if_neg (by decide)]
 refine wpAny_bind (wpAny_nsDel_keeps hn fun h2 v hn2 hs=>?_);rw[hmu];simp only[Option.isSome_some,Bool.not_true,Bool.false_eq_true,if_false];refine wpAny_pure (wpAny_point (h _ ?_));obtain⟨oL,_,_,hoL,_⟩:=id hn;have cne:=I1.cne;refine⟨I1.ok,I1.os,I1.bare,⟨fun b o e n hb hx=>?_,fun b o e n hb hx=>?_,I1.base.free,fun b o e hx=>?_,I1.base.tups,I1.base.frzs,I1.base.tbls⟩,⟨_,hn2,fun j y v' e1 e2 e3=>?_⟩,fun y c e=>?_,I1.free,I1.freeC,fun p hp=>?_,fun b ob e=>?_,by simpa using I1.len⟩
 . exact(hs.2 b (Nat.ne_of_lt (Nat.lt_of_lt_of_le (Heap.lt_size e) I1.ok.above))).trans (I1.base.keep b o e n hb hx)
 . obtain⟨sl,e1⟩:=I1.base.slot b o e n hb hx
   exact⟨sl,(hs.2 b (Nat.ne_of_lt (Nat.lt_of_lt_of_le (Heap.lt_size e) I1.ok.above))).trans e1⟩
 . obtain⟨o',e1⟩:=I1.base.there b o e hx
   exact⟨o',(hs.2 b (Nat.ne_of_lt (Nat.lt_of_lt_of_le (Heap.lt_size e) I1.ok.above))).trans e1⟩
 . by_cases hj:j=i
   . subst hj
     rw[List.getElem?_set_self (by simpa using hiσ)]at e2
     cases e2
   rw[List.getElem?_set_ne (Ne.symm hj)]at e2;obtain⟨u',r',q⟩:=hm j y v' e1 (by rw[List.getElem?_set_ne (Ne.symm hj)];exact e2) e3
   refine⟨u',r',?_⟩;rcases q with ⟨k,e⟩ | ⟨k,c,e,z⟩
   . refine .inl ⟨k,?_⟩
     have:y≠x:=fun e=>hj (jI hN e1 (e ▸ hi));simp[this,e]
   exact .inr ⟨k,c,e,z.sameBut hs (cne y c e)⟩
 . obtain⟨w',z⟩:=I1.cell y c e
   exact⟨w',z.sameBut hs (cne y c e)⟩
 . obtain⟨e,n,ne,nf,d⟩:=I1.pin p hp
   exact⟨(hs.2 p.1 ne).trans e,n,ne,nf,d⟩
 refine(I1.hok b ob e).stay (fun c w' hc q=>(hs.2 c ?_).trans q) (fun _ q=>q) fun _ _ q=>q;rintro rfl;rcases hc with hc | hc
 . rw[← hc,I1.free]at e;cases e
 rw[I1.free]at hc;cases hc
def j_(ea C:Addr):HO:=.ext fun h=>∃ ob,h.get? ea=some ob/\ob.cls=.ref C
theorem vJ{P:Program}{w:World}{H:Hp}{h:Heap}{ea C:Addr}(h1:∃ ob,h.get? ea=some ob/\ob.cls=.ref C):a_ P w H h ea (j_ ea C):=
 ⟨h1,let⟨ob,e,_⟩:=h1;⟨ob,e⟩,fun _ _ ⟨ob,e,c⟩ k=>⟨ob,k ob e,c⟩⟩
theorem qb{a:Addr}{o:HO}(I:L2.Inv X pins Z H s)(hn:H a=none)(h0:X.s₀.heap.get? a=none)(hL:a≠X.env.locals)(hc:∀ x c,X.env.cells.lookup x=some c->c≠a)(hp:∀ p∈X.pn++pins,p.1≠a)(ok:a_ X.prog X.w (upd H a o) s.heap a o):L2.Inv X pins Z (upd H a o) s:=by
 have ne:∀{b u},H b=some u->b≠a:=fun e z=>by rw[z,hn]at e;cases e
 have st:∀{b u},H b=some u->upd H a o b=some u:=fun e=>by rw[ag (ne e)];exact e
 refine⟨I.ok,I.os,I.bare,⟨I.base.keep,I.base.slot,fun b ob e n hx=>?_,I.base.there,fun b xs e=>st (I.base.tups b xs e),fun b ob u e=>st (I.base.frzs b ob u e),fun b ps e=>?_⟩,I.loc,I.cell,?_,fun x c e=>?_,fun p hp'=>?_,fun b u e=>?_,I.len⟩
 . rw[ag (fun z=>by rw[z,h0]at e;cases e)]
   exact I.base.free b ob e n hx
 . obtain⟨more,q⟩:=I.base.tbls b ps e
   exact⟨more,st q⟩
 . rw[ag hL.symm];exact I.free
 . rw[ag (hc x c e)];exact I.freeC x c e
 . obtain⟨e,n,ne',nf,d⟩:=I.pin p hp'
   exact⟨e,by rw[ag (hp p hp')];exact n,ne',nf,d⟩
 by_cases z:b=a
 . subst z
   rw[aa]at e;cases e;exact ok
 rw[ag z]at e;exact(I.hok b u e).stay (fun _ _ _ q=>q) (fun _ q=>st q) fun _ _ q=>st q
end
theorem rn{P:Program}{w:World}{H:Hp}{h:Heap}{a:Addr}{o:HO}(x:a_ P w H h a o):∃ ob,h.get? a=some ob:=by
 cases o with
 | lst xs=>obtain⟨z,its,n,r,e⟩:=x;exact⟨_,e⟩
 | tup xs=>obtain⟨z,its,r,ob,e,c⟩:=x;exact⟨_,e⟩
 | dK kvs=>obtain⟨z,y,vs,r,ob,es,ep,e,c⟩:=x;exact⟨_,e⟩
 | dT kvs=>obtain⟨z,y,xs,r,ob,es,ep,e,c⟩:=x;exact⟨_,e⟩
 | set S n=>obtain⟨ob,es,ep,t,e,c⟩:=x;exact⟨_,e⟩
 | ins C dx fs=>obtain⟨d,z,ne,e,r⟩:=x;exact⟨_,e⟩
 | own y=>obtain⟨ob,e⟩:=x;exact⟨_,e⟩
 | xd fs=>obtain⟨mA,⟨od,es,ep,e,c⟩,r⟩:=x;exact⟨_,e⟩
 | rng lo hi=>obtain⟨t,u,v,e⟩:=x;exact⟨_,e⟩
 | frz ob u=>obtain⟨e,q⟩:=x;exact⟨_,e⟩
 | tbl ps=>exact⟨_,(show h.get? a=some { cls:=.none,data:=.fields ps } from x)⟩
 | met f y=>exact⟨_,(show h.get? a=some (W.methodObj (.ref f) (.ref y))from x)⟩
 | ext φ=>obtain⟨p,⟨o,e⟩,st⟩:=x;exact⟨_,e⟩
theorem mP.new{P:Program}{w:World}{outer:List Env}{H H':Hp}{s s':Shared}{ea C t:Addr}{B:Heap}(L:mP P w outer H s s' ea C t B H'):s.heap.get? ea=none:=by
 cases e:s.heap.get? ea with
 | none=>rfl
 | some o=>
   exfalso
   by_cases hf:ea∈frs outer
   . obtain⟨sl,e1⟩:=L.slot ea o e hf
     obtain⟨o',e',nd⟩:=(L.fly.2.2.1.mem hf).2;obtain⟨oe,ws,hoe,hoec,hoed,hoe0⟩:=L.fly.first;rw[hoe]at e';cases e';exact nd _ hoed
   obtain⟨o',e'⟩:=L.there ea o e hf;rw[L.fly.2.1]at e';cases e'
theorem mP.untracked{P:Program}{w:World}{outer:List Env}{H H':Hp}{s s':Shared}{ea C t:Addr}{B:Heap}(L:mP P w outer H s s' ea C t B H'):H' ea=none:=by
 cases e:H' ea with
 | none=>rfl
 | some o=>
   obtain⟨ob,q⟩:=rn (L.hok ea o e);rw[L.fly.2.1]at q;cases q
def Cx.held(X:Cx)(ea:Addr):Cx:={ X with A:=X.A.mark (some (.ref ea)),calm:=false }
section
variable{X:Cx}{pins:List (Addr×Obj)}{Z:L2.St}{H:Hp}{s:Shared}
theorem ma(I:L2.Inv X pins Z H s)(ea:Addr):L2.Inv (Cx.held X ea) pins Z H s:=
 ⟨⟨I.ok.mod,I.ok.kind,I.ok.glob,I.ok.blt,I.ok.above,I.ok.inj,I.ok.has,I.ok.cab,(fun z=>by cases z),I.ok.frames,I.ok.stk,I.ok.exf,I.ok.bs,I.ok.bsz,I.ok.noex,I.ok.exfs,I.ok.funs,I.ok.frf⟩,I.os,I.bare,I.base,I.loc,I.cell,I.free,I.freeC,I.pin,I.hok,I.len⟩
theorem nG{ea:Addr}(hc:X.calm=true->X.A.handled=none)(I:L2.Inv (Cx.held X ea) pins Z H s):L2.Inv X pins Z H s:=
 ⟨⟨I.ok.mod,I.ok.kind,I.ok.glob,I.ok.blt,I.ok.above,I.ok.inj,I.ok.has,I.ok.cab,hc,I.ok.frames,I.ok.stk,I.ok.exf,I.ok.bs,I.ok.bsz,I.ok.noex,I.ok.exfs,I.ok.funs,I.ok.frf⟩,I.os,I.bare,I.base,I.loc,I.cell,I.free,I.freeC,I.pin,I.hok,I.len⟩
def m9(CX:CXT)(X:Cx)(pins:List (Addr×Obj))(Z:L2.St)(E:XK):Prop:=∀ H s e s',L2.Inv X pins Z H s->CX X.stack H s E e s'->X.xe e s'
end
section
variable{X:Cx}
def yR(K:W.Frag)(te:XK->TE)(CB:Addr)(i:Nat)(ts:TS):TS:=fun D Z H=>
 te (fun cls _ H'=>∃ C,cls=.ref C/\W.exmOne K (.ref C) (.ref CB)=some true /\ ∀ ea,H' ea=none->ts { nx:=fun Z2 H2=>D.nx (Z2.set i none) H2,rt:=fun _ _=>False } (Z.set i (some (.ref ea))) (upd H' ea (j_ ea C))) Z H (fun _ H1=>D.nx Z H1)
theorem xu{e0:Expr}{te:XK->TE}{cx n:Str}{CB:Addr}{i:Nat}{b₀:Stmt}{suite:List Stmt}{ts:TS}{bpos np hpos pos:Pos}
 (hex:X.ex=[]) (hstk:X.stack=X.env::X.outer) (hfr:X.env.frame=some X.env.locals) (hN:X.N.Nodup) (hi:X.N[i]?=some n) (hk:X.env.scope.names.lookup n=some .local)
 (hg:Gl X cx) (hm:X.mg cx=some (.ref CB)) (hd:(cx == ("__debug__":Str))=false)
 (hev:∀(xe':Value->Shared->Prop) (pins:List (Addr×Obj)) (Z:L2.St) (E:XK),m9 (CXr X.prog X.w) (X.wish xe') pins Z E -> ∀ s H Q,L2.Inv (X.wish xe') pins Z H s->te E Z H Q->wpAny (model X.prog X.w) X.A (eval e0 X.env) (EP (X.wish xe') pins Z Q) xe' s)
 (hsw:swapsWith e0 none bpos.line X.env=pure false)
 (hs:∀ ea,PSs (Cx.held X ea).nox (b₀ :: suite) ts) :
 PS X (.Try [.Expr e0 bpos] [.ExceptHandler (some (.Name cx np)) (some n) (b₀ :: suite) hpos] [] [] pos) (yR X.K te CB i ts):=by
 intro pins s Z H D I h;refine wpAny_Try_except ?_;refine wpAny_mono (wpAny_execs_cons (Q:=fun fl s'=>fl=.next /\ ∃ H',L2.Inv X pins Z H' s'/\D.nx Z H') ?_) (fun fl s1 ⟨e,H1,I1,q⟩=>?_) fun _ _ z=>z
 . refine thn (wpAny_Expr_any (Q:=fun fl s'=>fl=.next /\ ∃ H',L2.Inv X pins Z H' s'/\D.nx Z H') (thn (hev _ pins Z _ ?_ s H _ (I.wish _) h) fun v s1 ⟨x,H1,I1,r1,q1⟩=>⟨rfl,H1,I1.unwish,q1⟩) I.quiet hsw) fun fl s1 ⟨e,q⟩=>by
    subst e;exact wpAny_execs_nil ⟨rfl,q⟩
   intro H1 s1 e s' I1 hc;obtain⟨ea,C,t,B,H',rfl,L,C',eC,hsub,hsuite⟩:=hc;cases eC;have I1:=I1.unwish;have hst:X.stack=X.env::X.outer:=hstk;have L:mP X.prog X.w X.stack H1 s1 s' ea C t B H':=L;have fl:Heap.FlyingW B (X.env::X.outer) ea (.ref C) (.ref t) s'.heap:=by rw[← hst];exact L.fly
   have frm:X.A.frames=some (X.env::X.outer):=by rw[← hst];exact I1.ok.frames
   have back:∀{h6:Heap}{tk:Nat},B.StaysIn h6->s'.heap.UpToSlots h6->L2.Inv X pins Z H' { s' with heap:=h6,toks:=tk }:=fun {h6 tk} hB sm=>
    I1.call' (s':={ s' with heap:=h6,toks:=tk }) L.os (L.un hB sm) (L.hok.kept hB) L.bare fun b z=>absurd z (by simp)
   show wpAny _ _ (noteFrame (.ref ea) X.env) _ _ _;refine wpAny_looks_onW frm hfr fl fun h4 held4 sm4=>?_;refine wpAny_landsW held4 fun h5 fl5 sm5=>?_;have sm45:=sm4.trans sm5;have I5:=back (tk:=s'.toks) fl5.1 sm45;have I5h:=ma I5 ea;refine wpAny_handleBy_cons (codeAny_handlers_test (fw (X:=Cx.held X ea) I5h hg hm ?_ hd)) (by intro q;cases q)
   have LT:W.Looks (model X.prog X.w) h5 (typeOf (.ref ea)) (.ref C):=by
    obtain⟨ob,hob,hc⟩:=fl5.there;rw[← hc];exact(W.Looks.ld hob).andThen .now
   refine W.exm_one (K:=X.K) I5.kIn LT hsub _ _ _ _ (fun _ _ e=>e) ?_;refine codeAny_handlers_suite_as ?_;refine lands_againW fl5 fun h6 fl6 sm6=>?_;have I6:=back (tk:=s'.toks) fl6.1 (sm45.trans sm6);have new:=L.new;have I6t:L2.Inv X pins Z (upd H' ea (j_ ea C)) { s' with heap:=h6,toks:=s'.toks }:=by
    refine qb I6 L.untracked ?_ ?_ ?_ ?_ (vJ ?_)
    . cases e:X.s₀.heap.get? ea with
      | none=>rfl
      | some o=>
        obtain⟨o',e'⟩:=I1.base.there ea o e (by rw[hex];simp)
        rw[new]at e';cases e'
    . rintro rfl
      obtain⟨m,⟨oL,_,_,hoL,_⟩,_⟩:=I1.loc;rw[new]at hoL;cases hoL
    . rintro x c e rfl
      obtain⟨v,o,q,_⟩:=I1.cell x _ e;rw[new]at q;cases q
    . rintro p hp z
      have:=(I1.pin p hp).1;rw[z,new]at this;cases this
    exact fl6.there
   have I6h:=ma I6t ea;refine gC (X:=Cx.held X ea) (v:=.ref ea) I6h hN hi (.inl hk) rfl (fun s7 I7=>?_) (.inr hk);have hq:=hsuite ea L.untracked;refine wpAny_mono (hs ea pins s7 _ _ _ (I7.wish _) hq) (fun flw s8 q8=>?_) fun _ _ z=>False.elim z;cases flw with
   | next=>
     obtain⟨Z8,H8,I8,q⟩:=q8;have I8:L2.Inv X pins Z8 H8 s8:=nG (fun z=>I1.ok.hd z) (L2.Inv.unwish I8);exact qB I8 hN hi hk fun s9 I9=>⟨_,H8,I9,q⟩
   | brk=>obtain⟨_,_,_,q⟩:=q8;exact q.elim
   | cont=>obtain⟨_,_,_,q⟩:=q8;exact q.elim
   | ret u=>obtain⟨_,_,_,_,_,q⟩:=q8;exact q.elim
 subst e;exact wpAny_execs_nil ⟨Z,H1,I1,q⟩
end
end SW
set_option maxHeartbeats 2000000
namespace SW
open PySem PySem.Spec PyProof.Rows L2 PySem.Builtin PySem.Builtin.ObjectAttr PySem.Builtin.Getset_descriptor
theorem o6:builtinKind "BaseException.__getattribute__"=some .slot:=by decide +kernel
theorem rg:splitId "BaseException.__getattribute__"=some ("BaseException","__getattribute__"):=by decide +kernel
theorem u_(self:Value):bindSpecial (.builtin "BaseException.__getattribute__") self=pure (.builtin "BaseException.__getattribute__",[self]):=by
 have hop:withoutEnding? "BaseException.__getattribute__" "#opaque"=none:=by decide +kernel
 have hdat:withoutEnding? "BaseException.__getattribute__" "#data"=none:=by decide +kernel
 simp only[bindSpecial,typeOf,builtinType,hop,hdat,o6];rfl
theorem tL:plainId "BaseException.__getattribute__"=true:=by decide +kernel
theorem rh:entryFor table "BaseException.__getattribute__"=some Builtin.«object.__getattribute__»:=
 entryFor_alias (id':="object.__getattribute__") (by kernel_rfl) (by first | rfl | decide +kernel) (by decide +kernel) (by kernel_rfl)
section
variable{M:Model}{prog:Program}{w:World}{A:Around}{E:Value->Shared->Prop}{s:Shared}{K:W.Frag}{x C:Addr}
theorem qZ{Q:Unit->Shared->Prop}{n:Str}{tk:Tok}(hI:W.Looks M s.heap (isInstance (.ref x) (.type "BaseException")) true)(hQ:Q () s):wpAny M A (checkBuiltinCall "BaseException.__getattribute__" ⟨[.ref x,.str n tk],[]⟩) Q E s:=by
 simp only[checkBuiltinCall,o6,rg];refine wpAny_bind (hI.at ?_);simp only[Bool.not_true,Bool.false_eq_true,if_false];have h2:∀ a b:Value,(match Manifest.signature? "BaseException.__getattribute__" with
  | some sig=>Bind.checkArgs "BaseException.__getattribute__" sig { pos:=[a,b] }
  | _=>pure ())=(pure ():Sem Unit):=fun a b=>by
  kernel_rfl
 exact wpAny_of_eq (h2 _ _) hQ
theorem pG(X:K.In s.heap)(ha:W.findIn K (.ref C) "__class__"=some (some (.builtin "object.__class__")))(hn:W.specialIn K (.builtin "object.__class__") "__get__"=some (some (.builtin "getset_descriptor.__get__")))(htk:W.takesIn K (.builtin "object.__class__")=some true) :
 W.Looks M s.heap (find (.ref x) (.ref C) "__class__") (.bind (.builtin "getset_descriptor.__get__") (.builtin "object.__class__")):=by
 have L1:=W.looks_findIn (M:=M) X ha;have L2:W.Looks M s.heap (getOf (some (.builtin "object.__class__"))) (some (.builtin "getset_descriptor.__get__")):=W.looks_specialIn X hn;refine L1.andThen (L2.andThen ?_);have L3:=W.looks_takesIn (M:=M) X htk;exact(show W.Looks M s.heap (dataDescriptor? (some (.builtin "object.__class__")) (some (.builtin "getset_descriptor.__get__"))) (some (.builtin "getset_descriptor.__get__",.builtin "object.__class__"))from L3.andThen .now).andThen (W.Looks.tag .now)
structure sQ(K:W.Frag)(C:Addr):Prop where
 ga:W.findIn K (.ref C) "__getattribute__"=some (some (.builtin "BaseException.__getattribute__"))
 gh:W.findIn K (.ref C) "__getattr__"=some none
 ha:W.findIn K (.ref C) "__class__"=some (some (.builtin "object.__class__"))
 hn:W.specialIn K (.builtin "object.__class__") "__get__"=some (some (.builtin "getset_descriptor.__get__"))
 htk:W.takesIn K (.builtin "object.__class__")=some true
 hm:W.mroIn K C (.type "object")=some true
 hb:W.mroIn K C (.type "BaseException")=some true
theorem ur{R:Result->Shared->Prop}{tp:Value}(X:K.In s.heap)(k:sQ K C)(L0:W.Looks (model prog w) s.heap (typeOf (.ref x)) (.ref C))
 (h:R (.ok (.ret (.ref C))) s):codeAny (model prog w) A (.call (.builtin "getset_descriptor.__get__") ⟨[.builtin "object.__class__",.ref x,tp],[]⟩) R s:=by
 obtain⟨hh,g,dr,t,os⟩:=s;have L1:=W.looks_mroIn (M:=model prog w) X k.hm;refine codeAny_call_builtin W.KF.slot_gs.plain W.KF.entry_gs (W.KF.slot_gs.check _ _ _ _ _ _ _ _ W.KF.type_class (W.KF.args_gs _ _ _) ?_);unfold Builtin.«getset_descriptor.__get__» descrGet;rw[W.dga_obj];refine wpAny_bind (wpAny_pure ?_);unfold descrGetter descrCheckInstance descrNameAndClass isInstance;simp only[W.KF.owner_class]
 repeat lk
 refine⟨Code.quiet_builtin _ (by decide +kernel),codeAny_builtin W.KF.entry_class ?_⟩
 unfold Builtin.«object.__class__» shownTypeOf
 repeat lk
 exact h
theorem qq{tk:Tok}{Q:Fin->Shared->Prop}(X:K.In s.heap)(k:sQ K C)(L0:W.Looks (model prog w) s.heap (typeOf (.ref x)) (.ref C))(h:Q (.done (.ret (.ref C))) s) :
 wpAny (model prog w) A (Builtin.«object.__getattribute__» ⟨[.ref x,.str "__class__" tk],[]⟩) Q E s:=by
 obtain⟨hh,g,dr,t,os⟩:=s;have LF:=pG (M:=model prog w) (x:=x) X k.ha k.hn k.htk;unfold Builtin.«object.__getattribute__»
 repeat (first | with_reducible refine wpAny_call (ur (s:=⟨hh,g,dr,t,os⟩) X k L0 ?_) | lk)
 exact h
theorem sj{Q:Option Value->Shared->Prop}(X:K.In s.heap)(k:sQ K C)(L0:W.Looks (model prog w) s.heap (typeOf (.ref x)) (.ref C))(h:Q (some (.ref C)) { s with toks:=s.toks+1 }) :
 wpAny (model prog w) A (getAttr? (.ref x) "__class__") Q E s:=by
 obtain⟨hh,g,d,t,os⟩:=s;have L1:=W.looks_findIn (M:=model prog w) X k.ga;have L2:=W.looks_findIn (M:=model prog w) X k.gh;unfold getAttr? getAttrBy? getAttrBy;refine wpAny_bind (wpAny_mkText (wpAny_bind (wpAny_attempt (wpAny_holding (wpAny_bind (L0.at (wpAny_bind (L1.at ?_))))))));show wpAny _ _ (getAttrByItsOwn _ _ _ _ _ _) _ _ _;unfold getAttrByItsOwn hookBefore callGetattribute;refine wpAny_bind (L2.at (wpAny_bind (wpAny_attempt (wpAny_holding ?_))));show wpAny _ _ (boundAndCalled _ _ _) _ _ _;unfold boundAndCalled;refine wpAny_bind (wpAny_of_eq (u_ _) ?_);refine wpAny_call (codeAny_call_builtin tL rh (qZ (s:=⟨hh,g,d,t+1,os⟩) ?_ (qq (s:=⟨hh,g,d,t+1,os⟩) X k L0 ?_)))
 . exact L0.andThen (W.looks_mroIn X k.hb)
 exact W.handed_on rfl (wpAny_pure h)
end
section
variable{K:W.Frag}{x C:Addr}
abbrev sq(x C:Addr):Heap->Prop:=fun h=>∃ ob,h.get? x=some ob/\ob.cls=.ref C
theorem ou{M:Model}{h:Heap}(p:sq x C h):W.Looks M h (typeOf (.ref x)) (.ref C):=by
 obtain⟨ob,e,c⟩:=p;rw[← c];exact(W.Looks.ld e).andThen .now
theorem mr(k:sQ K C)(hc:(W.clsIn K C).isSome=true):W.KitX K (.ref x) (.ref C) (sq x C) where
 ty:=fun _ _ _ p=>ou p
 it:=fun _ _ X _=>by
  obtain⟨cdD,hcD⟩:=Option.isSome_iff_exists.mp hc;unfold W.clsIn at hcD;split at hcD
  . rename_i c' d' cd' sl' ho
    intro A' Q' E' s' k q;unfold isType loadHead;exact wpAny_bind (wpAny_loadPart (k _ _ (X _ _ ho)) (wpAny_pure q))
  cases hcD
 ne:=fun h tp dd its n sl X htp=>by
  obtain⟨cdD,hcD⟩:=Option.isSome_iff_exists.mp hc;refine Bool.eq_false_iff.mpr fun q=>?_;have e:C=tp:=Value.ref.inj (beq_iff_eq.mp q);subst e;unfold W.clsIn at hcD;split at hcD
  . rename_i c' d' cd' sl' ho
    have z:=(X _ _ ho).symm.trans htp;cases z
  cases hcD
 ca:=fun X p q=>sj X k (ou p) q
structure AB(K:W.Frag)(C:Addr):Prop where
 k:sQ K C
 c:(W.clsIn K C).isSome=true
def AG:V->Option Value
 | .ref a=>some (.ref a)
 | .ty n=>some (.type n)
 | _=>none
theorem t0{v:V}{u c:Value}(h:AG v=some c)(r:aI v u):u=c:=by
 cases v with
 | ref y=>cases h;exact r
 | ty y=>cases h;exact r
 | _=>cases h
theorem pd:∀{Cs:List Addr}{us:List Value},aC (Cs.map V.ref) us->us=Cs.map Value.ref
 | [],_,.nil=>rfl
 | _::_,_,.cons r t=>by rw[pd t,show _=_ from r];rfl
def zZ(K:W.Frag):List V->Hp->VK->Prop:=fun xs H Q=>∃(ea C:Addr) (v:V) (b:Bool),xs=[.ref ea,v]/\H ea=some (j_ ea C)/\AB K C /\
 ((∃ c,AG v=some c/\W.kitOne K (.ref C) c=some b) ∨ ∃(tp:Addr) (Cs:List Addr),v=.ref tp/\H tp=some (.tup (Cs.map V.ref))/\W.kitAny K (.ref C) (Cs.map Value.ref)=some b)/\Q (.bl b) H
theorem gW(K:W.Frag){X:Cx}(hK:X.K=K:=by rfl):bP X (.builtin "isinstance") (zZ K):=by
 subst hK;intro pins s Z H xs us Q I r h;obtain⟨ea,C,v,b,rfl,he,k,e,q⟩:=h;obtain⟨u,v',rfl,ru,rv⟩:=l7 r;cases (show u=Value.ref ea from ru);obtain⟨p,_⟩:=(show a_ X.prog X.w H s.heap ea (j_ ea C)from I.hok ea _ he);rcases e with ⟨c,hc,e⟩ | ⟨tp,Cs,rfl,ht,e⟩
 . cases t0 hc rv
   exact W.kia_one (mr k.k k.c) I.kIn p e (fun z=>nomatch z) fun tk=>⟨.bl b,H,I.tok tk,rfl,q⟩
 cases (show v'=Value.ref tp from rv);obtain⟨_,its,rt,o,h1,h2,h3⟩:=(show a_ X.prog X.w H s.heap tp (.tup (Cs.map V.ref))from I.hok tp _ ht);have ei:=pd rt;subst ei;obtain⟨n,h3⟩:=h3;obtain⟨cl,dd,dat,sl⟩:=o;cases (show cl=Value.type "tuple" from h2);cases (show dat=Data.seq (Cs.map Value.ref).toArray n from h3);exact W.kia_tup (mr k.k k.c) I.kIn p h1 e (fun z=>nomatch z) fun tk=>⟨.bl b,H,I.tok tk,rfl,q⟩
end
end SW
set_option maxHeartbeats 2000000
namespace SW
open PySem PySem.Spec PyProof.Rows L2
structure FnX(P:Program)(w:World)(K:W.Frag)(mg:Str->Option Value)(base:Heap)(x:Str)(k:Nat)(ps:List Str)(sp:Sp):Prop where
 ex:∃(f:Addr) (fd:FuncData),c7 P w K mg base (CXr P w) k f fd ps sp/\mg x=some (.ref f)/\W.keepIn K (.ref f)=true/\bY K fd ps []
section
variable{P:Program}{w:World}{K:W.Frag}{mg:Str->Option Value}{base:Heap}
theorem uF{x qual:Str}{st:Stmt}{f:Addr}{fd:FuncData}{N ps:List Str}{k:Nat}{sp:Sp}(F:Fun K x qual st f fd)(S:ak N ps (ah st))(len:∀ vs H Q E,sp vs H Q E->vs.length=ps.length)
 (hbody:∀(cdv:Value) (A:Around) (outer:List Env) (s:Shared) (H:Hp) (vs:List V) (Q:VK) (E:XK),bF k (A.deeper (envOfC qual (ah st) s.heap.objs.size f cdv))->sp vs H Q E ->
  ∃ t,Bx (PSs (dC (CXr P w) P w K mg base N qual (ah st) f cdv A outer s H E) (bA st) t)/\t { nx:=fun _ H'=>Q .non H',rt:=Q } (c6 N vs) H):c7 P w K mg base (CXr P w) (k+1) f fd ps sp:=by
 obtain⟨oc,od,kV,doc,pm,an,cdv,ct,osl,rfl,lk,hcd⟩:=F.ex;refine wG lk hcd S len fun A outer s H vs Q E hr hsp=>?_;obtain⟨t,h,q⟩:=hbody cdv A outer s H vs Q E hr hsp;exact⟨t,h.out,q⟩
theorem Dfn.fnX{x:Str}{st:Stmt}{N ps:List Str}{k:Nat}{sp:Sp}(d:Dfn K mg x st ps)(S:ak N ps (ah st))(len:∀ vs H Q E,sp vs H Q E->vs.length=ps.length)
 (hbody:∀(f:Addr) (cdv:Value) (A:Around) (outer:List Env) (s:Shared) (H:Hp) (vs:List V) (Q:VK) (E:XK),bF k (A.deeper (envOfC x (ah st) s.heap.objs.size f cdv))->sp vs H Q E ->
  ∃ t,Bx (PSs (dC (CXr P w) P w K mg base N x (ah st) f cdv A outer s H E) (bA st) t)/\t { nx:=fun _ H'=>Q .non H',rt:=Q } (c6 N vs) H):FnX P w K mg base x (k+1) ps sp:=by
 obtain⟨f,fd,F,hm,hb⟩:=d.ex;exact⟨f,fd,uF F S len (hbody f),hm,F.kp,hb⟩
structure zR(K:W.Frag)(mg:Str->Option Value)(x:Str)(C:Addr):Prop where
 m:mg x=some (.ref C)
 o:Ar K C
namespace B
theorem raise{N:List Str}{qual:Str}{scope:Scope}{f:Addr}{cd:Value}{A:Around}{outer:List Env}{s₀:Shared}{H₀:Hp}{E:XK}{x msg:Str}{kk}{C:Addr}{np p1 cpos pos:Pos}(h:zR K mg x C)(hg:Gl (dC (CXr P w) P w K mg base N qual scope f cd A outer s₀ H₀ E) x:=by rfl)(hd:(x == ("__debug__":Str))=false:=by decide) :
 Bx (PS (dC (CXr P w) P w K mg base N qual scope f cd A outer s₀ H₀ E) (.Raise (some (.Call (.Name x np) [.Constant (.str msg) kk p1] [] cpos)) none pos) (tD E C)):=⟨sT h.m h.o hg hd⟩
end B
end
section
variable{X:Cx}{CX:CXT}{k:Nat}{f C:Addr}{fd:FuncData}{ps:List Str}{sp:Sp}{dvs:List V}{ds:List Value}{E:XK}{x m:Str}{p pos apos:Pos}{e o:Expr}{es:List Expr}{ta:TE}{t:TA}{pins:List (Addr×Obj)}{Z:L2.St}
theorem uI{H:Hp}{s:Shared}{Q:VK}{us:List Value}{vs:List V}(F:c7 X.prog X.w X.K X.mg X.base CX k f fd ps sp)(hr:bF k X.A)(hb:bY X.K fd ps ds)(hd:aC dvs ds)(hx:m9 CX X pins Z E)
 (I:L2.Inv X pins Z H s) (r:aC vs us) (h:sp (vs++dvs) H Q E):wpAny (model X.prog X.w) X.A (call (.ref f) us) (EP X pins Z Q) X.xe s:=by
 have r2:aC (vs++dvs) (us++ds):=r.append hd;have hl:(us++ds).length=ps.length:=by rw[← r2.length];exact F.len _ _ _ _ h
 refine wpAny_call (codeAny_mono (F.run X.A X.stack s H ⟨us,[]⟩ (us++ds) (vs++dvs) Q E hr I.env0 (hb s us I.kIn hl) r2 h) fun r s' hq=>?_);cases r with
 | error e=>exact hx H s e s' I hq
 | ok fl=>
   cases fl with
   | ret u=>exact I.after hq
   | next=>exact False.elim hq
   | brk=>exact False.elim hq
   | cont=>exact False.elim hq
theorem uR{H:Hp}{s:Shared}{Q:VK}(F:c7 X.prog X.w X.K X.mg X.base CX k f fd ps sp)(hr:bF k X.A)(hg:Gl X x)(hm:X.mg x=some (.ref f))(hk:W.keepIn X.K (.ref f)=true)(hb:bY X.K fd ps ds)(hd:aC dvs ds)(hx:m9 CX X pins Z E)
 (ha:PA X (e::es) t) (I:L2.Inv X pins Z H s) (h:hV sp dvs E t Z H Q) (hdb:(x == ("__debug__":Str))=false) (he:starEach (e::es) X.env=(false,eval e X.env)::starEach es X.env) (hpl:(backTo pos (starEach es X.env)).any (·.1)=false) :
 wpAny (model X.prog X.w) X.A (eval (.Call (.Name x p) (e::es) [] pos) X.env) (EP X pins Z Q) X.xe s:=by
 refine wpAny_Call_Name_kw (fw I hg hm ?_ hdb);refine W.callWith_K (h₀:=X.base) I.ok.mod.kin hk (thn (ha pos pins s Z H _ I h) fun us s1 ⟨vs,H1,I1,r,q⟩=>⟨I1.kIn,?_⟩) he hpl;exact uI F hr hb hd hx I1 r q
end
section
variable{X:Cx}{k:Nat}{C:Addr}{ps:List Str}{sp:Sp}{x m:Str}{p cpos apos:Pos}{e o:Expr}{es:List Expr}{ta:TE}{t:TA}{cx n:Str}{CB:Addr}{i:Nat}{b₀:Stmt}{suite:List Stmt}{ts:TS}{bpos np hpos pos:Pos}
namespace B
theorem tryF(F:FnX X.prog X.w X.K X.mg X.base x k ps sp)(hr:bF k X.A)(ha:∀ xe',Bx (PA (X.wish xe') (e::es) t))(hm:X.mg cx=some (.ref CB))(hN:X.N.Nodup)
 (hs:∀ ea,Bx (PSs (Cx.held X ea).nox (b₀ :: suite) ts)) (hi:X.N[i]?=some n:=by rfl) (hk:X.env.scope.names.lookup n=some .local:=by rfl) (hex:X.ex=[]:=by rfl) (hstk:X.stack=X.env::X.outer:=by rfl) (hfr:X.env.frame=some X.env.locals:=by rfl) (hg:Gl X cx:=by rfl) (hgx:Gl X x:=by rfl) (hd:(cx == ("__debug__":Str))=false:=by decide) (hdb:(x == ("__debug__":Str))=false:=by decide)
 (hsw:swapsWith (.Call (.Name x p) (e::es) [] cpos) none bpos.line X.env=pure false:=by rfl) (h1:aQ e=true:=by rfl) (h2:es.all aQ=true:=by rfl) :
 Bx (PS X (.Try [.Expr (.Call (.Name x p) (e::es) [] cpos) bpos] [.ExceptHandler (some (.Name cx np)) (some n) (b₀ :: suite) hpos] [] [] pos) (yR X.K (fun E=>hV sp [] E t) CB i ts)):=by
 obtain⟨f,fd,G,hmt,hkp,b⟩:=F.ex;refine⟨xu hex hstk hfr hN hi hk hg hm hd (fun xe' pins Z E hx s H Q I h=>?_) hsw fun ea=>(hs ea).out⟩;exact uR (X:=X.wish xe') G hr hgx hmt hkp b .nil hx (ha xe').out I h hdb (b7 h1) (cS h2)
end B
end
section
variable{K:W.Frag}{P:Addr}(hP:K.lookup P=some (W.tabObj #[]))
include hP
end
section
variable{P:Program}{w:World}{K:W.Frag}{mg:Str->Option Value}{base:Heap}
end
section
variable{X:Cx}{k:Nat}{f:Addr}{fd:FuncData}{ps:List Str}{sp:Sp}{x:Str}{p pos:Pos}{e:Expr}{es:List Expr}{t:TA}
end
section
variable{P:Program}{w:World}{K:W.Frag}{mg:Str->Option Value}{base:Heap}
end
section
variable{X:Cx}{k:Nat}{C:Addr}{ps:List Str}{sp:Sp}{x m:Str}{p cpos apos:Pos}{e o c:Expr}{es:List Expr}{ta:TE}{t:TA}{bpos pos:Pos}{b1 b2:List Stmt}{t1 t2:XK->(Hp->Prop)->L2.St->Hp->Prop}{tc:TT}
end
section
variable{X:Cx}
end
section
variable{X:Cx}
end
end SW
namespace K
open PySem PySem.Spec PyProof.Rows L2 SW
end K
namespace SW
open PySem PySem.Spec PyProof.Rows L2
theorem wVarA{Z:L2.St}{H:Hp}{Q:VK}{v:V}{i:Nat}(h:Q v H)(e:Z[i]?=some (some v):=by with_unfolding_all exact rfl):gx i Z H Q:=⟨v,e,h⟩
theorem wModA{H:Hp}{Q:VK}{g:Int->Int->V}{i j:Int}(h:Q (g i j) H)(c:0 < j:=by with_unfolding_all omega):rI (fun _ j=>0 < j) g (.int i) (.int j) H Q:=AN c h
theorem wDivLA{H:Hp}{Q:VK}{g:Int->Int->V}{i j:Int}(h:Q (g i j) H)(c:0 < j/\j < 18446744073709551616:=by with_unfolding_all omega):rI uf g (.int i) (.int j) H Q:=zG c h
theorem wMulA{H:Hp}{Q:VK}{g:Int->Int->V}{i j:Int}(h:Q (g i j) H)(c:(-18446744073709551616 < i/\i < 18446744073709551616)∨(-18446744073709551616 < j/\j < 18446744073709551616):=by with_unfolding_all omega):rI rJ g (.int i) (.int j) H Q:=BN c h
theorem wPowA{H:Hp}{Q:VK}{g:Int->Int->V}{i j:Int}(h:Q (g i j) H)(c:0<=j/\j<=1000000/\i.natAbs < 2 ^ 64:=by with_unfolding_all decide):rI yB g (.int i) (.int j) H Q:=Ck c h
theorem wIxLA{K:W.Frag}{H:Hp}{Q:VK}{v:V}{p:Addr}{xs:List V}{i:Int}(h:Q v H)(e:H p=some (.lst xs):=by first | with_reducible assumption | exact aa)(a:atI xs i=some v:=by with_unfolding_all exact rfl):fA K (.ref p) (.int i) H Q:=ce e a h
theorem wIxTA{K:W.Frag}{H:Hp}{Q:VK}{v:V}{p:Addr}{xs:List V}{i:Int}(h:Q v H)(e:H p=some (.tup xs):=by first | with_reducible assumption | exact aa)(a:atI xs i=some v:=by with_unfolding_all exact rfl):fe K (.ref p) (.int i) H Q:=nO e a h
theorem wSetLA{H:Hp}{v:V}{p:Addr}{xs:List V}{i:Int}{j:Nat}{Q:Hp->Prop}(h:Q (upd H p (.lst (xs.set j v))))(e:H p=some (.lst xs):=by first | with_reducible assumption | exact aa)(hj:ixN xs.length i=some j:=by with_unfolding_all exact rfl):dk (.ref p) (.int i) v H Q:=wr e hj h
theorem wGoA{N N':L2.St->Hp->Prop}{Z:L2.St}{H:Hp}(h:N' Z H)(e:N=N':=by with_reducible assumption):N Z H:=wGo e h
end SW
namespace K
noncomputable section
open PySem PySem.Spec PyProof.Rows L2 SW
local macro_rules | `(tactic| walk_at "W0")=>do
 let h ← `(?_)
 let l ← `(fun _ _=>?_)
 let t ← ("wCons wNil wVarA".splitOn " ").foldrM (fun r t=>do
  let b ← `(tactic| with_reducible refine $(Lean.mkIdent (Lean.Name.mkStr `SW r)) $(if r == "wSeqC" || r == "wCut" then l else h))
  if r == "wIxLA" then `(tactic| first | (with_reducible show fA _ (V.ref _) (V.int _) _ _;$b:tactic) | $t:tactic)else if r == "wIxTA" then `(tactic| first | (with_reducible show fe _ (V.ref _) (V.int _) _ _;$b:tactic) | $t:tactic)else if r == "wSetLA" then `(tactic| first | (with_reducible show dk (V.ref _) (V.int _) _ _ _;$b:tactic) | $t:tactic)else `(tactic| first | $b:tactic | $t:tactic)) (← `(tactic| fail))
 `(tactic| repeat $t:tactic)
local macro_rules | `(tactic| walk_at "W1")=>do
 let h ← `(?_)
 let l ← `(fun _ _=>?_)
 let t ← ("wC wName wGoA".splitOn " ").foldrM (fun r t=>do
  let b ← `(tactic| with_reducible refine $(Lean.mkIdent (Lean.Name.mkStr `SW r)) $(if r == "wSeqC" || r == "wCut" then l else h))
  if r == "wIxLA" then `(tactic| first | (with_reducible show fA _ (V.ref _) (V.int _) _ _;$b:tactic) | $t:tactic)else if r == "wIxTA" then `(tactic| first | (with_reducible show fe _ (V.ref _) (V.int _) _ _;$b:tactic) | $t:tactic)else if r == "wSetLA" then `(tactic| first | (with_reducible show dk (V.ref _) (V.int _) _ _ _;$b:tactic) | $t:tactic)else `(tactic| first | $b:tactic | $t:tactic)) (← `(tactic| fail))
 `(tactic| repeat $t:tactic)
local macro_rules | `(tactic| walk_at "W2")=>do
 let h ← `(?_)
 let l ← `(fun _ _=>?_)
 let t ← ("wSeqC wCut wAsg wName wOp wC wVarA wIfS wTest wB wBl wNot wNil wCons wTup wCall wCB wRet wDrop wNext wOr wComp wRng1 wSl wNoPart wPart wFor wIList wLst wI0 wUn wU wAnd wAndV wNotV wPowA wGoA".splitOn " ").foldrM (fun r t=>do
  let b ← `(tactic| with_reducible refine $(Lean.mkIdent (Lean.Name.mkStr `SW r)) $(if r == "wSeqC" || r == "wCut" then l else h))
  if r == "wIxLA" then `(tactic| first | (with_reducible show fA _ (V.ref _) (V.int _) _ _;$b:tactic) | $t:tactic)else if r == "wIxTA" then `(tactic| first | (with_reducible show fe _ (V.ref _) (V.int _) _ _;$b:tactic) | $t:tactic)else if r == "wSetLA" then `(tactic| first | (with_reducible show dk (V.ref _) (V.int _) _ _ _;$b:tactic) | $t:tactic)else `(tactic| first | $b:tactic | $t:tactic)) (← `(tactic| fail))
 `(tactic| repeat $t:tactic)
local macro_rules | `(tactic| walk_at "S")=>do
 let h ← `(?_)
 let l ← `(fun _ _=>?_)
 let t ← ("wOrA wEnumT wPairs wPairs0 wGoA".splitOn " ").foldrM (fun r t=>do
  let b ← `(tactic| with_reducible refine $(Lean.mkIdent (Lean.Name.mkStr `SW r)) $(if r == "wSeqC" || r == "wCut" then l else h))
  if r == "wIxLA" then `(tactic| first | (with_reducible show fA _ (V.ref _) (V.int _) _ _;$b:tactic) | $t:tactic)else if r == "wIxTA" then `(tactic| first | (with_reducible show fe _ (V.ref _) (V.int _) _ _;$b:tactic) | $t:tactic)else if r == "wSetLA" then `(tactic| first | (with_reducible show dk (V.ref _) (V.int _) _ _ _;$b:tactic) | $t:tactic)else `(tactic| first | $b:tactic | $t:tactic)) (← `(tactic| fail))
 return t
local macro_rules | `(tactic| walk_at "S")=>do
 let h ← `(?_)
 let l ← `(fun _ _=>?_)
 let t ← ("wNoPart wPart wITup wDIn wU wCompN wDGet wDNotIn".splitOn " ").foldrM (fun r t=>do
  let b ← `(tactic| with_reducible refine $(Lean.mkIdent (Lean.Name.mkStr `SW r)) $(if r == "wSeqC" || r == "wCut" then l else h))
  if r == "wIxLA" then `(tactic| first | (with_reducible show fA _ (V.ref _) (V.int _) _ _;$b:tactic) | $t:tactic)else if r == "wIxTA" then `(tactic| first | (with_reducible show fe _ (V.ref _) (V.int _) _ _;$b:tactic) | $t:tactic)else if r == "wSetLA" then `(tactic| first | (with_reducible show dk (V.ref _) (V.int _) _ _ _;$b:tactic) | $t:tactic)else `(tactic| first | $b:tactic | $t:tactic)) (← `(tactic| fail))
 return t
local macro_rules | `(tactic| walk_at "S")=>do
 let h ← `(?_)
 let l ← `(fun _ _=>?_)
 let t ← ("wMake wIf wDGet1 wItems wDPut wFAug wCompSet wSl".splitOn " ").foldrM (fun r t=>do
  let b ← `(tactic| with_reducible refine $(Lean.mkIdent (Lean.Name.mkStr `SW r)) $(if r == "wSeqC" || r == "wCut" then l else h))
  if r == "wIxLA" then `(tactic| first | (with_reducible show fA _ (V.ref _) (V.int _) _ _;$b:tactic) | $t:tactic)else if r == "wIxTA" then `(tactic| first | (with_reducible show fe _ (V.ref _) (V.int _) _ _;$b:tactic) | $t:tactic)else if r == "wSetLA" then `(tactic| first | (with_reducible show dk (V.ref _) (V.int _) _ _ _;$b:tactic) | $t:tactic)else `(tactic| first | $b:tactic | $t:tactic)) (← `(tactic| fail))
 return t
local macro_rules | `(tactic| walk_at "S")=>do
 let h ← `(?_)
 let l ← `(fun _ _=>?_)
 let t ← ("wOr wChain wComp wInt1 wUn wFld wSFld wMeth".splitOn " ").foldrM (fun r t=>do
  let b ← `(tactic| with_reducible refine $(Lean.mkIdent (Lean.Name.mkStr `SW r)) $(if r == "wSeqC" || r == "wCut" then l else h))
  if r == "wIxLA" then `(tactic| first | (with_reducible show fA _ (V.ref _) (V.int _) _ _;$b:tactic) | $t:tactic)else if r == "wIxTA" then `(tactic| first | (with_reducible show fe _ (V.ref _) (V.int _) _ _;$b:tactic) | $t:tactic)else if r == "wSetLA" then `(tactic| first | (with_reducible show dk (V.ref _) (V.int _) _ _ _;$b:tactic) | $t:tactic)else `(tactic| first | $b:tactic | $t:tactic)) (← `(tactic| fail))
 return t
local macro_rules | `(tactic| walk_at "S")=>do
 let h ← `(?_)
 let l ← `(fun _ _=>?_)
 let t ← ("wRet wRetN wDrop wNext wFor wIList wRng1 wAnd".splitOn " ").foldrM (fun r t=>do
  let b ← `(tactic| with_reducible refine $(Lean.mkIdent (Lean.Name.mkStr `SW r)) $(if r == "wSeqC" || r == "wCut" then l else h))
  if r == "wIxLA" then `(tactic| first | (with_reducible show fA _ (V.ref _) (V.int _) _ _;$b:tactic) | $t:tactic)else if r == "wIxTA" then `(tactic| first | (with_reducible show fe _ (V.ref _) (V.int _) _ _;$b:tactic) | $t:tactic)else if r == "wSetLA" then `(tactic| first | (with_reducible show dk (V.ref _) (V.int _) _ _ _;$b:tactic) | $t:tactic)else `(tactic| first | $b:tactic | $t:tactic)) (← `(tactic| fail))
 return t
local macro_rules | `(tactic| walk_at "S")=>do
 let h ← `(?_)
 let l ← `(fun _ _=>?_)
 let t ← ("wSub wSetLA wNil wCons wLst wTup wCall wCB".splitOn " ").foldrM (fun r t=>do
  let b ← `(tactic| with_reducible refine $(Lean.mkIdent (Lean.Name.mkStr `SW r)) $(if r == "wSeqC" || r == "wCut" then l else h))
  if r == "wIxLA" then `(tactic| first | (with_reducible show fA _ (V.ref _) (V.int _) _ _;$b:tactic) | $t:tactic)else if r == "wIxTA" then `(tactic| first | (with_reducible show fe _ (V.ref _) (V.int _) _ _;$b:tactic) | $t:tactic)else if r == "wSetLA" then `(tactic| first | (with_reducible show dk (V.ref _) (V.int _) _ _ _;$b:tactic) | $t:tactic)else `(tactic| first | $b:tactic | $t:tactic)) (← `(tactic| fail))
 return t
local macro_rules | `(tactic| walk_at "S")=>do
 let h ← `(?_)
 let l ← `(fun _ _=>?_)
 let t ← ("wB wNot wNotV wAndV wOrV wBl wIxLA wIxTA".splitOn " ").foldrM (fun r t=>do
  let b ← `(tactic| with_reducible refine $(Lean.mkIdent (Lean.Name.mkStr `SW r)) $(if r == "wSeqC" || r == "wCut" then l else h))
  if r == "wIxLA" then `(tactic| first | (with_reducible show fA _ (V.ref _) (V.int _) _ _;$b:tactic) | $t:tactic)else if r == "wIxTA" then `(tactic| first | (with_reducible show fe _ (V.ref _) (V.int _) _ _;$b:tactic) | $t:tactic)else if r == "wSetLA" then `(tactic| first | (with_reducible show dk (V.ref _) (V.int _) _ _ _;$b:tactic) | $t:tactic)else `(tactic| first | $b:tactic | $t:tactic)) (← `(tactic| fail))
 return t
local macro_rules | `(tactic| walk_at "S")=>do
 let h ← `(?_)
 let l ← `(fun _ _=>?_)
 let t ← ("wModA wDivLA wMulA wPowA wEqI wNeI wIfS wTest".splitOn " ").foldrM (fun r t=>do
  let b ← `(tactic| with_reducible refine $(Lean.mkIdent (Lean.Name.mkStr `SW r)) $(if r == "wSeqC" || r == "wCut" then l else h))
  if r == "wIxLA" then `(tactic| first | (with_reducible show fA _ (V.ref _) (V.int _) _ _;$b:tactic) | $t:tactic)else if r == "wIxTA" then `(tactic| first | (with_reducible show fe _ (V.ref _) (V.int _) _ _;$b:tactic) | $t:tactic)else if r == "wSetLA" then `(tactic| first | (with_reducible show dk (V.ref _) (V.int _) _ _ _;$b:tactic) | $t:tactic)else `(tactic| first | $b:tactic | $t:tactic)) (← `(tactic| fail))
 return t
local macro_rules | `(tactic| walk_at "S")=>do
 let h ← `(?_)
 let l ← `(fun _ _=>?_)
 let t ← ("wSeqC wCut wAsg wName wOp wC wVarA wI0".splitOn " ").foldrM (fun r t=>do
  let b ← `(tactic| with_reducible refine $(Lean.mkIdent (Lean.Name.mkStr `SW r)) $(if r == "wSeqC" || r == "wCut" then l else h))
  if r == "wIxLA" then `(tactic| first | (with_reducible show fA _ (V.ref _) (V.int _) _ _;$b:tactic) | $t:tactic)else if r == "wIxTA" then `(tactic| first | (with_reducible show fe _ (V.ref _) (V.int _) _ _;$b:tactic) | $t:tactic)else if r == "wSetLA" then `(tactic| first | (with_reducible show dk (V.ref _) (V.int _) _ _ _;$b:tactic) | $t:tactic)else `(tactic| first | $b:tactic | $t:tactic)) (← `(tactic| fail))
 return t
local macro_rules | `(tactic| walk_at "W")=>`(tactic| repeat walk_at "S")
def top(i:Nat):Stmt:=PySem.Challenge.pw_slowshift_k39_tables_of_states.main.body.getD i (.Pass ⟨0,0,0,0⟩)
abbrev CH:Stmt:=(top 0)
theorem C0:ak ["k"] ["k"] (ah CH):=SW.fs
abbrev xI:Stmt:=(top 10)
theorem Aa:ak ["thing"] ["thing"] (ah xI):=SW.fs
abbrev vm:Stmt:=(top 11)
theorem Bf:ak ["thing"] ["thing"] (ah vm):=SW.fs
abbrev yw:Stmt:=(top 12)
theorem AK:ak ["thing"] ["thing"] (ah yw):=SW.fs
abbrev yT:Stmt:=(top 13)
theorem AH:ak ["thing"] ["thing"] (ah yT):=SW.fs
abbrev yx:Stmt:=(top 16)
theorem AC:ak ["key","mixer"] ["key","mixer"] (ah yx):=SW.fs
abbrev yH:Stmt:=(top 17)
theorem zX:ak ["mark","size"] ["mark","size"] (ah yH):=SW.fs
abbrev z0_:Stmt:=(aN (top 19) 0)
theorem Cf:ak ["self","size","mixer"] ["self","size","mixer"] (ah z0_):=SW.fs
abbrev z7_:Stmt:=(aN (top 19) 1)
theorem y_:ak ["self","key","worth","row","before"] ["self","key","worth"] (ah z7_):=SW.fs
abbrev z2_:Stmt:=(aN (top 19) 2)
theorem C2:ak ["self","key"] ["self","key"] (ah z2_):=SW.fs
abbrev z4_:Stmt:=(aN (top 19) 3)
theorem B1:ak ["self","key"] ["self","key"] (ah z4_):=SW.fs
abbrev z8_:Stmt:=(aN (top 19) 4)
theorem CC:ak ["self","place"] ["self","place"] (ah z8_):=SW.fs
abbrev z3_:Stmt:=(aN (top 19) 5)
theorem Av:ak ["self","place","told"] ["self","place"] (ah z3_):=SW.fs
abbrev zj:Stmt:=(aN (top 19) 6)
theorem BH:ak ["self"] ["self"] (ah zj):=SW.fs
abbrev z5_:Stmt:=(aN (top 19) 7)
theorem BM:ak ["self"] ["self"] (ah z5_):=SW.fs
abbrev z6_:Stmt:=(aN (top 19) 8)
theorem Bo:ak ["self","key"] ["self","key"] (ah z6_):=SW.fs
abbrev z9_:Stmt:=(aN (top 19) 9)
theorem Cw:ak ["self","key"] ["self","key"] (ah z9_):=SW.fs
abbrev z1_:Stmt:=(aN (top 19) 10)
theorem BC:ak ["self","place"] ["self","place"] (ah z1_):=SW.fs
abbrev yL:Stmt:=(aN (top 22) 0)
theorem Bg:ak ["self","mixer","pace","state","laid"] ["self","mixer","pace","state"] (ah yL):=SW.fs
abbrev CD:Stmt:=(aN (top 22) 1)
theorem C1:ak ["self","key","worth","told"] ["self","key","worth"] (ah CD):=SW.fs
abbrev Bn:Stmt:=(aN (top 22) 2)
theorem C3:ak ["self","key"] ["self","key"] (ah Bn):=SW.fs
abbrev wW:Stmt:=(aN (top 22) 3)
theorem AZ:ak ["self","key","told"] ["self","key"] (ah wW):=SW.fs
abbrev xN:Stmt:=(aN (top 22) 4)
theorem A_:ak ["self","elder"] ["self"] (ah xN):=SW.fs
abbrev xc:Stmt:=(aN (top 22) 5)
theorem CG:ak ["self"] ["self"] (ah xc):=SW.fs
abbrev xT:Stmt:=(aN (top 22) 6)
theorem B6:ak ["self"] ["self"] (ah xT):=SW.fs
abbrev xq:Stmt:=(aN (top 22) 7)
theorem Cz:ak ["self"] ["self"] (ah xq):=SW.fs
abbrev xn:Stmt:=(aN (top 22) 8)
theorem Bz:ak ["self"] ["self"] (ah xn):=SW.fs
abbrev xf:Stmt:=(aN (top 22) 9)
theorem qQ:ak ["self","key","due","reached","place","asked_elder"] ["self","key"] (ah xf):=SW.fs
abbrev xS:Stmt:=(aN (top 22) 10)
theorem CF:ak ["self"] ["self"] (ah xS):=SW.fs
abbrev xQ:Stmt:=(aN (top 22) 11)
theorem vk:ak ["self","place","pairs","key","worth"] ["self","place"] (ah xQ):=SW.fs
abbrev yA:Stmt:=(aN (top 22) 12)
theorem CJ:ak ["self"] ["self"] (ah yA):=SW.fs
abbrev wM:Stmt:=(aN (top 22) 13)
theorem BX:ak ["self","key"] ["self","key"] (ah wM):=SW.fs
abbrev xj:Stmt:=(aN (top 22) 14)
theorem BQ:ak ["self","key"] ["self","key"] (ah xj):=SW.fs
abbrev y7:Stmt:=(aN (top 22) 15)
theorem As:ak ["self","size"] ["self"] (ah y7):=SW.fs
abbrev xa:Stmt:=(aN (top 22) 16)
theorem Be:ak ["self","size"] ["self"] (ah xa):=SW.fs
abbrev xg:Stmt:=(top 23)
theorem mS:ak ["rows","mixer","shelf","row","key","worth"] ["rows","mixer"] (ah xg):=SW.fs
abbrev yk:Stmt:=(top 24)
theorem zW:ak ["shelf"] ["shelf"] (ah yk):=SW.fs
abbrev wO:Stmt:=(top 26)
theorem Co:ak ["state","mixer"] ["state","mixer"] (ah wO):=SW.fs
abbrev yv:Stmt:=(top 27)
theorem AF:ak ["elder","newer"] ["elder","newer"] (ah yv):=SW.fs
abbrev yh:Stmt:=(top 28)
theorem Ag:ak ["elder","moved"] ["elder","moved"] (ah yh):=SW.fs
abbrev xF:Stmt:=(top 29)
theorem nE:ak ["state","mixer","sizes","moved","had","shelf","place","key"] ["state","mixer"] (ah xF):=SW.fs
abbrev yD:Stmt:=(top 30)
theorem kq:ak ["state","told","shelf","rows","place","row"] ["state"] (ah yD):=SW.fs
abbrev yU:Stmt:=(top 31)
theorem zD:ak ["state","mixer"] ["state","mixer"] (ah yU):=SW.fs
abbrev yW:Stmt:=(top 32)
theorem zB:ak ["thing"] ["thing"] (ah yW):=SW.fs
abbrev yY:Stmt:=(top 33)
theorem BZ:ak ["thing"] ["thing"] (ah yY):=SW.fs
abbrev zu:Stmt:=(top 34)
theorem Ba:ak ["thing"] ["thing"] (ah zu):=SW.fs
abbrev yl:Stmt:=(top 35)
theorem Ay:ak ["thing"] ["thing"] (ah yl):=SW.fs
abbrev uw:Stmt:=(top 36)
theorem wL:ak ["state","mixer","pace"] ["state","mixer","pace"] (ah uw):=SW.fs
abbrev xD:Stmt:=(top 38)
theorem ue:ak ["cell","low"] ["cell"] (ah xD):=SW.fs
abbrev xv:Stmt:=(top 39)
theorem wc:ak ["row","many","got"] ["row","many"] (ah xv):=SW.fs
abbrev yG:Stmt:=(top 40)
theorem wI:ak ["row","some"] ["row"] (ah yG):=SW.fs
abbrev yC:Stmt:=(top 41)
theorem wd:ak ["row","some"] ["row"] (ah yC):=SW.fs
abbrev yg:Stmt:=(top 42)
theorem zF:ak ["row"] ["row"] (ah yg):=SW.fs
abbrev Cp:Stmt:=(top 43)
theorem CW:ak ["row","keys"] ["row","keys"] (ah Cp):=SW.fs
abbrev wZ:Stmt:=(top 44)
theorem dJ:ak ["row","mixer","size","other","moved","rows","seen","k","key","mark","at","shelves"] ["row","mixer"] (ah wZ):=SW.fs
abbrev ye:Stmt:=(top 45)
theorem pA:ak ["name","rows","moved","mixer","seen","place","key","worth"] ["name","rows","moved","mixer","seen"] (ah ye):=SW.fs
abbrev xp:Stmt:=(top 46)
theorem gs:ak ["state","mixer","elder","moved","newer","sizes","seen","found"] ["state","mixer"] (ah xp):=SW.fs
abbrev yZ:Stmt:=(top 47)
theorem ia:ak ["row","rows","at","to","kind","some","pair","others"] ["row","rows"] (ah yZ):=SW.fs
abbrev y8:Stmt:=(top 48)
theorem ml:ak ["row","state","elder","moved","newer","kind"] ["row","state"] (ah y8):=SW.fs
abbrev xG:Stmt:=(top 49)
theorem AV:ak ["thing","least"] ["thing","least"] (ah xG):=SW.fs
abbrev xy:Stmt:=(top 50)
theorem qV:ak ["rows","row","pair"] ["rows"] (ah xy):=SW.fs
abbrev yc:Stmt:=(top 51)
theorem oT:ak ["thing","mixer","elder","moved","newer"] ["thing","mixer"] (ah yc):=SW.fs
abbrev xZ:Stmt:=(top 52)
theorem mH:ak ["row","pair","key","worth","some"] ["row","pair"] (ah xZ):=SW.fs
abbrev vK:Stmt:=(top 53)
theorem mO:ak ["row","rows","at","kind","pair"] ["row","rows"] (ah vK):=SW.fs
abbrev zo:Stmt:=(top 54)
theorem mD:ak ["row","state","elder","moved","newer","kind"] ["row","state"] (ah zo):=SW.fs
abbrev xB:Stmt:=(top 55)
theorem oH:ak ["state","mixer","pace","caught","e"] ["state","mixer","pace"] (ah xB):=SW.fs
abbrev xt:Stmt:=(top 56)
theorem eX:ak ["state","mixer","pace","table","pairs","rows","one","sizes","some","key","worth"] ["state","mixer","pace"] (ah xt):=SW.fs
abbrev yq:Stmt:=(top 57)
theorem rq:ak ["state","rows","one"] ["state"] (ah yq):=SW.fs
abbrev qd:Stmt:=(top 58)
theorem dh:ak ["script","four","thing","many","cell","row","mixer","pace","state","k"] ["script"] (ah qd):=SW.fs
structure Gs(K:W.Frag)(mg:Str->Option Value)(C CT CE CP CZ CR CV:Addr):Prop where
 c_MARKS:∃ t,mg "MARKS"=some (.int 65536 t)
 c_GREATEST:∃ t,mg "GREATEST"=some (.int 1000000000 t)
 c_SIZES:∃ a,mg "SIZES"=some (.ref a) /\ ∀ H,SqT K H a [.int 4,.int 8,.int 16,.int 32,.int 64,.int 128,.int 256,.int 512,.int 1024,.int 2048,.int 4096]
 c_EMPTY:∃ a b,mg "EMPTY"=some (.ref a)/\(∀ H,SqT K H a [.non,.int 0,.ref b]) /\ ∀ H,ik K H b [[],[],[],[]]
 cl_Shelf:Cls K C
 n_Shelf_mixer:bu K C "mixer"
 n_Shelf_rows:bu K C "rows"
 n_Shelf_held:bu K C "held"
 cl_Table:Cls K CT
 n_Table_mixer:bu K CT "mixer"
 n_Table_pace:bu K CT "pace"
 n_Table_elder:bu K CT "elder"
 n_Table_moved:bu K CT "moved"
 n_Table_newer:bu K CT "newer"
 n_Table_touches:bu K CT "touches"
 b_int:mg "int"=none
 b_bool:mg "bool"=none
 b_isinstance:mg "isinstance"=none
 b_range:mg "range"=none
 b_len:mg "len"=none
 b_list:mg "list"=none
 b_tuple:mg "tuple"=none
 b_sum:mg "sum"=none
 b_min:mg "min"=none
 b_max:mg "max"=none
 b_set:mg "set"=none
 b_enumerate:mg "enumerate"=none
 b_all:mg "all"=none
 b_dict:mg "dict"=none
 b_ValueError:mg "ValueError"=none
 m_SlowError:mg "SlowError"=some (.ref CE)
 m_NoPlace:mg "NoPlace"=some (.ref CP)
 m_NoSize:mg "NoSize"=some (.ref CZ)
 m_NoRow:mg "NoRow"=some (.ref CR)
 m_NoState:mg "NoState"=some (.ref CV)
 e_NoState:SW.zR K mg "NoState" CV
 x_NoState:SW.AB K CV
 s_NoState:W.exmOne K (.ref CV) (.ref CE)=some true
 v_NoState:W.kitOne K (.ref CV) (.type "ValueError")=some true
 o_NoState:W.kitAny K (.ref CV) [.ref CP,.ref CR,.ref CZ]=some false
theorem jh{A:Around}{k:Nat}(hr:bF k A):A.units < cLine:=Nat.lt_of_le_of_lt (Nat.le_add_right _ 1) (dW hr)
section
variable{P:Program}{w:World}{K:W.Frag}{mg:Str->Option Value}{base:Heap}{C CT CE CP CZ CR CV:Addr}
theorem CQ(d:Dfn K mg "mark_of" yx ["key","mixer"])(g:Gs K mg C CT CE CP CZ CR CV):Fn P w K mg base "mark_of" 1 ["key","mixer"] lw:=by
 refine d.fn AC (fun vs H Q E h=>?_) (fun f cdv A outer s H vs Q E hr h=>?_)
 . obtain⟨k,t,f,m,rfl,_⟩:=h
   rfl
 obtain⟨k,t,f,m,rfl,ht,hf,q⟩:=h;refine⟨_,(B.sone (B.ret (B.op cD (B.op bv (B.op b9 (B.v 0) (B.ix av (B.v 1) B.int)) (B.ix av (B.v 1) B.int)) (B.gint g.c_MARKS)))),?_⟩;walk_at "W";exact q
theorem CK(d:Dfn K mg "place_of" yH ["mark","size"]):Fn P w K mg base "place_of" 1 ["mark","size"] iF:=by
 refine d.fn zX (fun vs H Q E h=>?_) (fun f cdv A outer s H vs Q E hr h=>?_)
 . obtain⟨k,t,rfl,_⟩:=h
   rfl
 obtain⟨m,z,rfl,hz,q⟩:=h;refine⟨_,(B.sone (B.ret (B.op cD (B.v 0) (B.v 1)))),?_⟩;walk_at "W";exact q
theorem Ci(d:Dfn K mg "_law_stream" xD ["cell"])(g:Gs K mg C CT CE CP CZ CR CV):Fn P w K mg base "_law_stream" 1 ["cell"] iS:=by
 refine d.fn ue (fun vs H Q E h=>?_) (fun f cdv A outer s H vs Q E hr h=>?_)
 . obtain⟨c,rfl,_⟩:=h
   rfl
 obtain⟨c,rfl,k⟩:=h;refine⟨_,(B.scons (B.set 1 ue.nd (B.op cD (B.v 0) B.int))
  (B.scons (B.set 1 ue.nd (B.op cD (B.op bv (B.op b9 (B.op cD (B.op b9 (B.v 1) (B.v 1)) B.int) (B.op bv (B.v 1) B.int)) B.int) B.int))
  (B.sone (B.ret (B.lst (B.cons (B.v 0) (B.cons (B.v 1) (B.cons (B.cT pW g.b_int SW.b_int (B.cons (B.cmp wy (B.v 0) (B.op cG B.int B.int)) B.nil)) B.nil)))))))),?_⟩
 walk_at "W";refine⟨by show(3:Nat)<=sizeLine;decide,fun p hp=>k p _ hp ⟨_,_,_,aa,?_,?_⟩⟩
 . exact Int.emod_nonneg _ (by decide)
 exact Int.emod_lt_of_pos _ (by decide)
theorem Br(d:Dfn K mg "_law_take" xv ["row","many"]):Fn P w K mg base "_law_take" 1 ["row","many"] cH:=by
 refine d.fn wc (fun vs H Q E h=>?_) (fun f cdv A outer s H vs Q E hr h=>?_)
 . obtain⟨p,m,rfl,_⟩:=h
   rfl
 obtain⟨p,m,rfl,hm0,hm1,⟨a,b,c,hp,hb0,hb1⟩,k⟩:=h;refine⟨_,(B.scons (B.ifs (B.tcmp cz (B.ix ay (B.v 0) B.int) B.int) (B.scons (B.set 2 wc.nd (B.op cD (B.ix ay (B.v 0) B.int) (B.v 1)))
  (B.scons (B.asg (B.op fk (B.ix ay (B.v 0) B.int) (B.v 1)) (B.gsub (B.v 0) B.int jK))
  (B.sone (B.ret (B.v 2))))) B.snil)
  (B.scons (B.asg (B.op cD (B.op b9 (B.op bv (B.ix ay (B.v 0) B.int) B.int) (B.op bv (B.ix ay (B.v 0) B.int) B.int)) B.int) (B.gsub (B.v 0) B.int jK))
  (B.sone (B.ret (B.op cD (B.op fk (B.op bv (B.op b9 (B.ix ay (B.v 0) B.int) B.int) B.int) B.int) (B.v 1)))))),?_⟩
 walk_at "W";refine fb (fun _=>?_) (fun _=>?_)
 . walk_at "W"
   exact k _ _ (Int.emod_nonneg _ (by omega)) (Int.emod_lt_of_pos _ hm0) ⟨_,_,_,aa,hb0,hb1⟩
 walk_at "W";exact k _ _ (Int.emod_nonneg _ (by omega)) (Int.emod_lt_of_pos _ hm0) ⟨_,_,_,aa,Int.emod_nonneg _ (by decide),Int.emod_lt_of_pos _ (by decide)⟩
theorem B0(d:Dfn K mg "_law_key" yC ["row"])(q40_:Fn P w K mg base "_law_take" 1 ["row","many"] cH):Fn P w K mg base "_law_key" 2 ["row"] pq:=by
 refine d.fn wd (fun vs H Q E h=>?_) (fun f cdv A outer s H vs Q E hr h=>?_)
 . obtain⟨p,rfl,_⟩:=h
   rfl
 obtain⟨p,rfl,hp,k⟩:=h;refine⟨_,(B.scons (B.set 1 wd.nd (B.lst (B.cons (B.fn q40_ hr.up (B.cons (B.v 0) (B.cons B.int B.nil))) (B.cons (B.fn q40_ hr.up (B.cons (B.v 0) (B.cons B.int B.nil))) (B.cons (B.op b9 B.int (B.fn q40_ hr.up (B.cons (B.v 0) (B.cons B.int B.nil)))) (B.cons (B.fn q40_ hr.up (B.cons (B.v 0) (B.cons (B.op bv (B.op cG B.int B.int) B.int) B.nil))) (B.cons (B.op cG B.int B.int) B.nil)))))))
  (B.sone (B.ret (B.ix ay (B.v 1) (B.fn q40_ hr.up (B.cons (B.v 0) (B.cons B.int B.nil))))))),?_⟩
 walk_at "W";refine bi hp (by decide) (by decide) fun r1 H1 a1 b1 R1 K1=>?_
 walk_at "W";refine bi R1 (by decide) (by decide) fun r2 H2 a2 b2 R2 K2=>?_
 walk_at "W";refine bi R2 (by decide) (by decide) fun r3 H3 a3 b3 R3 K3=>?_
 walk_at "W";refine bi R3 (by decide) (by decide) fun r4 H4 a4 b4 R4 K4=>?_
 have e9:(10:Int) ^ (Int.toNat 9)=1000000000:=by decide
 walk_at "W";refine⟨by show(5:Nat)<=sizeLine;decide,fun q hq=>?_⟩
 walk_at "W";refine bi (R4.new hq) (by decide) (by decide) fun r5 H5 a5 b5 R5 K5=>?_
 have e5:=K5 q _ (R4.ne0 hq).symm aa;obtain⟨v,hv,hm⟩:=cb (xs:=[V.int r1,V.int r2,V.int (65536*r3),V.int r4,V.int (10 ^ 9)]) a5 b5;refine ce e5 hv ?_;obtain⟨z,rfl,z0,z1⟩:∃ z,v=V.int z/\0<=z/\z<=1000000000:=by
  simp only[List.mem_cons,List.not_mem_nil,or_false]at hm;rcases hm with rfl | rfl | rfl | rfl | rfl
  . exact⟨_,rfl,by omega,by omega⟩
  . exact⟨_,rfl,by omega,by omega⟩
  . exact⟨_,rfl,by omega,by omega⟩
  . exact⟨_,rfl,by omega,by omega⟩
  exact⟨_,rfl,by decide,by decide⟩
 exact k z H5 z0 z1 R5 (((K1.trans K2).trans (K3.trans K4)).trans ((al.new hq).trans K5))
theorem BJ(d:Dfn K mg "_law_mixer" yG ["row"])(q40_:Fn P w K mg base "_law_take" 1 ["row","many"] cH):Fn P w K mg base "_law_mixer" 2 ["row"] lV:=by
 refine d.fn wI (fun vs H Q E h=>?_) (fun f cdv A outer s H vs Q E hr h=>?_)
 . obtain⟨p,rfl,_⟩:=h
   rfl
 obtain⟨p,rfl,hp,k⟩:=h;refine⟨_,(B.scons (B.set 1 wI.nd (B.lst (B.cons (B.tup (B.cons B.int (B.cons B.int B.nil))) (B.cons (B.tup (B.cons B.int (B.cons B.int B.nil))) (B.cons (B.tup (B.cons B.int (B.cons B.int B.nil))) (B.cons (B.tup (B.cons B.int (B.cons B.int B.nil))) (B.cons (B.tup (B.cons B.int (B.cons B.int B.nil))) (B.cons (B.tup (B.cons B.int (B.cons B.int B.nil))) (B.cons (B.tup (B.cons B.int (B.cons B.int B.nil))) (B.cons (B.tup (B.cons B.int (B.cons B.int B.nil))) B.nil))))))))))
  (B.scons (B.expr (B.m PySem.F.plainAttrs_list PySem.F.slot_list_append PySem.F.type_list_append cE (B.v 1) (B.cons (B.tup (B.cons (B.fn q40_ hr.up (B.cons (B.v 0) (B.cons B.int B.nil))) (B.cons (B.fn q40_ hr.up (B.cons (B.v 0) (B.cons B.int B.nil))) B.nil))) B.nil)))
  (B.sone (B.ret (B.ix ay (B.v 1) (B.fn q40_ hr.up (B.cons (B.v 0) (B.cons B.int B.nil)))))))),?_⟩
 have two:(2:Nat)<=sizeLine:=by decide
 walk_at "W";refine⟨two,fun t1 h1=>?_⟩;have M1:=(ir.nil).new t1 1 0 h1 (by decide)
 have R1:=hp.new (o:=.tup [.int 1,.int 0]) h1;have S1:=(ac.new (o:=.tup [.int 1,.int 0]) h1);walk_at "W";refine⟨two,fun t2 h2=>?_⟩;have M2:=(M1).new t2 0 0 h2 (by decide)
 have R2:=R1.new (o:=.tup [.int 0,.int 0]) h2;have S2:=S1.trans (ac.new (o:=.tup [.int 0,.int 0]) h2);walk_at "W";refine⟨two,fun t3 h3=>?_⟩;have M3:=(M2).new t3 0 65535 h3 (by decide)
 have R3:=R2.new (o:=.tup [.int 0,.int 65535]) h3;have S3:=S2.trans (ac.new (o:=.tup [.int 0,.int 65535]) h3);walk_at "W";refine⟨two,fun t4 h4=>?_⟩;have M4:=(M3).new t4 40503 7 h4 (by decide)
 have R4:=R3.new (o:=.tup [.int 40503,.int 7]) h4;have S4:=S3.trans (ac.new (o:=.tup [.int 40503,.int 7]) h4);walk_at "W";refine⟨two,fun t5 h5=>?_⟩;have M5:=(M4).new t5 65535 1 h5 (by decide)
 have R5:=R4.new (o:=.tup [.int 65535,.int 1]) h5;have S5:=S4.trans (ac.new (o:=.tup [.int 65535,.int 1]) h5);walk_at "W";refine⟨two,fun t6 h6=>?_⟩;have M6:=(M5).new t6 2 0 h6 (by decide)
 have R6:=R5.new (o:=.tup [.int 2,.int 0]) h6;have S6:=S5.trans (ac.new (o:=.tup [.int 2,.int 0]) h6);walk_at "W";refine⟨two,fun t7 h7=>?_⟩;have M7:=(M6).new t7 4096 3 h7 (by decide)
 have R7:=R6.new (o:=.tup [.int 4096,.int 3]) h7;have S7:=S6.trans (ac.new (o:=.tup [.int 4096,.int 3]) h7);walk_at "W";refine⟨two,fun t8 h8=>?_⟩;have M8:=(M7).new t8 32768 65535 h8 (by decide)
 have R8:=R7.new (o:=.tup [.int 32768,.int 65535]) h8;have S8:=S7.trans (ac.new (o:=.tup [.int 32768,.int 65535]) h8);walk_at "W";refine⟨by show(8:Nat)<=sizeLine;decide,fun q hq=>?_⟩
 have q0:H q=none:=S8.free hq;have nqp:q≠p:=(R8.ne0 hq).symm;have M9:=M8.map fun _ z=>z.same (ac.new (o:=.lst [.ref t1,.ref t2,.ref t3,.ref t4,.ref t5,.ref t6,.ref t7,.ref t8]) hq);have R9:=R8.new (o:=.lst [.ref t1,.ref t2,.ref t3,.ref t4,.ref t5,.ref t6,.ref t7,.ref t8]) hq;have K9:al p H _:=SW.ac.but (S8.trans (ac.new (o:=.lst [.ref t1,.ref t2,.ref t3,.ref t4,.ref t5,.ref t6,.ref t7,.ref t8]) hq));walk_at "W";refine wBM ?_;walk_at "W";refine⟨.inl ⟨rfl,_,SqL.of aa⟩,?_⟩;walk_at "W";refine bi R9 (by decide) (by decide) fun r1 H10 a1 b1 R10 K10=>?_
 have q10:=K10 q _ nqp aa;have M10:=M9.map fun _ z=>z.keep R9 K10;walk_at "W";refine bi R10 (by decide) (by decide) fun r2 H11 a2 b2 R11 K11=>?_
 have q11:=K11 q _ nqp q10;have M11:=M10.map fun _ z=>z.keep R10 K11;walk_at "W";refine⟨two,fun t9 h9=>?_⟩;have M12:=M11.new t9 r1 r2 h9 (by omega)
 have q12:=ac.new (o:=.tup [.int r1,.int r2]) h9 _ _ q11;walk_at "W";refine⟨q,_,_,rfl,rfl,q12,by show(8:Nat) < sizeLine;decide,?_⟩
 have M13:=M12.map fun _ z=>z.upd (o:=.lst ([.ref t1,.ref t2,.ref t3,.ref t4,.ref t5,.ref t6,.ref t7,.ref t8]++[.ref t9])) q12;have R13:=(R11.new (o:=.tup [.int r1,.int r2]) h9).upd (o:=.lst ([.ref t1,.ref t2,.ref t3,.ref t4,.ref t5,.ref t6,.ref t7,.ref t8]++[.ref t9])) nqp.symm;have K13:=(((K9.trans K10).trans K11).trans (al.new (o:=.tup [.int r1,.int r2]) h9)).upd (o:=.lst ([.ref t1,.ref t2,.ref t3,.ref t4,.ref t5,.ref t6,.ref t7,.ref t8]++[.ref t9])) q0;walk_at "W";refine bi R13 (by decide) (by decide) fun r H14 a b R14 K14=>?_
 have q14:=K14 q _ nqp aa;obtain⟨v,hv,hm⟩:=cb (xs:=[V.ref t1,V.ref t2,V.ref t3,V.ref t4,V.ref t5,V.ref t6,V.ref t7,V.ref t8]++[V.ref t9]) a b;refine ce q14 hv ?_;obtain⟨t,rfl,m⟩:=M13 v hm;exact k t H14 (m.keep R13 K14) R14 (K13.trans K14)
theorem AE(d:Dk K mg C "Shelf" "Shelf.__init__" z0_ ["self","size","mixer"])(g:Gs K mg C CT CE CP CZ CR CV)(q13_:Fn P w K mg base "is_size" 2 ["thing"] so):Mkr P w K mg base C "Shelf" 3 ["self","size","mixer"] (gc C):=by
 refine d.mk' Cf (fun vs H Q E h=>?_) (fun f cdv A outer s H vs Q E hr h=>?_)
 . obtain⟨x,t,dx,n,f,m,rfl,_⟩:=h
   rfl
 obtain⟨x,t,dx,n,f,m,rfl,hx,ht,bf,hn,q⟩:=h;have bn:=hn.bounds;refine⟨_,(B.scons (B.ifs (B.tnot (B.tval (B.fn q13_ hr.up (B.cons (B.v 1) B.nil)))) (B.sone B.never) B.snil)
  (B.scons (B.sfld (B.v 0) (B.v 2))
  (B.scons (B.sfld (B.v 0) (SW.B.comp [] ["place"] (SW.ax.of rfl rfl (by decide +kernel) (by decide +kernel) rfl trivial rfl rfl rfl) (by decide +kernel) (B.irange g.b_range (B.cons (B.v 1) B.nil)) (fun _ _ _ _=>B.dnew)))
  (B.sone (B.sfld (B.v 0) B.int))))),?_⟩
 walk_at "W";refine⟨n,rfl,hn,?_⟩;walk_at "W";refine ao ?_;walk_at "W";refine SW.eG hx g.cl_Shelf g.n_Shelf_mixer (by show 0 < 1000;decide) ?_
 walk_at "W";refine⟨n,rfl,by omega,by omega,fun D hD=>?_⟩
 have nxt:x≠t:=aA hx ht (by intro z;cases z)
 have hD0:H D=none:=by
  by_cases e:D=x
  . subst e;rw[aa]at hD;cases hD
  rw[ag e]at hD;exact hD
 have nxD:x≠D:=ai hx hD0;refine cQ (fun i Z' H'=>∃(ds:List Addr) (v:Option V),Z'=[v]/\ds.length=i/\H' D=some (.lst (ds.map V.ref))/\ds.Nodup/\(∀ y∈ds,H' y=some (.dK [])/\H y=none/\y≠D)/\H' x=some (.ins C dx (aV "mixer" (.ref t) [])) /\ ∀ b o,b≠x->H b=some o->H' b=some o)
  ?_ ?_ ?_
 . exact⟨[],none,rfl,rfl,aa,List.nodup_nil,fun y hy=>(List.not_mem_nil hy).elim,by rw[ag nxD,aa],fun b o nb e=>by rw[ag (ai e hD0),ag nb];exact e⟩
 . rintro i Z' H' hi ⟨ds,v,rfl,hl,h1,nd,h2,h3,h4⟩
   intro y hy;have nyD:D≠y:=ai h1 hy;have nin:y∉ds:=fun z=>by
    have:=(h2 y z).1;rw[hy]at this;cases this
   have hy0:H y=none:=by
    by_cases e:y=x
    . subst e;rw[h3]at hy;cases hy
    cases e2:H y with
    | none=>rfl
    | some o=>rw[h4 y o e e2]at hy;cases hy
   refine CN.mk hi (ys:=ds.map V.ref) (by rw[ag nyD];exact h1) (by rw[List.length_map];exact Nat.lt_of_le_of_lt (show ds.length<=4096 by omega) (by decide)) ⟨ds++[y],_,rfl,by rw[List.length_append,hl];rfl,?_,eu nd nin,?_,?_,?_⟩
   . rw[aa,List.map_append];rfl
   . intro z hz
     rcases List.mem_append.mp hz with hz | hz
     . obtain⟨a1,a2,a3⟩:=h2 z hz
       refine⟨?_,a2,a3⟩;rw[ag a3,ag (fun e:z=y=>nin (e ▸ hz))];exact a1
     rw[List.mem_singleton.mp hz];exact⟨by rw[ag nyD.symm,aa],hy0,nyD.symm⟩
   . rw[ag nxD,ag (ai h3 hy)];exact h3
   intro b o nb e;rw[ag (ai e hD0),ag (ai (h4 b o nb e) hy)];exact h4 b o nb e
 rintro Z' H' ⟨ds,v,rfl,hl,h1,nd,h2,h3,h4⟩;walk_at "W";refine SW.eG h3 g.cl_Shelf g.n_Shelf_rows (by show 1 < 1000;decide) ?_
 walk_at "W";refine⟨x,C,dx,_,rfl,aa,g.cl_Shelf,g.n_Shelf_held,?_,?_⟩
 . have e1:=cY "rows" (V.ref D) (aV "mixer" (V.ref t) [])
   have e2:=cY "mixer" (V.ref t) [];have e3:([]:List (Str×V)).length=0:=rfl;omega
 have up:∀ b o o1 o2,b≠x->H' b=some o->upd (upd H' x o1) x o2 b=some o:=fun b o o1 o2 nb e=>by rw[ag nb,ag nb];exact e
 refine q _ (fun b=>b=x∨b=D∨b∈ds) ⟨t,D,ds,⟨⟨dx,?_⟩,up _ _ _ _ nxt.symm (h4 _ _ nxt.symm ht),bf,up _ _ _ _ nxD.symm h1,by rw[hl,List.length_replicate];rfl,nd,?_,?_,?_,?_⟩,fun b=>Iff.rfl⟩ ?_ ?_
 . rw[aa,jE,ol];rfl
 . intro i y r e1 e2
   have hm:=List.mem_of_getElem? e1;have er:r=[]:=List.eq_of_mem_replicate (List.mem_of_getElem? e2);subst er;obtain⟨a1,a2,a3⟩:=h2 y hm;exact up _ _ _ _ (fun e=>by rw[e,hx]at a2;cases a2) a1
 . intro r hr
   rw[List.eq_of_mem_replicate hr];exact List.nodup_nil
 . rw[List.length_replicate];omega
 . rw[List.length_replicate];omega
 . intro b hb
   rcases hb with rfl | rfl | hb
   . exact .inl rfl
   . exact .inr hD0
   exact .inr (h2 b hb).2.1
 intro b o nb e;exact up _ _ _ _ nb (h4 b o nb e)
theorem Aw(d:Dm K C "place_with" "Shelf.place_with" z6_ ["self","key"])(g:Gs K mg C CT CE CP CZ CR CV)(q44_:Fn P w K mg base "mark_of" 1 ["key","mixer"] lw)(q55_:Fn P w K mg base "place_of" 1 ["mark","size"] iF):Mt P w K mg base C "place_with" 2 ["self","key"] (dX C):=by
 refine d.mt Bo (fun vs H Q E h=>?_) (fun f cdv A outer s H vs Q E hr h=>?_)
 . obtain⟨p,k,f,m,R,F,rfl,_⟩:=h
   rfl
 obtain⟨p,k,f,m,R,F,rfl,⟨t,L,ds,X,hF⟩,q⟩:=h;obtain⟨dx,hp⟩:=X.ob;have hb:=X.pos;refine⟨_,(B.sone (B.ret (B.fn q55_ hr.up (B.cons (B.fn q44_ hr.up (B.cons (B.v 1) (B.cons (B.fld (B.v 0)) B.nil))) (B.cons (B.cB aj g.b_len SW.b_len (B.cons (B.fld (B.v 0)) B.nil)) B.nil))))),?_⟩;walk_at "W";refine SW.bo hp g.cl_Shelf g.n_Shelf_mixer (qt _ _ _) ?_;walk_at "W";refine wJ X.mx X.bm ?_;walk_at "W";refine SW.bo hp g.cl_Shelf g.n_Shelf_rows (d4 _ _ _) ?_;walk_at "W";refine SW.bG (.inl (SqL.of X.rw)) ?_;walk_at "W";rw[List.length_map,X.len];refine qK (by omega) ?_
 rw[← gq hb];exact q
theorem zP(d:Dm K C "row_with" "Shelf.row_with" z9_ ["self","key"])(g:Gs K mg C CT CE CP CZ CR CV)(q82_:Mt P w K mg base C "place_with" 2 ["self","key"] (dX C)):Mt P w K mg base C "row_with" 3 ["self","key"] (iD C):=by
 refine d.mt Cw (fun vs H Q E h=>?_) (fun f cdv A outer s H vs Q E hr h=>?_)
 . obtain⟨p,k,f,m,R,t,L,ds,rfl,_⟩:=h
   rfl
 obtain⟨p,k,f,m,R,t,L,ds,rfl,X,q⟩:=h;obtain⟨dx,hp⟩:=X.ob;have hb:=X.pos;have S:Sh C H p f m R (fun b=>b=p∨b=L∨b∈ds):=⟨t,L,ds,X,fun b=>Iff.rfl⟩;obtain⟨y,hy,_⟩:=X.place k;refine⟨_,(B.sone (B.ret (B.ix ay (B.fld (B.v 0)) (B.meth (B.v 0) g.cl_Shelf q82_ hr.up (B.cons (B.v 1) B.nil))))),?_⟩;walk_at "W";refine SW.bo hp g.cl_Shelf g.n_Shelf_rows (d4 _ _ _) ?_;walk_at "W";refine wS S ⟨by decide +kernel,by decide +kernel,by decide +kernel⟩ ?_
 walk_at "W";refine iK S ?_;refine ce X.rw (v:=.ref y) ?_ (q y hy);refine bH ?_;rw[List.getElem?_map,hy]
 rfl
theorem Az(d:Dm K C "put" "Shelf.put" z7_ ["self","key","worth"])(g:Gs K mg C CT CE CP CZ CR CV)(q85_:Mt P w K mg base C "row_with" 3 ["self","key"] (iD C)):Mt P w K mg base C "put" 4 ["self","key","worth"] (lH C):=by
 refine d.mt y_ (fun vs H Q E h=>?_) (fun f cdv A outer s H vs Q E hr h=>?_)
 . obtain⟨p,k,v,f,m,R,F,rfl,_⟩:=h
   rfl
 obtain⟨p,k,v,f,m,R,F,rfl,S,hl,q⟩:=h;obtain⟨t,L,ds,X,hF⟩:=id S;obtain⟨dx,hp⟩:=X.ob;obtain⟨y,hy,hr0⟩:=X.place k;have npy:p≠y:=aA hp hr0 (by intro z;cases z)
 have Fp:F p:=(hF p).mpr (.inl rfl);have Fy:F y:=(hF y).mpr (.inr (.inr (List.mem_of_getElem? hy)));have hlen:(kvs (io f m R k)).length < sizeLine:=by
  rw[oF];exact Nat.lt_of_le_of_lt (Nat.le_trans (dn R _) hl) (by decide)
 have hok:ROk (eP (io f m R k) k v):=oB (X.ok _ (List.mem_of_getElem? (bM (eW X.pos))));have ht:=jq (f:=f) (m:=m) (k:=k) (v:=v) X.pos;refine⟨_,(B.scons (B.set 3 y_.nd (B.meth (B.v 0) g.cl_Shelf q85_ hr.up (B.cons (B.v 1) B.nil)))
  (B.scons (B.set 4 y_.nd (B.dget1 (dW hr) (B.v 3) (B.v 1) (m:=B.m1)))
  (B.scons (B.ifs (B.tcmp bZ (B.v 4) B.non) (B.sone (B.faug qT (B.v 0) B.int)) B.snil)
  (B.scons (B.dput (dW hr) (B.v 3) (B.v 1) (B.v 2))
  (B.sone (B.ret (B.v 4))))))),?_⟩
 walk_at "W";refine wS S ⟨by decide +kernel,by decide +kernel,by decide +kernel⟩ ?_
 walk_at "W";refine SW.tK X fun y' hy'=>?_;obtain rfl:y=y':=Option.some.inj (hy.symm.trans hy');walk_at "W";refine⟨y,rfl,.inl ⟨_,.inl hr0⟩,?_⟩;walk_at "W";refine⟨_,cK.k (k:=Sum.inl k) hr0,?_⟩;rw[l5];walk_at "W";refine⟨rfl,?_⟩;walk_at "W";refine fb (fun hc=>?_) (fun hc=>?_)
 . have e:aF f m R k=none:=by
    unfold aF;cases e:aP (io f m R k) k with
    | none=>rfl
    | some z=>rw[e]at hc;exact absurd (of_decide_eq_true hc) (by intro z;cases z)
   rw[e,if_pos rfl]at ht;walk_at "W";refine SW.bo hp g.cl_Shelf g.n_Shelf_held (ji _ _ _) ?_;walk_at "W";refine⟨_,_,rfl,rfl,dx,_,hp,by show 3 < 1000;decide,?_⟩
   rw[ox];walk_at "W";refine⟨y,_,rfl,jR.k (k:=Sum.inl k) (by rw[ag npy.symm];exact hr0) hlen,?_⟩
   walk_at "W";rw[jv];refine q _ ⟨t,L,ds,X.set hy hok ⟨dx,?_⟩ aa fun b o n1 n2 e=>?_,hF⟩ fun b o nb e=>?_
   . rw[ag npy,aa]
     show _=some (HO.ins C dx (sfl t L (tot (d0 f m R k v))));rw[ht]
     rfl
   . rw[ag n2,ag n1];exact e
   rw[ag (fun z:b=y=>nb (z ▸ Fy)),ag (fun z:b=p=>nb (z ▸ Fp))];exact e
 have e:¬ aF f m R k=none:=fun e=>hc (by
  unfold aF at e;rw[e];exact decide_eq_true rfl)
 rw[if_neg e]at ht;walk_at "W";refine⟨y,_,rfl,jR.k (k:=Sum.inl k) hr0 hlen,?_⟩;walk_at "W";rw[jv];refine q _ ⟨t,L,ds,X.set hy hok ⟨dx,?_⟩ aa fun b o n1 n2 e=>?_,hF⟩ fun b o nb e=>?_
 . rw[ag npy]
   show _=some (HO.ins C dx (sfl t L (tot (d0 f m R k v))));rw[ht];exact hp
 . rw[ag n2];exact e
 rw[ag (fun z:b=y=>nb (z ▸ Fy))];exact e
theorem Ab(d:Dm K C "look" "Shelf.look" z4_ ["self","key"])(q85_:Mt P w K mg base C "row_with" 3 ["self","key"] (iD C))(g:Gs K mg C CT CE CP CZ CR CV):Mt P w K mg base C "look" 4 ["self","key"] (iB C):=by
 refine d.mt B1 (fun vs H Q E h=>?_) (fun f cdv A outer s H vs Q E hr h=>?_)
 . obtain⟨p,k,f,m,R,F,rfl,_⟩:=h
   rfl
 obtain⟨p,k,f,m,R,F,rfl,S,q⟩:=h;obtain⟨t,L,ds,X,hF⟩:=id S;obtain⟨y,hy,hr0⟩:=X.place k;refine⟨_,(B.sone (B.ret (B.dget1 (dW hr) (B.meth (B.v 0) g.cl_Shelf q85_ hr.up (B.cons (B.v 1) B.nil)) (B.v 1) (m:=B.m1)))),?_⟩;walk_at "W";refine wS S ⟨by decide +kernel,by decide +kernel,by decide +kernel⟩ ?_
 walk_at "W";refine SW.tK X fun y' hy'=>?_;obtain rfl:y=y':=Option.some.inj (hy.symm.trans hy');refine⟨y,rfl,.inl ⟨_,.inl hr0⟩,?_⟩;walk_at "W";refine⟨_,cK.k (k:=Sum.inl k) hr0,?_⟩;rw[l5];exact q
theorem zK(d:Dm K C "size" "Shelf.size" zj ["self"])(g:Gs K mg C CT CE CP CZ CR CV):Mt P w K mg base C "size" 1 ["self"] (dE C):=by
 refine d.mt BH (fun vs H Q E h=>?_) (fun f cdv A outer s H vs Q E hr h=>?_)
 . obtain⟨p,f,m,R,F,rfl,_⟩:=h
   rfl
 obtain⟨p,f,m,R,F,rfl,⟨t,L,ds,X,hF⟩,q⟩:=h;obtain⟨dx,hp⟩:=X.ob;refine⟨_,(B.sone (B.ret (B.cB aj g.b_len SW.b_len (B.cons (B.fld (B.v 0)) B.nil)))),?_⟩;walk_at "W";refine SW.bo hp g.cl_Shelf g.n_Shelf_rows (d4 _ _ _) ?_;walk_at "W";refine SW.bG (.inl (SqL.of X.rw)) ?_;rw[List.length_map,X.len];exact q
theorem AA(d:Dm K C "many" "Shelf.many" z5_ ["self"])(g:Gs K mg C CT CE CP CZ CR CV):Mt P w K mg base C "many" 1 ["self"] (iN C):=by
 refine d.mt BM (fun vs H Q E h=>?_) (fun f cdv A outer s H vs Q E hr h=>?_)
 . obtain⟨p,f,m,R,F,rfl,_⟩:=h
   rfl
 obtain⟨p,f,m,R,F,rfl,⟨t,L,ds,X,hF⟩,q⟩:=h;obtain⟨dx,hp⟩:=X.ob;refine⟨_,(B.sone (B.ret (B.fld (B.v 0)))),?_⟩;walk_at "W";exact⟨p,C,dx,_,_,rfl,hp,g.cl_Shelf,g.n_Shelf_held,ji _ _ _,q⟩
theorem zV(d:Dm K C "check_place" "Shelf.check_place" z1_ ["self","place"])(g:Gs K mg C CT CE CP CZ CR CV)(q16_:Fn P w K mg base "is_whole" 1 ["thing"] pj):Mt P w K mg base C "check_place" 2 ["self","place"] (jJ C):=by
 refine d.mt BC (fun vs H Q E h=>?_) (fun f cdv A outer s H vs Q E hr h=>?_)
 . obtain⟨p,i,f,m,R,F,rfl,_⟩:=h
   rfl
 obtain⟨p,i,f,m,R,F,rfl,⟨t,L,ds,X,hF⟩,i0,i1,q⟩:=h;obtain⟨dx,hp⟩:=X.ob;refine⟨_,(B.sone (B.ifs (B.tw (B.wor (B.tnot (B.tval (B.fn q16_ hr.up (B.cons (B.v 1) B.nil)))) (B.wor1 (B.tnot (B.tchain eY fG B.int (B.v 1) (B.cB aj g.b_len SW.b_len (B.cons (B.fld (B.v 0)) B.nil))))))) (B.sone B.never) B.snil)),?_⟩;walk_at "W";refine⟨i,rfl,?_⟩;walk_at "W";refine ao ?_;walk_at "W";refine c5 i0 ?_;walk_at "W";refine SW.bo hp g.cl_Shelf g.n_Shelf_rows (d4 _ _ _) ?_;walk_at "W";refine SW.bG (.inl (SqL.of X.rw)) ?_;walk_at "W";rw[List.length_map,X.len];refine cp i1 ?_;walk_at "W";exact q
theorem zH(d:Dm K C "row" "Shelf.row" z8_ ["self","place"])(g:Gs K mg C CT CE CP CZ CR CV)(q78_:Mt P w K mg base C "check_place" 2 ["self","place"] (jJ C)):Mt P w K mg base C "row" 3 ["self","place"] (lR C):=by
 refine d.mt CC (fun vs H Q E h=>?_) (fun f cdv A outer s H vs Q E hr h=>?_)
 . obtain⟨p,i,f,m,R,F,rfl,_⟩:=h
   rfl
 obtain⟨p,i,f,m,R,F,rfl,S,hi,q⟩:=h;obtain⟨t,L,ds,X,hF⟩:=id S;obtain⟨dx,hp⟩:=X.ob;have hi':i < ds.length:=by rw[X.len];exact hi
 have hy:ds[i]?=some ds[i]:=List.getElem?_eq_getElem hi';have hr0:=X.at_ _ _ _ hy (bM hi);generalize ds[i]=y at hy hr0;refine⟨_,(B.scons (B.expr (B.meth (B.v 0) g.cl_Shelf q78_ hr.up (B.cons (B.v 1) B.nil)))
  (B.sone (B.ret (B.cT SW.im g.b_list SW.b_list (B.cons (B.items (B.ix ay (B.fld (B.v 0)) (B.v 1))) B.nil))))),?_⟩
 walk_at "W";refine wS S ⟨by decide +kernel,by decide +kernel,by decide +kernel⟩ ?_
 walk_at "W";refine⟨p,i,f,m,R,F,rfl,S,by omega,by omega,?_⟩
 walk_at "W";refine SW.bo hp g.cl_Shelf g.n_Shelf_rows (d4 _ _ _) ?_;walk_at "W";refine ce X.rw (v:=.ref y) ?_ ?_
 . refine bH ?_
   rw[List.getElem?_map,hy]
   rfl
 refine⟨y,_,rfl,hr0,fun v hv=>?_⟩;walk_at "W";have s1:ac H (upd H v (kN v y)):=ac.new hv;refine⟨v,y,_,rfl,aa,s1 _ _ hr0,rfl,fun l as H' s2 hl hl' hlen hall=>?_⟩;refine q l _ H' (s1.trans s2) (s1.free hl) hl' (sZ (by rw[hlen,oF]) fun j a e=>?_)
 obtain⟨_,k,x,e1,e2⟩:=hall j a e;exact⟨k,x,e1,e2⟩
theorem AL(d:Dm K C "empty" "Shelf.empty" z3_ ["self","place"])(g:Gs K mg C CT CE CP CZ CR CV)(q84_:Mt P w K mg base C "row" 3 ["self","place"] (lR C)):Mt P w K mg base C "empty" 4 ["self","place"] (iP C):=by
 refine d.mt Av (fun vs H Q E h=>?_) (fun f cdv A outer s H vs Q E hr h=>?_)
 . obtain⟨p,i,f,m,R,F,rfl,_⟩:=h
   rfl
 obtain⟨p,i,f,m,R,F,rfl,S,hi,q⟩:=h;refine⟨_,(B.scons (B.set 2 Av.nd (B.meth (B.v 0) g.cl_Shelf q84_ hr.up (B.cons (B.v 1) B.nil)))
  (B.scons (B.asg B.dnew (B.gsub (B.fld (B.v 0)) (B.v 1) jK))
  (B.scons (B.faug yV (B.v 0) (B.cB aj g.b_len SW.b_len (B.cons (B.v 2) B.nil)))
  (B.sone (B.ret (B.v 2)))))),?_⟩
 walk_at "W";refine wS S ⟨by decide +kernel,by decide +kernel,by decide +kernel⟩ ?_
 walk_at "W";refine wq S (by omega) (by omega) fun l xs H1 s1 nl hl pr=>?_
 have S1:=S.same s1;obtain⟨t,L,ds,X,hF⟩:=id S1;obtain⟨dx,hp⟩:=X.ob;have pr:Prs H1 xs (R.getD i []):=pr;walk_at "W";intro y hy;walk_at "W";have npy:p≠y:=ai hp hy;have nLy:L≠y:=ai X.rw hy;have nlp:l≠p:=aA hl hp (by intro z;cases z)
 have nlL:l≠L:=fun z=>S.fresh nl ((hF l).mpr (.inr (.inl z)));have nLp:L≠p:=aA X.rw hp (by intro z;cases z)
 have hlen:xs.length=(R.getD i []).length:=pr.len;have ht:=dG R i [] hi;have hpy:upd H1 y (.dK []) p=some (.ins C dx (sfl t L (tot R))):=by rw[ag npy];exact hp
 refine SW.bo hpy g.cl_Shelf g.n_Shelf_rows (d4 _ _ _) ?_;walk_at "W";refine wr (j:=i) (by rw[ag nLy];exact X.rw) (by
  unfold ixN;rw[List.length_map,X.len,if_pos (by omega),if_pos (by omega)]
  rfl) ?_
 rw[← List.map_set];have hp2:upd (upd H1 y (.dK [])) L (.lst ((ds.set i y).map V.ref)) p=some (.ins C dx (sfl t L (tot R))):=by rw[ag nLp.symm];exact hpy
 have nly:l≠y:=ai hl hy;have hl2:upd (upd H1 y (.dK [])) L (.lst ((ds.set i y).map V.ref)) l=some (.lst xs):=by rw[ag nlL,ag nly];exact hl
 walk_at "W";refine SW.bo hp2 g.cl_Shelf g.n_Shelf_held (ji _ _ _) ?_;walk_at "W";refine SW.bG (.inl (SqL.of hl2)) ?_;refine⟨_,_,rfl,rfl,dx,_,hp2,by show 3 < 1000;decide,?_⟩
 rw[ox];walk_at "W";have keep:∀ b o,b≠p->b≠L->H1 b=some o->upd (upd (upd H1 y (.dK [])) L (.lst ((ds.set i y).map V.ref))) p (.ins C dx (sfl t L ((tot R:Nat) - (xs.length:Nat)))) b=some o:=fun b o n1 n2 e=>by
  rw[ag n1,ag n2,ag (ai e hy)];exact e
 refine q l xs _ (fun b=>b=p∨b=L∨b∈ds.set i y) (fun b o nb e=>keep b o (fun z=>nb ((hF b).mpr (.inl z))) (fun z=>nb ((hF b).mpr (.inr (.inl z)))) (s1 _ _ e)) nl (fun z=>?_) (by rw[ag nlp];exact hl2) (pr.keep fun a ys e=>keep a _ (aA e hp (by intro z;cases z)) (aA e X.rw (by intro z;cases z)) e) ⟨t,L,ds.set i y,X.emptied hi hy ⟨dx,?_⟩ ?_ ?_ keep,fun b=>Iff.rfl⟩ (fun b hb=>?_) fun b hb=>?_
 . rcases z with z | z | z
   . exact nlp z
   . exact nlL z
   rcases List.mem_or_eq_of_mem_set z with z | z
   . exact S.fresh nl ((hF l).mpr (.inr (.inr z)))
   exact nly z
 . rw[aa]
   have e0:([]:ar).length=0:=rfl
   congr 3
   omega
 . rw[ag npy.symm,ag nLy.symm,aa]
 . rw[ag nLp,aa]
 . rcases hb with z | z | z
   . exact .inl ((hF b).mpr (.inl z))
   . exact .inl ((hF b).mpr (.inr (.inl z)))
   rcases List.mem_or_eq_of_mem_set z with z | z
   . exact .inl ((hF b).mpr (.inr (.inr z)))
   exact .inr (by rw[z];exact s1.free hy)
 refine s1.free ?_;by_cases z1:b=p
 . rw[z1,aa]at hb;cases hb
 rw[ag z1]at hb;by_cases z2:b=L
 . rw[z2,aa]at hb;cases hb
 rw[ag z2]at hb;by_cases z3:b=y
 . rw[z3,aa]at hb;cases hb
 rw[ag z3]at hb;exact hb
-- StV Any LamH S67 S69
theorem Ah{mv d:Nat}(h1:mv<=9000)(h2:d<=5000):(-(2 ^ 62)<=(mv:Int)/\(mv:Int) < 2 ^ 62 /\ -(2 ^ 62)<=(mv:Int)+(d:Int)/\(mv:Int)+(d:Int) < 2 ^ 62)/\(mv:Int)<=(mv:Int)+(d:Int)/\(mv:Int)+(d:Int) - (mv:Int)<=1000000:=by omega
theorem zQ(d:Dm K CT "due_places" "Table.due_places" xS ["self"])(g:Gs K mg C CT CE CP CZ CR CV)(q86_:Mt P w K mg base C "size" 1 ["self"] (dE C)):Mt P w K mg base CT "due_places" 2 ["self"] (nk C CT):=by
 refine d.mt CF (fun vs H Q E h=>?_) (fun f cdv A outer s H vs Q E hr h=>?_)
 . obtain⟨p,f,m,pc,M,tc,F,rfl,_⟩:=h
   rfl
 obtain⟨p,f,m,pc,M,tc,F,rfl,S,T,hpc,q⟩:=h;obtain⟨t,n,v,FN,FE,X,hF⟩:=id S;obtain⟨dx,hp⟩:=X.ob;have hel:=X.el;refine⟨_,(B.scons (B.ifs (B.tcmp bZ (B.fld (B.v 0)) B.non) (B.sone (B.ret (B.lst B.nil))) B.snil)
  (B.sone (B.ret (B.cT SW.j7 g.b_list SW.b_list (B.cons (B.cT SW.lL g.b_range SW.b_range (B.cons (B.fld (B.v 0)) (B.cons (B.cB (kh rfl) g.b_min SW.b_min (B.cons (B.op bv (B.fld (B.v 0)) (B.fld (B.v 0))) (B.cons (B.meth0 (B.fld (B.v 0)) g.cl_Shelf q86_ hr.up) B.nil))) B.nil))) B.nil))))),?_⟩
 walk_at "W";refine SW.bo hp g.cl_Table g.n_Table_elder (aY ..) ?_;walk_at "W";refine⟨rfl,?_⟩;walk_at "W";cases e:M.el with
 | none=>
   rw[e]at hel;obtain⟨rfl,_⟩:=hel;refine az ?_;walk_at "W";refine⟨by show(0:Nat)<=sizeLine;decide,fun l hl=>q l _ (ac.new hl) hl ?_⟩
   have:due pc M=0:=by unfold due;rw[e]
   rw[this];exact aa
 | some EE=>
   rw[e]at hel;obtain⟨ea,rfl,SE⟩:=hel;obtain⟨PE',sE,hm,_,_⟩:=T.el EE e;have bE:=sE.bounds;refine ao ?_;walk_at "W";refine SW.bo hp g.cl_Table g.n_Table_moved (cI ..) ?_;walk_at "W";refine SW.bo hp g.cl_Table g.n_Table_moved (cI ..) ?_;walk_at "W";refine SW.bo hp g.cl_Table g.n_Table_pace (tU ..) ?_;walk_at "W";refine SW.bo hp g.cl_Table g.n_Table_elder (aY ..) ?_;walk_at "W";refine wS SE ⟨by decide +kernel,by decide +kernel,by decide +kernel⟩ ?_
   walk_at "W";refine fh SE ?_;walk_at "W";refine⟨_,_,rfl,?_⟩;walk_at "W";refine⟨_,_,rfl,fun r hr'=>?_⟩;walk_at "W";have hj:(if((EE.length:Nat):Int) < ((M.mv:Nat):Int)+((pc:Nat):Int)then((EE.length:Nat):Int)else((M.mv:Nat):Int)+((pc:Nat):Int))=(M.mv:Int)+(due pc M:Nat):=by
    unfold due;rw[e];show _=(M.mv:Int)+((min (M.mv+pc) EE.length - M.mv:Nat):Int);split <;> omega
   have hd:due pc M<=5000:=by
    have:=jx (pc:=pc) e hm;omega
   rw[hj];have hz:=Ah (show M.mv<=9000 by omega) hd
   refine⟨r,_,_,rfl,aa,hz.1,hz.2.1,hz.2.2,rfl,fun l hl=>?_⟩;have s1:ac H (upd H r (.rng (M.mv:Int) ((M.mv:Int)+(due pc M:Nat)))):=ac.new hr';refine q l _ (s1.trans (ac.new hl)) (s1.free hl) ?_;rw[aa,show((M.mv:Int)+(due pc M:Nat) - (M.mv:Int)).toNat=due pc M by omega]
theorem zx(d:Dm K CT "end_move" "Table.end_move" yA ["self"])(g:Gs K mg C CT CE CP CZ CR CV)(q86_:Mt P w K mg base C "size" 1 ["self"] (dE C)):Mt P w K mg base CT "end_move" 2 ["self"] (nK C CT):=by
 refine d.mt CJ (fun vs H Q E h=>?_) (fun f cdv A outer s H vs Q E hr h=>?_)
 . obtain⟨p,f,m,pc,M,tc,F,rfl,_⟩:=h
   rfl
 obtain⟨p,f,m,pc,M,tc,F,rfl,S,q⟩:=h;obtain⟨t,n,v,FN,FE,X,hF⟩:=id S;obtain⟨dx,hp⟩:=X.ob;have hel:=X.el;refine⟨_,(B.sone (B.ifs (B.tw (B.wand (B.tcmp cj (B.fld (B.v 0)) B.non) (B.wand1 (B.tcmp cz (B.fld (B.v 0)) (B.meth0 (B.fld (B.v 0)) g.cl_Shelf q86_ hr.up))))) (B.scons (B.sfld (B.v 0) B.non)
  (B.sone (B.sfld (B.v 0) B.int))) B.snil)),?_⟩
 walk_at "W";refine SW.bo hp g.cl_Table g.n_Table_elder (aY ..) ?_;walk_at "W";refine⟨rfl,?_⟩;walk_at "W";cases e:M.el with
 | none=>
   rw[e]at hel;obtain⟨rfl,_⟩:=hel;refine ao ?_;refine ao ?_;walk_at "W";have:jX M=M:=by unfold jX;rw[e]
   rw[this]at q;exact q H F S (fun b hb=>.inl hb) (Fr.refl F H)
 | some EE=>
   rw[e]at hel;obtain⟨ea,rfl,SE⟩:=hel;refine az ?_;walk_at "W";refine SW.bo hp g.cl_Table g.n_Table_moved (cI ..) ?_;walk_at "W";refine SW.bo hp g.cl_Table g.n_Table_elder (aY ..) ?_;walk_at "W";refine wS SE ⟨by decide +kernel,by decide +kernel,by decide +kernel⟩ ?_
   walk_at "W";refine fh SE ?_;walk_at "W";refine fb (fun hc=>?_) (fun hc=>?_)
   . have hc:M.mv=EE.length:=by
      have:=vi.mp (of_decide_eq_true hc);omega
     walk_at "W";refine SW.eG hp g.cl_Table g.n_Table_elder (by show 6 < 1000;decide) ?_
     rw[k_];walk_at "W";refine SW.eG aa g.cl_Table g.n_Table_moved (by show 6 < 1000;decide) ?_
     rw[kX,iz];have:jX M=⟨none,0,M.nw⟩:=by unfold jX;rw[e];exact if_pos hc
     rw[this]at q;have fr:SW.Fr (fun b=>b=p) H (upd H p (.ins CT dx (tfl t pc .non 0 n tc))):=fun b o nb e=>by rw[ag nb];exact e
     have nt:∀ b xs,H b=some (.tup xs) -> ¬ b=p:=fun b xs e=>aA e hp (by intro z;cases z)
     refine q _ (fun b=>b=p∨FN b) ⟨t,n,.non,FN,fun _=>False,⟨⟨dx,aa⟩,fr _ _ (nt _ _ X.mx) X.mx,X.bm,X.nw.keep fr (fun b hb z=>X.np.1 (z ▸ hb)) nt,⟨rfl,fun _ z=>z⟩,fun _ z=>z.elim,⟨X.np.1,fun z=>z⟩⟩,fun b=>by simp⟩ (fun b hb=>.inl ((hF b).mpr (hb.elim .inl fun z=>.inr (.inl z)))) (fun b o nb e=>fr b o (fun z=>nb ((hF b).mpr (.inl z))) e)
   have hc:¬ M.mv=EE.length:=fun z=>hc (decide_eq_true (vi.mpr (by rw[z])))
   walk_at "W";have:jX M=M:=by unfold jX;rw[e];exact if_neg hc
   rw[this]at q;exact q H F S (fun b hb=>.inl hb) (Fr.refl F H)
theorem Bh(d:Dm K CT "stands_on_elder" "Table.stands_on_elder" wM ["self","key"])(g:Gs K mg C CT CE CP CZ CR CV)(q82_:Mt P w K mg base C "place_with" 2 ["self","key"] (dX C)):Mt P w K mg base CT "stands_on_elder" 3 ["self","key"] (gG C CT):=by
 refine d.mt BX (fun vs H Q E h=>?_) (fun f cdv A outer s H vs Q E hr h=>?_)
 . obtain⟨p,k,f,m,pc,M,tc,F,rfl,_⟩:=h
   rfl
 obtain⟨p,k,f,m,pc,M,tc,F,rfl,S,q⟩:=h;obtain⟨t,n,v,FN,FE,X,hF⟩:=id S;obtain⟨dx,hp⟩:=X.ob;have hel:=X.el;refine⟨_,(B.sone (B.ret (B.and (B.cmp cj (B.fld (B.v 0)) B.non) (B.one (B.cmp wy (B.meth (B.fld (B.v 0)) g.cl_Shelf q82_ hr.up (B.cons (B.v 1) B.nil)) (B.fld (B.v 0))))))),?_⟩;walk_at "W";refine SW.bo hp g.cl_Table g.n_Table_elder (aY ..) ?_;walk_at "W";refine⟨rfl,?_⟩;walk_at "W";cases e:M.el with
 | none=>
   rw[e]at hel;obtain⟨rfl,_⟩:=hel;refine ao ?_;have:cL f m M k=false:=by unfold cL;rw[e]
   rw[this]at q;exact q
 | some EE=>
   rw[e]at hel;obtain⟨ea,rfl,SE⟩:=hel;refine az ?_;walk_at "W";refine SW.bo hp g.cl_Table g.n_Table_elder (aY ..) ?_;walk_at "W";refine wS SE ⟨by decide +kernel,by decide +kernel,by decide +kernel⟩ ?_
   walk_at "W";refine iK SE ?_;walk_at "W";refine SW.bo hp g.cl_Table g.n_Table_moved (cI ..) ?_;walk_at "W";have:cL f m M k=decide (((M.mv:Nat):Int)<=((plc f m EE.length k:Nat):Int)):=by
    unfold cL;rw[e];show decide (M.mv<=plc f m EE.length k)=_;by_cases z:M.mv<=plc f m EE.length k
    . rw[decide_eq_true z,decide_eq_true (by omega)]
    rw[decide_eq_false z,decide_eq_false (by omega)]
   rw[this]at q;exact q
theorem AY(d:Dm K CT "shelf_with" "Table.shelf_with" xj ["self","key"])(g:Gs K mg C CT CE CP CZ CR CV)(q80_:Mt P w K mg base C "look" 4 ["self","key"] (iB C)):Mt P w K mg base CT "shelf_with" 5 ["self","key"] (lF C CT):=by
 refine d.mt BQ (fun vs H Q E h=>?_) (fun f cdv A outer s H vs Q E hr h=>?_)
 . obtain⟨p,k,f,m,pc,M,tc,t,n,v,FN,FE,rfl,_⟩:=h
   rfl
 obtain⟨p,k,f,m,pc,M,tc,t,n,v,FN,FE,rfl,X,q1,q2⟩:=h;obtain⟨dx,hp⟩:=X.ob;have hel:=X.el;refine⟨_,(B.scons (B.ifs (B.tw (B.wand (B.tcmp cj (B.fld (B.v 0)) B.non) (B.wand1 (B.tcmp cj (B.meth (B.fld (B.v 0)) g.cl_Shelf q80_ hr.up (B.cons (B.v 1) B.nil)) B.non)))) (B.sone (B.ret (B.fld (B.v 0)))) B.snil)
  (B.sone (B.ret (B.fld (B.v 0))))),?_⟩
 walk_at "W";refine SW.bo hp g.cl_Table g.n_Table_elder (aY ..) ?_;walk_at "W";refine⟨rfl,?_⟩;walk_at "W";cases e:M.el with
 | none=>
   rw[e]at hel;obtain⟨rfl,_⟩:=hel;refine ao ?_;refine ao ?_;walk_at "W";refine SW.bo hp g.cl_Table g.n_Table_newer (bc ..) ?_;exact q2 (by unfold onE;rw[e])
 | some EE=>
   rw[e]at hel;obtain⟨ea,rfl,SE⟩:=hel;refine az ?_;walk_at "W";refine SW.bo hp g.cl_Table g.n_Table_elder (aY ..) ?_;walk_at "W";refine wS SE ⟨by decide +kernel,by decide +kernel,by decide +kernel⟩ ?_
   walk_at "W";refine nX SE ?_;walk_at "W";refine⟨rfl,?_⟩;walk_at "W";cases z:aF f m EE k with
   | none=>
     refine ao ?_;walk_at "W";refine SW.bo hp g.cl_Table g.n_Table_newer (bc ..) ?_;exact q2 (by unfold onE;rw[e];exact z)
   | some y=>
     refine az ?_;walk_at "W";refine SW.bo hp g.cl_Table g.n_Table_elder (aY ..) ?_;exact q1 EE e (by rw[z];exact fun h=>by cases h)
theorem AS(d:Dm K CT "wanted_size" "Table.wanted_size" xa ["self"])(g:Gs K mg C CT CE CP CZ CR CV)(q86_:Mt P w K mg base C "size" 1 ["self"] (dE C))(q81_:Mt P w K mg base C "many" 1 ["self"] (iN C)):Mt P w K mg base CT "wanted_size" 2 ["self"] (lI C CT):=by
 refine d.mt Be (fun vs H Q E h=>?_) (fun f cdv A outer s H vs Q E hr h=>?_)
 . obtain⟨p,f,m,pc,M,tc,F,rfl,_⟩:=h
   rfl
 obtain⟨p,f,m,pc,M,tc,F,rfl,S,q⟩:=h;obtain⟨t,n,v,FN,FE,X,hF⟩:=id S;obtain⟨dx,hp⟩:=X.ob;obtain⟨aS,hS,tS⟩:=g.c_SIZES;have htop:=X.nw.top;refine⟨_,(B.scons (B.set 1 Be.nd (B.meth0 (B.fld (B.v 0)) g.cl_Shelf q86_ hr.up))
  (B.scons (B.ifs (B.tcmp sK (B.meth0 (B.fld (B.v 0)) g.cl_Shelf q81_ hr.up) (B.v 1)) (B.sone (B.ret (B.cB (kh rfl) g.b_min SW.b_min (B.cons (B.op b9 (B.v 1) B.int) (B.cons (B.ix av (B.gref hS) (B.un eU B.int)) B.nil))))) B.snil)
  (B.scons (B.ifs (B.tcmp fG (B.op b9 (B.meth0 (B.fld (B.v 0)) g.cl_Shelf q81_ hr.up) B.int) (B.v 1)) (B.sone (B.ret (B.cB (p7 rfl) g.b_max SW.b_max (B.cons (B.op fk (B.v 1) B.int) (B.cons (B.ix av (B.gref hS) B.int) B.nil))))) B.snil)
  (B.sone (B.ret (B.v 1)))))),?_⟩
 walk_at "W";refine SW.bo hp g.cl_Table g.n_Table_newer (bc ..) ?_;walk_at "W";refine wS X.nw ⟨by decide +kernel,by decide +kernel,by decide +kernel⟩ ?_
 walk_at "W";refine fh X.nw ?_;walk_at "W";refine SW.bo hp g.cl_Table g.n_Table_newer (bc ..) ?_;walk_at "W";refine wS X.nw ⟨by decide +kernel,by decide +kernel,by decide +kernel⟩ ?_
 walk_at "W";refine nW X.nw ?_;walk_at "W";refine fb (fun hc=>?_) (fun hc=>?_)
 . have hc:((M.nw.length:Nat):Int) < ((tot M.nw:Nat):Int):=of_decide_eq_true hc
   walk_at "W";refine⟨aS,_,_,_,rfl,rfl,tS _,rfl,?_⟩;walk_at "W";refine⟨_,_,rfl,?_⟩;have ew:(if(4096:Int) < ((M.nw.length:Nat):Int)*2 then(4096:Int)else((M.nw.length:Nat):Int)*2)=((en M.nw:Nat):Int):=by
    unfold en;rw[if_pos (show M.nw.length < tot M.nw by omega)]
    split <;> omega
   rw[ew];exact q
 have hc:¬ ((M.nw.length:Nat):Int) < ((tot M.nw:Nat):Int):=fun z=>hc (decide_eq_true z);walk_at "W";refine SW.bo hp g.cl_Table g.n_Table_newer (bc ..) ?_;walk_at "W";refine wS X.nw ⟨by decide +kernel,by decide +kernel,by decide +kernel⟩ ?_
 walk_at "W";refine nW X.nw ?_;walk_at "W";refine fb (fun hc2=>?_) (fun hc2=>?_)
 . have hc2:((tot M.nw:Nat):Int)*8 < ((M.nw.length:Nat):Int):=of_decide_eq_true hc2
   walk_at "W";refine⟨aS,_,_,_,rfl,rfl,tS _,rfl,?_⟩;walk_at "W";refine⟨_,_,rfl,?_⟩;have ew:(if(4:Int) > ((M.nw.length:Nat):Int) / 2 then(4:Int)else((M.nw.length:Nat):Int) / 2)=((en M.nw:Nat):Int):=by
    unfold en;rw[if_neg (show ¬ M.nw.length < tot M.nw by omega),if_pos (show tot M.nw*8 < M.nw.length by omega)]
    split <;> omega
   rw[ew];exact q
 have hc2:¬ ((tot M.nw:Nat):Int)*8 < ((M.nw.length:Nat):Int):=fun z=>hc2 (decide_eq_true z);walk_at "W";have ew:en M.nw=M.nw.length:=by
  unfold en;rw[if_neg (show ¬ M.nw.length < tot M.nw by omega),if_neg (show ¬ tot M.nw*8 < M.nw.length by omega)]
 rw[ew]at q;exact q
theorem z6(d:Dm K CT "begin_move" "Table.begin_move" y7 ["self"])(g:Gs K mg C CT CE CP CZ CR CV)(q100_:Mt P w K mg base CT "wanted_size" 2 ["self"] (lI C CT))(q86_:Mt P w K mg base C "size" 1 ["self"] (dE C))(q76_:Mkr P w K mg base C "Shelf" 3 ["self","size","mixer"] (gc C)):Mt P w K mg base CT "begin_move" 5 ["self"] (gp C CT):=by
 refine d.mt As (fun vs H Q E h=>?_) (fun f cdv A outer s H vs Q E hr h=>?_)
 . obtain⟨p,f,m,pc,M,tc,F,rfl,_⟩:=h
   rfl
 obtain⟨p,f,m,pc,M,tc,F,rfl,S,hsz,q⟩:=h;obtain⟨t,n,v,FN,FE,X,hF⟩:=id S;obtain⟨dx,hp⟩:=X.ob;have hel:=X.el;refine⟨_,(B.scons (B.ifs (B.tcmp cj (B.fld (B.v 0)) B.non) (B.sone B.retN) B.snil)
  (B.scons (B.set 1 As.nd (B.meth0 (B.v 0) g.cl_Table q100_ hr.up))
  (B.sone (B.ifs (B.tcmp eF (B.v 1) (B.meth0 (B.fld (B.v 0)) g.cl_Shelf q86_ hr.up)) (B.scons (B.sfld (B.v 0) (B.fld (B.v 0)))
  (B.sone (B.sfld (B.v 0) (B.make q76_ hr.up (B.cons (B.v 1) (B.cons (B.fld (B.v 0)) B.nil)))))) B.snil)))),?_⟩
 walk_at "W";refine SW.bo hp g.cl_Table g.n_Table_elder (aY ..) ?_;walk_at "W";refine⟨rfl,?_⟩;walk_at "W";cases e:M.el with
 | some EE=>
   rw[e]at hel;obtain⟨ea,rfl,SE⟩:=hel;refine az ?_;walk_at "W";have:beg M=M:=by unfold beg;rw[e]
   rw[this]at q;exact q H F S (fun b hb=>.inl hb) (Fr.refl F H)
 | none=>
   rw[e]at hel;obtain⟨rfl,nFE⟩:=hel;refine ao ?_;walk_at "W";refine wT S iW ?_;walk_at "W";refine SW.zc S ?_;walk_at "W";refine SW.bo hp g.cl_Table g.n_Table_newer (bc ..) ?_;walk_at "W";refine wS X.nw ⟨by decide +kernel,by decide +kernel,by decide +kernel⟩ ?_
   walk_at "W";refine fh X.nw ?_;walk_at "W";rw[BI];refine uq (fun hc=>?_) (fun hc=>?_)
   . have hc:¬ en M.nw=M.nw.length:=fun z=>by
      rw[decide_eq_true (by rw[z])]at hc
      cases hc
     have hw:=qj hsz;walk_at "W";refine SW.bo hp g.cl_Table g.n_Table_newer (bc ..) ?_;walk_at "W";refine SW.eG hp g.cl_Table g.n_Table_elder (by show 6 < 1000;decide) ?_
     rw[k_];have fr:∀ o,SW.Fr (fun b=>b=p) H (upd H p o):=fun o b u nb e=>by rw[ag nb];exact e
     have nt:∀ b xs,H b=some (.tup xs) -> ¬ b=p:=fun b xs e=>aA e hp (by intro z;cases z)
     walk_at "W";refine SW.bo aa g.cl_Table g.n_Table_mixer (qk ..) ?_;walk_at "W";refine rY (n:=((en M.nw:Nat):Int)) (fr _ _ _ (nt _ _ X.mx) X.mx) X.bm (by omega) (by simpa using hw) fun sn H2 FS S2 nS s2=>?_
     have S2:Sh C H2 sn f m (List.replicate (en M.nw) []) FS:=S2;walk_at "W";refine⟨p,CT,dx,_,rfl,s2 _ _ aa,g.cl_Table,g.n_Table_newer,by show 6 < 1000;decide,?_⟩
     rw[qx];have eg:beg M=⟨some M.nw,M.mv,List.replicate (en M.nw) []⟩:=by unfold beg;rw[e];exact if_neg hc
     rw[eg]at q;have fr2:∀ o,SW.Fr (fun b=>b=p) H (upd H2 p o):=fun o b u nb e=>by rw[ag nb];exact s2 _ _ (fr _ b u nb e)
     have nS':∀ b,FS b->H b=none:=fun b hb=>by
      have h1:=nS b hb;by_cases z:b=p
      . subst z;rw[aa]at h1;cases h1
      rw[ag z]at h1;exact h1
     have fr3:SW.Fr (fun b=>b=p) H2 (upd H2 p (.ins CT dx (tfl t pc (.ref n) M.mv sn tc))):=fun b u nb e=>by rw[ag nb];exact e
     have nFp:¬ FS p:=fun z=>by rw[nS' p z]at hp;cases hp
     have nt2:∀ b xs,H2 b=some (.tup xs) -> ¬ b=p:=fun b xs e z=>by
      have h1:=s2 _ _ (aa (H:=H) (a:=p) (o:=.ins CT dx (tfl t pc (.ref n) M.mv n tc)));rw[z,h1]at e;cases e
     refine q _ (fun b=>b=p∨FS b∨FN b) ⟨t,sn,.ref n,FS,FN,⟨⟨dx,aa⟩,fr2 _ _ _ (nt _ _ X.mx) X.mx,X.bm,S2.keep fr3 (fun b hb z=>nFp (z ▸ hb)) nt2,⟨n,rfl,X.nw.keep (fr2 _) (fun b hb z=>X.np.1 (z ▸ hb)) nt⟩,fun b hb hz=>X.nw.fresh (nS' b hz) hb,⟨nFp,X.np.1⟩⟩,fun b=>Iff.rfl⟩ (fun b hb=>?_) (fun b o nb e=>fr2 _ b o (fun z=>nb ((hF b).mpr (.inl z))) e);rcases hb with z | z | z
     . exact .inl ((hF b).mpr (.inl z))
     . exact .inr (nS' b z)
     exact .inl ((hF b).mpr (.inr (.inl z)))
   have hc:en M.nw=M.nw.length:=by
    have:decide (((en M.nw:Nat):Int)=((M.nw.length:Nat):Int))=true:=by
     cases z:decide (((en M.nw:Nat):Int)=((M.nw.length:Nat):Int))with
     | true=>rfl
     | false=>rw[z]at hc;cases hc
    have:=of_decide_eq_true this;omega
   walk_at "W";have eg:beg M=M:=by unfold beg;rw[e];exact if_pos hc
   rw[eg]at q;exact q H F S (fun b hb=>.inl hb) (Fr.refl F H)
theorem zy(d:Dm K CT "move_place" "Table.move_place" xQ ["self","place"])(g:Gs K mg C CT CE CP CZ CR CV)(q79_:Mt P w K mg base C "empty" 4 ["self","place"] (iP C))(q83_:Mt P w K mg base C "put" 4 ["self","key","worth"] (lH C))(q82_:Mt P w K mg base C "place_with" 2 ["self","key"] (dX C)):Mt P w K mg base CT "move_place" 5 ["self","place"] (pw C CT):=by
 refine d.mt vk (fun vs H Q E h=>?_) (fun f cdv A outer s H vs Q E hr h=>?_)
 . obtain⟨p,i,f,m,pc,E,N,mv,tc,F,rfl,_⟩:=h
   rfl
 obtain⟨p,i,f,m,pc,EE,N,mv,tc,F,rfl,S,hi,PP,htot,q⟩:=h;obtain⟨t,n,v,FN,FE,X,hF⟩:=id S;obtain⟨dx,hp⟩:=X.ob;have hel:∃ e,v=.ref e/\Sh C H e f m EE FE:=X.el;obtain⟨ea,rfl,SE⟩:=hel;have SN:Sh C H n f m N FN:=X.nw;refine⟨_,(B.scons (B.set 2 vk.nd (B.meth (B.fld (B.v 0)) g.cl_Shelf q79_ hr.up (B.cons (B.v 1) B.nil)))
  (B.scons (B.fors (B.ilist (B.v 2)) (B.gtup (B.gcons (B.gname (i:=3) vk.nd) (B.gcons (B.gname (i:=4) vk.nd) B.gnil))) (B.sone (B.expr (B.meth (B.fld (B.v 0)) g.cl_Shelf q83_ hr.up (B.cons (B.v 3) (B.cons (B.v 4) B.nil))))))
  (B.sone (B.ret (SW.B.comp [0] ["pair","self"] (SW.ax.of rfl rfl (by decide +kernel) (by decide +kernel) rfl ⟨rfl,trivial⟩ rfl rfl rfl) (by decide +kernel) (B.ilist (B.v 2)) (fun _ _ _ _=>(B.meth (B.fldK K (B.v 1)) g.cl_Shelf q82_ hr.up (B.cons (B.ix (SW.oK K) (B.v 0) B.int) B.nil)))))))),?_⟩
 walk_at "W";refine SW.bo hp g.cl_Table g.n_Table_elder (aY ..) ?_;walk_at "W";refine wS SE ⟨by decide +kernel,by decide +kernel,by decide +kernel⟩ ?_
 walk_at "W";refine uJ SE (by omega) (by omega) fun l xs H1 FE' K1 nl nFl hl pr SE1 gr lv=>?_
 have pr:Prs H1 xs (EE.getD i []):=pr;have SE1:Sh C H1 ea f m (EE.set i []) FE':=SE1;have hp1:=K1 _ _ X.np.2 hp;have SN1:=SN.keep K1 (fun b hb z=>X.ne b z hb) fun b xs e=>SE.notup e;have mx1:=K1 _ _ (SE.notup X.mx) X.mx;have nEN:∀ b,FE' b -> ¬ FN b:=fun b hb hn=>by
  rcases gr b hb with z | z
  . exact X.ne b z hn
  exact SN.fresh z hn
 have nEp:¬ FE' p:=fun z=>by
  rcases gr p z with z | z
  . exact X.np.2 z
  rw[z]at hp;cases hp
 have nlN:¬ FN l:=SN.fresh nl;have lx:=pr.len;walk_at "W";refine⟨l,rfl,⟨_,SqL.of hl⟩,?_⟩;refine L2.jt (xs:=xs) (fun j Z H'=>∃ v3 v4,Z=[some (.ref p),some (.int i),some (.ref l),v3,v4]/\Sh C H' n f m (aK f m N ((EE.getD i []).take j)) FN/\SW.Fr FN H1 H') ⟨none,none,rfl,SN1,Fr.refl _ _⟩ (fun j Z H' _ ⟨_,_,_,_,k'⟩=>SqL.of (k' _ _ nlN hl)) ?_ ?_
 . rintro j x Z H' hx ⟨v3,v4,rfl,S',k'⟩
   have hj:j < (EE.getD i []).length:=by
    have:=(List.getElem?_eq_some_iff.mp hx).1;omega
   obtain⟨a,e1,e2⟩:=pr.get (List.getElem?_eq_getElem hj);obtain rfl:V.ref a=x:=Option.some.inj (e1.symm.trans hx);have e2':=k' _ _ (SN1.notup e2) e2;have hp':=k' _ _ X.np.1 hp1;refine⟨a,_,rfl,SqT.of e2',rfl,_,_,rfl,_,_,rfl,rfl,?_⟩;walk_at "W";refine SW.bo hp' g.cl_Table g.n_Table_newer (bc ..) ?_;walk_at "W";refine wS S' ⟨by decide +kernel,by decide +kernel,by decide +kernel⟩ ?_
   walk_at "W";refine wj S' ?_ fun H2 S2 K2=>?_
   . have h1:=cO (f:=f) (m:=m) (r:=(EE.getD i []).take j) SN.pos
     have h2:((EE.getD i []).take j).length<=(EE.getD i []).length:=by rw[List.length_take];exact Nat.min_le_right _ _
     have h3:=dn EE i;omega
   walk_at "W";refine⟨_,_,rfl,?_,k'.trans K2⟩;rw[ib (List.getElem?_eq_getElem hj)];exact S2
 rintro Z H2 ⟨v3,v4,rfl,S2,k2⟩;rw[List.take_of_length_le (by omega)]at S2
 have hl2:=k2 _ _ nlN hl;have hp2:=k2 _ _ X.np.1 hp1;have pr2:=pr.keep fun a ys e=>k2 _ _ (SN1.notup e) e;walk_at "W";refine⟨l,rfl,⟨_,SqL.of hl2⟩,fun D hD=>?_⟩;refine du (xs:=xs) (fun j Z' H'=>ac H2 H'/\(∃ v,Z'=[v,some (.ref p)])/\H' D=some (.lst ((((EE.getD i []).take j).map fun q=>((plc f m N.length q.1:Nat):Int)).map V.int))) ⟨ac.new hD,⟨none,rfl⟩,aa⟩ (fun j Z' H' _ ⟨s',_⟩=>SqL.of (s' _ _ hl2)) ?_ ?_
 . rintro j x Z' H' hx hjx ⟨s',⟨v,rfl⟩,hD'⟩
   have hj:j < (EE.getD i []).length:=by omega
   obtain⟨a,e1,e2⟩:=pr2.get (List.getElem?_eq_getElem hj);obtain rfl:V.ref a=x:=Option.some.inj (e1.symm.trans hx);have e2':=s' _ _ e2;have S3:=S2.same s';walk_at "W";refine⟨p,CT,dx,_,_,rfl,s' _ _ hp2,g.cl_Table,g.n_Table_newer,bc ..,?_⟩;walk_at "W";refine wS S3 ⟨by decide +kernel,by decide +kernel,by decide +kernel⟩ ?_
   walk_at "W";refine iK S3 ?_;rw[ek];have hr90:(EE.getD i []).length<=90000:=Nat.le_trans (dn EE i) (by omega)
   refine CN.mk hjx hD' (by
    rw[List.length_map,List.length_map,List.length_take];have:sizeLine=16777216:=sizeLine_eq
    omega) ⟨fun b o e=>?_,⟨_,rfl⟩,?_⟩
   . rw[ag (ai e hD)];exact s' _ _ e
   rw[aa,List.take_add_one,List.getElem?_eq_getElem hj,List.map_append,List.map_append]
   rfl
 rintro Z' H3 ⟨s3,⟨v,rfl⟩,hD3⟩;rw[List.take_of_length_le (by omega)]at hD3
 have X3:TbX C CT H3 p f m pc ⟨some (EE.set i []),mv,aK f m N (EE.getD i [])⟩ tc t n (.ref ea) FN FE':=
  ⟨⟨dx,s3 _ _ hp2⟩,s3 _ _ (k2 _ _ (SN1.notup mx1) mx1),X.bm,S2.same s3,⟨ea,rfl,(SE1.keep k2 nEN fun b xs e=>SN1.notup e).same s3⟩,nEN,⟨X.np.1,nEp⟩⟩
 have fr:SW.Fr F H H3:=fun b o nb e=>s3 _ _ (k2 _ _ (fun z=>nb ((hF b).mpr (.inr (.inl z)))) (K1 _ _ (fun z=>nb ((hF b).mpr (.inr (.inr z)))) e));have nD:H D=none:=lv D (by
  cases e:H1 D with
  | none=>rfl
  | some o=>
    exfalso
    by_cases zN:FN D
    . obtain⟨o',e',_⟩:=S2.live zN
      rw[hD]at e';cases e'
    rw[k2 _ _ zN e]at hD;cases hD)
 refine q D H3 _ X3.tb (fun b hb=>?_) fr nD (fun z=>?_) hD3
 . rcases hb with z | z | z
   . exact .inl ((hF b).mpr (.inl z))
   . exact .inl ((hF b).mpr (.inr (.inl z)))
   rcases gr b z with z | z
   . exact .inl ((hF b).mpr (.inr (.inr z)))
   exact .inr z
 rcases z with z | z | z
 . rw[z,hp2]at hD;cases hD
 . obtain⟨o',e',_⟩:=S2.live z
   rw[hD]at e';cases e'
 obtain⟨o',e',_⟩:=(SE1.keep k2 nEN fun b xs e=>SN1.notup e).live z;rw[hD]at e';cases e'
theorem BA(d:Dm K CT "go_on" "Table.go_on" xf ["self","key"])(g:Gs K mg C CT CE CP CZ CR CV)(q88_:Mt P w K mg base CT "due_places" 2 ["self"] (nk C CT))(q93_:Mt P w K mg base CT "move_place" 5 ["self","place"] (pw C CT))(q89_:Mt P w K mg base CT "end_move" 2 ["self"] (nK C CT))
 (q97_:Mt P w K mg base CT "stands_on_elder" 3 ["self","key"] (gG C CT)) (q82_:Mt P w K mg base C "place_with" 2 ["self","key"] (dX C)):Mt P w K mg base CT "go_on" 6 ["self","key"] (qG C CT):=by
 refine d.mt qQ (fun vs H Q E h=>?_) (fun f cdv A outer s H vs Q E hr h=>?_)
 . obtain⟨p,k,f,m,pc,M,tc,F,rfl,_⟩:=h
   rfl
 obtain⟨p,k,f,m,pc,M,tc,F,rfl,S,T,hpc,hcnt,q⟩:=h;have hdue:due pc M<=5000:=by
  unfold due;cases e:M.el with
  | none=>exact Nat.zero_le _
  | some EE=>
    have:=(T.el EE e).2.1.bounds;show min (M.mv+pc) EE.length - M.mv<=5000;omega
 refine⟨_,(B.scons (B.set 2 qQ.nd (B.meth0 (B.v 0) g.cl_Table q88_ hr.up))
  (B.scons (B.set 3 qQ.nd (B.lst (B.cons (B.meth (B.fld (B.v 0)) g.cl_Shelf q82_ hr.up (B.cons (B.v 1) B.nil)) B.nil)))
  (B.scons (B.fors (B.ilist (B.v 2)) (B.gname (i:=4) qQ.nd) (B.sone (B.expr (B.m PySem.F.plainAttrs_list PySem.F.slot_list_extend PySem.F.type_list_extend kA (B.v 3) (B.cons (B.meth (B.v 0) g.cl_Table q93_ hr.up (B.cons (B.v 4) B.nil)) B.nil)))))
  (B.scons (B.faug qT (B.v 0) (B.cB aj g.b_len SW.b_len (B.cons (B.v 2) B.nil)))
  (B.scons (B.expr (B.meth0 (B.v 0) g.cl_Table q89_ hr.up))
  (B.scons (B.set 5 qQ.nd (B.ifx (B.tval (B.meth (B.v 0) g.cl_Table q97_ hr.up (B.cons (B.v 1) B.nil))) B.int B.int))
  (B.sone (B.sfld (B.v 0) (B.op bv (B.op bv (B.cB aj g.b_len SW.b_len (B.cons (B.v 2) B.nil)) (B.cB SW.qA g.b_len SW.b_len (B.cons (B.cT SW.qa g.b_set SW.b_set (B.cons (B.v 3) B.nil)) B.nil))) (B.v 5)))))))))),?_⟩
 walk_at "W";refine wT S jV ?_;walk_at "W";refine SW.zI S T hpc fun ld H1 s1 nld hld=>?_;have S1:=S.same s1;obtain⟨t,n,v,FN,FE,X,hF⟩:=id S1;obtain⟨dx,hp⟩:=X.ob;walk_at "W";refine SW.bo hp g.cl_Table g.n_Table_newer (bc ..) ?_;walk_at "W";refine wS X.nw ⟨by decide +kernel,by decide +kernel,by decide +kernel⟩ ?_
 walk_at "W";refine iK X.nw ?_;walk_at "W";refine⟨by show(1:Nat)<=sizeLine;decide,fun lr hlr=>?_⟩
 have s2:ac H1 (upd H1 lr (.lst [.int (plc f m M.nw.length k:Nat)])):=ac.new hlr;have S2:=S1.same s2;have hld2:=s2 _ _ hld;have hlr2:upd H1 lr (.lst [.int (plc f m M.nw.length k:Nat)]) lr=some (.lst [.int (plc f m M.nw.length k:Nat)]):=aa;have nrd:lr≠ld:=(ai hld hlr).symm;have nFd:¬ F ld:=S.fresh nld;have nFr:¬ F lr:=S1.fresh hlr;generalize upd H1 lr (.lst [.int (plc f m M.nw.length k:Nat)])=H2 at *;have lrn:H lr=none:=s1.free hlr;walk_at "W";refine⟨ld,rfl,⟨_,SqL.of hld2⟩,?_⟩;have lseq:((gF M.mv (due pc M)).map V.int).length=due pc M:=by unfold gF;simp
 refine SW.cU (xs:=(gF M.mv (due pc M)).map V.int) (fun j Z H'=>∃ F' v4,Z=[some (.ref p),some (.int k),some (.ref ld),some (.ref lr),v4,none]/\Tb C CT H' p f m pc (mid f m M j) tc F'/\Gr H2 F F'/\SW.Fr (fun b=>F b∨b=lr) H2 H' /\ ¬ F' lr /\ ¬ F' ld /\
  H' lr=some (.lst ((((plc f m M.nw.length k:Nat):Int)::rch f m M j).map V.int))) ?_ (fun j Z H' _ z=>z.elim fun _ z=>z.elim fun _ z=>SqL.of (z.2.2.2.1 _ _ (fun z=>z.elim nFd fun z=>nrd z.symm) hld2)) ?_ ?_
 . refine⟨F,none,rfl,?_,fun b hb=>.inl hb,fun b o _ e=>e,nFr,nFd,?_⟩
   . have:mid f m M 0=M:=by
      unfold mid;cases e:M.el with
      | none=>rfl
      | some EE=>cases M;simp at e;subst e;rfl
     rw[this];exact S2
   have:rch f m M 0=[]:=by unfold rch;cases M.el <;> rfl
   rw[this];exact hlr2
 . rintro j x Z H' hx ⟨F',v4,rfl,S',g',k',nlr,nld',hlr'⟩
   have hj:j < due pc M:=by
    have:=(List.getElem?_eq_some_iff.mp hx).1;omega
   obtain rfl:V.int ((M.mv:Int)+(j:Int))=x:=by
    unfold gF at hx;rw[List.getElem?_map,List.getElem?_map,List.getElem?_range hj]at hx;exact Option.some.inj hx
   cases e:M.el with
   | none=>
     have:due pc M=0:=by unfold due;rw[e]
     omega
   | some EE=>
     obtain⟨PE',sE,hm,_,_⟩:=T.el EE e;have hdl:=jx (pc:=pc) e hm;obtain⟨PJ,l1,l2,_,tj⟩:=iX j (T.pair e) (by omega)
     have em:mid f m M j=⟨some (aW f m EE M.nw M.mv j).1,M.mv,(aW f m EE M.nw M.mv j).2⟩:=by unfold mid;rw[e]
     have em1:mid f m M (j+1)=⟨some ((aW f m EE M.nw M.mv j).1.set (M.mv+j) []),M.mv,aK f m (aW f m EE M.nw M.mv j).2 ((aW f m EE M.nw M.mv j).1.getD (M.mv+j) [])⟩:=by unfold mid;rw[e];simp only[d8]
     have er:rch f m M (j+1)=rch f m M j++(EE.getD (M.mv+j) []).map fun p=>((plc f m M.nw.length p.1:Nat):Int):=by unfold rch;rw[e];simp only[fJ]
     have ec:cnt M=tot EE+tot M.nw:=by unfold SW.cnt;rw[e]
     have hcnt:=hcnt.resolve_right (fun z=>by rw[e]at z;cases z)
     have hrl:(rch f m M j).length<=4000:=by
      have:=gT (f:=f) (m:=m) (n:=M.nw.length) j EE M.nw M.mv (by omega)
      have e2:rch f m M j=fF f m M.nw.length EE M.mv j:=by unfold rch;rw[e]
      rw[e2];omega
     rw[em]at S';walk_at "W";refine wBM ?_;walk_at "W";refine⟨.inl ⟨rfl,_,SqL.of hlr'⟩,?_⟩;walk_at "W";refine wT S' jY ?_;walk_at "W";refine⟨p,M.mv+j,f,m,pc,_,_,M.mv,tc,F',rfl,S',by rw[l1];omega,PJ,by omega,fun l3 H3 F3 S3 g3 k3 nl3 nF3 hl3=>?_⟩
     have hlr3:=k3 _ _ nlr hlr';rw[fP j EE M.nw M.mv (M.mv+j) (Nat.le_refl _) (by omega),l2]at hl3
     walk_at "W";refine⟨lr,l3,_,_,rfl,rfl,hlr3,hl3,?_,?_⟩
     . rw[List.length_map,List.length_map,List.length_map,List.length_cons]
       have h1:=dn EE (M.mv+j);have:sizeLine=16777216:=sizeLine_eq;omega
     have fr4:∀ o,SW.Fr (fun b=>b=lr) H3 (upd H3 lr o):=fun o b u nb e=>by rw[ag nb];exact e
     have nlr3:¬ F3 lr:=fun z=>by
      rcases g3 lr z with z | z
      . exact nlr z
      rw[z]at hlr';cases hlr'
     have nld3:¬ F3 ld:=fun z=>by
      rcases g3 ld z with z | z
      . exact nld' z
      rw[k' _ _ (fun z=>z.elim nFd fun z=>nrd z.symm) hld2]at z;cases z
     walk_at "W";refine⟨F3,_,rfl,?_,?_,?_,nlr3,nld3,?_⟩
     . rw[em1]
       exact S3.keep (fr4 _) (fun b hb z=>nlr3 (z ▸ hb)) fun b xs e z=>by rw[z,hlr3]at e;cases e
     . intro b hb
       rcases g3 b hb with z | z
       . exact g' b z
       by_cases hFb:F b
       . exact .inl hFb
       by_cases hb2:b=lr
       . rw[hb2,hlr']at z;cases z
       cases eb:H2 b with
       | none=>exact .inr rfl
       | some o=>rw[k' _ _ (fun y=>y.elim hFb hb2) eb]at z;cases z
     . intro b o nb eb
       have h1:=k' b o nb eb;have nF'b:¬ F' b:=fun z=>by
        rcases g' b z with z | z
        . exact nb (.inl z)
        rw[z]at eb;cases eb
       rw[ag (fun z=>nb (.inr z))];exact k3 b o nF'b h1
     rw[aa,er];rw[← List.map_append]
     rfl
 rintro Z H' ⟨F',v4,rfl,S',g',k',nlr,nld',hlr'⟩;rw[lseq]at S' hlr';have hld':=k' _ _ (fun z=>z.elim nFd fun z=>nrd z.symm) hld2;obtain⟨t',n',v',FN',FE',X',hF'⟩:=id S';obtain⟨dx',hp'⟩:=X'.ob;walk_at "W";refine SW.bo hp' g.cl_Table g.n_Table_moved (cI ..) ?_;walk_at "W";refine SW.bG (.inl (SqL.of hld')) ?_;rw[lseq];refine⟨_,_,rfl,rfl,dx',_,hp',by show 6 < 1000;decide,?_⟩
 rw[kX];have emv:(mid f m M (due pc M)).mv=M.mv:=by unfold mid;cases M.el <;> rfl
 have fr5:∀ o,SW.Fr (fun b=>b=p) H' (upd H' p o):=fun o b u nb e=>by rw[ag nb];exact e
 have nt5:∀ b xs,H' b=some (.tup xs) -> ¬ b=p:=fun b xs e=>aA e hp' (by intro z;cases z)
 have X5:TbX C CT (upd H' p (.ins CT dx' (tfl t' pc v' (((mid f m M (due pc M)).mv:Int)+(due pc M:Nat)) n' tc))) p f m pc { mid f m M (due pc M)with mv:=M.mv+due pc M } tc t' n' v' FN' FE':=
  ⟨⟨dx',by rw[aa,emv];rfl⟩,fr5 _ _ _ (nt5 _ _ X'.mx) X'.mx,X'.bm,X'.nw.keep (fr5 _) (fun b hb z=>X'.np.1 (z ▸ hb)) nt5,X'.el.keep (fr5 _) (fun b hb z=>X'.np.2 (z ▸ hb)) nt5,X'.ne,X'.np⟩
 have S5:Tb C CT (upd H' p (.ins CT dx' (tfl t' pc v' (((mid f m M (due pc M)).mv:Int)+(due pc M:Nat)) n' tc))) p f m pc { mid f m M (due pc M)with mv:=M.mv+due pc M } tc F':=⟨t',n',v',FN',FE',X5,hF'⟩;have npl:lr≠p:=fun z=>nlr (z ▸ S'.self);have npd:ld≠p:=fun z=>nld' (z ▸ S'.self);have hlr5:=fr5 (.ins CT dx' (tfl t' pc v' (((mid f m M (due pc M)).mv:Int)+(due pc M:Nat)) n' tc)) _ _ npl hlr';have hld5:=fr5 (.ins CT dx' (tfl t' pc v' (((mid f m M (due pc M)).mv:Int)+(due pc M:Nat)) n' tc)) _ _ npd hld';have fr05:SW.Fr F' H' (upd H' p (.ins CT dx' (tfl t' pc v' (((mid f m M (due pc M)).mv:Int)+(due pc M:Nat)) n' tc))):=fun b o nb e=>fr5 _ b o (fun z=>nb (z ▸ S'.self)) e;generalize upd H' p (.ins CT dx' (tfl t' pc v' (((mid f m M (due pc M)).mv:Int)+(due pc M:Nat)) n' tc))=H5 at *;walk_at "W";refine wT S5 mZ ?_;walk_at "W";refine SW.AD S5 fun H6 F6 S6 g6 k6=>?_;rw[vM]at S6;have hlr6:=k6 _ _ nlr hlr5;have hld6:=k6 _ _ nld' hld5;walk_at "W";refine wT S6 fN ?_;walk_at "W";refine SW.q_ S6 ?_;walk_at "W";have hrl:(rch f m M (due pc M)).length<=4000:=by
  unfold rch;cases e:M.el with
  | none=>exact Nat.zero_le _
  | some EE=>
    obtain⟨PE',sE,hm,_,_⟩:=T.el EE e;have hdl:=jx (pc:=pc) e hm;have:=gT (f:=f) (m:=m) (n:=M.nw.length) (due pc M) EE M.nw M.mv hdl;have ec:cnt M=tot EE+tot M.nw:=by unfold SW.cnt;rw[e]
    have hcnt:=hcnt.resolve_right (fun z=>by rw[e]at z;cases z)
    show(fF f m M.nw.length EE M.mv (due pc M)).length<=4000;omega
 -- the last row,whatever is asked
 have last:∀ z:Int,z=(if cL f m (dg f m pc M) k=true then 1 else 0) ->
  uv K (gx 0) (tOp (rI0 fun i j=>V.int (i+j)) (tOp (rI0 fun i j=>V.int (i+j)) (tCB (fun xs H Q=>∃ p ys,xs=[V.ref p]/\(SqL K H p ys∨SqT K H p ys)/\Q (.int ys.length) H) (bU (gx 2) c9))
   (tCB (fun xs H Q=>∃ a S n,xs=[V.ref a]/\H a=some (.set S n)/\Q (.int (n:Nat)) H) (bU (tCB (fun xs H Q=>∃ l ns,xs=[V.ref l]/\SqL K H l (List.map V.int ns)/\List.length ns+1 < 4096/\true=true /\ ∀ a S,H a=none->Q (.ref a) (upd H a (.set S (fE ns)))) (bU (gx 3) c9)) c9))) (gx 5)) "touches"
  { nx:=fun _ H'=>Q .non H',rt:=Q } [some (.ref p),some (.int k),some (.ref ld),some (.ref lr),v4,some (.int z)] H6:=fun z hz=>by
  walk_at "W";refine SW.bG (.inl (SqL.of hld6)) ?_;rw[lseq];walk_at "W";refine⟨lr,_,rfl,SqL.of hlr6,by rw[List.length_cons];omega,rfl,fun a SS ha=>?_⟩
  walk_at "W";refine⟨a,_,_,rfl,aa,?_⟩;walk_at "W";have s7:ac H6 (upd H6 a (.set SS (fE (((plc f m M.nw.length k:Nat):Int)::rch f m M (due pc M))))):=ac.new ha;have S7:=S6.same s7;obtain⟨t7,n7,v7,FN7,FE7,X7,hF7⟩:=id S7;obtain⟨dx7,hp7⟩:=X7.ob;refine SW.eG hp7 g.cl_Table g.n_Table_touches (by show 6 < 1000;decide) ?_
  rw[mV];have fr8:∀ o,SW.Fr (fun b=>b=p) (upd H6 a (.set SS (fE (((plc f m M.nw.length k:Nat):Int)::rch f m M (due pc M))))) (upd (upd H6 a (.set SS (fE (((plc f m M.nw.length k:Nat):Int)::rch f m M (due pc M))))) p o):=fun o b u nb e=>by rw[ag nb];exact e
  have nt8:∀ b xs,upd H6 a (.set SS (fE (((plc f m M.nw.length k:Nat):Int)::rch f m M (due pc M)))) b=some (.tup xs) -> ¬ b=p:=fun b xs e=>aA e hp7 (by intro z;cases z)
  have e8:((due pc M:Nat):Int)+((fE (((plc f m M.nw.length k:Nat):Int)::rch f m M (due pc M)):Nat):Int)+z=((tch f m pc M k:Nat):Int):=by
   rw[xU,hz];split <;> simp <;> omega
  refine q _ F6 ⟨t7,n7,v7,FN7,FE7,⟨⟨dx7,by rw[aa];exact congrArg (fun w=>some (HO.ins CT dx7 (tfl t7 pc v7 (dg f m pc M).mv n7 w))) e8⟩,fr8 _ _ _ (nt8 _ _ X7.mx) X7.mx,X7.bm,X7.nw.keep (fr8 _) (fun b hb z=>X7.np.1 (z ▸ hb)) nt8,X7.el.keep (fr8 _) (fun b hb z=>X7.np.2 (z ▸ hb)) nt8,X7.ne,X7.np⟩,hF7⟩ ?_ ?_
  . intro b hb
    have tr:∀ b,H2 b=none->H b=none:=fun b hb=>s1.free (s2.free hb);rcases g6 b hb with z | z
    . rcases g' b z with z | z
      . exact .inl z
      exact .inr (tr b z)
    by_cases hFb:F b
    . exact .inl hFb
    refine .inr (tr b ?_);by_cases hb2:b=lr
    . rw[hb2,hlr5]at z;cases z
    cases eb:H2 b with
    | none=>rfl
    | some o=>
      have nF'b:¬ F' b:=fun y=>by
       rcases g' b y with y | y
       . exact hFb y
       rw[y]at eb;cases eb
      rw[fr05 _ _ nF'b (k' _ _ (fun y=>y.elim hFb hb2) eb)]at z;cases z
  intro b o nb eb;have e2:=s2 _ _ (s1 _ _ eb);have nblr:b≠lr:=fun z=>by rw[z,lrn]at eb;cases eb
  have nF'b:¬ F' b:=fun y=>by
   rcases g' b y with y | y
   . exact nb y
   rw[y]at e2;cases e2
  have nF6b:¬ F6 b:=fun y=>by
   rcases g6 b y with y | y
   . exact nF'b y
   rw[fr05 _ _ nF'b (k' _ _ (fun y=>y.elim nb nblr) e2)]at y;cases y
  exact fr8 _ _ _ (fun z=>nF6b (z ▸ S6.self)) (s7 _ _ (k6 _ _ nF'b (fr05 _ _ nF'b (k' _ _ (fun y=>y.elim nb nblr) e2))))
 cases es:cL f m (dg f m pc M) k with
 | true=>
   refine az ?_;walk_at "W1";exact last 1 (by rw[es];rfl)
 | false=>
   refine ao ?_;walk_at "W1";exact last 0 (by rw[es];rfl)
theorem z7(d:Dm K CT "look" "Table.look" wW ["self","key"])(g:Gs K mg C CT CE CP CZ CR CV)(q90_:Mt P w K mg base CT "go_on" 6 ["self","key"] (qG C CT))(q94_:Mt P w K mg base CT "shelf_with" 5 ["self","key"] (lF C CT))(q87_:Mt P w K mg base CT "begin_move" 5 ["self"] (gp C CT))(q80_:Mt P w K mg base C "look" 4 ["self","key"] (iB C)):Mt P w K mg base CT "look" 7 ["self","key"] (lu C CT):=by
 refine d.mt AZ (fun vs H Q E h=>?_) (fun f cdv A outer s H vs Q E hr h=>?_)
 . obtain⟨p,k,f,m,pc,M,tc,F,rfl,_⟩:=h
   rfl
 obtain⟨p,k,f,m,pc,M,tc,F,rfl,S,T,hpc,hcnt,q⟩:=h;obtain⟨T1,lk,ct⟩:=vt (pc:=pc) T;rw[← lk k]at q;refine⟨_,(B.scons (B.expr (B.meth (B.v 0) g.cl_Table q90_ hr.up (B.cons (B.v 1) B.nil)))
  (B.scons (B.set 2 AZ.nd (B.meth (B.meth (B.v 0) g.cl_Table q94_ hr.up (B.cons (B.v 1) B.nil)) g.cl_Shelf q80_ hr.up (B.cons (B.v 1) B.nil)))
  (B.scons (B.expr (B.meth0 (B.v 0) g.cl_Table q87_ hr.up))
  (B.sone (B.ret (B.v 2)))))),?_⟩
 walk_at "W";refine wT S qN ?_;walk_at "W";refine SW.BB S T hpc (.inl hcnt) fun H1 F1 S1 g1 k1=>?_;obtain⟨t,n,v,FN,FE,X,hF⟩:=id S1;obtain⟨dx,hp⟩:=X.ob;have fin:∀(o:Option Int),o=cX f m (dg f m pc M) k ->
  uo (oj (kn CT "begin_move" (gp C CT) [] E0 (gx 0) c9)) (vL (gx 2)) { nx:=fun _ H'=>Q .non H',rt:=Q } [some (.ref p),some (.int k),some (oV o)] H1:=fun o ho=>by
  walk_at "W";refine wT S1 jW ?_;walk_at "W";refine SW.uV S1 T1.sz fun H3 F3 S3 g3 k3=>?_;walk_at "W";rw[ho];refine q H3 F3 S3 (Gr.trans g1 k1 g3) fun b u nb e=>?_;have h2:=k1 b u nb e;exact k3 _ _ (fun z=>by
   rcases g1 b z with z | z
   . exact nb z
   rw[z]at e;cases e) h2
 walk_at "W";refine wT S1 jQ ?_;walk_at "W";refine SW.xr X (fun EE e hne=>?_) (fun hno=>?_)
 . have hel:=X.el
   rw[e]at hel;obtain⟨ea,rfl,SE⟩:=hel;refine wS SE ⟨by decide +kernel,by decide +kernel,by decide +kernel⟩ ?_
   walk_at "W0";refine nX SE ?_;walk_at "W1";refine fin _ ?_;exact qX e hne
 refine wS X.nw ⟨by decide +kernel,by decide +kernel,by decide +kernel⟩ ?_
 walk_at "W0";refine nX X.nw ?_;walk_at "W1";refine fin _ ?_;exact sy hno
theorem Am(d:Dm K CT "shelves" "Table.shelves" xn ["self"])(g:Gs K mg C CT CE CP CZ CR CV):Mt P w K mg base CT "shelves" 1 ["self"] (fM C CT):=by
 refine d.mt Bz (fun vs H Q E h=>?_) (fun f cdv A outer s H vs Q E hr h=>?_)
 . obtain⟨p,f,m,pc,M,tc,t,n,v,FN,FE,rfl,_⟩:=h
   rfl
 obtain⟨p,f,m,pc,M,tc,t,n,v,FN,FE,rfl,X,q⟩:=h;obtain⟨dx,hp⟩:=X.ob;have hel:=X.el;refine⟨_,(B.sone (B.ret (B.ifx (B.tcmp bZ (B.fld (B.v 0)) B.non) (B.lst (B.cons (B.fld (B.v 0)) B.nil)) (B.lst (B.cons (B.fld (B.v 0)) (B.cons (B.fld (B.v 0)) B.nil)))))),?_⟩;walk_at "W";refine SW.bo hp g.cl_Table g.n_Table_elder (aY ..) ?_;walk_at "W";refine⟨rfl,?_⟩;walk_at "W";cases e:M.el with
 | none=>
   rw[e]at hel q;obtain⟨rfl,_⟩:=hel;refine az ?_;walk_at "W";refine SW.bo hp g.cl_Table g.n_Table_newer (bc ..) ?_;walk_at "W";exact⟨by show(1:Nat)<=sizeLine;decide,fun l hl=>q l hl⟩
 | some EE=>
   rw[e]at hel q;obtain⟨ea,rfl,SE⟩:=hel;refine ao ?_;walk_at "W";refine SW.bo hp g.cl_Table g.n_Table_elder (aY ..) ?_;walk_at "W";refine SW.bo hp g.cl_Table g.n_Table_newer (bc ..) ?_;walk_at "W";exact⟨by show(2:Nat)<=sizeLine;decide,fun l hl=>q l hl⟩
theorem AM(d:Dm K CT "many" "Table.many" xc ["self"])(g:Gs K mg C CT CE CP CZ CR CV)(q95_:Mt P w K mg base CT "shelves" 1 ["self"] (fM C CT))(q81_:Mt P w K mg base C "many" 1 ["self"] (iN C)):Mt P w K mg base CT "many" 2 ["self"] (lA C CT):=by
 refine d.mt CG (fun vs H Q E h=>?_) (fun f cdv A outer s H vs Q E hr h=>?_)
 . obtain⟨p,f,m,pc,M,tc,F,rfl,_⟩:=h
   rfl
 obtain⟨p,f,m,pc,M,tc,F,rfl,S,q⟩:=h;obtain⟨t,n,v,FN,FE,X,hF⟩:=id S;have hel:=X.el;refine⟨_,(B.sone (B.ret (B.cB SW.rN g.b_sum SW.b_sum (B.cons (SW.B.comp [] ["shelf"] (SW.ax.of rfl rfl (by decide +kernel) (by decide +kernel) rfl trivial rfl rfl rfl) (by decide +kernel) (B.ilist (B.meth0 (B.v 0) g.cl_Table q95_ hr.up)) (fun _ _ _ _=>(B.meth0 (B.v 0) g.cl_Shelf q81_ hr.up))) B.nil)))),?_⟩
 walk_at "W";refine wT S m7 ?_;walk_at "W";refine SW.pS X fun l hl=>?_;have s1:ac H (upd H l (.lst (match M.el with | none=>[.ref n] | some _=>[v,.ref n]))):=ac.new hl;refine⟨l,rfl,⟨_,SqL.of aa⟩,fun D hD=>?_⟩;have nlD:l≠D:=ai aa hD;have SN1:=X.nw.same s1;have cntE:∀(ns:List Int),ns=(match M.el with | none=>[((tot M.nw:Nat):Int)] | some EE=>[((tot EE:Nat):Int),((tot M.nw:Nat):Int)])->ns.sum=((SW.cnt M:Nat):Int):=fun ns h=>by
  rw[h];unfold SW.cnt;cases M.el with
  | none=>simp
  | some EE=>simp
 refine du (xs:=match M.el with | none=>[.ref n] | some _=>[v,.ref n]) (fun j Z' H'=>ac (upd H l (.lst (match M.el with | none=>[.ref n] | some _=>[v,.ref n]))) H'/\(∃ v,Z'=[v]) /\
  H' D=some (.lst (((match M.el with | none=>[((tot M.nw:Nat):Int)] | some EE=>[((tot EE:Nat):Int),((tot M.nw:Nat):Int)]).take j).map V.int))) ⟨ac.new hD,⟨none,rfl⟩,aa⟩ (fun j Z' H' _ ⟨s',_⟩=>SqL.of (s' _ _ aa)) ?_ ?_
 . rintro j x Z' H' hx hj ⟨s',⟨v0,rfl⟩,hD'⟩
   have key:∃ a f m R F',x=.ref a/\Sh C H' a f m R F'/\(match M.el with | none=>[((tot M.nw:Nat):Int)] | some EE=>[((tot EE:Nat):Int),((tot M.nw:Nat):Int)])[j]?=some ((tot R:Nat):Int):=by
    cases e:M.el with
    | none=>
      rw[e]at hx hj
      match j,hx with
      | 0,hx=>exact⟨n,f,m,M.nw,FN,(Option.some.inj hx).symm,SN1.same s',rfl⟩
      | j+1,hx=>simp at hx
    | some EE=>
      rw[e]at hx hj hel;obtain⟨ea,rfl,SE⟩:=hel
      match j,hx with
      | 0,hx=>exact⟨ea,f,m,EE,FE,(Option.some.inj hx).symm,(SE.same s1).same s',rfl⟩
      | 1,hx=>exact⟨n,f,m,M.nw,FN,(Option.some.inj hx).symm,SN1.same s',rfl⟩
      | j+2,hx=>simp at hx
   obtain⟨a,f',m',R,F',rfl,SR,hn⟩:=key;walk_at "W";refine wS SR ⟨by decide +kernel,by decide +kernel,by decide +kernel⟩ ?_
   walk_at "W";refine nW SR ?_;refine CN.mk hj hD' (by
    rw[List.length_map,List.length_take];have:sizeLine=16777216:=sizeLine_eq;have h2:(match M.el with | none=>[((tot M.nw:Nat):Int)] | some EE=>[((tot EE:Nat):Int),((tot M.nw:Nat):Int)]).length<=2:=by cases M.el <;> simp
    omega) ⟨fun b o e=>?_,⟨_,rfl⟩,?_⟩
   . rw[ag (ai e hD)];exact s' _ _ e
   rw[aa,List.take_add_one,hn,List.map_append]
   rfl
 rintro Z' H' ⟨s',⟨v0,rfl⟩,hD'⟩;walk_at "W";rw[List.take_of_length_le (by cases M.el <;> simp)]at hD'
 refine⟨D,_,rfl,SqL.of hD',rfl,?_⟩;rw[cntE _ rfl];exact q H' (s1.trans s')
theorem q62_(d:Dfn K mg "shelf_of" xg ["rows","mixer"])(g:Gs K mg C CT CE CP CZ CR CV)(q76_:Mkr P w K mg base C "Shelf" 3 ["self","size","mixer"] (gc C))(q83_:Mt P w K mg base C "put" 4 ["self","key","worth"] (lH C)):Fn P w K mg base "shelf_of" 5 ["rows","mixer"] (gP K C):=by
 refine d.fn mS (fun vs H Q E h=>?_) (fun f cdv A outer s H vs Q E hr h=>?_)
 . obtain⟨a,t,f,m,R,rfl,_⟩:=h
   rfl
 obtain⟨a,t,f,m,R,rfl,⟨xs,hx,px⟩,hs,htot,ht,bf,q⟩:=h;have lx:xs.length=R.length:=Paired.length px;refine⟨_,(B.scons (B.set 2 mS.nd (B.make q76_ hr.up (B.cons (B.cB aj g.b_len SW.b_len (B.cons (B.v 0) B.nil)) (B.cons (B.v 1) B.nil))))
  (B.scons (B.fors (B.itup (B.v 0)) (B.gname (i:=3) mS.nd) (B.sone (B.fors (B.itup (B.v 3)) (B.gtup (B.gcons (B.gname (i:=4) mS.nd) (B.gcons (B.gname (i:=5) mS.nd) B.gnil))) (B.sone (B.expr (B.meth (B.v 2) g.cl_Shelf q83_ hr.up (B.cons (B.v 4) (B.cons (B.v 5) B.nil))))))))
  (B.sone (B.ret (B.v 2))))),?_⟩
 walk_at "W";refine SW.bG (.inr hx) ?_;walk_at "W";rw[lx];refine rY (n:=((R.length:Nat):Int)) ht bf (by omega) (by simpa using hs) fun p H1 F1 S1 n1 s1=>?_
 have S1:Sh C H1 p f m (List.replicate R.length []) F1:=S1;have keepT:∀{H':Hp}{b:Addr}{ys:List V},(∀ c o,H c=some o->H' c=some o)->SqT K H b ys->SqT K H' b ys:=fun k hb=>by
  rcases hb with (z | ⟨o,z⟩) | z
  . exact .inl (.inl (k _ _ z))
  . exact .inl (.inr ⟨o,k _ _ z⟩)
  exact .inr z
 have old:∀{H':Hp},SW.Fr F1 H1 H' -> ∀ c o,H c=some o->H' c=some o:=fun k c o e=>k c o (fun z=>by rw[n1 c z]at e;cases e) (s1 c o e)
 walk_at "W";refine⟨a,rfl,⟨_,keepT s1 hx⟩,?_⟩;refine dI (xs:=xs) (fun i Z H'=>∃ v3 v4 v5,Z=[some (.ref a),some (.ref t),some (.ref p),v3,v4,v5]/\Sh C H' p f m ((R.take i).foldl (fun N r=>aK f m N r) (List.replicate R.length [])) F1/\SW.Fr F1 H1 H'/\tot ((R.take i).foldl (fun N r=>aK f m N r) (List.replicate R.length []))<=tot (R.take i)) ?_ (fun i Z H' _ z=>z.elim fun _ z=>z.elim fun _ z=>z.elim fun _ z=>keepT (old z.2.2.1) hx) ?_ ?_
 . exact⟨none,none,none,rfl,S1,Fr.refl _ _,by rw[List.take_zero];show tot (List.replicate R.length [])<=0;rw[ol];exact Nat.le_refl _⟩
 . rintro i x Z H' hxi ⟨v3,v4,v5,rfl,S',k',ht'⟩
   have hi:i < R.length:=by
    have:=(List.getElem?_eq_some_iff.mp hxi).1;omega
   obtain⟨b,ys,rfl,hb,pb⟩:uK K H x R[i]:=by
    have key:∀{xs:List V}{R:af}{i:Nat}{x:V} (hi:i < R.length),Paired (uK K H) xs R->xs[i]?=some x->uK K H x R[i]:=by
     intro xs R i x hi pp
     induction pp generalizing i with
     | nil=>intro h;simp at h
     | cons h t ih=>
       intro e;cases i with
       | zero=>simp at e;subst e;exact h
       | succ i=>exact ih (by simpa using hi) (by simpa using e)
    exact key hi px hxi
   have ly:ys.length=R[i].length:=Paired.length pb;have etk:R.take (i+1)=R.take i++[R[i]]:=by rw[List.take_add_one,List.getElem?_eq_getElem hi];rfl
   have ett:tot (R.take (i+1))=tot (R.take i)+R[i].length:=by
    rw[etk];unfold tot;rw[List.map_append,List.sum_append];simp
   have tle:tot (R.take (i+1))<=tot R:=by
    have:∀(l:af) (j:Nat),tot (l.take j)<=tot l:=by
     intro l
     induction l with
     | nil=>intro j;rw[List.take_nil];exact Nat.le_refl _
     | cons a l ih=>
       intro j;cases j with
       | zero=>exact Nat.zero_le _
       | succ j=>
         show a.length+tot (l.take j)<=a.length+tot l;have:=ih j;omega
    exact this R (i+1)
   walk_at "W";refine⟨b,rfl,⟨_,keepT (old k') hb⟩,?_⟩;refine dI (xs:=ys) (fun j Z H''=>∃ v4 v5,Z=[some (.ref a),some (.ref t),some (.ref p),some (.ref b),v4,v5]/\Sh C H'' p f m (aK f m ((R.take i).foldl (fun N r=>aK f m N r) (List.replicate R.length [])) (R[i].take j)) F1/\SW.Fr F1 H1 H'') ⟨v4,v5,rfl,S',k'⟩ (fun j Z H'' _ ⟨_,_,_,_,k''⟩=>keepT (old k'') hb) ?_ ?_
   . rintro j y Z H'' hyj ⟨v4,v5,rfl,S'',k''⟩
     have hj:j < R[i].length:=by
      have:=(List.getElem?_eq_some_iff.mp hyj).1;omega
     obtain⟨c,rfl,hc⟩:PrT K H y R[i][j]:=by
      have key:∀{xs:List V}{R:ar}{i:Nat}{x:V} (hi:i < R.length),Paired (PrT K H) xs R->xs[i]?=some x->PrT K H x R[i]:=by
       intro xs R i x hi pp
       induction pp generalizing i with
       | nil=>intro h;simp at h
       | cons h t ih=>
         intro e;cases i with
         | zero=>simp at e;subst e;exact h
         | succ i=>exact ih (by simpa using hi) (by simpa using e)
      exact key hj pb hyj
     refine⟨c,_,rfl,keepT (old k'') hc,rfl,_,_,rfl,_,_,rfl,rfl,?_⟩;walk_at "W";refine wS S'' ⟨by decide +kernel,by decide +kernel,by decide +kernel⟩ ?_
     walk_at "W";refine wj S'' ?_ fun H3 S3 K3=>?_
     . have h1:=cO (f:=f) (m:=m) (r:=R[i].take j) S'.pos
       have h2:(R[i].take j).length<=R[i].length:=by rw[List.length_take];exact Nat.min_le_right _ _
       omega
     walk_at "W";refine⟨_,_,rfl,?_,k''.trans K3⟩;rw[ib (List.getElem?_eq_getElem hj)];exact S3
   rintro Z H'' ⟨v4,v5,rfl,S'',k''⟩;have e9:R[i].take ys.length=R[i]:=List.take_of_length_le (by omega)
   rw[e9]at S'';have ef:(R.take (i+1)).foldl (fun N r=>aK f m N r) (List.replicate R.length [])=aK f m ((R.take i).foldl (fun N r=>aK f m N r) (List.replicate R.length [])) R[i]:=by rw[etk,List.foldl_append];rfl
   refine⟨_,_,_,rfl,by rw[ef];exact S'',k'',?_⟩
   rw[ef];have h1:=cO (f:=f) (m:=m) (r:=R[i]) S'.pos;omega
 rintro Z H' ⟨v3,v4,v5,rfl,S',k',_⟩;rw[List.take_of_length_le (by omega)]at S'
 walk_at "W";exact q p H' F1 S' n1 (old k')
theorem AT(d:Dk K mg CT "Table" "Table.__init__" yL ["self","mixer","pace","state"])(g:Gs K mg C CT CE CP CZ CR CV)(q62_:Fn P w K mg base "shelf_of" 5 ["rows","mixer"] (gP K C)):Mkr P w K mg base CT "Table" 6 ["self","mixer","pace","state"] (iG C CT):=by
 refine d.mk' Bg (fun vs H Q E h=>?_) (fun f cdv A outer s H vs Q E hr h=>?_)
 . obtain⟨x,t,dx,f,m,pc,v,M,rfl,_⟩:=h
   rfl
 obtain⟨x,t,dx,f,m,pc,v,M,rfl,hx,ht,bf,T,hcnt,hv,q⟩:=h;obtain⟨aE,bE,hE,tE,rE⟩:=g.c_EMPTY;have ntx:t≠x:=aA ht hx (by intro z;cases z)
 refine⟨_,(B.scons (B.set 4 Bg.nd (B.ifx (B.tcmp bZ (B.v 3) B.non) (B.gref hE) (B.v 3)))
  (B.scons (B.sfld (B.v 0) (B.v 1))
  (B.scons (B.sfld (B.v 0) (B.v 2))
  (B.scons (B.sfld (B.v 0) (B.ifx (B.tcmp bZ (B.ix av (B.v 4) B.int) B.non) B.non (B.fn q62_ hr.up (B.cons (B.ix av (B.v 4) B.int) (B.cons (B.v 1) B.nil)))))
  (B.scons (B.sfld (B.v 0) (B.ix av (B.v 4) B.int))
  (B.scons (B.sfld (B.v 0) (B.fn q62_ hr.up (B.cons (B.ix av (B.v 4) B.int) (B.cons (B.v 1) B.nil))))
  (B.sone (B.sfld (B.v 0) B.int)))))))),?_⟩
 walk_at "W";refine⟨rfl,?_⟩;walk_at "W";have key:∀ Q':VK,(∀(aL:Addr) (e:V) (b:Addr),SqT K H aL [e,.int (M.mv:Nat),.ref b]->ElT K H e M.el->ik K H b M.nw->Q' (.ref aL) H) ->
  (if decide (v=.non)=true then tC (.ref aE) [some (.ref x),some (.ref t),some (.int pc),some v,none] H Q' else gx 3 [some (.ref x),some (.ref t),some (.int pc),some v,none] H Q'):=fun Q' h=>by
  rcases hv with ⟨rfl,rfl⟩ | ⟨a,e,w',rfl,ha,he,hw⟩
  . exact az (h aE .non bE (tE _) rfl (rE _))
  obtain⟨b,rfl,hb⟩:=hw.rowsT (K:=K);exact ao (SW.Cb rfl (h a e b (SqT.of ha) he.elT hb))
 refine key _ fun aL e b hL hEl hN=>?_;clear key;have L0:(aV "mixer" (V.ref t) []).length<=1:=cY ..;have L1:(aV "pace" (V.int pc) (aV "mixer" (V.ref t) [])).length<=2:=Nat.le_trans (cY ..) (Nat.succ_le_succ L0);have L2:∀ ve,(aV "elder" ve (aV "pace" (V.int pc) (aV "mixer" (V.ref t) []))).length<=3:=fun ve=>Nat.le_trans (cY ..) (Nat.succ_le_succ L1);have L3:∀ ve z,(aV "moved" z (aV "elder" ve (aV "pace" (V.int pc) (aV "mixer" (V.ref t) [])))).length<=4:=fun ve z=>Nat.le_trans (cY ..) (Nat.succ_le_succ (L2 ve));have L4:∀ ve z y,(aV "newer" y (aV "moved" z (aV "elder" ve (aV "pace" (V.int pc) (aV "mixer" (V.ref t) []))))).length<=5:=fun ve z y=>Nat.le_trans (cY ..) (Nat.succ_le_succ (L3 ve z));walk_at "W";refine SW.eG hx g.cl_Table g.n_Table_mixer (by show 0 < 1000;decide) ?_
 walk_at "W";refine SW.eG aa g.cl_Table g.n_Table_pace (by omega) ?_
 rw[iz];have fr0:∀ o b u,b≠x->H b=some u->upd H x o b=some u:=fun o b u nb e=>by rw[ag nb];exact e
 walk_at "W";refine⟨aL,_,_,_,rfl,rfl,hL.but hx (fr0 _),rfl,?_⟩;walk_at "W";refine⟨rfl,?_⟩;walk_at "W";have totN:tot M.nw<=5000:=by unfold SW.cnt at hcnt;omega
 have key2:∀ Q':VK,(∀(ve:V) (H1:Hp) (FE:Addr->Prop),nF C H1 f m ve M.el FE->(∀ b,FE b->H b=none/\b≠x)->H1 x=some (.ins CT dx (aV "pace" (.int pc) (aV "mixer" (.ref t) [])))->(∀ b o,b≠x->H b=some o->H1 b=some o)->Q' ve H1) ->
  (if decide (e=.non)=true then tC .non [some (.ref x),some (.ref t),some (.int pc),some v,some (.ref aL)] (upd H x (.ins CT dx (aV "pace" (.int pc) (aV "mixer" (.ref t) [])))) Q'
   else hV (gP K C) [] E0 (bU (tOp (fe K) (gx 4) (tC (.int 0))) (bU (gx 1) c9)) [some (.ref x),some (.ref t),some (.int pc),some v,some (.ref aL)] (upd H x (.ins CT dx (aV "pace" (.int pc) (aV "mixer" (.ref t) [])))) Q'):=fun Q' h=>by
  cases z:M.el with
  | none=>
    rw[z]at hEl h;obtain rfl:e=.non:=hEl;exact az (h .non _ (fun _=>False) ⟨rfl,fun _ z=>z⟩ (fun _ z=>z.elim) aa (fr0 _))
  | some EE=>
    obtain⟨PE',sE,_,_,_⟩:=T.el EE z;have totE:tot EE<=5000:=by unfold SW.cnt at hcnt;rw[z]at hcnt;have h2:tot EE+tot M.nw<=5000:=hcnt;omega
    rw[z]at hEl h;obtain⟨ea,rfl,hr'⟩:=hEl;refine ao ?_;walk_at "W";refine⟨aL,_,_,_,rfl,rfl,hL.but hx (fr0 _),rfl,?_⟩;walk_at "W";refine⟨ea,t,f,m,EE,rfl,hr'.but hx (fr0 _),sE,totE,fr0 _ _ _ ntx ht,bf,fun sp H1 F1 S1 n1 s1=>?_⟩;rw[oJ PE']at S1;refine h (.ref sp) H1 F1 ⟨sp,rfl,S1⟩ (fun b hb=>?_) (s1 _ _ aa) fun b o nb e=>s1 _ _ (fr0 _ _ _ nb e);have h1:=n1 b hb;by_cases z:b=x
    . subst z;rw[aa]at h1;cases h1
    rw[ag z]at h1;exact⟨h1,z⟩
 refine key2 _ fun ve H1 FE hE1 nFE hx1 fr1=>?_;clear key2;have fr2:∀ o b u,b≠x->H b=some u->upd H1 x o b=some u:=fun o b u nb e=>by rw[ag nb];exact fr1 b u nb e
 walk_at "W";refine SW.eG hx1 g.cl_Table g.n_Table_elder (by omega) ?_
 walk_at "W";refine⟨aL,_,_,_,rfl,rfl,hL.but hx (fr2 _),rfl,?_⟩;walk_at "W";refine SW.eG aa g.cl_Table g.n_Table_moved (by have:=L2 ve;omega) ?_
 rw[iz];walk_at "W";refine⟨aL,_,_,_,rfl,rfl,hL.but hx (fr2 _),rfl,?_⟩;walk_at "W";refine⟨b,t,f,m,M.nw,rfl,hN.but hx (fr2 _),T.sz,totN,fr2 _ _ _ ntx ht,bf,fun sp H2 F2 S2 n2 s2=>?_⟩;rw[oJ T.nw]at S2;have hx2:=s2 _ _ (aa (H:=H1) (a:=x) (o:=.ins CT dx (aV "moved" (.int (M.mv:Nat)) (aV "elder" ve (aV "pace" (.int pc) (aV "mixer" (.ref t) []))))));have n2':∀ b,F2 b->H1 b=none/\b≠x:=fun b hb=>by
  have h1:=n2 b hb;by_cases z:b=x
  . subst z;rw[aa]at h1;cases h1
  rw[ag z]at h1;exact⟨h1,z⟩
 have n2'':∀ b,F2 b->H b=none:=fun b hb=>by
  obtain⟨h1,nb⟩:=n2' b hb;cases e:H b with
  | none=>rfl
  | some o=>rw[fr1 b o nb e]at h1;cases h1
 walk_at "W";refine SW.eG hx2 g.cl_Table g.n_Table_newer (by have:=L3 ve (.int (M.mv:Nat));omega) ?_
 walk_at "W";refine SW.eG aa g.cl_Table g.n_Table_touches (by have:=L4 ve (.int (M.mv:Nat)) (.ref sp);omega) ?_
 rw[iz,xO];have fr3:∀ o,SW.Fr (fun b=>b=x) H2 (upd H2 x o):=fun o b u nb e=>by rw[ag nb];exact e
 have nt3:∀ b xs,H2 b=some (.tup xs) -> ¬ b=x:=fun b xs e=>aA e hx2 (by intro z;cases z)
 have fr4:∀ o,SW.Fr (fun b=>b=x) H1 (upd H2 x o):=fun o b u nb e=>by rw[ag nb];exact s2 _ _ (by rw[ag nb];exact e)
 have nt4:∀ b xs,H1 b=some (.tup xs) -> ¬ b=x:=fun b xs e=>aA e hx1 (by intro z;cases z)
 have fr5:∀ o b u,b≠x->H b=some u->upd H2 x o b=some u:=fun o b u nb e=>fr4 o b u nb (fr1 b u nb e);refine q _ (fun b=>b=x∨F2 b∨FE b) ⟨t,sp,ve,F2,FE,⟨⟨dx,aa⟩,fr5 _ _ _ ntx ht,bf,S2.keep (fr3 _) (fun b hb=>(n2' b hb).2) nt3,hE1.keep (fr4 _) (fun b hb=>(nFE b hb).2) nt4,fun b hb hf=>?_,⟨fun z=>(n2' x z).2 rfl,fun z=>(nFE x z).2 rfl⟩⟩,fun b=>Iff.rfl⟩ (fun b hb=>?_) (fr5 _)
 . obtain⟨o',e',_⟩:=hE1.live hb
   rw[(n2' b hf).1]at e';cases e'
 rcases hb with z | z | z
 . exact .inl z
 . exact .inr (n2'' b z)
 exact .inr (nFE b z).1
theorem q60_(d:Dfn K mg "rows_of" yk ["shelf"])(g:Gs K mg C CT CE CP CZ CR CV)(q86_:Mt P w K mg base C "size" 1 ["self"] (dE C))(q84_:Mt P w K mg base C "row" 3 ["self","place"] (lR C)):Fn P w K mg base "rows_of" 4 ["shelf"] (jM C):=by
 refine d.fn zW (fun vs H Q E h=>?_) (fun f cdv A outer s H vs Q E hr h=>?_)
 . obtain⟨p,f,m,R,F,rfl,_⟩:=h
   rfl
 obtain⟨p,f,m,R,F,rfl,S,q⟩:=h;have htop:=S.top;refine⟨_,(B.sone (B.ret (B.cT cN g.b_tuple SW.b_tuple (B.cons (SW.B.comp [0] ["place","shelf"] (SW.ax.of rfl rfl (by decide +kernel) (by decide +kernel) rfl ⟨rfl,trivial⟩ rfl rfl rfl) (by decide +kernel) (B.irange g.b_range (B.cons (B.meth0 (B.v 0) g.cl_Shelf q86_ hr.up) B.nil)) (fun _ _ _ _=>(B.cT (SW.dL K) g.b_tuple SW.b_tuple (B.cons (B.meth (B.v 1) g.cl_Shelf q84_ hr.up (B.cons (B.v 0) B.nil)) B.nil)))) B.nil)))),?_⟩
 walk_at "W";refine wS S ⟨by decide +kernel,by decide +kernel,by decide +kernel⟩ ?_
 walk_at "W";refine fh S ?_;walk_at "W";refine⟨R.length,rfl,by omega,by omega,fun D hD=>?_⟩
 refine cQ (fun i Z' H'=>∃(xs:List V) (v:Option V),ac H H' /\ Z'=[v,some (.ref p)]/\xs.length=i/\H' D=some (.lst xs)/\Paired (lN H') xs (R.take i)) ⟨[],none,ac.new hD,rfl,rfl,aa,.nil⟩ ?_ ?_
 . rintro i Z' H' hi ⟨xs,v,s',rfl,hl,hD',pr⟩
   have S':=S.same s';walk_at "W";refine wS S' ⟨by decide +kernel,by decide +kernel,by decide +kernel⟩ ?_
   walk_at "W";refine wq S' (by omega) (by omega) fun l ys H2 s2 nl hl2 p2=>?_
   walk_at "W";refine⟨l,_,rfl,.inl ⟨SqL.of hl2,fun t ht=>?_⟩⟩;have hD2:=s2 _ _ hD';have s3:ac H2 (upd H2 t (.tup ys)):=ac.new ht;have hD3:=s3 _ _ hD2;have e0:(0+(i:Int)).toNat=i:=by omega
   rw[e0]at p2;refine CN.mk hi hD3 (by
    have:sizeLine=16777216:=sizeLine_eq
    omega) ⟨xs++[.ref t],_,fun b o e=>?_,rfl,by rw[List.length_append,hl];rfl,aa,?_⟩
   . rw[ag (ai e hD)];exact s3 _ _ (s2 _ _ (s' _ _ e))
   have kt:b8 (upd H2 t (.tup ys)) (upd (upd H2 t (.tup ys)) D (.lst (xs++[.ref t]))):=b8.upd fun zs e=>by rw[hD3]at e;cases e
   rw[List.take_add_one,bM hi];refine ig (Paired.mapP pr fun _ _ z=>z.keep (fun a xs e=>kt _ _ (s3 _ _ (s2 _ _ e)))) ?_;exact⟨t,ys,rfl,kt _ _ aa,p2.keep fun a xs e=>kt _ _ (s3 _ _ e)⟩
 rintro Z' H' ⟨xs,v,s',rfl,hl,hD',pr⟩;walk_at "W";refine⟨D,_,rfl,.inl ⟨SqL.of hD',fun l hl=>?_⟩⟩;have s2:ac H' (upd H' l (.tup xs)):=ac.new hl;rw[show((R.length:Nat):Int).toNat=R.length from rfl,List.take_length]at pr;exact q _ _ (s'.trans s2) ⟨l,xs,rfl,aa,Paired.mapP pr fun _ _ z=>z.keep (b8.same s2)⟩
theorem z_(d:Dm K CT "state" "Table.state" xN ["self"])(g:Gs K mg C CT CE CP CZ CR CV)(q60_:Fn P w K mg base "rows_of" 4 ["shelf"] (jM C)):Mt P w K mg base CT "state" 5 ["self"] (jH C CT):=by
 refine d.mt A_ (fun vs H Q E h=>?_) (fun f cdv A outer s H vs Q E hr h=>?_)
 . obtain⟨p,f,m,pc,M,tc,F,rfl,_⟩:=h
   rfl
 obtain⟨p,f,m,pc,M,tc,F,rfl,S,q⟩:=h;obtain⟨t,n,v,FN,FE,X,hF⟩:=id S;obtain⟨dx,hp⟩:=X.ob;have hel:=X.el;refine⟨_,(B.scons (B.set 1 A_.nd (B.ifx (B.tcmp bZ (B.fld (B.v 0)) B.non) B.non (B.fn q60_ hr.up (B.cons (B.fld (B.v 0)) B.nil))))
  (B.sone (B.ret (B.tup (B.cons (B.v 1) (B.cons (B.fld (B.v 0)) (B.cons (B.fn q60_ hr.up (B.cons (B.fld (B.v 0)) B.nil)) B.nil))))))),?_⟩
 walk_at "W";refine SW.bo hp g.cl_Table g.n_Table_elder (aY ..) ?_;walk_at "W";refine⟨rfl,?_⟩;walk_at "W";have three:(3:Nat)<=sizeLine:=by decide
 cases e:M.el with
 | none=>
   rw[e]at hel;obtain⟨rfl,_⟩:=hel;refine az ?_;walk_at "W";refine SW.bo hp g.cl_Table g.n_Table_moved (cI ..) ?_;walk_at "W";refine SW.bo hp g.cl_Table g.n_Table_newer (bc ..) ?_;walk_at "W";refine li X.nw fun v1 H1 s1 u1=>?_;walk_at "W";refine⟨three,fun a ha=>q _ _ (s1.trans (ac.new ha)) ⟨a,_,_,rfl,aa,by rw[e];rfl,u1.keep (b8.same (ac.new ha))⟩⟩
 | some EE=>
   rw[e]at hel;obtain⟨ea,rfl,SE⟩:=hel;refine ao ?_;walk_at "W";refine SW.bo hp g.cl_Table g.n_Table_elder (aY ..) ?_;walk_at "W";refine li SE fun v0 H0 s0 u0=>?_;have hp0:=s0 _ _ hp;walk_at "W";refine SW.bo hp0 g.cl_Table g.n_Table_moved (cI ..) ?_;walk_at "W";refine SW.bo hp0 g.cl_Table g.n_Table_newer (bc ..) ?_;walk_at "W";refine li (X.nw.same s0) fun v1 H1 s1 u1=>?_;walk_at "W";refine⟨three,fun a ha=>q _ _ ((s0.trans s1).trans (ac.new ha)) ⟨a,_,_,rfl,aa,by rw[e];exact u0.keep (b8.same (s1.trans (ac.new ha))),u1.keep (b8.same (ac.new ha))⟩⟩
theorem zO(d:Dm K CT "sizes" "Table.sizes" xq ["self"])(g:Gs K mg C CT CE CP CZ CR CV)(q86_:Mt P w K mg base C "size" 1 ["self"] (dE C)):Mt P w K mg base CT "sizes" 2 ["self"] (jg C CT):=by
 refine d.mt Cz (fun vs H Q E h=>?_) (fun f cdv A outer s H vs Q E hr h=>?_)
 . obtain⟨p,f,m,pc,M,tc,F,rfl,_⟩:=h
   rfl
 obtain⟨p,f,m,pc,M,tc,F,rfl,S,q⟩:=h;obtain⟨t,n,v,FN,FE,X,hF⟩:=id S;obtain⟨dx,hp⟩:=X.ob;have hel:=X.el;refine⟨_,(B.sone (B.ret (B.tup (B.cons (B.ifx (B.tcmp bZ (B.fld (B.v 0)) B.non) B.non (B.meth0 (B.fld (B.v 0)) g.cl_Shelf q86_ hr.up)) (B.cons (B.meth0 (B.fld (B.v 0)) g.cl_Shelf q86_ hr.up) B.nil))))),?_⟩;walk_at "W";refine SW.bo hp g.cl_Table g.n_Table_elder (aY ..) ?_;walk_at "W";refine⟨rfl,?_⟩;walk_at "W";have two:(2:Nat)<=sizeLine:=by decide
 cases e:M.el with
 | none=>
   rw[e]at hel q;obtain⟨rfl,_⟩:=hel;refine az ?_;walk_at "W";refine SW.bo hp g.cl_Table g.n_Table_newer (bc ..) ?_;walk_at "W";refine wS X.nw ⟨by decide +kernel,by decide +kernel,by decide +kernel⟩ ?_
   walk_at "W";refine fh X.nw ?_;walk_at "W";exact⟨two,fun a ha=>q a ha⟩
 | some EE=>
   rw[e]at hel q;obtain⟨ea,rfl,SE⟩:=hel;refine ao ?_;walk_at "W";refine SW.bo hp g.cl_Table g.n_Table_elder (aY ..) ?_;walk_at "W";refine wS SE ⟨by decide +kernel,by decide +kernel,by decide +kernel⟩ ?_
   walk_at "W";refine fh SE ?_;walk_at "W";refine SW.bo hp g.cl_Table g.n_Table_newer (bc ..) ?_;walk_at "W";refine wS X.nw ⟨by decide +kernel,by decide +kernel,by decide +kernel⟩ ?_
   walk_at "W";refine fh X.nw ?_;walk_at "W";exact⟨two,fun a ha=>q a ha⟩
theorem zJ(d:Dm K CT "touched" "Table.touched" xT ["self"])(g:Gs K mg C CT CE CP CZ CR CV):Mt P w K mg base CT "touched" 1 ["self"] (fS C CT):=by
 refine d.mt B6 (fun vs H Q E h=>?_) (fun f cdv A outer s H vs Q E hr h=>?_)
 . obtain⟨p,f,m,pc,M,tc,F,rfl,_⟩:=h
   rfl
 obtain⟨p,f,m,pc,M,tc,F,rfl,S,q⟩:=h;obtain⟨t,n,v,FN,FE,X,hF⟩:=id S;obtain⟨dx,hp⟩:=X.ob;refine⟨_,(B.sone (B.ret (B.fld (B.v 0)))),?_⟩;walk_at "W";exact⟨p,CT,dx,_,_,rfl,hp,g.cl_Table,g.n_Table_touches,l_ ..,q⟩
def ft:Sp:=fun vs H Q _=>∃ n:Nat,vs=[.int n]/\Q (.bl (decide (am n))) H
theorem i_(n:Nat):inV (V.int n) [.int 4,.int 8,.int 16,.int 32,.int 64,.int 128,.int 256,.int 512,.int 1024,.int 2048,.int 4096]=decide (am n):=by
 have e:=kZ (n:Int) [4,8,16,32,64,128,256,512,1024,2048,4096];refine Eq.trans e ?_;rw[Bool.eq_iff_iff,decide_eq_true_iff,decide_eq_true_iff];unfold am;simp only[List.mem_cons,List.not_mem_nil,or_false];omega
theorem BR(d:Dfn K mg "is_size" vm ["thing"])(g:Gs K mg C CT CE CP CZ CR CV)(q16_:Fn P w K mg base "is_whole" 1 ["thing"] pj):Fn P w K mg base "is_size" 2 ["thing"] ft:=by
 refine d.fn Bf (fun vs H Q E h=>?_) (fun f cdv A outer s H vs Q E hr h=>?_)
 . obtain⟨n,rfl,_⟩:=h
   rfl
 obtain⟨n,rfl,q⟩:=h;obtain⟨aS,hS,tS⟩:=g.c_SIZES;refine⟨_,(B.sone (B.ret (B.and (B.fn q16_ hr.up (B.cons (B.v 0) B.nil)) (B.one (B.cmpI kI (B.v 0) (B.gref hS)))))),?_⟩;walk_at "W";refine⟨_,rfl,?_⟩;walk_at "W";refine az ?_;walk_at "W";refine⟨aS,_,rfl,.inr (tS _),rfl,by decide,?_⟩
 rw[if_neg Bool.false_ne_true,i_];exact q
def ka:Sp:=fun vs H Q _=>∃(ve vn:V) (S:Sta),vs=[ve,vn]/\ElV H ve S.el/\bt H vn S.nw/\Q (.bl (bp S)) H
def mm:Sp:=fun vs H Q _=>∃(ve:V) (S:Sta),vs=[ve,.int S.mv]/\ElV H ve S.el/\Q (.bl (bS S)) H
theorem mW{a b:Nat}:decide (V.int (a:Int)=V.int (2*(b:Int)))=decide (a=2*b):=by
 rw[Bool.eq_iff_iff,decide_eq_true_iff,decide_eq_true_iff]
 constructor
 . intro z;injection z with z;omega
 intro z;rw[show(a:Int)=2*(b:Int) by omega]
theorem BG(d:Dfn K mg "has_right_places" yv ["elder","newer"])(g:Gs K mg C CT CE CP CZ CR CV)(q13_:Fn P w K mg base "is_size" 2 ["thing"] ft):Fn P w K mg base "has_right_places" 3 ["elder","newer"] ka:=by
 refine d.fn AF (fun vs H Q E h=>?_) (fun f cdv A outer s H vs Q E hr h=>?_)
 . obtain⟨ve,vn,S,rfl,_⟩:=h
   rfl
 obtain⟨ve,vn,S,rfl,he,⟨n,xs,rfl,hn,hr_⟩,q⟩:=h;have hxl:=aH hr_;refine⟨_,(B.scons (B.ifs (B.tnot (B.tval (B.fn q13_ hr.up (B.cons (B.cB aj g.b_len SW.b_len (B.cons (B.v 1) B.nil)) B.nil)))) (B.sone (B.ret B.bl)) B.snil)
  (B.scons (B.ifs (B.tcmp bZ (B.v 0) B.non) (B.sone (B.ret B.bl)) B.snil)
  (B.sone (B.ret (B.and (B.fn q13_ hr.up (B.cons (B.cB aj g.b_len SW.b_len (B.cons (B.v 0) B.nil)) B.nil)) (B.one (B.or (B.cmp cz (B.cB aj g.b_len SW.b_len (B.cons (B.v 0) B.nil)) (B.op b9 B.int (B.cB aj g.b_len SW.b_len (B.cons (B.v 1) B.nil)))) (B.one (B.cmp cz (B.cB aj g.b_len SW.b_len (B.cons (B.v 1) B.nil)) (B.op b9 B.int (B.cB aj g.b_len SW.b_len (B.cons (B.v 0) B.nil)))))))))))),?_⟩
 walk_at "W";refine SW.bG (.inr (SqT.of hn)) ?_;walk_at "W";refine⟨xs.length,rfl,?_⟩;walk_at "W";rw[hxl];unfold bp at q;cases h1:decide (am S.nw.length)with
 | false=>
   rw[h1]at q;refine az ?_;walk_at "W";exact q
 | true=>
   rw[h1]at q;refine ao ?_;walk_at "W";refine⟨rfl,?_⟩;walk_at "W";obtain⟨el,mv,nw⟩:=S;cases el with
   | none=>
     have he:ve=V.non:=he;subst he;refine c5 rfl ?_;walk_at "W";exact q
   | some E_=>
     obtain⟨a,ys,rfl,ha,hra⟩:=(show bt H ve E_ from he);have hyl:=aH hra;refine bK (fun z=>nomatch z) ?_;walk_at "W";refine SW.bG (.inr (SqT.of ha)) ?_;walk_at "W";refine⟨ys.length,rfl,?_⟩;walk_at "W";rw[hyl];have q:Q (.bl (decide (am E_.length) && (decide (E_.length=2*nw.length) || decide (nw.length=2*E_.length)))) H:=q;cases h2:decide (am E_.length)with
     | false=>
       rw[h2]at q;exact ao q
     | true=>
       rw[h2]at q;refine az ?_;walk_at "W";refine SW.bG (.inr (SqT.of ha)) ?_;walk_at "W";refine SW.bG (.inr (SqT.of hn)) ?_;walk_at "W";rw[hyl,show xs.length=nw.length from hxl,mW];cases h3:decide (E_.length=2*nw.length)with
       | true=>
         rw[h3]at q;exact az q
       | false=>
         rw[h3]at q;refine ao ?_;walk_at "W";refine SW.bG (.inr (SqT.of hn)) ?_;walk_at "W";refine SW.bG (.inr (SqT.of ha)) ?_;walk_at "W";rw[hyl,show xs.length=nw.length from hxl,mW];exact q
theorem Bt(d:Dfn K mg "has_right_moved" yh ["elder","moved"])(g:Gs K mg C CT CE CP CZ CR CV):Fn P w K mg base "has_right_moved" 1 ["elder","moved"] mm:=by
 refine d.fn Ag (fun vs H Q E h=>?_) (fun f cdv A outer s H vs Q E hr h=>?_)
 . obtain⟨ve,S,rfl,_⟩:=h
   rfl
 obtain⟨ve,S,rfl,he,q⟩:=h;unfold bS at q;refine⟨_,(B.sone (B.ret (B.chain eY fG B.int (B.v 1) (B.ifx (B.tcmp bZ (B.v 0) B.non) B.int (B.cB aj g.b_len SW.b_len (B.cons (B.v 0) B.nil)))))),?_⟩;walk_at "W";by_cases h0:0<=S.mv
 . rw[decide_eq_true h0]at q
   refine c5 h0 ?_;walk_at "W";refine⟨rfl,?_⟩;walk_at "W";obtain⟨el,mv,nw⟩:=S;cases el with
   | none=>
     have he:ve=V.non:=he;subst he;refine c5 rfl ?_;walk_at "W";exact q
   | some E_=>
     obtain⟨a,ys,rfl,ha,hra⟩:=(show bt H ve E_ from he);have hyl:=aH hra;refine bK (fun z=>nomatch z) ?_;walk_at "W";refine SW.bG (.inr (SqT.of ha)) ?_;walk_at "W";rw[hyl];exact q
 rw[decide_eq_false h0]at q;exact bK h0 q
def dw:Sp:=fun vs H Q _=>∃(v:V) (d:PyData),vs=[v]/\Any H v d/\Q (.bl (bW d)) H
theorem iC{H:Hp}{Q:VK}{E:XK}{v:V}{d:PyData}(h:Any H v d)(q:Q (.bl (bW d)) H):dw ([v]++[]) H Q E:=⟨v,d,rfl,h,q⟩
def mJ(lo:Int):Sp:=fun vs H Q _=>∃(v:V) (d:PyData),vs=[v]/\Any H v d/\Q (.bl (cA lo d)) H
theorem Bi{lo:Int}{H:Hp}{Q:VK}{E:XK}{v:V}{d:PyData}(h:Any H v d)(q:Q (.bl (cA lo d)) H):mJ lo ([v]++[]) H Q E:=⟨v,d,rfl,h,q⟩
def lB:Sp:=fun vs H Q _=>∃(v:V) (d:PyData),vs=[v]/\Any H v d/\Q (.bl (bz d)) H
theorem wV{H:Hp}{Q:VK}{E:XK}{v:V}{d:PyData}(h:Any H v d)(q:Q (.bl (bz d)) H):lB ([v]++[]) H Q E:=⟨v,d,rfl,h,q⟩
theorem Cd(d:Dfn K mg "is_whole" xI ["thing"])(g:Gs K mg C CT CE CP CZ CR CV):Fn P w K mg base "is_whole" 1 ["thing"] dw:=by
 refine d.fn Aa (fun vs H Q E h=>?_) (fun f cdv A outer s H vs Q E hr h=>?_)
 . obtain⟨v,dd,rfl,_⟩:=h
   rfl
 obtain⟨v,dd,rfl,hd,q⟩:=h;refine⟨_,(B.sone (B.ret (B.and (B.cB SW.bx g.b_isinstance SW.b_isinstance (B.cons (B.v 0) (B.cons (B.ty g.b_int SW.b_int) B.nil))) (B.one (B.not (B.cB SW.bx g.b_isinstance SW.b_isinstance (B.cons (B.v 0) (B.cons (B.ty g.b_bool SW.b_bool) B.nil)))))))),?_⟩;walk_at "W";refine SW.fB hd.ty (gI dd) ?_;walk_at "W";cases dd with
 | int i=>
   refine az ?_;walk_at "W";refine SW.fB hd.ty (di _) ?_;walk_at "W";exact q
 | bool b=>
   refine az ?_;walk_at "W";refine SW.fB hd.ty (di _) ?_;walk_at "W";exact q
 | none=>exact ao q
 | str x=>exact ao q
 | list x=>exact ao q
 | tuple x=>exact ao q
 | dict x=>exact ao q
theorem BW(d:Dfn K mg "is_key" yw ["thing"])(g:Gs K mg C CT CE CP CZ CR CV)(q16_:Fn P w K mg base "is_whole" 1 ["thing"] dw):Fn P w K mg base "is_key" 2 ["thing"] (mJ 0):=by
 refine d.fn AK (fun vs H Q E h=>?_) (fun f cdv A outer s H vs Q E hr h=>?_)
 . obtain⟨v,dd,rfl,_⟩:=h
   rfl
 obtain⟨v,dd,rfl,hd,q⟩:=h;refine⟨_,(B.sone (B.ret (B.and (B.fn q16_ hr.up (B.cons (B.v 0) B.nil)) (B.one (B.chain eY eY B.int (B.v 0) (B.gint g.c_GREATEST)))))),?_⟩;walk_at "W";refine iC hd ?_;walk_at "W";cases dd with
 | int i=>
   cases hd;refine az ?_;walk_at "W";have q:Q (.bl (decide (0<=i) && decide (i<=1000000000))) H:=q;by_cases c:0<=i
   . rw[decide_eq_true c]at q
     refine c5 c ?_;walk_at "W";exact q
   rw[decide_eq_false c]at q;exact bK c q
 | bool b=>exact ao q
 | none=>exact ao q
 | str x=>exact ao q
 | list x=>exact ao q
 | tuple x=>exact ao q
 | dict x=>exact ao q
theorem BV(d:Dfn K mg "is_worth" yT ["thing"])(g:Gs K mg C CT CE CP CZ CR CV)(q16_:Fn P w K mg base "is_whole" 1 ["thing"] dw):Fn P w K mg base "is_worth" 2 ["thing"] (mJ (-1000000000)):=by
 refine d.fn AH (fun vs H Q E h=>?_) (fun f cdv A outer s H vs Q E hr h=>?_)
 . obtain⟨v,dd,rfl,_⟩:=h
   rfl
 obtain⟨v,dd,rfl,hd,q⟩:=h;refine⟨_,(B.sone (B.ret (B.and (B.fn q16_ hr.up (B.cons (B.v 0) B.nil)) (B.one (B.chain eY eY (B.un eU (B.gint g.c_GREATEST)) (B.v 0) (B.gint g.c_GREATEST)))))),?_⟩;walk_at "W";refine iC hd ?_;walk_at "W";cases dd with
 | int i=>
   cases hd;refine az ?_;walk_at "W";have q:Q (.bl (decide (-1000000000<=i) && decide (i<=1000000000))) H:=q;by_cases c:-1000000000<=i
   . rw[decide_eq_true c]at q
     refine c5 c ?_;walk_at "W";exact q
   rw[decide_eq_false c]at q;exact bK c q
 | bool b=>exact ao q
 | none=>exact ao q
 | str x=>exact ao q
 | list x=>exact ao q
 | tuple x=>exact ao q
 | dict x=>exact ao q
theorem BF(d:Dfn K mg "is_pair" yl ["thing"])(g:Gs K mg C CT CE CP CZ CR CV)(q10_:Fn P w K mg base "is_key" 2 ["thing"] (mJ 0))(q17_:Fn P w K mg base "is_worth" 2 ["thing"] (mJ (-1000000000))):Fn P w K mg base "is_pair" 3 ["thing"] lB:=by
 refine d.fn Ay (fun vs H Q E h=>?_) (fun f cdv A outer s H vs Q E hr h=>?_)
 . obtain⟨v,dd,rfl,_⟩:=h
   rfl
 obtain⟨v,dd,rfl,hd,q⟩:=h;refine⟨_,(B.sone (B.ret (B.and (B.cB SW.bx g.b_isinstance SW.b_isinstance (B.cons (B.v 0) (B.cons (B.ty g.b_tuple SW.b_tuple) B.nil))) (B.and (B.cmp cz (B.cB aj g.b_len SW.b_len (B.cons (B.v 0) B.nil)) B.int) (B.and (B.fn q10_ hr.up (B.cons (B.ix av (B.v 0) B.int) B.nil)) (B.one (B.fn q17_ hr.up (B.cons (B.ix av (B.v 0) B.int) B.nil)))))))),?_⟩;walk_at "W";refine SW.fB hd.ty (cn dd) ?_;walk_at "W";cases hd with
 | @tup a xs ds h r=>
   have hl:=r.len;refine az ?_;walk_at "W";refine SW.bG (.inr (SqT.of h)) ?_;walk_at "W";rcases r with _ | ⟨h1,r⟩
   . exact bK (by decide) q
   rcases r with _ | ⟨h2,r⟩
   . exact bK (fun z=>by simp at z) q
   rcases r with _ | ⟨h3,r⟩
   . refine c5 rfl ?_
     walk_at "W";refine Bi h1 ?_;walk_at "W";rename_i x1 d1 x2 d2;have q:Q (.bl (cA 0 d1 && cA (-1000000000) d2)) H:=q;cases e1:cA 0 d1 with
     | false=>rw[e1]at q;exact ao q
     | true=>
       rw[e1]at q;refine az ?_;walk_at "W";refine Bi h2 ?_;exact q
   refine bK (fun z=>?_) q;simp at z;omega
 | non=>exact ao q
 | bl b=>exact ao q
 | int i=>exact ao q
 | str x=>exact ao q
 | lst h r=>exact ao q
 | dic h=>exact ao q
def m8:Sp:=fun vs H Q _=>∃(v:V) (d:PyData),vs=[v]/\Any H v d/\(∀ ds,d=.tuple ds->ds.length<=100000) /\ ∀ H',ac H H'->Q (.bl (b_ d)) H'
theorem zT{H:Hp}{Q:VK}{E:XK}{v:V}{d:PyData}(h:Any H v d)(hl:∀ ds,d=.tuple ds->ds.length<=100000)(q:∀ H',ac H H'->Q (.bl (b_ d)) H'):m8 ([v]++[]) H Q E:=⟨v,d,rfl,h,hl,q⟩
theorem BO(d:Dfn K mg "is_row" zu ["thing"])(g:Gs K mg C CT CE CP CZ CR CV)(q11_:Fn P w K mg base "is_pair" 3 ["thing"] lB):Fn P w K mg base "is_row" 4 ["thing"] m8:=by
 refine d.fn Ba (fun vs H Q E h=>?_) (fun f cdv A outer s H vs Q E hr h=>?_)
 . obtain⟨v,dd,rfl,_⟩:=h
   rfl
 obtain⟨v,dd,rfl,hd,hz,q⟩:=h;refine⟨_,(B.sone (B.ret (B.and (B.cB SW.bx g.b_isinstance SW.b_isinstance (B.cons (B.v 0) (B.cons (B.ty g.b_tuple SW.b_tuple) B.nil))) (B.one (B.cB SW.kU g.b_all SW.b_all (B.cons (SW.B.comp [] ["pair"] (SW.ax.of rfl rfl (by decide +kernel) (by decide +kernel) rfl trivial rfl rfl rfl) (by decide +kernel) (B.itup (B.v 0)) (fun _ _ _ _=>(B.fn q11_ hr.up (B.cons (B.v 0) B.nil)))) B.nil)))))),?_⟩
 walk_at "W";refine SW.fB hd.ty (cn dd) ?_;walk_at "W";cases hd with
 | @tup a xs ds h r=>
   have hl:=r.len;have lim:sizeLine=16777216:=sizeLine_eq;have hz':=hz ds rfl;refine az ?_;walk_at "W";refine⟨a,rfl,⟨_,SqT.of h⟩,fun D hD=>?_⟩;refine fq (xs:=xs) (fun i Z' H'=>∃ v,Z'=[v]/\ac H H'/\H' D=some (.lst (((ds.take i).map bz).map V.bl))) ⟨none,rfl,ac.new hD,aa⟩ (fun i Z' H' _ ⟨v,_,s',_⟩=>SqT.of (s' _ _ h)) ?_ ?_
   . rintro i x Z' H' hx hi ⟨v,rfl,s',hD'⟩
     obtain⟨dx,hdx,hax⟩:=r.get hx;walk_at "W";refine wV (hax.same s') ?_;refine CN.mk hi hD' (by rw[List.length_map,List.length_map,List.length_take];omega) ⟨_,rfl,fun b o e=>by rw[ag (ai e hD)];exact s' _ _ e,?_⟩
     rw[aa,aw hdx,List.map_append,List.map_append]
     rfl
   rintro Z' H' ⟨v,rfl,s',hD'⟩;rw[hl,List.take_length]at hD';walk_at "W";refine⟨D,_,rfl,SqL.of hD',rfl,?_⟩;have e:(List.map bz ds).all id=b_ (.tuple ds):=by rw[List.all_map];rfl
   rw[e];exact q _ s'
 | non=>exact ao (q _ (ac.refl _))
 | bl b=>exact ao (q _ (ac.refl _))
 | int i=>exact ao (q _ (ac.refl _))
 | str x=>exact ao (q _ (ac.refl _))
 | lst h r=>exact ao (q _ (ac.refl _))
 | dic h=>exact ao (q _ (ac.refl _))
def Wd1(d:PyData):Prop:=∀ ds,d=.tuple ds->ds.length<=100000
def Wd2(d:PyData):Prop:=∀ ds,d=.tuple ds->ds.length<=100000 /\ ∀ x∈ds,Wd1 x
def Wd3(d:PyData):Prop:=∀ ds,d=.tuple ds -> ∀ x∈ds,Wd2 x
def gm:Sp:=fun vs H Q _=>∃(v:V) (d:PyData),vs=[v]/\Any H v d/\Wd2 d /\ ∀ H',ac H H'->Q (.bl (ap d)) H'
theorem iY{H:Hp}{Q:VK}{E:XK}{v:V}{d:PyData}(h:Any H v d)(hl:Wd2 d)(q:∀ H',ac H H'->Q (.bl (ap d)) H'):gm ([v]++[]) H Q E:=⟨v,d,rfl,h,hl,q⟩
def jz:Sp:=fun vs H Q _=>∃(v:V) (d:PyData),vs=[v]/\Any H v d/\Wd3 d /\ ∀ H',ac H H'->Q (.bl (aq d)) H'
theorem uy{H:Hp}{Q:VK}{E:XK}{v:V}{d:PyData}(h:Any H v d)(hl:Wd3 d)(q:∀ H',ac H H'->Q (.bl (aq d)) H'):jz ([v]++[]) H Q E:=⟨v,d,rfl,h,hl,q⟩
theorem CI(d:Dfn K mg "are_rows" yY ["thing"])(g:Gs K mg C CT CE CP CZ CR CV)(q12_:Fn P w K mg base "is_row" 4 ["thing"] m8):Fn P w K mg base "are_rows" 5 ["thing"] gm:=by
 refine d.fn BZ (fun vs H Q E h=>?_) (fun f cdv A outer s H vs Q E hr h=>?_)
 . obtain⟨v,dd,rfl,_⟩:=h
   rfl
 obtain⟨v,dd,rfl,hd,hz,q⟩:=h;refine⟨_,(B.sone (B.ret (B.and (B.cB SW.bx g.b_isinstance SW.b_isinstance (B.cons (B.v 0) (B.cons (B.ty g.b_tuple SW.b_tuple) B.nil))) (B.one (B.cB SW.kU g.b_all SW.b_all (B.cons (SW.B.comp [] ["row"] (SW.ax.of rfl rfl (by decide +kernel) (by decide +kernel) rfl trivial rfl rfl rfl) (by decide +kernel) (B.itup (B.v 0)) (fun _ _ _ _=>(B.fn q12_ hr.up (B.cons (B.v 0) B.nil)))) B.nil)))))),?_⟩
 walk_at "W";refine SW.fB hd.ty (cn dd) ?_;walk_at "W";cases hd with
 | @tup a xs ds h r=>
   have hl:=r.len;have lim:sizeLine=16777216:=sizeLine_eq;obtain⟨hz1,hz2⟩:=hz ds rfl;refine az ?_;walk_at "W";refine⟨a,rfl,⟨_,SqT.of h⟩,fun D hD=>?_⟩;refine fq (xs:=xs) (fun i Z' H'=>∃ v,Z'=[v]/\ac H H'/\H' D=some (.lst (((ds.take i).map b_).map V.bl))) ⟨none,rfl,ac.new hD,aa⟩ (fun i Z' H' _ ⟨v,_,s',_⟩=>SqT.of (s' _ _ h)) ?_ ?_
   . rintro i x Z' H' hx hi ⟨v,rfl,s',hD'⟩
     obtain⟨dx,hdx,hax⟩:=r.get hx;walk_at "W";refine zT (hax.same s') (hz2 _ (List.mem_of_getElem? hdx)) fun H5 s5=>?_;refine CN.mk hi (s5 _ _ hD') (by rw[List.length_map,List.length_map,List.length_take];omega) ⟨_,rfl,fun b o e=>by rw[ag (ai e hD)];exact s5 _ _ (s' _ _ e),?_⟩
     rw[aa,aw hdx,List.map_append,List.map_append]
     rfl
   rintro Z' H' ⟨v,rfl,s',hD'⟩;rw[hl,List.take_length]at hD';walk_at "W";refine⟨D,_,rfl,SqL.of hD',rfl,?_⟩;have e:(List.map b_ ds).all id=ap (.tuple ds):=by rw[List.all_map];rfl
   rw[e];exact q _ s'
 | non=>exact ao (q _ (ac.refl _))
 | bl b=>exact ao (q _ (ac.refl _))
 | int i=>exact ao (q _ (ac.refl _))
 | str x=>exact ao (q _ (ac.refl _))
 | lst h r=>exact ao (q _ (ac.refl _))
 | dic h=>exact ao (q _ (ac.refl _))
theorem Cm(d:Dfn K mg "is_state" yW ["thing"])(g:Gs K mg C CT CE CP CZ CR CV)(q16_:Fn P w K mg base "is_whole" 1 ["thing"] dw)(q0_:Fn P w K mg base "are_rows" 5 ["thing"] gm):Fn P w K mg base "is_state" 6 ["thing"] jz:=by
 refine d.fn zB (fun vs H Q E h=>?_) (fun f cdv A outer s H vs Q E hr h=>?_)
 . obtain⟨v,dd,rfl,_⟩:=h
   rfl
 obtain⟨v,dd,rfl,hd,hz,q⟩:=h;refine⟨_,(B.scons (B.ifs (B.tw (B.wor (B.tnot (B.tval (B.cB SW.bx g.b_isinstance SW.b_isinstance (B.cons (B.v 0) (B.cons (B.ty g.b_tuple SW.b_tuple) B.nil))))) (B.wor1 (B.tcmp eF (B.cB aj g.b_len SW.b_len (B.cons (B.v 0) B.nil)) B.int)))) (B.sone (B.ret B.bl)) B.snil)
  (B.sone (B.ret (B.and (B.or (B.cmp bZ (B.ix av (B.v 0) B.int) B.non) (B.one (B.fn q0_ hr.up (B.cons (B.ix av (B.v 0) B.int) B.nil)))) (B.and (B.fn q16_ hr.up (B.cons (B.ix av (B.v 0) B.int) B.nil)) (B.one (B.fn q0_ hr.up (B.cons (B.ix av (B.v 0) B.int) B.nil)))))))),?_⟩
 walk_at "W";refine SW.fB hd.ty (cn dd) ?_;walk_at "W";have q0:aq dd=false->Q (.bl false) H:=fun e=>by have:=q _ (ac.refl H);rw[e]at this;exact this
 cases hd with
 | @tup a xs ds h r=>
   have hl:=r.len;have hz':=hz ds rfl;refine ao ?_;walk_at "W";refine SW.bG (.inr (SqT.of h)) ?_;walk_at "W";rcases r with _ | ⟨h1,r⟩
   . refine bR (fun z=>by simp at z) ?_
     walk_at "W";exact q0 rfl
   rcases r with _ | ⟨h2,r⟩
   . refine bR (fun z=>by simp at z) ?_
     walk_at "W";exact q0 rfl
   rcases r with _ | ⟨h3,r⟩
   . refine bR (fun z=>by simp at z) ?_
     walk_at "W";exact q0 rfl
   rcases r with _ | ⟨h4,r⟩
   . rename_i x1 d1 x2 d2 x3 d3
     refine cp rfl ?_;walk_at "W";refine⟨rfl,?_⟩;walk_at "W";have hT:=h;by_cases hx:x1=V.non
     . subst hx
       have eE:cg d1=true:=by cases h1;rfl
       refine c5 rfl ?_;walk_at "W";refine az ?_;walk_at "W";refine iC (h2.same (ac.refl H)) ?_;walk_at "W";cases e2:bW d2 with
       | false=>
         refine ao ?_;have:=q _ (ac.refl H);rw[show aq (.tuple [d1,d2,d3])=false by show(cg d1 && bW d2 && ap d3)=false;rw[e2];cases cg d1 <;> rfl]at this
         exact this
       | true=>
         refine az ?_;walk_at "W";refine iY (h3.same (ac.refl H)) (hz' d3 (by simp)) fun H6 s6=>?_
         have:=q _ (ac.trans (ac.refl H) s6);rw[show aq (.tuple [d1,d2,d3])=ap d3 by show(cg d1 && bW d2 && ap d3)=ap d3;rw[e2,eE];rfl]at this
         exact this
     refine bK hx ?_;walk_at "W";refine iY h1 (hz' d1 (by simp)) fun H5 s5=>?_
     have eN:cg d1=ap d1:=by cases h1 <;> first | exact absurd rfl hx | rfl
     walk_at "W";cases eR:ap d1 with
     | false=>
       refine ao ?_;have:=q _ s5;rw[show aq (.tuple [d1,d2,d3])=false by show(cg d1 && bW d2 && ap d3)=false;rw[eN,eR];rfl]at this
       exact this
     | true=>
       have eE:cg d1=true:=eN.trans eR;have hT5:=s5 _ _ h;refine az ?_;walk_at "W";refine iC (h2.same s5) ?_;walk_at "W";cases e2:bW d2 with
       | false=>
         refine ao ?_;have:=q _ s5;rw[show aq (.tuple [d1,d2,d3])=false by show(cg d1 && bW d2 && ap d3)=false;rw[e2];cases cg d1 <;> rfl]at this
         exact this
       | true=>
         refine az ?_;walk_at "W";refine iY (h3.same s5) (hz' d3 (by simp)) fun H6 s6=>?_
         have:=q _ (ac.trans s5 s6);rw[show aq (.tuple [d1,d2,d3])=ap d3 by show(cg d1 && bW d2 && ap d3)=ap d3;rw[e2,eE];rfl]at this
         exact this
   refine bR (fun z=>by simp at z;omega) ?_
   walk_at "W";exact q0 rfl
 | non=>refine az ?_;walk_at "W";exact q0 rfl
 | bl b=>refine az ?_;walk_at "W";exact q0 rfl
 | int i=>refine az ?_;walk_at "W";exact q0 rfl
 | str x=>refine az ?_;walk_at "W";exact q0 rfl
 | lst h r=>refine az ?_;walk_at "W";exact q0 rfl
 | dic h=>refine az ?_;walk_at "W";exact q0 rfl
theorem mE{K:W.Frag}{Z:L2.St}{H:Hp}{Q:VK}{x:V}{el:Option af}(h:ElV H x el)(k:∀ v' H',ac H H'->bt H' v' (el.getD [])->Q v' H') :
 (x=.non/\gA c9 Z H Q) ∨ ∃ a xs,x=.ref a/\SqT K H a xs/\if xs.isEmpty=true then gA c9 Z H Q else Q x H:=by
 have emp:el.getD []=[]->gA c9 Z H Q:=fun e=>⟨by show(0:Nat)<=sizeLine;decide,fun p hp=>k (.ref p) _ (ac.new hp) ⟨p,[],rfl,aa,by rw[e];exact .nil⟩⟩
 cases el with
 | none=>exact .inl ⟨h,emp rfl⟩
 | some R=>
   have hh:bt H x R:=h;obtain⟨a,xs,rfl,ha,hp⟩:=id hh;refine .inr ⟨a,xs,rfl,SqT.of ha,?_⟩;cases xs with
   | nil=>
     cases hp;exact az (emp rfl)
   | cons y ys=>exact ao (k _ H (ac.refl _) hh)
theorem qC{sh:Bool}{i:Nat}{r:ar}{t:eO}(h:t∈bV sh i r):t.1=sh/\t.2.1=i:=by
 obtain⟨p,_,rfl⟩:=List.mem_map.mp h;exact⟨rfl,rfl⟩
theorem df{sh:Bool}{t:eO}:∀{R:af}{i:Nat},t∈aJ sh i R->t.1=sh/\i<=t.2.1/\t.2.1 < i+R.length
 | [],_,h=>by cases h
 | r::R,i,h=>by
   rcases List.mem_append.mp (show t∈bV sh i r++aJ sh (i+1) R from h)with z | z
   . have:=qC z
     rw[List.length_cons];exact⟨this.1,by omega,by omega⟩
   have:=df z;rw[List.length_cons];exact⟨this.1,by omega,by omega⟩
theorem pZ{S:Sta}{t:eO}(h:t∈bO S):0 < szOf S t.1:=by
 rcases List.mem_append.mp h with z | z
 . obtain⟨e,_,h2⟩:=df z
   rw[e];show 0 < (S.el.getD []).length;omega
 obtain⟨e,_,h2⟩:=df z;rw[e];show 0 < S.nw.length;omega
theorem cv(R:af)(j:Nat):tot (R.take j)<=tot R:=by
 have e:tot R=tot (R.take j)+tot (R.drop j):=by
  unfold tot;rw[← List.sum_append,← List.map_append,List.take_append_drop]
 omega
def Big(S:Sta):Prop:=tot (S.el.getD [])+tot S.nw<=100000
def lJ:Sp:=fun vs H Q _=>∃(v:V) (S:Sta),vs=[v]/\StV H v S/\Big S /\ ∀ l zs H',ac H H'->H' l=some (.lst zs)->gf H' zs (bO S)->Q (.ref l) H'
theorem yd{H:Hp}{Q:VK}{E:XK}{v:V}{S:Sta}(h1:StV H v S)(h2:Big S)(k:∀ l zs H',ac H H'->H' l=some (.lst zs)->gf H' zs (bO S)->Q (.ref l) H'):lJ ([v]++[]) H Q E:=⟨v,S,rfl,h1,h2,k⟩
theorem B2(d:Dfn K mg "keys_in_turn" yD ["state"])(g:Gs K mg C CT CE CP CZ CR CV):Fn P w K mg base "keys_in_turn" 1 ["state"] lJ:=by
 refine d.fn kq (fun vs H Q E h=>?_) (fun f cdv A outer s H vs Q E hr h=>?_)
 . obtain⟨v,S,rfl,_⟩:=h
   rfl
 obtain⟨v,S,rfl,hS,hB,k⟩:=h;obtain⟨u,ve,vn,rfl,hu,he,hn⟩:=id hS;have lim:sizeLine=16777216:=sizeLine_eq;have hB:tot (S.el.getD [])+tot S.nw<=100000:=hB;refine⟨_,(B.scons (B.set 1 kq.nd (B.lst B.nil))
  (B.scons (B.fors (B.itup (B.tup (B.cons (B.tup (B.cons B.str (B.cons (SW.B.orA (B.ix av (B.v 0) B.int) (B.one (B.tup B.nil))) B.nil))) (B.cons (B.tup (B.cons B.str (B.cons (B.ix av (B.v 0) B.int) B.nil))) B.nil)))) (B.gtup (B.gcons (B.gname (i:=2) kq.nd) (B.gcons (B.gname (i:=3) kq.nd) B.gnil))) (B.sone (B.fors (SW.B.ienumT g.b_enumerate (B.cons (B.v 3) B.nil)) (B.gtup (B.gcons (B.gname (i:=4) kq.nd) (B.gcons (B.gname (i:=5) kq.nd) B.gnil))) (B.sone (B.expr (B.m PySem.F.plainAttrs_list PySem.F.slot_list_extend PySem.F.type_list_extend kA (B.v 1) (B.cons (SW.B.comp [2,4] ["pair","shelf","place"] (SW.ax.of rfl rfl (by decide +kernel) (by decide +kernel) rfl ⟨rfl,rfl,trivial⟩ rfl rfl rfl) (by decide +kernel) (B.itup (B.v 5)) (fun _ _ _ _=>(B.tup (B.cons (B.v 1) (B.cons (B.v 2) (B.cons (B.ix (SW.oK K) (B.v 0) B.int) B.nil)))))) B.nil)))))))
  (B.sone (B.ret (B.v 1))))),?_⟩
 walk_at "W";refine⟨by show(0:Nat)<=sizeLine;decide,fun l hl=>?_⟩
 have s1:ac H (upd H l (.lst [])):=ac.new hl;have hu1:=s1 _ _ hu;walk_at "W";refine mE (he.keep (SW.ac.tk s1)) fun va H2 s2 ha=>?_;walk_at "W";refine⟨by show(2:Nat)<=sizeLine;decide,fun t1 ht1=>?_⟩
 have a3:=ac.new (o:=.tup [.str "elder",va]) ht1;have hu3:=(s2.trans a3) _ _ hu1;walk_at "W";refine⟨by show(2:Nat)<=sizeLine;decide,fun t2 ht2=>?_⟩
 have a4:=ac.new (o:=.tup [.str "newer",vn]) ht2;walk_at "W";refine⟨by show(2:Nat)<=sizeLine;decide,fun t3 ht3=>?_⟩
 have a5:=ac.new (o:=.tup [.ref t1,.ref t2]) ht3;have s15:=s2.trans ((a3.trans a4).trans a5);have et1:=(a4.trans a5) _ _ (aa (H:=H2) (a:=t1) (o:=.tup [.str "elder",va]));have et2:=a5 _ _ (aa (a:=t2) (o:=.tup [.str "newer",vn]));have hva:=ha.keep (SW.ac.tk ((a3.trans a4).trans a5));have hvn:=hn.keep (SW.ac.tk (s1.trans s15));have el:=s15 _ _ (aa (H:=H) (a:=l) (o:=.lst []));have s05:=s1.trans s15;have e3:=aa (H:=upd (upd H2 t1 (.tup [.str "elder",va])) t2 (.tup [.str "newer",vn])) (a:=t3) (o:=.tup [.ref t1,.ref t2]);obtain⟨H5,hH5⟩:∃ H5,H5=upd (upd (upd H2 t1 (.tup [.str "elder",va])) t2 (.tup [.str "newer",vn])) t3 (.tup [.ref t1,.ref t2]):=⟨_,rfl⟩;rw[← hH5]at et1 et2 hva hvn el s05 e3 ⊢;clear hH5 s15 a3 a4 a5 hu3;have n3:t3≠l:=aA e3 el (by intro z;cases z)
 -- what is told ahead of the i-th shelf
 obtain⟨acc,hacc⟩:∃ acc:Nat->List eO,acc=fun i=>if i=0 then[]else if i=1 then aJ true 0 (S.el.getD [])else bO S:=⟨_,rfl⟩;have itm:∀ i x,[V.ref t1,V.ref t2][i]?=some x -> ∃(t:Addr) (sh:Bool) (vr:V) (R:af),x=.ref t/\H5 t=some (.tup [.str (shN sh),vr])/\bt H5 vr R/\acc (i+1)=acc i++aJ sh 0 R/\(acc i).length+tot R<=100000:=by
  intro i x e
  match i,e with
  | 0,e=>
    cases e;refine⟨t1,true,va,S.el.getD [],rfl,et1,hva,by rw[hacc];rfl,?_⟩
    rw[hacc];show 0+_<=_;omega
  | 1,e=>
    cases e;refine⟨t2,false,vn,S.nw,rfl,et2,hvn,by rw[hacc];rfl,?_⟩
    rw[hacc];show(aJ true 0 (S.el.getD [])).length+_<=_;rw[cJ];exact hB
  | n+2,e=>simp at e
 refine⟨t3,rfl,⟨_,SqT.of e3⟩,?_⟩;refine dI (xs:=[V.ref t1,V.ref t2]) (fun i Z H'=>∃(zs:List V) (v2 v3 v4 v5:Option V),Z=[some (.ref u),some (.ref l),v2,v3,v4,v5]/\al l H5 H'/\H' l=some (.lst zs)/\gf H' zs (acc i)) ⟨[],none,none,none,none,rfl,al.refl _ _,el,by rw[hacc];exact .nil⟩ (fun i Z H' _ ⟨_,_,_,_,_,_,k',_⟩=>SqT.of (k' _ _ n3 e3)) ?_ ?_
 . rintro i x Z H' hx ⟨zs,v2,v3,v4,v5,rfl,k',hl',hz⟩
   obtain⟨t,sh,vr,R,rfl,ht,hR,hac,hlen⟩:=itm i x hx;have tk':TK H5 H':=fun a xs e=>k' _ _ (aA e el (by intro z;cases z)) e
   obtain⟨ra,rs,rfl,hra,hrs⟩:=hR;have hrl:=aH hrs;refine⟨t,_,rfl,SqT.of (tk' _ _ ht),rfl,_,_,rfl,?_⟩;walk_at "W";refine⟨_,_,rfl,?_⟩;walk_at "W";refine⟨rfl,?_⟩;walk_at "W";refine⟨ra,rfl,⟨_,SqT.of (tk' _ _ hra)⟩,?_⟩;refine p5 (xs:=rs) (fun j Z H''=>∃(zs:List V) (v4 v5:Option V),Z=[some (.ref u),some (.ref l),some (.str (shN sh)),some (.ref ra),v4,v5]/\al l H5 H''/\H'' l=some (.lst zs)/\gf H'' zs (acc i++aJ sh 0 (R.take j))) ⟨zs,v4,v5,rfl,k',hl',by rw[List.take_zero];show gf H' zs (acc i++[]);rw[List.append_nil];exact hz⟩ (fun j Z H'' ⟨_,_,_,_,k'',_⟩=>SqT.of (k'' _ _ (aA hra el (by intro z;cases z)) hra)) ?_ ?_
   . rintro j y Z H'' T hy hT ⟨zs,v4,v5,rfl,k'',hl'',hz⟩
     obtain⟨r,hr_,b,ys,rfl,hb,hps⟩:=aX hrs hy;have tk'':TK H5 H'':=fun a xs e=>k'' _ _ (aA e el (by intro z;cases z)) e
     have aT:=ac.new (o:=.tup [.int (j:Int),.ref b]) hT;have hb2:=aT _ _ (tk'' _ _ hb);have hps2:=(hps.keep tk'').keep (SW.ac.tk aT);have hl2:=aT _ _ hl'';have nlT:T≠l:=(ai hl'' hT).symm;have hyl:=hps.len;have htk:=aw hr_;have hrlen:r.length<=tot R:=by
      have:=cv R (j+1);rw[htk]at this;unfold tot at this ⊢;rw[List.map_append,List.sum_append]at this;have h2:(List.map List.length [r]).sum=r.length:=by simp
      omega
     have hzl:zs.length+r.length<=100000:=by
      have h1:=aH hz;rw[List.length_append,cJ]at h1;have h2:=cv R (j+1);rw[htk]at h2;have h3:tot (R.take j++[r])=tot (R.take j)+r.length:=by
       unfold tot;rw[List.map_append,List.sum_append];simp
      omega
     refine⟨T,_,rfl,SqT.of aa,rfl,_,_,rfl,?_⟩;walk_at "W";refine⟨_,_,rfl,?_⟩;walk_at "W";refine⟨rfl,?_⟩;walk_at "W";refine wBM ?_;walk_at "W";refine⟨.inl ⟨rfl,_,SqL.of hl2⟩,?_⟩;walk_at "W";refine⟨b,rfl,⟨_,SqT.of hb2⟩,fun D hD=>?_⟩;obtain⟨H6,hH6⟩:∃ H6,H6=upd H'' T (.tup [.int (j:Int),.ref b]):=⟨_,rfl⟩;rw[← hH6]at aT hb2 hps2 hl2 hD ⊢;clear hH6;refine fq (xs:=ys) (fun q Z' H3=>∃(v:Option V) (ds:List V),Z'=[v,some (.str (shN sh)),some (.int (j:Int))]/\ac H6 H3/\H3 D=some (.lst ds)/\gf H3 ds (bV sh j (r.take q))/\ds.length=q) ⟨none,[],rfl,ac.new hD,aa,by rw[List.take_zero];exact .nil,rfl⟩ (fun q Z' H3 _ ⟨_,_,_,s',_⟩=>SqT.of (s' _ _ hb2)) ?_ ?_
     . rintro q y Z' H3 hy hq ⟨v,ds,rfl,s',hD',hds,hdl⟩
       obtain⟨⟨k1,y1⟩,hpp,c,rfl,hc⟩:=aX hps2 hy;have hc':=s' _ _ hc;walk_at "W";refine⟨by show(3:Nat)<=sizeLine;decide,fun t4 ht4=>?_⟩
       have a7:=ac.new (o:=.tup [.str (shN sh),.int (j:Int),.int k1]) ht4;have hD7:=a7 _ _ hD';have n7:t4≠D:=(ai hD' ht4).symm;have tk:TK H3 (upd (upd H3 t4 (.tup [.str (shN sh),.int (j:Int),.int k1])) D (.lst (ds++[.ref t4]))):=fun a xs e=>by
        rw[ag (aA e hD' (by intro z;cases z))]
        exact a7 _ _ e
       refine CN.mk hq hD7 (by omega) ⟨_,ds++[.ref t4],rfl,fun b o e=>by rw[ag (ai e hD)];exact a7 _ _ (s' _ _ e),aa,?_,by rw[List.length_append,hdl];rfl⟩
       rw[aw hpp];unfold bV;rw[List.map_append];exact aG (.cons ⟨t4,rfl,by rw[ag n7];exact aa⟩ .nil) (gf.keep hds tk)
     rintro Z' H3 ⟨v,ds,rfl,s',hD',hds,hdl⟩;rw[hyl,List.take_length]at hds;have hl3:=s' _ _ hl2;walk_at "W";refine⟨l,D,zs,ds,rfl,rfl,hl3,hD',by omega,?_⟩
     have nDl:l≠D:=ai hl2 hD;have tkx:TK H3 (upd H3 l (.lst (zs++ds))):=fun a xs e=>by rw[ag (aA e hl3 (by intro z;cases z))];exact e
     walk_at "W";refine⟨zs++ds,_,_,rfl,fun b o n e=>?_,aa,?_⟩
     . rw[ag n]
       exact s' _ _ (aT _ _ (k'' _ _ n e))
     rw[htk,fR,Nat.zero_add];have e5:(R.take j).length=j:=by
      rw[List.length_take];have:j < R.length:=(List.getElem?_eq_some_iff.mp hr_).1;omega
     rw[e5,← List.append_assoc];exact aG (gf.keep hds tkx) (gf.keep (gf.keep (gf.keep hz (SW.ac.tk aT)) (SW.ac.tk s')) tkx)
   rintro Z H'' ⟨zs,v4,v5,rfl,k'',hl'',hz⟩;rw[hrl,List.take_length,← hac]at hz;exact⟨zs,_,_,_,_,rfl,k'',hl'',hz⟩
 rintro Z H' ⟨zs,v2,v3,v4,v5,rfl,k',hl',hz⟩;walk_at "W";refine k l zs H' (fun b o e=>k' _ _ (ai e hl) (s05 _ _ e)) hl' ?_;have e2:acc [V.ref t1,V.ref t2].length=bO S:=by rw[hacc];rfl
 rw[← e2];exact hz
def jy:Sp:=fun vs H Q _=>∃(v:V) (t:Addr) (f m:Int) (S:Sta),vs=[v,.ref t]/\StV H v S/\Big S/\H t=some (.tup [.int f,.int m])/\(0<=f/\f<=65535) /\ ∀ v' H',ac H H'->mC H' v' (aM f m (szOf S) (gH S) [] (bO S))->Q v' H'
theorem uZ{H:Hp}{Q:VK}{E:XK}{v:V}{t:Addr}{f m:Int}{S:Sta}(h1:StV H v S)(h2:Big S)(h3:H t=some (.tup [.int f,.int m]))(h4:0<=f/\f<=65535)(k:∀ v' H',ac H H'->mC H' v' (aM f m (szOf S) (gH S) [] (bO S))->Q v' H'):jy ([v,.ref t]++[]) H Q E:=⟨v,t,f,m,S,rfl,h1,h2,h3,h4,k⟩
def fV:Sp:=fun vs H Q _=>∃(v:V) (t:Addr) (f m:Int) (S:Sta),vs=[v,.ref t]/\StV H v S/\Big S/\H t=some (.tup [.int f,.int m])/\(0<=f/\f<=65535) /\ ∀ v' H',ac H H'->mC H' v' (aB f m S)->Q v' H'
theorem vq{H:Hp}{Q:VK}{E:XK}{v:V}{t:Addr}{f m:Int}{S:Sta}(h1:StV H v S)(h2:Big S)(h3:H t=some (.tup [.int f,.int m]))(h4:0<=f/\f<=65535)(k:∀ v' H',ac H H'->mC H' v' (aB f m S)->Q v' H'):fV ([v,.ref t]++[]) H Q E:=⟨v,t,f,m,S,rfl,h1,h2,h3,h4,k⟩
theorem Ct(d:Dfn K mg "first_fault_of_pairs" xF ["state","mixer"])(g:Gs K mg C CT CE CP CZ CR CV)(q55_:Fn P w K mg base "place_of" 1 ["mark","size"] iF)(q44_:Fn P w K mg base "mark_of" 1 ["key","mixer"] lw)(q21_:Fn P w K mg base "keys_in_turn" 1 ["state"] lJ):Fn P w K mg base "first_fault_of_pairs" 2 ["state","mixer"] jy:=by
 refine d.fn nE (fun vs H Q E h=>?_) (fun f cdv A outer s H vs Q E hr h=>?_)
 . obtain⟨v,t,f,m,S,rfl,_⟩:=h
   rfl
 obtain⟨v,t,fa,mo,S,rfl,hS,hB,ht,hf,k⟩:=h;obtain⟨u,ve,vn,rfl,hu,he,hn⟩:=id hS;have lim:sizeLine=16777216:=sizeLine_eq;have sab:((("elder":PySem.Str)) == ("newer":PySem.Str))=false:=by decide +kernel
 refine⟨_,(B.scons (B.set 2 nE.nd (SW.B.disp (SW.B.ppcons B.str (B.cB aj g.b_len SW.b_len (B.cons (SW.B.orA (B.ix av (B.v 0) B.int) (B.one (B.tup B.nil))) B.nil)) (SW.B.ppcons B.str (B.cB aj g.b_len SW.b_len (B.cons (B.ix av (B.v 0) B.int) B.nil)) SW.B.ppnil))))
  (B.scons (B.set 3 nE.nd (SW.B.disp (SW.B.ppcons B.str (B.ix av (B.v 0) B.int) (SW.B.ppcons B.str B.int SW.B.ppnil))))
  (B.scons (B.set 4 nE.nd B.dnew)
  (B.scons (B.fors (B.ilist (B.fn q21_ hr.up (B.cons (B.v 0) B.nil))) (B.gtup (B.gcons (B.gname (i:=5) nE.nd) (B.gcons (B.gname (i:=6) nE.nd) (B.gcons (B.gname (i:=7) nE.nd) B.gnil)))) (B.scons (B.ifs (B.tcmp eF (B.fn q55_ hr.up (B.cons (B.fn q44_ hr.up (B.cons (B.v 7) (B.cons (B.v 1) B.nil))) (B.cons (SW.B.dget (dW hr) (B.v 2) (B.v 5)) B.nil))) (B.v 6)) (B.sone (B.ret (B.tup (B.cons B.str (B.cons (B.v 5) (B.cons (B.v 6) B.nil)))))) B.snil)
  (B.scons (B.ifs (B.tcmp fG (B.v 6) (SW.B.dget (dW hr) (B.v 3) (B.v 5))) (B.sone (B.ret (B.tup (B.cons B.str (B.cons (B.v 5) (B.cons (B.v 6) B.nil)))))) B.snil)
  (B.scons (B.ifs (B.tdin (dW hr) (B.v 7) (B.v 4)) (B.sone (B.ret (B.tup (B.cons B.str (B.cons (B.v 5) (B.cons (B.v 6) B.nil)))))) B.snil)
  (B.sone (B.dput (dW hr) (B.v 4) (B.v 7) B.bl))))))
  (B.sone (B.ret B.non)))))),?_⟩
 walk_at "W";refine SW.wf fun p1 hp1=>?_;have s1:ac H (upd H p1 (.dK [])):=ac.new hp1;have hu1:=s1 _ _ hu;walk_at "W";refine mE (he.keep (SW.ac.tk s1)) fun va H2 s2 ha=>?_;obtain⟨ra,rs,rfl,hra,hrs⟩:=ha;have hrl:=aH hrs;walk_at "W";refine SW.bG (.inr (SqT.of hra)) ?_;have s12:=s1.trans s2;have hu2:=s12 _ _ hu;obtain⟨na,ns,rfl,hna,hns⟩:=hn.keep (SW.ac.tk s12);have hnl:=aH hns;walk_at "W";refine SW.bG (.inr (SqT.of hna)) ?_;walk_at "W";refine wl (s2 _ _ aa) ?_;rw[qL sab,hrl,hnl];have b3:∀ b o,b≠p1->H2 b=some o->upd H2 p1 (.dK [(Sum.inr "elder",.int ((S.el.getD []).length:Nat)),(Sum.inr "newer",.int (S.nw.length:Nat))]) b=some o:=fun b o n e=>by rw[ag n];exact e
 have e3:=aa (H:=H2) (a:=p1) (o:=.dK [(Sum.inr "elder",.int ((S.el.getD []).length:Nat)),(Sum.inr "newer",.int (S.nw.length:Nat))]);obtain⟨H3,hH3⟩:∃ H3,H3=upd H2 p1 (.dK [(Sum.inr "elder",.int ((S.el.getD []).length:Nat)),(Sum.inr "newer",.int (S.nw.length:Nat))]):=⟨_,rfl⟩;rw[← hH3]at b3 e3 ⊢;clear hH3;have s03:ac H H3:=fun b o e=>b3 b o (ai e hp1) (s12 _ _ e);have hu3:=s03 _ _ hu;walk_at "W";refine SW.wf fun p4 hp4=>?_;have a4:ac H3 (upd H3 p4 (.dK [])):=ac.new hp4;have hu4:=a4 _ _ hu3;walk_at "W";refine wl aa ?_;rw[qL sab];have n41:p1≠p4:=ai e3 hp4;have b5:∀ b o,b≠p4->H3 b=some o->upd (upd H3 p4 (.dK [])) p4 (.dK [(Sum.inr "elder",.int S.mv),(Sum.inr "newer",.int 0)]) b=some o:=fun b o n e=>by rw[ag n,ag n];exact e
 have e5:=aa (H:=upd H3 p4 (.dK [])) (a:=p4) (o:=.dK [(Sum.inr "elder",.int S.mv),(Sum.inr "newer",.int 0)]);obtain⟨H5,hH5⟩:∃ H5,H5=upd (upd H3 p4 (.dK [])) p4 (.dK [(Sum.inr "elder",.int S.mv),(Sum.inr "newer",.int 0)]):=⟨_,rfl⟩;rw[← hH5]at b5 e5 ⊢;clear hH5;have s05:ac H H5:=fun b o e=>b5 b o (ai (s03 _ _ e) hp4) (s03 _ _ e);have e35:=b5 _ _ n41 e3;walk_at "W";intro hd_ hhd;have a6:=ac.new (o:=.dK []) hhd;have s06:=s05.trans a6;have e36:=a6 _ _ e35;have e56:=a6 _ _ e5;have eh6:=aa (H:=H5) (a:=hd_) (o:=.dK []);have nh:H hd_=none:=s05.free hhd;obtain⟨H6,hH6⟩:∃ H6,H6=upd H5 hd_ (.dK []):=⟨_,rfl⟩;rw[← hH6]at a6 s06 e36 e56 eh6 ⊢;have n1h:p1≠hd_:=fun z=>by rw[← z,e35]at hhd;cases hhd
 have n4h:p4≠hd_:=fun z=>by rw[← z,e5]at hhd;cases hhd
 clear hH6;walk_at "W";refine yd (hS.keep (SW.ac.tk s06)) hB fun l zs H7 s7 hl hz=>?_;have e37:=s7 _ _ e36;have e57:=s7 _ _ e56;have eh7:=s7 _ _ eh6;have s07:=s06.trans s7;have hzl:=aH hz;have htl:(bO S).length<=100000:=by
  unfold bO;rw[List.length_append,cJ,cJ];exact hB
 have nlh:l≠hd_:=aA hl eh7 (by intro z;cases z)
 have ntr:∀{x:Addr}{xs:List V},H7 x=some (.tup xs)->x≠hd_:=fun e=>aA e eh7 (by intro z;cases z)
 have ht7:=s07 _ _ ht;refine⟨l,rfl,⟨_,SqL.of hl⟩,?_⟩;refine L2.jt (xs:=zs) (fun i Z H'=>∃(v5 v6 v7:Option V),Z=[some (.ref u),some (.ref t),some (.ref p1),some (.ref p4),some (.ref hd_),v5,v6,v7]/\al hd_ H7 H'/\H' hd_=some (.dK (kbs (((bO S).take i).map (·.2.2))))/\aM fa mo (szOf S) (gH S) [] (bO S)=aM fa mo (szOf S) (gH S) (((bO S).take i).map (·.2.2)) ((bO S).drop i)) ⟨none,none,none,rfl,al.refl _ _,eh7,rfl⟩ (fun i Z H' _ ⟨_,_,_,_,k',_⟩=>SqL.of (k' _ _ nlh hl)) ?_ ?_
 . rintro i x Z H' hx ⟨v5,v6,v7,rfl,k',hh',hfp⟩
   obtain⟨⟨sh,pl,ky⟩,hti,b,rfl,hb⟩:=aX hz hx;have hi:i < (bO S).length:=(List.getElem?_eq_some_iff.mp hti).1;have hdr:(bO S).drop i=(sh,pl,ky)::(bO S).drop (i+1):=by
    rw[List.drop_eq_getElem_cons hi];rw[List.getElem?_eq_getElem hi]at hti;rw[Option.some.inj hti]
   rw[hdr,bC]at hfp;have hpos:=pZ (List.mem_of_getElem? hti);have hpos:0 < szOf S sh:=hpos;have hb':=k' _ _ (ntr hb) hb;have ht':=k' _ _ (ntr ht7) ht7;have e3':=k' _ _ n1h e37;have e5':=k' _ _ n4h e57;have sH:ac H H':=fun b o e=>k' _ _ (ai e nh) (s07 _ _ e);have gS:cK H' p1 (V.str (shN sh)) (some (V.int (szOf S sh:Nat))):=by
    cases sh with
    | true=>
      have z:=cK.k (k:=Sum.inr "elder") e3';rw[wk]at z;exact z
    | false=>
      have z:=cK.k (k:=Sum.inr "newer") e3';rw[wu sab]at z;exact z
   have gM:cK H' p4 (V.str (shN sh)) (some (V.int (gH S sh))):=by
    cases sh with
    | true=>
      have z:=cK.k (k:=Sum.inr "elder") e5';rw[wk]at z;exact z
    | false=>
      have z:=cK.k (k:=Sum.inr "newer") e5';rw[wu sab]at z;exact z
   have fin:∀(kd:Nat) (nm:PySem.Str),nm=fkN kd->aM fa mo (szOf S) (gH S) [] (bO S)=some (.at_ kd sh pl) -> ∀ q,H' q=none->Q (.ref q) (upd H' q (.tup [.str nm,.str (shN sh),.int (pl:Nat)])):=by
    rintro kd nm rfl e q hq;refine k _ _ (sH.trans (ac.new hq)) ?_;rw[e];exact⟨q,rfl,aa⟩
   refine⟨b,_,rfl,SqT.of hb',rfl,_,_,rfl,?_⟩;walk_at "W";refine⟨_,_,rfl,?_⟩;walk_at "W";refine⟨_,_,rfl,?_⟩;walk_at "W";refine⟨rfl,?_⟩;walk_at "W";refine wJ ht' hf ?_;walk_at "W";refine⟨p1,_,rfl,gS,?_⟩;walk_at "W";refine qK (by omega) ?_
   walk_at "W";by_cases h1:(ky*fa+mo) % 65536 % (szOf S sh:Int)=pl
   . rw[if_neg (fun z=>z h1)]at hfp
     refine cp (by rw[h1]) ?_
     walk_at "W";refine⟨p4,_,rfl,gM,?_⟩;walk_at "W";by_cases h2:(pl:Int) < gH S sh
     . rw[if_pos h2]at hfp
       refine c5 h2 ?_;walk_at "W";exact⟨by show(3:Nat)<=sizeLine;decide,fin 1 "emptied" rfl hfp⟩
     rw[if_neg h2]at hfp;refine bK h2 ?_;walk_at "W";refine⟨hd_,_,rfl,cK.k (k:=Sum.inl ky) hh',?_⟩;walk_at "W";rw[gj];by_cases h3:ky∈((bO S).take i).map (·.2.2)
     . rw[if_pos h3]at hfp
       rw[decide_eq_true h3];refine az ?_;walk_at "W";exact⟨by show(3:Nat)<=sizeLine;decide,fin 2 "twice" rfl hfp⟩
     rw[if_neg h3]at hfp;rw[decide_eq_false h3];refine ao ?_;walk_at "W";refine⟨hd_,_,rfl,jR.k (k:=Sum.inl ky) hh' (by rw[lj,List.length_map,List.length_take];omega),?_⟩
     rw[jm h3];have etk:((bO S).take (i+1)).map (·.2.2)=((bO S).take i).map (·.2.2)++[ky]:=by rw[aw hti,List.map_append];rfl
     walk_at "W";refine⟨_,_,_,rfl,fun b o n e=>by rw[ag n];exact k' _ _ n e,by rw[etk];exact aa,by rw[etk];exact hfp⟩
   rw[if_pos h1]at hfp;refine bR (fun z=>h1 (by injection z)) ?_
   walk_at "W";exact⟨by show(3:Nat)<=sizeLine;decide,fin 0 "place" rfl hfp⟩
 rintro Z H' ⟨v5,v6,v7,rfl,k',hh',hfp⟩;rw[hzl,List.drop_length]at hfp;walk_at "W";refine k _ _ (fun b o e=>k' _ _ (ai e nh) (s07 _ _ e)) ?_;rw[hfp]
 rfl
theorem q4_(d:Dfn K mg "first_fault" wO ["state","mixer"])(g:Gs K mg C CT CE CP CZ CR CV)(q8_:Fn P w K mg base "has_right_places" 3 ["elder","newer"] ka)(q7_:Fn P w K mg base "has_right_moved" 1 ["elder","moved"] mm)(q6_:Fn P w K mg base "first_fault_of_pairs" 2 ["state","mixer"] jy):Fn P w K mg base "first_fault" 4 ["state","mixer"] fV:=by
 refine d.fn Co (fun vs H Q E h=>?_) (fun f cdv A outer s H vs Q E hr h=>?_)
 . obtain⟨v,t,f,m,S,rfl,_⟩:=h
   rfl
 obtain⟨v,t,fa,mo,S,rfl,hS,hB,ht,hf,k⟩:=h;obtain⟨u,ve,vn,rfl,hu,he,hn⟩:=id hS;unfold aB at k;refine⟨_,(B.scons (B.ifs (B.tnot (B.tval (B.fn q8_ hr.up (B.cons (B.ix av (B.v 0) B.int) (B.cons (B.ix av (B.v 0) B.int) B.nil))))) (B.sone (B.ret (B.tup (B.cons B.str B.nil)))) B.snil)
  (B.scons (B.ifs (B.tnot (B.tval (B.fn q7_ hr.up (B.cons (B.ix av (B.v 0) B.int) (B.cons (B.ix av (B.v 0) B.int) B.nil))))) (B.sone (B.ret (B.tup (B.cons B.str B.nil)))) B.snil)
  (B.sone (B.ret (B.fn q6_ hr.up (B.cons (B.v 0) (B.cons (B.v 1) B.nil))))))),?_⟩
 walk_at "W";refine⟨ve,vn,S,rfl,he,hn,?_⟩;walk_at "W";cases h1:bp S with
 | false=>
   rw[h1,if_pos rfl]at k;refine az ?_;walk_at "W";exact⟨by show(1:Nat)<=sizeLine;decide,fun q hq=>k _ _ (ac.new hq) ⟨q,rfl,aa⟩⟩
 | true=>
   rw[h1,if_neg (fun z=>nomatch z)]at k;refine ao ?_;walk_at "W";refine⟨ve,S,rfl,he,?_⟩;walk_at "W";cases h2:bS S with
   | false=>
     rw[h2,if_pos rfl]at k;refine az ?_;walk_at "W";exact⟨by show(1:Nat)<=sizeLine;decide,fun q hq=>k _ _ (ac.new hq) ⟨q,rfl,aa⟩⟩
   | true=>
     rw[h2,if_neg (fun z=>nomatch z)]at k;refine ao ?_;walk_at "W";exact uZ hS hB ht hf k
def uQ(d:PyData):Prop:=∀ S,d=stD S->Big S
def dU:Sp:=fun vs H Q _=>∃(v:V) (d:PyData) (t:Addr) (f m:Int),vs=[v,.ref t]/\Any H v d/\Wd3 d/\uQ d/\H t=some (.tup [.int f,.int m])/\(0<=f/\f<=65535) /\ ∀ H' b,ac H H'->(aq d=false->b=false)->(aq d=true -> ∀ S,d=stD S->b=(aB f m S).isNone)->Q (.bl b) H'
theorem iL{H:Hp}{Q:VK}{E:XK}{v:V}{d:PyData}{t:Addr}{f m:Int}(h1:Any H v d)(h2:Wd3 d)(h3:uQ d)(h4:H t=some (.tup [.int f,.int m]))(h5:0<=f/\f<=65535)(q:∀ H' b,ac H H'->(aq d=false->b=false)->(aq d=true -> ∀ S,d=stD S->b=(aB f m S).isNone)->Q (.bl b) H'):dU ([v,.ref t]++[]) H Q E:=⟨v,d,t,f,m,rfl,h1,h2,h3,h4,h5,q⟩
theorem sY:∀{r s:ar},dm r=dm s->r=s:=by
 intro r s h;unfold dm at h;injection h with h
 induction r generalizing s with
 | nil=>cases s with
   | nil=>rfl
   | cons b s=>cases h
 | cons a r ih=>cases s with
   | nil=>cases h
   | cons b s=>
     rw[List.map_cons,List.map_cons]at h;injection h with h1 h2;injection h1 with h1;injection h1 with h1 h3;injection h1 with h1;injection h3 with h3;injection h3 with h3;rw[ih h2,show a=b from Prod.ext h1 h3]
theorem kg:∀{r s:af},bh r=bh s->r=s:=by
 intro r s h;unfold bh at h;injection h with h
 induction r generalizing s with
 | nil=>cases s with
   | nil=>rfl
   | cons b s=>cases h
 | cons a r ih=>cases s with
   | nil=>cases h
   | cons b s=>
     rw[List.map_cons,List.map_cons]at h;injection h with h1 h2;rw[ih h2,sY h1]
theorem uB{a b:Option af}(h:elD a=elD b):a=b:=by
 cases a with
 | none=>cases b with
   | none=>rfl
   | some B=>cases h
 | some A=>cases b with
   | none=>cases h
   | some B=>rw[kg h]
theorem lG{S T:Sta}(h:stD S=stD T):S=T:=by
 obtain⟨a,b,c⟩:=S;obtain⟨a',b',c'⟩:=T;unfold stD at h;injection h with h;injection h with h1 h;injection h with h2 h;injection h with h3 h;injection h2 with h2;have h1:elD a=elD a':=h1;have h3:bh c=bh c':=h3;rw[uB h1,kg h3,show b=b' from h2]
theorem CA(d:Dfn K mg "is_sound" yU ["state","mixer"])(g:Gs K mg C CT CE CP CZ CR CV)(q15_:Fn P w K mg base "is_state" 6 ["thing"] jz)(q5_:Fn P w K mg base "first_fault" 4 ["state","mixer"] fV):Fn P w K mg base "is_sound" 7 ["state","mixer"] dU:=by
 refine d.fn zD (fun vs H Q E h=>?_) (fun f cdv A outer s H vs Q E hr h=>?_)
 . obtain⟨v,dd,t,fa,mo,rfl,_⟩:=h
   rfl
 obtain⟨v,dd,t,fa,mo,rfl,hd,hw,hb,ht,hf,q⟩:=h;refine⟨_,(B.sone (B.ret (B.and (B.fn q15_ hr.up (B.cons (B.v 0) B.nil)) (B.one (B.cmp bZ (B.fn q5_ hr.up (B.cons (B.v 0) (B.cons (B.v 1) B.nil))) B.non))))),?_⟩;walk_at "W";refine uy hd hw fun H1 s1=>?_;walk_at "W";cases e:aq dd with
 | false=>
   exact ao (q _ _ s1 (fun _=>rfl) fun z=>by rw[e]at z;cases z)
 | true=>
   obtain⟨S,hS,eS⟩:=jj hd e;refine az ?_;walk_at "W";refine vq (hS.keep (SW.ac.tk s1)) (hb S eS) (s1 _ _ ht) hf fun v2 H2 s2 hv2=>?_;have fin:∀ b,b=(aB fa mo S).isNone->Q (.bl b) H2:=fun b eb=>q _ _ (s1.trans s2) (fun z=>by rw[e]at z;cases z) fun _ S' eS'=>by rw[← lG (eS.symm.trans eS')];exact eb
   walk_at "W";refine⟨rfl,?_⟩;cases ef:aB fa mo S with
   | none=>
     rw[ef]at hv2 fin;rw[show v2=V.non from hv2];exact fin _ rfl
   | some fl=>
     rw[ef]at hv2 fin;obtain⟨u,rfl,hu⟩:=hv2;exact fin _ rfl
def tG:Sp:=fun vs H Q _=>∃(v:V) (d:PyData) (lo:Int),vs=[v,.int lo]/\Any H v d/\Q (.bl (cA lo d)) H
theorem AO{H:Hp}{Q:VK}{E:XK}{v:V}{d:PyData}{lo:Int}(h:Any H v d)(q:Q (.bl (cA lo d)) H):tG ([v,.int lo]++[]) H Q E:=⟨v,d,lo,rfl,h,q⟩
theorem BD(d:Dfn K mg "_law_number" xG ["thing","least"])(g:Gs K mg C CT CE CP CZ CR CV):Fn P w K mg base "_law_number" 1 ["thing","least"] tG:=by
 refine d.fn AV (fun vs H Q E h=>?_) (fun f cdv A outer s H vs Q E hr h=>?_)
 . obtain⟨v,dd,lo,rfl,_⟩:=h
   rfl
 obtain⟨v,dd,lo,rfl,hd,q⟩:=h;refine⟨_,(B.sone (B.ret (B.and (B.cB SW.bx g.b_isinstance SW.b_isinstance (B.cons (B.v 0) (B.cons (B.ty g.b_int SW.b_int) B.nil))) (B.and (B.not (B.cB SW.bx g.b_isinstance SW.b_isinstance (B.cons (B.v 0) (B.cons (B.ty g.b_bool SW.b_bool) B.nil)))) (B.one (B.chain eY eY (B.v 1) (B.v 0) (B.op cG B.int B.int))))))),?_⟩;walk_at "W";refine SW.fB hd.ty (gI dd) ?_;walk_at "W";cases dd with
 | int i=>
   refine az ?_;walk_at "W";refine SW.fB hd.ty (di _) ?_;cases hd;walk_at "W";refine az ?_;walk_at "W";have q:Q (.bl (decide (lo<=i) && decide (i<=1000000000))) H:=q;by_cases c:lo<=i
   . rw[decide_eq_true c]at q
     refine c5 c ?_;walk_at "W";exact q
   rw[decide_eq_false c]at q;exact bK c q
 | bool b=>
   refine az ?_;walk_at "W";refine SW.fB hd.ty (di _) ?_;walk_at "W";exact ao q
 | none=>exact ao q
 | str x=>exact ao q
 | list x=>exact ao q
 | tuple x=>exact ao q
 | dict x=>exact ao q
theorem uY{d:PyData}(h:dM d=false):b_ d=false:=by
 cases d with
 | tuple x=>cases h
 | _=>rfl
theorem t_{ds:List PyData}(h:ds.all dM=false):ap (.tuple ds)=false:=by
 show ds.all b_=false;rw[List.all_eq_false]at h ⊢;obtain⟨x,hx,e⟩:=h;refine⟨x,hx,?_⟩;rw[uY (by cases z:dM x with | true=>exact absurd z e | false=>rfl)]
 exact Bool.false_ne_true
theorem Bu(d:Dfn K mg "_law_are_rows" xy ["rows"])(g:Gs K mg C CT CE CP CZ CR CV)(q31_:Fn P w K mg base "_law_number" 1 ["thing","least"] tG):Fn P w K mg base "_law_are_rows" 2 ["rows"] gm:=by
 refine d.fn qV (fun vs H Q E h=>?_) (fun f cdv A outer s H vs Q E hr h=>?_)
 . obtain⟨v,dd,rfl,_⟩:=h
   rfl
 obtain⟨v,dd,rfl,hd,hz,q⟩:=h;have lim:sizeLine=16777216:=sizeLine_eq;refine⟨_,(B.scons (B.ifs (B.tw (B.wor (B.tnot (B.tval (B.cB SW.bx g.b_isinstance SW.b_isinstance (B.cons (B.v 0) (B.cons (B.ty g.b_tuple SW.b_tuple) B.nil))))) (B.wor1 (B.tcmp (SW.oZ (jh hr)) (SW.B.compIf [] ["row"] (SW.ax.of rfl rfl (by decide +kernel) (by decide +kernel) rfl trivial rfl rfl rfl) (by decide +kernel) (B.itup (B.v 0)) (fun _ _ _ _=>(B.tnot (B.tval (B.cB (SW.p8 K) g.b_isinstance SW.b_isinstance (B.cons (B.v 0) (B.cons (B.ty g.b_tuple SW.b_tuple) B.nil)))))) (fun _ _ _ _=>(B.v 0))) (B.lst B.nil))))) (B.sone (B.ret B.bl)) B.snil)
  (B.scons (B.fors (B.itup (B.v 0)) (B.gname (i:=1) qV.nd) (B.sone (B.fors (B.itup (B.v 1)) (B.gname (i:=2) qV.nd) (B.scons (B.ifs (B.tw (B.wor (B.tnot (B.tval (B.cB SW.bx g.b_isinstance SW.b_isinstance (B.cons (B.v 2) (B.cons (B.ty g.b_tuple SW.b_tuple) B.nil))))) (B.wor1 (B.tcmp eF (B.cB aj g.b_len SW.b_len (B.cons (B.v 2) B.nil)) B.int)))) (B.sone (B.ret B.bl)) B.snil)
  (B.sone (B.ifs (B.tw (B.wor (B.tnot (B.tval (B.fn q31_ hr.up (B.cons (B.ix av (B.v 2) B.int) (B.cons B.int B.nil))))) (B.wor1 (B.tnot (B.tval (B.fn q31_ hr.up (B.cons (B.ix av (B.v 2) B.int) (B.cons (B.un eU (B.op cG B.int B.int)) B.nil)))))))) (B.sone (B.ret B.bl)) B.snil))))))
  (B.sone (B.ret B.bl)))),?_⟩
 walk_at "W";refine SW.fB hd.ty (cn dd) ?_;walk_at "W";have q0:ap dd=false -> ∀ H',ac H H'->Q (.bl false) H':=fun e H' s'=>by have:=q _ s';rw[e]at this;exact this
 cases hd with
 | @tup a xs ds h r=>
   have hl:=r.len;obtain⟨hz1,hz2⟩:=hz ds rfl;refine ao ?_;walk_at "W";refine⟨a,rfl,⟨_,SqT.of h⟩,fun D hD=>?_⟩;refine m4 (xs:=xs) (fun i Z' H'=>(∃ v:Option V,Z'=[v])/\ac H H' /\ ∃ zs:List V,H' D=some (.lst zs)/\zs.isEmpty=(ds.take i).all dM/\zs.length<=i) ⟨⟨none,rfl⟩,ac.new hD,[],aa,rfl,Nat.le_refl _⟩ (fun i Z' H' _ ⟨_,s',_⟩=>SqT.of (s' _ _ h)) ?_ ?_
   . rintro i x Z' H' hx hi ⟨⟨v,rfl⟩,s',zs,hD',ez,hzl⟩
     obtain⟨dx,hdx,hax⟩:=r.get hx;walk_at "W";refine SW.fB (hax.same s').ty (cn dx) ?_;walk_at "W";cases e:dM dx with
     | true=>
       refine ao (CO.mk hi ⟨⟨_,rfl⟩,s',zs,hD',?_,Nat.le_succ_of_le hzl⟩);rw[aw hdx,List.all_append,← ez];show zs.isEmpty=(zs.isEmpty && (dM dx && true));rw[e];simp
     | false=>
       refine az ?_;walk_at "W";refine CN.mk hi hD' (by omega) ⟨⟨_,rfl⟩,fun b o e=>by rw[ag (ai e hD)];exact s' _ _ e,_,aa,?_,by rw[List.length_append];exact Nat.succ_le_succ hzl⟩
       rw[aw hdx,List.all_append];show(zs++[x]).isEmpty=(_ && (dM dx && true));rw[e];simp
   rintro Z' H1 ⟨⟨v,rfl⟩,s1,zs,hD1,ez,_⟩;rw[hl,List.take_length]at ez;walk_at "W";refine⟨by show(0:Nat)<=sizeLine;decide,fun e0 he0=>?_⟩
   have a1:=ac.new (o:=.lst []) he0;walk_at "W";refine⟨D,e0,zs,rfl,rfl,SqL.of (a1 _ _ hD1),SqL.of aa,?_⟩;have s2:=s1.trans a1;walk_at "W";rw[ez];cases eA:ds.all dM with
   | false=>
     refine az ?_;walk_at "W";exact q0 (t_ eA) _ s2
   | true=>
     refine ao ?_;walk_at "W";refine⟨a,rfl,⟨_,SqT.of (s2 _ _ h)⟩,?_⟩;refine dI (xs:=xs) (fun i Z H'=>∃ v1 v2:Option V,Z=[some (.ref a),v1,v2]/\ac H H'/\(ds.take i).all b_=true) ⟨none,none,rfl,s2,rfl⟩ (fun i Z H' _ ⟨_,_,_,s',_⟩=>SqT.of (s' _ _ h)) ?_ ?_
     . rintro i x Z H3 hx ⟨v1,v2,rfl,s3,e3⟩
       obtain⟨dx,hdx,hax⟩:=r.get hx;have htup:dM dx=true:=List.all_eq_true.mp eA _ (List.mem_of_getElem? hdx);cases hax with
       | @tup b ys es hb rb=>
         walk_at "W";refine⟨b,rfl,⟨_,SqT.of (s3 _ _ hb)⟩,?_⟩;refine dI (xs:=ys) (fun j Z H'=>∃ v2:Option V,Z=[some (.ref a),some (.ref b),v2]/\ac H H'/\(es.take j).all bz=true) ⟨v2,rfl,s3,rfl⟩ (fun i Z H' _ ⟨_,_,s',_⟩=>SqT.of (s' _ _ hb)) ?_ ?_
         . rintro j y Z H4 hy ⟨v2,rfl,s4,e4⟩
           obtain⟨dy,hdy,hay⟩:=rb.get hy;have bad:bz dy=false->Q (.bl false) H4:=fun e=>q0 (by
            show ds.all b_=false;refine List.all_eq_false.mpr ⟨_,List.mem_of_getElem? hdx,?_⟩;show ¬ es.all bz=true;rw[List.all_eq_false.mpr ⟨_,List.mem_of_getElem? hdy,by rw[e];exact Bool.false_ne_true⟩]
            exact Bool.false_ne_true) _ s4
           have good:bz dy=true->(es.take (j+1)).all bz=true:=fun e=>by rw[aw hdy,List.all_append,e4];show(true && (bz dy && true))=true;rw[e];rfl
           walk_at "W";refine SW.fB (hay.same s4).ty (cn dy) ?_;walk_at "W";cases hay with
           | @tup c ws us hc rc=>
             have hc4:=s4 _ _ hc;refine ao ?_;walk_at "W";refine SW.bG (.inr (SqT.of hc4)) ?_;walk_at "W";rcases rc with _ | ⟨h1,rc⟩
             . refine bR (fun z=>by simp at z) ?_
               walk_at "W";exact bad rfl
             rcases rc with _ | ⟨h2,rc⟩
             . refine bR (fun z=>by simp at z) ?_
               walk_at "W";exact bad rfl
             rcases rc with _ | ⟨h3,rc⟩
             . rename_i x1 d1 x2 d2
               refine cp rfl ?_;walk_at "W";refine AO (h1.same s4) ?_;walk_at "W";cases e1:cA 0 d1 with
               | false=>
                 refine az ?_;walk_at "W";exact bad (by show(cA 0 d1 && cA (-1000000000) d2)=false;rw[e1];rfl)
               | true=>
                 refine ao ?_;walk_at "W";refine AO (lo:=-1000000000) (h2.same s4) ?_;walk_at "W";cases e2:cA (-1000000000) d2 with
                 | false=>
                   refine az ?_;walk_at "W";exact bad (by show(cA 0 d1 && cA (-1000000000) d2)=false;rw[e1,e2];rfl)
                 | true=>
                   refine ao ?_;walk_at "W";exact⟨_,rfl,s4,good (by show(cA 0 d1 && cA (-1000000000) d2)=true;rw[e1,e2];rfl)⟩
             refine bR (fun z=>by simp at z;omega) ?_
             walk_at "W";exact bad rfl
           | non=>refine az ?_;walk_at "W";exact bad rfl
           | bl b=>refine az ?_;walk_at "W";exact bad rfl
           | int i=>refine az ?_;walk_at "W";exact bad rfl
           | str x=>refine az ?_;walk_at "W";exact bad rfl
           | lst h r=>refine az ?_;walk_at "W";exact bad rfl
           | dic h=>refine az ?_;walk_at "W";exact bad rfl
         rintro Z H4 ⟨v2,rfl,s4,e4⟩;rw[rb.len,List.take_length]at e4;walk_at "W";refine⟨_,_,rfl,s4,?_⟩;rw[aw hdx,List.all_append,e3];show(true && (es.all bz && true))=true;rw[e4];rfl
       | _=>cases htup
     rintro Z H3 ⟨v1,v2,rfl,s3,e3⟩;rw[hl,List.take_length]at e3;walk_at "W";have:=q _ s3;rw[show ap (.tuple ds)=true from e3]at this;exact this
 | non=>refine az ?_;walk_at "W";exact q0 rfl _ (ac.refl _)
 | bl b=>refine az ?_;walk_at "W";exact q0 rfl _ (ac.refl _)
 | int i=>refine az ?_;walk_at "W";exact q0 rfl _ (ac.refl _)
 | str x=>refine az ?_;walk_at "W";exact q0 rfl _ (ac.refl _)
 | lst h r=>refine az ?_;walk_at "W";exact q0 rfl _ (ac.refl _)
 | dic h=>refine az ?_;walk_at "W";exact q0 rfl _ (ac.refl _)
def mvS(mv:Int):Bool->Int:=fun b=>if b then mv else 0
def ed:Sp:=fun vs H Q _=>∃(sh:Bool) (vr:V) (mv:Int) (t sa:Addr) (f m:Int) (R:af) (ks:List Int),vs=[.str (shN sh),vr,.int mv,.ref t,.ref sa]/\bt H vr R/\H t=some (.tup [.int f,.int m])/\(0<=f/\f<=65535)/\H sa=some (.dK (kbs ks))/\tot R+ks.length<=100000/\R.length<=100000 /\
 ∀ v' H',al sa H H'->mC H' v' (aM f m (fun _=>R.length) (mvS mv) ks (aJ sh 0 R))->(aM f m (fun _=>R.length) (mvS mv) ks (aJ sh 0 R)=none->H' sa=some (.dK (kbs (ks++(aJ sh 0 R).map (·.2.2)))))->Q v' H'
theorem fj{H:Hp}{Q:VK}{E:XK}{sh:Bool}{vr:V}{mv:Int}{t sa:Addr}{f m:Int}{R:af}{ks:List Int}{nm:PySem.Str}(h0:nm=shN sh)(h1:bt H vr R)(h2:H t=some (.tup [.int f,.int m]))(h3:0<=f/\f<=65535)(h4:H sa=some (.dK (kbs ks)))(h5:tot R+ks.length<=100000)(h6:R.length<=100000)
 (k:∀ v' H',al sa H H'->mC H' v' (aM f m (fun _=>R.length) (mvS mv) ks (aJ sh 0 R))->(aM f m (fun _=>R.length) (mvS mv) ks (aJ sh 0 R)=none->H' sa=some (.dK (kbs (ks++(aJ sh 0 R).map (·.2.2)))))->Q v' H'):ed ([.str nm,vr,.int mv,.ref t,.ref sa]++[]) H Q E:=⟨sh,vr,mv,t,sa,f,m,R,ks,by rw[h0];rfl,h1,h2,h3,h4,h5,h6,k⟩
theorem kO{α:Type}{xs:List α}{i:Nat}{v:α}(h:xs[i]?=some v):xs.drop i=v::xs.drop (i+1):=by
 have hi:i < xs.length:=(List.getElem?_eq_some_iff.mp h).1;rw[List.drop_eq_getElem_cons hi];rw[List.getElem?_eq_getElem hi]at h;rw[Option.some.inj h]
theorem Bp(d:Dfn K mg "_law_shelf_fault" ye ["name","rows","moved","mixer","seen"])(g:Gs K mg C CT CE CP CZ CR CV):Fn P w K mg base "_law_shelf_fault" 1 ["name","rows","moved","mixer","seen"] ed:=by
 refine d.fn pA (fun vs H Q E h=>?_) (fun f cdv A outer s H vs Q E hr h=>?_)
 . obtain⟨sh,vr,mv,t,sa,f,m,R,ks,rfl,_⟩:=h
   rfl
 obtain⟨sh,vr,mv,t,sa,fa,mo,R,ks,rfl,⟨ra,rs,rfl,hra,hrs⟩,ht,hf,hsa,hB,hRl,k⟩:=h;have hrl:=aH hrs;have lim:sizeLine=16777216:=sizeLine_eq;have nt:∀{x:Addr}{xs:List V},H x=some (.tup xs)->x≠sa:=fun e=>aA e hsa (by intro z;cases z)
 obtain⟨fp,hfp0⟩:∃ fp,fp=aM fa mo (fun _=>R.length) (mvS mv) ks (aJ sh 0 R):=⟨_,rfl⟩;rw[← hfp0]at k;refine⟨_,(B.scons (B.fors (B.irange g.b_range (B.cons (B.cB aj g.b_len SW.b_len (B.cons (B.v 1) B.nil)) B.nil)) (B.gname (i:=5) pA.nd) (B.sone (B.fors (B.itup (B.ix av (B.v 1) (B.v 5))) (B.gtup (B.gcons (B.gname (i:=6) pA.nd) (B.gcons (B.gname (i:=7) pA.nd) B.gnil))) (B.scons (B.ifs (B.tcmp eF (B.op cD (B.op cD (B.op bv (B.op b9 (B.v 6) (B.ix av (B.v 3) B.int)) (B.ix av (B.v 3) B.int)) B.int) (B.cB aj g.b_len SW.b_len (B.cons (B.v 1) B.nil))) (B.v 5)) (B.sone (B.ret (B.tup (B.cons B.str (B.cons (B.v 0) (B.cons (B.v 5) B.nil)))))) B.snil)
  (B.scons (B.ifs (B.tw (B.wand (B.tcmp cz (B.v 0) B.str) (B.wand1 (B.tcmp fG (B.v 5) (B.v 2))))) (B.sone (B.ret (B.tup (B.cons B.str (B.cons (B.v 0) (B.cons (B.v 5) B.nil)))))) B.snil)
  (B.scons (B.ifs (B.tdin (dW hr) (B.v 6) (B.v 4)) (B.sone (B.ret (B.tup (B.cons B.str (B.cons (B.v 0) (B.cons (B.v 5) B.nil)))))) B.snil)
  (B.sone (B.dput (dW hr) (B.v 4) (B.v 6) B.bl))))))))
  (B.sone (B.ret B.non))),?_⟩
 walk_at "W";refine SW.bG (.inr (SqT.of hra)) ?_;walk_at "W";refine⟨((rs.length:Nat):Int),rfl,by omega,by omega,?_⟩
 refine SW.kL (fun i Z H'=>∃(v5 v6 v7:Option V) (ks':List Int),Z=[some (.str (shN sh)),some (.ref ra),some (.int mv),some (.ref t),some (.ref sa),v5,v6,v7]/\al sa H H'/\H' sa=some (.dK (kbs ks'))/\ks'=ks++(aJ sh 0 (R.take i)).map (·.2.2)/\fp=aM fa mo (fun _=>R.length) (mvS mv) ks' (aJ sh i (R.drop i))) ⟨none,none,none,ks,rfl,al.refl _ _,hsa,by rw[List.take_zero];exact(List.append_nil _).symm,hfp0⟩ ?_ ?_
 . rintro i Z H' hi ⟨v5,v6,v7,ks',rfl,k',hs',hks',hfp⟩
   have hi':i < rs.length:=by
    have:i < ((rs.length:Nat):Int).toNat:=hi;omega
   have hxi:rs[i]?=some rs[i]:=List.getElem?_eq_getElem hi';obtain⟨r,hr_,b,ys,eb,hb,hps⟩:=aX hrs hxi;have hyl:=hps.len;have hdr:=kO hr_;rw[hdr]at hfp;have hfp:fp=aM fa mo (fun _=>R.length) (mvS mv) ks' (bV sh i r++aJ sh (i+1) (R.drop (i+1))):=hfp;have htk:=aw hr_;have htot:tot (R.take i)+r.length<=tot R:=by
    have h2:=cv R (i+1);rw[htk]at h2;have h3:tot (R.take i++[r])=tot (R.take i)+r.length:=by
     unfold tot;rw[List.map_append,List.sum_append];simp
    omega
   have hkl:ks'.length=ks.length+tot (R.take i):=by rw[hks',List.length_append,List.length_map,cJ]
   walk_at "W";refine nO (k' _ _ (nt hra) hra) (by rw[Int.zero_add];exact bH hxi) ?_
   rw[eb];refine⟨b,rfl,⟨_,SqT.of (k' _ _ (nt hb) hb)⟩,?_⟩;refine dI (xs:=ys) (fun j Z H''=>∃(v6 v7:Option V) (ks'':List Int),Z=[some (.str (shN sh)),some (.ref ra),some (.int mv),some (.ref t),some (.ref sa),some (.int (0+(i:Int))),v6,v7]/\al sa H H''/\H'' sa=some (.dK (kbs ks''))/\ks''=ks'++(bV sh i (r.take j)).map (·.2.2)/\fp=aM fa mo (fun _=>R.length) (mvS mv) ks'' (bV sh i (r.drop j)++aJ sh (i+1) (R.drop (i+1)))) ⟨v6,v7,ks',rfl,k',hs',by rw[List.take_zero];exact(List.append_nil _).symm,hfp⟩ (fun j Z H'' _ ⟨_,_,_,_,k'',_⟩=>SqT.of (k'' _ _ (nt hb) hb)) ?_ ?_
   . rintro j y Z H'' hy ⟨v6,v7,ks'',rfl,k'',hs'',hks'',hfp⟩
     obtain⟨⟨k1,y1⟩,hpp,c,rfl,hc⟩:=aX hps hy;have hc:H c=some (.tup [.int k1,.int y1]):=hc;have hj:j < r.length:=(List.getElem?_eq_some_iff.mp hpp).1;have hdj:=kO hpp;rw[hdj]at hfp;have hfp:fp=aM fa mo (fun _=>R.length) (mvS mv) ks'' ((sh,i,k1)::(bV sh i (r.drop (j+1))++aJ sh (i+1) (R.drop (i+1)))):=hfp;rw[bC]at hfp;have ht'':=k'' _ _ (nt ht) ht;have fin:∀(kd:Nat) (nm:PySem.Str),nm=fkN kd->fp=some (.at_ kd sh i) -> ∀ q,H'' q=none->Q (.ref q) (upd H'' q (.tup [.str nm,.str (shN sh),.int (0+(i:Int))])):=by
      rintro kd nm rfl e q hq;refine k _ _ (k''.trans (al.new hq)) ?_ (fun z=>by rw[e]at z;cases z)
      rw[e];exact⟨q,rfl,by rw[aa,Int.zero_add];rfl⟩
     refine⟨c,_,rfl,SqT.of (k'' _ _ (nt hc) hc),rfl,_,_,rfl,?_⟩;walk_at "W";refine⟨_,_,rfl,?_⟩;walk_at "W";refine⟨rfl,?_⟩;walk_at "W";refine SW.bG (.inr (SqT.of (k'' _ _ (nt hra) hra))) ?_;walk_at "W";rw[hrl,Int.zero_add];by_cases h1:(k1*fa+mo) % 65536 % (R.length:Int)=i
     . rw[if_neg (fun z=>z h1)]at hfp
       refine cp (by rw[h1]) ?_
       walk_at "W";rename_i N1 hN1;have rest:¬ (i:Int) < mvS mv sh->N1 [some (.str (shN sh)),some (.ref ra),some (.int mv),some (.ref t),some (.ref sa),some (.int (i:Int)),some (.int k1),some (.int y1)] H'':=by
        intro h2;rw[if_neg h2]at hfp;refine SW.wGo hN1 ?_;walk_at "W";refine⟨sa,_,rfl,cK.k (k:=Sum.inl k1) hs'',?_⟩;walk_at "W";rw[gj];by_cases h3:k1∈ks''
        . rw[if_pos h3]at hfp
          rw[decide_eq_true h3];refine az ?_;walk_at "W";refine⟨by show(3:Nat)<=sizeLine;decide,fun q hq=>?_⟩
          have z:=fin 2 "twice" rfl hfp q hq;rw[Int.zero_add]at z;exact z
        rw[if_neg h3]at hfp;rw[decide_eq_false h3];refine ao ?_;walk_at "W";refine⟨sa,_,rfl,jR.k (k:=Sum.inl k1) hs'' ?_,?_⟩
        . rw[lj,hks'',List.length_append,List.length_map,kB,List.length_take];omega
        rw[jm h3];walk_at "W";refine⟨_,_,ks''++[k1],by rw[Int.zero_add],fun b o n e=>by rw[ag n];exact k'' _ _ n e,aa,?_,hfp⟩
        rw[aw hpp,hks''];unfold bV;rw[List.map_append,List.map_append,List.append_assoc];rfl
       clear hN1;refine⟨by cases sh <;> rfl,?_⟩
       walk_at "W";cases sh with
       | true=>
         refine c5 rfl ?_;walk_at "W";rw[Int.zero_add];by_cases h2:(i:Int) < mv
         . have h2':(i:Int) < mvS mv true:=h2
           rw[if_pos h2']at hfp;refine c5 h2 ?_;walk_at "W";refine⟨by show(3:Nat)<=sizeLine;decide,fun q hq=>?_⟩
           have z:=fin 1 "emptied" rfl hfp q hq;rw[Int.zero_add]at z;exact z
         refine bK h2 ?_;walk_at "W";exact rest h2
       | false=>
         refine bK (yt (by decide +kernel)) ?_
         refine ao ?_;walk_at "W";exact rest (by show ¬ (i:Int) < 0;omega)
     rw[if_pos h1]at hfp;refine bR (fun z=>h1 (by injection z)) ?_
     walk_at "W";refine⟨by show(3:Nat)<=sizeLine;decide,fun q hq=>?_⟩
     have z:=fin 0 "place" rfl hfp q hq;rw[Int.zero_add]at z;exact z
   rintro Z H'' ⟨v6,v7,ks'',rfl,k'',hs'',hks'',hfp⟩;rw[hyl,List.drop_length]at hfp;rw[hyl,List.take_length]at hks'';walk_at "W";refine⟨_,_,_,ks'',rfl,k'',hs'',?_,hfp⟩;rw[hks'',hks',htk,fR,List.map_append,Nat.zero_add,← List.append_assoc];have e5:(R.take i).length=i:=by
    rw[List.length_take];omega
   rw[e5]
 rintro Z H' ⟨v5,v6,v7,ks',rfl,k',hs',hks',hfp⟩;rw[show((rs.length:Nat):Int).toNat=R.length by rw[Int.toNat_natCast,hrl],List.drop_length]at hfp
 rw[show((rs.length:Nat):Int).toNat=R.length by rw[Int.toNat_natCast,hrl],List.take_length]at hks'
 have hfp:fp=none:=hfp;walk_at "W";refine k _ _ k' (by rw[hfp];rfl) (fun _=>by rw[← hks'];exact hs')
theorem gu{f m:Int}{sz sz':Bool->Nat}{mv mv':Bool->Int}:∀(ts:List eO) (ks:List Int),(∀ t∈ts,sz t.1=sz' t.1/\mv t.1=mv' t.1)->aM f m sz mv ks ts=aM f m sz' mv' ks ts
 | [],_,_=>rfl
 | (sh,i,k)::ts,ks,h=>by
   have h0:=h (sh,i,k) (List.mem_cons_self ..);have h1:sz sh=sz' sh:=h0.1;have h2:mv sh=mv' sh:=h0.2;rw[bC,bC,h1,h2,gu ts _ fun t ht=>h t (List.mem_cons_of_mem _ ht)]
theorem eo{f m:Int}{S:Sta}{sh:Bool}{R:af}{ks:List Int}(h1:szOf S sh=R.length):aM f m (fun _=>R.length) (mvS S.mv) ks (aJ sh 0 R)=aM f m (szOf S) (gH S) ks (aJ sh 0 R):=
 gu _ _ fun t ht=>by
  rw[(df ht).1];exact⟨h1.symm,rfl⟩
def B_:Sp:=fV
theorem Big.len{S:Sta}:True:=trivial
def uu(S:Sta):Prop:=Big S/\(S.el.getD []).length<=100000/\S.nw.length<=100000
def pF:Sp:=fun vs H Q _=>∃(v:V) (t:Addr) (f m:Int) (S:Sta),vs=[v,.ref t]/\StV H v S/\uu S/\H t=some (.tup [.int f,.int m])/\(0<=f/\f<=65535) /\ ∀ v' H',ac H H'->mC H' v' (aB f m S)->Q v' H'
theorem AI{H:Hp}{Q:VK}{E:XK}{v:V}{t:Addr}{f m:Int}{S:Sta}(h1:StV H v S)(h2:uu S)(h3:H t=some (.tup [.int f,.int m]))(h4:0<=f/\f<=65535)(k:∀ v' H',ac H H'->mC H' v' (aB f m S)->Q v' H'):pF ([v,.ref t]++[]) H Q E:=⟨v,t,f,m,S,rfl,h1,h2,h3,h4,k⟩
theorem q3_(d:Dfn K mg "_law_due" xp ["state","mixer"])(g:Gs K mg C CT CE CP CZ CR CV)(q37_:Fn P w K mg base "_law_shelf_fault" 1 ["name","rows","moved","mixer","seen"] ed):Fn P w K mg base "_law_due" 2 ["state","mixer"] pF:=by
 refine d.fn gs (fun vs H Q E h=>?_) (fun f cdv A outer s H vs Q E hr h=>?_)
 . obtain⟨v,t,f,m,S,rfl,_⟩:=h
   rfl
 obtain⟨v,t,fa,mo,S,rfl,hS,⟨hB,hE_,hN_⟩,ht,hf,k⟩:=h;obtain⟨u,ve,vn,rfl,hu,he,hn⟩:=id hS;have hB:tot (S.el.getD [])+tot S.nw<=100000:=hB;refine⟨_,(B.scons (B.asg (B.v 0) (B.gtup (B.gcons (B.gname (i:=2) gs.nd) (B.gcons (B.gname (i:=3) gs.nd) (B.gcons (B.gname (i:=4) gs.nd) B.gnil)))))
  (B.scons (B.set 5 gs.nd (B.lst (B.cons B.int (B.cons B.int (B.cons B.int (B.cons B.int (B.cons B.int (B.cons B.int (B.cons B.int (B.cons B.int (B.cons B.int (B.cons B.int (B.cons B.int B.nil)))))))))))))
  (B.scons (B.ifs (B.tw (B.wor (B.tcmpI gy (B.cB aj g.b_len SW.b_len (B.cons (B.v 4) B.nil)) (B.v 5)) (B.wor1 (B.tw (B.wand (B.tcmp cj (B.v 2) B.non) (B.wand1 (B.tcmpI gy (B.cB aj g.b_len SW.b_len (B.cons (B.v 2) B.nil)) (B.v 5)))))))) (B.sone (B.ret (B.tup (B.cons B.str B.nil)))) B.snil)
  (B.scons (B.ifs (B.tw (B.wand (B.tcmp cj (B.v 2) B.non) (B.wand (B.tcmp eF (B.cB aj g.b_len SW.b_len (B.cons (B.v 2) B.nil)) (B.op b9 B.int (B.cB aj g.b_len SW.b_len (B.cons (B.v 4) B.nil)))) (B.wand1 (B.tcmp eF (B.op b9 B.int (B.cB aj g.b_len SW.b_len (B.cons (B.v 2) B.nil))) (B.cB aj g.b_len SW.b_len (B.cons (B.v 4) B.nil))))))) (B.sone (B.ret (B.tup (B.cons B.str B.nil)))) B.snil)
  (B.scons (B.ifs (B.tw (B.wor (B.tw (B.wand (B.tcmp bZ (B.v 2) B.non) (B.wand1 (B.tcmp eF (B.v 3) B.int)))) (B.wor1 (B.tw (B.wand (B.tcmp cj (B.v 2) B.non) (B.wand1 (B.tnot (B.tchain eY fG B.int (B.v 3) (B.cB aj g.b_len SW.b_len (B.cons (B.v 2) B.nil)))))))))) (B.sone (B.ret (B.tup (B.cons B.str B.nil)))) B.snil)
  (B.scons (B.set 6 gs.nd B.dnew)
  (B.scons (B.set 7 gs.nd B.non)
  (B.scons (B.ifs (B.tcmp cj (B.v 2) B.non) (B.sone (B.set 7 gs.nd (B.fn q37_ hr.up (B.cons B.str (B.cons (B.v 2) (B.cons (B.v 3) (B.cons (B.v 1) (B.cons (B.v 6) B.nil)))))))) B.snil)
  (B.scons (B.ifs (B.tcmp bZ (B.v 7) B.non) (B.sone (B.set 7 gs.nd (B.fn q37_ hr.up (B.cons B.str (B.cons (B.v 4) (B.cons (B.v 3) (B.cons (B.v 1) (B.cons (B.v 6) B.nil)))))))) B.snil)
  (B.sone (B.ret (B.v 7)))))))))))),?_⟩
 walk_at "W";refine⟨u,_,rfl,SqT.of hu,rfl,_,_,rfl,?_⟩;walk_at "W";refine⟨_,_,rfl,?_⟩;walk_at "W";refine⟨_,_,rfl,?_⟩;walk_at "W";refine⟨rfl,?_⟩;walk_at "W";refine⟨by show(11:Nat)<=sizeLine;decide,fun sl hsl=>?_⟩
 have s1:ac H (upd H sl (.lst [.int 4,.int 8,.int 16,.int 32,.int 64,.int 128,.int 256,.int 512,.int 1024,.int 2048,.int 4096])):=ac.new hsl;have esl:=aa (H:=H) (a:=sl) (o:=.lst [.int 4,.int 8,.int 16,.int 32,.int 64,.int 128,.int 256,.int 512,.int 1024,.int 2048,.int 4096]);obtain⟨H1,hH1⟩:∃ H1,H1=upd H sl (.lst [.int 4,.int 8,.int 16,.int 32,.int 64,.int 128,.int 256,.int 512,.int 1024,.int 2048,.int 4096]):=⟨_,rfl⟩;rw[← hH1]at s1 esl ⊢;clear hH1;have ht1:=s1 _ _ ht;have hn1:=hn.keep (SW.ac.tk s1);obtain⟨na,ns,rfl,hna,hns⟩:=id hn1;have hnl:=aH hns;have plc_:bp S=false -> ∀ H2,ac H1 H2 -> ∀ q,H2 q=none->Q (.ref q) (upd H2 q (.tup [.str "places"])):=fun e H2 s2 q hq=>by
  refine k _ _ ((s1.trans s2).trans (ac.new hq)) ?_;unfold aB;rw[if_pos e];exact⟨q,rfl,aa⟩
 have mov_:bp S=true->bS S=false -> ∀ H2,ac H1 H2 -> ∀ q,H2 q=none->Q (.ref q) (upd H2 q (.tup [.str "moved"])):=fun e0 e H2 s2 q hq=>by
  refine k _ _ ((s1.trans s2).trans (ac.new hq)) ?_;unfold aB;rw[if_neg (by rw[e0];intro z;cases z),if_pos e]
  exact⟨q,rfl,aa⟩
 have one_:(1:Nat)<=sizeLine:=by decide
 walk_at "W";refine SW.bG (.inr (SqT.of hna)) ?_;walk_at "W";refine⟨sl,_,rfl,.inl (SqL.of esl),rfl,by decide,?_⟩
 rw[i_,hnl];walk_at "W";by_cases h1:am S.nw.length
 . rw[decide_eq_true h1]
   refine ao ?_;walk_at "W";obtain⟨el,mv,nw⟩:=S;cases el with
   | none=>
     have he:ve=V.non:=he;subst he;have hP:bp ⟨none,mv,nw⟩=true:=by
      show(decide (am nw.length) && true)=true;rw[decide_eq_true h1];rfl
     refine⟨rfl,?_⟩;walk_at "W";refine cp rfl ?_;refine ao ?_;walk_at "W";refine⟨rfl,?_⟩;walk_at "W";refine cp rfl ?_;refine ao ?_;walk_at "W";refine⟨rfl,?_⟩;walk_at "W";refine c5 rfl ?_;walk_at "W";by_cases h2:mv=0
     . have hM:bS ⟨none,mv,nw⟩=true:=by
        show(decide (0<=mv) && decide (mv < 1))=true;rw[h2];rfl
       refine cp (by rw[h2]) ?_
       walk_at "W";refine⟨rfl,?_⟩;walk_at "W";refine cp rfl ?_;refine ao ?_;walk_at "W";intro sd hsd;have a2:=ac.new (o:=.dK []) hsd;walk_at "W";refine⟨rfl,?_⟩;walk_at "W";refine cp rfl ?_;walk_at "W";refine⟨rfl,?_⟩;walk_at "W";refine c5 rfl ?_;walk_at "W";have s02:=s1.trans a2;refine fj (sh:=false) (ks:=[]) rfl (hn.keep (SW.ac.tk s02)) (s02 _ _ ht) hf aa (by show tot nw+0<=_;have:tot (Option.getD none []:af)+tot nw<=100000:=hB;omega) hN_ fun v' H3 k3 hv _=>?_
       walk_at "W";refine k _ _ (fun b o e=>k3 _ _ (ai (s1 _ _ e) hsd) (s02 _ _ e)) ?_;rw[eo (S:=⟨none,mv,nw⟩) (sh:=false) rfl]at hv;unfold aB;rw[if_neg (by rw[hP];intro z;cases z),if_neg (by rw[hM];intro z;cases z)]
       exact hv
     refine bR (fun z=>h2 (by injection z)) ?_
     refine az ?_;walk_at "W";refine⟨one_,mov_ hP ?_ _ (ac.refl _)⟩;show(decide (0<=mv) && decide (mv < 1))=false;rw[Bool.and_eq_false_iff];by_cases h3:0<=mv
     . exact .inr (decide_eq_false (by omega))
     exact .inl (decide_eq_false h3)
   | some E_=>
     obtain⟨ea,es,rfl,hea,hes⟩:=(show bt H ve E_ from he);have hel:=aH hes;have hea1:=s1 _ _ hea;refine⟨rfl,?_⟩;walk_at "W";refine bR (fun z=>nomatch z) ?_;walk_at "W";refine SW.bG (.inr (SqT.of hea1)) ?_;walk_at "W";refine⟨sl,_,rfl,.inl (SqL.of esl),rfl,by decide,?_⟩
     rw[i_,hel];walk_at "W";by_cases h2:am E_.length
     . rw[decide_eq_true h2]
       refine ao ?_;walk_at "W";refine⟨rfl,?_⟩;walk_at "W";refine bR (fun z=>nomatch z) ?_;walk_at "W";refine SW.bG (.inr (SqT.of hea1)) ?_;walk_at "W";refine SW.bG (.inr (SqT.of hna)) ?_;walk_at "W";rw[hel,show ns.length=nw.length from hnl];rename_i N1 hN1;have rest:bp ⟨some E_,mv,nw⟩=true->N1 [some (.ref u),some (.ref t),some (.ref ea),some (.int mv),some (.ref na),some (.ref sl),none,none] H1:=by
        intro hP;refine SW.wGo hN1 ?_;walk_at "W";refine⟨rfl,?_⟩;walk_at "W";refine bK (fun z=>nomatch z) ?_;refine ao ?_;walk_at "W";refine⟨rfl,?_⟩;walk_at "W";refine bR (fun z=>nomatch z) ?_;walk_at "W";have badM:bS ⟨some E_,mv,nw⟩=false -> ∀ q,H1 q=none->Q (.ref q) (upd H1 q (.tup [.str "moved"])):=fun e=>mov_ hP e _ (ac.refl _);by_cases h3:0<=mv
        . refine c5 h3 ?_
          walk_at "W";refine SW.bG (.inr (SqT.of hea1)) ?_;walk_at "W";rw[hel];by_cases h4:mv < (E_.length:Int)
          . have hM:bS ⟨some E_,mv,nw⟩=true:=by
             show(decide (0<=mv) && decide (mv < (E_.length:Int)))=true;rw[decide_eq_true h3,decide_eq_true h4];rfl
            refine cp h4 ?_;walk_at "W";intro sd hsd;have a2:=ac.new (o:=.dK []) hsd;walk_at "W";refine⟨rfl,?_⟩;walk_at "W";refine bR (fun z=>nomatch z) ?_;walk_at "W";have s02:=s1.trans a2;have hB2:tot E_+tot nw<=100000:=hB;refine fj (sh:=true) (ks:=[]) rfl (bt.keep (show bt H (V.ref ea) E_ from he) (SW.ac.tk s02)) (s02 _ _ ht) hf aa (by show tot E_+0<=_;omega) hE_ fun v1 H3 k3 hv1 hks=>?_
            have s03:ac H H3:=fun b o e=>k3 _ _ (ai (s1 _ _ e) hsd) (s02 _ _ e);have e1:=eo (f:=fa) (m:=mo) (S:=⟨some E_,mv,nw⟩) (sh:=true) (R:=E_) (ks:=[]) rfl;have hfl:aB fa mo ⟨some E_,mv,nw⟩=match aM fa mo (szOf ⟨some E_,mv,nw⟩) (gH ⟨some E_,mv,nw⟩) [] (aJ true 0 E_)with | some x=>some x | none=>aM fa mo (szOf ⟨some E_,mv,nw⟩) (gH ⟨some E_,mv,nw⟩) ([]++(aJ true 0 E_).map (·.2.2)) (aJ false 0 nw):=by
             unfold aB;rw[if_neg (by rw[hP];intro z;cases z),if_neg (by rw[hM];intro z;cases z)]
             exact jG ..
            rw[← e1]at hfl;walk_at "W";refine⟨rfl,?_⟩;walk_at "W";cases hf1:aM fa mo (fun _=>E_.length) (mvS mv) [] (aJ true 0 E_)with
            | some x=>
              have hfl:aB fa mo ⟨some E_,mv,nw⟩=some x:=by
               rw[hfl,show aM fa mo (fun _=>E_.length) (mvS (Sta.mk (some E_) mv nw).mv) [] (aJ true 0 E_)=some x from hf1]
              rw[hf1]at hv1;obtain⟨q,rfl,hq⟩:=id hv1;refine bK (fun z=>nomatch z) ?_;walk_at "W";refine k _ _ s03 ?_;rw[hfl];exact hv1
            | none=>
              have hfl:aB fa mo ⟨some E_,mv,nw⟩=aM fa mo (szOf ⟨some E_,mv,nw⟩) (gH ⟨some E_,mv,nw⟩) ([]++(aJ true 0 E_).map (·.2.2)) (aJ false 0 nw):=by
               rw[hfl,show aM fa mo (fun _=>E_.length) (mvS (Sta.mk (some E_) mv nw).mv) [] (aJ true 0 E_)=none from hf1]
              rw[hf1]at hv1;have hv1:v1=V.non:=hv1;subst hv1;refine c5 rfl ?_;walk_at "W";refine fj (sh:=false) rfl (hn.keep (SW.ac.tk s03)) (s03 _ _ ht) hf (hks hf1) ?_ hN_ fun v2 H4 k4 hv2 _=>?_
              . rw[List.length_append,List.length_map,cJ]
                show tot nw+(0+tot E_)<=_;omega
              walk_at "W";refine k _ _ (fun b o e=>k4 _ _ (ai (s1 _ _ e) hsd) (s03 _ _ e)) ?_;rw[hfl];rw[eo (S:=⟨some E_,mv,nw⟩) (sh:=false) rfl]at hv2;exact hv2
          refine bR h4 ?_;walk_at "W";refine⟨one_,badM ?_⟩;show(decide (0<=mv) && decide (mv < (E_.length:Int)))=false;rw[decide_eq_false h4,Bool.and_false]
        refine bK h3 ?_;walk_at "W";refine az ?_;walk_at "W";refine⟨one_,badM ?_⟩;show(decide (0<=mv) && decide (mv < (E_.length:Int)))=false;rw[decide_eq_false h3,Bool.false_and]
       clear hN1;have hPe:bp ⟨some E_,mv,nw⟩=(decide (E_.length=2*nw.length) || decide (nw.length=2*E_.length)):=by
        show(decide (am nw.length) && (decide (am E_.length) && _))=_;rw[decide_eq_true h1,decide_eq_true h2];rfl
       by_cases h5:E_.length=2*nw.length
       . refine cp (by rw[show(E_.length:Int)=2*(nw.length:Int) by omega]) ?_
         refine ao ?_;walk_at "W";exact rest (by rw[hPe,decide_eq_true h5];rfl)
       refine bR (fun z=>h5 (by injection z with z;omega)) ?_
       walk_at "W";refine SW.bG (.inr (SqT.of hea1)) ?_;walk_at "W";refine SW.bG (.inr (SqT.of hna)) ?_;walk_at "W";rw[hel,show ns.length=nw.length from hnl];by_cases h6:nw.length=2*E_.length
       . refine cp (by rw[show(nw.length:Int)=2*(E_.length:Int) by omega]) ?_
         walk_at "W";exact rest (by rw[hPe,decide_eq_true h6,Bool.or_true])
       refine bR (fun z=>h6 (by injection z with z;omega)) ?_
       walk_at "W";exact⟨one_,plc_ (by rw[hPe,decide_eq_false h5,decide_eq_false h6];rfl) _ (ac.refl _)⟩
     rw[decide_eq_false h2];refine az ?_;walk_at "W";refine⟨one_,plc_ ?_ _ (ac.refl _)⟩;show(decide (am nw.length) && (decide (am E_.length) && _))=false;rw[decide_eq_false h2,Bool.false_and,Bool.and_false]
 rw[decide_eq_false h1];refine az ?_;refine az ?_;walk_at "W";exact⟨one_,plc_ (by unfold bp;rw[decide_eq_false h1];rfl) _ (ac.refl _)⟩
def Bd(q:Int×Int):Prop:=-1000000000<=q.2/\q.2<=1000000000
def Wr(r:ar):Prop:=∀ q∈r,Bd q
def WbR(R:af):Prop:=∀ r∈R,Wr r
theorem Wr.nil:Wr []:=fun _ h=>nomatch h
theorem Wr.snoc{r:ar}{q:Int×Int}(h:Wr r)(hq:Bd q):Wr (r++[q]):=fun x hx=>by
 rcases List.mem_append.mp hx with z | z
 . exact h x z
 rw[List.mem_singleton.mp z];exact hq
theorem WbR.bare(n:Nat):WbR (List.replicate n []):=fun r hr=>by rw[List.eq_of_mem_replicate hr];exact Wr.nil
theorem WbR.app{A B:af}(h1:WbR A)(h2:WbR B):WbR (A++B):=fun r hr=>(List.mem_append.mp hr).elim (h1 r) (h2 r)
def SzR(n:Nat)(R:af):Prop:=R.length<=n/\tot R<=n/\WbR R
def SzE(n:Nat)(e:Option af):Prop:=SzR n (e.getD [])
theorem SzR.mono{n m:Nat}{R:af}(h:SzR n R)(k:n<=m):SzR m R:=⟨Nat.le_trans h.1 k,Nat.le_trans h.2.1 k,h.2.2⟩
theorem cu(A B:af):tot (A++B)=tot A+tot B:=by
 unfold tot;rw[List.map_append,List.sum_append]
theorem sW(R:af)(j:Nat):tot (R.drop j)<=tot R:=by
 have e:tot R=tot (R.take j)+tot (R.drop j):=by rw[← cu,List.take_append_drop]
 omega
theorem dG{R:af}{i:Nat}{r q:ar}(h:R[i]?=some q):tot (R.set i r)+q.length=tot R+r.length:=by
 have hi:i < R.length:=(List.getElem?_eq_some_iff.mp h).1;have e1:R.set i r=R.take i++[r]++R.drop (i+1):=by rw[List.set_eq_take_append_cons_drop,if_pos hi];simp
 have e2:R=R.take i++[q]++R.drop (i+1):=by
  rw[← aw h,List.take_append_drop]
 have h1:tot [r]=r.length:=by unfold tot;simp
 have h2:tot [q]=q.length:=by unfold tot;simp
 have e3:tot R=tot (R.take i)+q.length+tot (R.drop (i+1)):=by
  have:=congrArg tot e2;rw[cu,cu,h2]at this;exact this
 rw[e1,cu,cu,h1];omega
def jc:Sp:=fun vs H Q _=>∃(p:Addr) (v:V) (e:Option af) (n:Nat),vs=[.ref p,v]/\Row H p/\ElV H v e/\SzE n e/\n<=5000 /\ ∀ v' H' e',ElV H' v' e'->SzE (2*n+8) e'->Row H' p->al p H H'->Q v' H'
theorem pE{H:Hp}{Q:VK}{E:XK}{p:Addr}{v:V}{e:Option af}{n:Nat}(h1:Row H p)(h2:ElV H v e)(h3:SzE n e)(h4:n<=5000)(k:∀ v' H' e',ElV H' v' e'->SzE (2*n+8) e'->Row H' p->al p H H'->Q v' H'):jc ([.ref p,v]++[]) H Q E:=⟨p,v,e,n,rfl,h1,h2,h3,h4,k⟩
theorem ci{H H':Hp}{p:Addr}(r:Row H p)(k:al p H H'):TK H H':=fun a xs e=>k _ _ (by
 obtain⟨x,y,z,h,_⟩:=r;exact aA e h (by intro q;cases q)) e
theorem sU{K:W.Frag}{H:Hp}{v:V}{p:Int×Int}(h:PrV H v p):d7 K H v (.tuple [.int p.1,.int p.2]):=by
 obtain⟨a,rfl,h⟩:=h;exact .tup (SqT.of h) (.cons (.int _) (.cons (.int _) .nil))
theorem gn{α β:Type}{F:α -> β -> Prop}:∀{xs:List α}{ys:List β} (j:Nat),Paired F xs ys->Paired F (xs.eraseIdx j) (ys.eraseIdx j)
 | _,_,j,.nil=>by cases j <;> exact .nil
 | _,_,0,.cons _ t=>t
 | _,_,j+1,.cons h t=>.cons h (gn j t)
def vR(R:af)(lo hi:Option Int):af:=(R.drop (HT.sIx R.length 0 lo)).take (HT.sIx R.length R.length hi - HT.sIx R.length 0 lo)
theorem iw{H:Hp}{xs:List V}{R:af}(h:Paired (dB H) xs R)(lo hi:Option Int):Paired (dB H) (bQ xs lo hi) (vR R lo hi):=by
 unfold bQ vR;rw[aH h];exact ie _ (ii _ h)
theorem iO{n:Nat}{R:af}(h:SzR n R)(lo hi:Option Int):SzR n (vR R lo hi):=by
 unfold vR;refine⟨?_,Nat.le_trans (cv _ _) (Nat.le_trans (sW _ _) h.2.1),fun r hr=>h.2.2 r (List.mem_of_mem_drop (List.mem_of_mem_take hr))⟩;have:=h.1;rw[List.length_take,List.length_drop];omega
theorem SzR.app{n:Nat}{A B:af}(h1:SzR n A)(h2:SzR n B):SzR (2*n) (A++B):=by
 refine⟨?_,?_,h1.2.2.app h2.2.2⟩
 . rw[List.length_append];have:=h1.1;have:=h2.1;omega
 rw[cu];have:=h1.2.1;have:=h2.2.1;omega
theorem o7(a b:Int):(PyData.tuple [PyData.int a,PyData.int b]).depth<=1:=by simp[PyData.depth,PyData.depthAll]
theorem jl:∀ r:ar,PyData.canLayAll0 (r.map fun p=>PyData.tuple [.int p.1,.int p.2])=true:=gU
theorem pJ(r:ar):(PyData.list (r.map fun p=>PyData.tuple [.int p.1,.int p.2])).depth<=60:=by
 have:=fK r;simp only[PyData.depth];omega
theorem zL{H H':Hp}{p q:Addr}(r:Row H p)(s:ac H H')(h:H' q=none):q≠p:=((r.same s).ne0 h).symm
structure OI(H0:Hp)(p D:Addr)(ls:List Addr)(N j:Nat)(H:Hp)(R:af):Prop where
 r:Row H p
 k:al p H0 H
 l:LR H D R ls
 nD:D≠p
 D0:H0 D=none
 nl:∀ y∈ls,y≠p/\H0 y=none
 z1:R.length=ls.length
 z2:tot R<=N+j
 wb:WbR R
theorem OI.keepP{H0 H H':Hp}{p D:Addr}{ls:List Addr}{N j:Nat}{R:af}(I:OI H0 p D ls N j H R)(R':Row H' p)(k:al p H H'):OI H0 p D ls N j H' R:=
 ⟨R',I.k.trans k,I.l.keep (G:=fun b=>b=p) (fun b o n e=>k b o n e) I.nD (fun b hb=>(I.nl b hb).1) (fun b xs e=>I.r.ne e),I.nD,I.D0,I.nl,I.z1,I.z2,I.wb⟩
theorem OI.same{H0 H H':Hp}{p D:Addr}{ls:List Addr}{N j:Nat}{R:af}(I:OI H0 p D ls N j H R)(s:ac H H'):OI H0 p D ls N j H' R:=I.keepP (I.r.same s) (SW.ac.but s)
theorem OI.set{H0 H:Hp}{p D:Addr}{ls:List Addr}{N j j':Nat}{R:af}{i:Nat}{l:Addr}{xs:List V}{r q:ar}(I:OI H0 p D ls N j H R)(hl:ls[i]?=some l)(hq:R[i]?=some q)(h2:Prs H xs r)(hz:r.length+j<=q.length+j')(hw:Wr r) :
 OI H0 p D ls N j' (upd H l (.lst xs)) (R.set i r):=by
 have hm:=List.mem_of_getElem? hl;obtain⟨ys,hly⟩:=I.l.live hm;have tk:TK H (upd H l (.lst xs)):=fun a zs e=>by rw[ag (aA e hly (by intro z;cases z))];exact e
 refine⟨?_,fun b o n e=>?_,I.l.set hl aa (h2.keep tk) (fun b o n e=>by rw[ag n];exact e),I.nD,I.D0,I.nl,by rw[List.length_set];exact I.z1,?_,fun x hx=>(List.mem_or_eq_of_mem_set hx).elim (I.wb x) (fun e=>e ▸ hw)⟩
 . obtain⟨a,b,c,h,g⟩:=I.r
   exact⟨a,b,c,by rw[ag (I.nl l hm).1.symm];exact h,g⟩
 . rw[ag (ai e (I.nl l hm).2)]
   exact I.k _ _ n e
 have:=dG (r:=r) hq;have:=I.z2;omega
theorem Cj(d:Dfn K mg "_law_other_rows" yZ ["row","rows"])(g:Gs K mg C CT CE CP CZ CR CV)(q40_:Fn P w K mg base "_law_take" 1 ["row","many"] cH)(q28_:Fn P w K mg base "_law_key" 2 ["row"] pq)(q41_:Fn P w K mg base "_law_worth" 2 ["row"] iy):Fn P w K mg base "_law_other_rows" 3 ["row","rows"] jc:=by
 refine d.fn ia (fun vs H Q E h=>?_) (fun f cdv A outer s H vs Q E hr h=>?_)
 . obtain⟨p,v,e,n,rfl,_⟩:=h
   rfl
 obtain⟨p,v,e,n,rfl,hp,he,hsz,hn,k⟩:=h;have lim:sizeLine=16777216:=sizeLine_eq;have zero_:(0:Nat)<=sizeLine:=by decide
 -- four bare rows
 have four:∀ H0,ac H H0->gA (bU (gA c9) (bU (gA c9) (bU (gA c9) (bU (gA c9) c9)))) [some (.ref p),some v,none,none,none,none,none,none] H0 Q:=by
  intro H0 s0;walk_at "W";refine⟨zero_,fun t1 h1=>?_⟩;walk_at "W";refine⟨zero_,fun t2 h2=>?_⟩;walk_at "W";refine⟨zero_,fun t3 h3=>?_⟩;walk_at "W";refine⟨zero_,fun t4 h4=>?_⟩;walk_at "W";refine⟨by show(4:Nat)<=sizeLine;decide,fun t5 h5=>?_⟩
  have a1:=ac.new (o:=.tup []) h1;have a2:=ac.new (o:=.tup []) h2;have a3:=ac.new (o:=.tup []) h3;have a4:=ac.new (o:=.tup []) h4;have a5:=ac.new (o:=.tup [.ref t1,.ref t2,.ref t3,.ref t4]) h5;have c4:=a4.trans a5;have c3:=a3.trans c4;have c2:=a2.trans c3;have s05:=s0.trans (a1.trans c2);refine k _ _ (some [[],[],[],[]]) ⟨t5,_,rfl,aa,.cons ⟨t1,[],rfl,c2 _ _ aa,.nil⟩ (.cons ⟨t2,[],rfl,c3 _ _ aa,.nil⟩ (.cons ⟨t3,[],rfl,c4 _ _ aa,.nil⟩ (.cons ⟨t4,[],rfl,a5 _ _ aa,.nil⟩ .nil)))⟩ ⟨by show 4<=_;omega,by show 0<=_;omega,WbR.bare 4⟩ (hp.same s05) (SW.ac.but s05)
 refine⟨_,(B.scons (B.ifs (B.tw (B.wor (B.tcmp bZ (B.v 1) B.non) (B.wor1 (B.tcmp (o_ (jh hr)) (B.v 1) (B.tup B.nil))))) (B.sone (B.ret (B.tup (B.cons (B.tup B.nil) (B.cons (B.tup B.nil) (B.cons (B.tup B.nil) (B.cons (B.tup B.nil) B.nil))))))) B.snil)
  (B.scons (B.set 2 ia.nd (B.fn q40_ hr.up (B.cons (B.v 0) (B.cons (B.cB aj g.b_len SW.b_len (B.cons (B.v 1) B.nil)) B.nil))))
  (B.scons (B.set 3 ia.nd (B.fn q40_ hr.up (B.cons (B.v 0) (B.cons (B.cB aj g.b_len SW.b_len (B.cons (B.v 1) B.nil)) B.nil))))
  (B.scons (B.set 4 ia.nd (B.fn q40_ hr.up (B.cons (B.v 0) (B.cons B.int B.nil))))
  (B.scons (B.ifs (B.tcmp cz (B.v 4) B.int) (B.sone (B.ret (B.ix ay (B.lst (B.cons (B.op da (B.v 1) (B.tup (B.cons (B.tup B.nil) B.nil))) (B.cons (B.slice SW.cM (B.v 1) (B.part B.int) B.nopart) (B.cons (B.op da (B.v 1) (B.v 1)) (B.cons (B.slice SW.cM (B.v 1) B.nopart (B.part (B.op fk (B.cB aj g.b_len SW.b_len (B.cons (B.v 1) B.nil)) B.int))) (B.cons (B.tup B.nil) (B.cons B.non B.nil))))))) (B.fn q40_ hr.up (B.cons (B.v 0) (B.cons B.int B.nil)))))) B.snil)
  (B.scons (B.ifs (B.tcmp cz (B.v 4) B.int) (B.sone (B.ret (B.op da (B.slice SW.cM (B.v 1) (B.part (B.v 3)) B.nopart) (B.slice SW.cM (B.v 1) B.nopart (B.part (B.v 3)))))) B.snil)
  (B.scons (SW.B.compSet 5 [] ["one"] (SW.ax.of rfl rfl (by decide +kernel) (by decide +kernel) rfl trivial rfl rfl rfl) (by decide +kernel) ia.nd (B.itup (B.v 1)) (fun _ _ _ _=>(B.cT (SW.nn K) g.b_list SW.b_list (B.cons (B.v 0) B.nil))))
  (B.scons (B.set 6 ia.nd (B.tup (B.cons (B.fn q28_ hr.up (B.cons (B.v 0) B.nil)) (B.cons (B.fn q41_ hr.up (B.cons (B.v 0) B.nil)) B.nil))))
  (B.scons (B.ifs (B.tcmp (nH K hr.units) (B.ix ay (B.v 5) (B.v 2)) (B.lst B.nil)) (B.sone (B.set 6 ia.nd (B.ix ay (B.ix ay (B.v 5) (B.v 2)) (B.fn q40_ hr.up (B.cons (B.v 0) (B.cons (B.cB aj g.b_len SW.b_len (B.cons (B.ix ay (B.v 5) (B.v 2)) B.nil)) B.nil)))))) B.snil)
  (B.scons (B.ifs (B.tcmp fG (B.v 4) B.int) (B.sone (B.expr (B.m PySem.F.plainAttrs_list PySem.F.slot_list_append PySem.F.type_list_append cE (B.ix ay (B.v 5) (B.v 3)) (B.cons (B.v 6) B.nil)))) B.snil)
  (B.scons (B.ifs (B.tw (B.wand (B.tcmpI kI (B.v 4) (B.tup (B.cons B.int (B.cons B.int (B.cons B.int B.nil))))) (B.wand1 (B.tcmpI (SW.wN K hr.units) (B.v 6) (B.ix ay (B.v 5) (B.v 2)))))) (B.sone (B.expr (B.m PySem.F.plainAttrs_list PySem.F.slot_list_remove PySem.F.type_list_remove (SW.qc K hr.units) (B.ix ay (B.v 5) (B.v 2)) (B.cons (B.v 6) B.nil)))) B.snil)
  (B.scons (B.ifs (B.tcmp sK (B.v 4) B.int) (B.scons (B.set 7 ia.nd (B.lst (B.cons (B.tup (B.cons (B.op bv (B.ix av (B.v 6) B.int) B.int) (B.cons (B.ix av (B.v 6) B.int) B.nil))) (B.cons (B.tup (B.cons (B.op bv (B.ix av (B.v 6) B.int) B.int) (B.cons B.int B.nil))) (B.cons (B.tup (B.cons (B.op jF B.int (B.ix av (B.v 6) B.int)) (B.cons B.int B.nil))) (B.cons (B.tup (B.cons (B.ix av (B.v 6) B.int) (B.cons B.int B.nil))) B.nil))))))
  (B.sone (B.expr (B.m PySem.F.plainAttrs_list PySem.F.slot_list_append PySem.F.type_list_append cE (B.ix ay (B.v 5) (B.v 2)) (B.cons (B.ix ay (B.v 7) (B.fn q40_ hr.up (B.cons (B.v 0) (B.cons B.int B.nil)))) B.nil))))) B.snil)
  (B.sone (B.ret (B.cT cN g.b_tuple SW.b_tuple (B.cons (SW.B.comp [] ["one"] (SW.ax.of rfl rfl (by decide +kernel) (by decide +kernel) rfl trivial rfl rfl rfl) (by decide +kernel) (B.ilist (B.v 5)) (fun _ _ _ _=>(B.cT (SW.dL K) g.b_tuple SW.b_tuple (B.cons (B.v 0) B.nil)))) B.nil)))))))))))))))),?_⟩
 walk_at "W";refine⟨rfl,?_⟩;walk_at "W";cases e with
 | none=>
   have he:v=V.non:=he;subst he;refine c5 rfl ?_;refine az ?_;exact wRet (four H (ac.refl _))
 | some R=>
   obtain⟨a,xs,rfl,ha,hrs⟩:=(show bt H v R from he);have hsz:R.length<=n/\tot R<=n/\WbR R:=hsz;have hxl:=aH hrs;refine bK (fun z=>nomatch z) ?_;walk_at "W";refine⟨zero_,fun e0 he0=>?_⟩;have s1:=ac.new (o:=.tup []) he0;walk_at "W";refine⟨a,e0,xs,rfl,rfl,SqT.of (s1 _ _ ha),SqT.of aa,?_⟩;walk_at "W";cases hxs:xs with
   | nil=>
     refine az ?_;exact wRet (four _ s1)
   | cons y0 ys0=>
     refine ao ?_;have hpos:0 < xs.length:=by rw[hxs];exact Nat.zero_lt_succ _
     clear hxs four;have hp1:=hp.same s1;have ha1:=s1 _ _ ha;walk_at "W";refine SW.bG (.inr (SqT.of ha1)) ?_;walk_at "W";refine bi hp1 (by omega) (by omega) fun at_ H2 a0 a1 R2 K2=>?_
     have ha2:=K2 _ _ (hp1.ne ha1) ha1;walk_at "W";refine SW.bG (.inr (SqT.of ha2)) ?_;walk_at "W";refine bi R2 (by omega) (by omega) fun to_ H3 b0 b1 R3 K3=>?_
     walk_at "W";refine bi R3 (by decide) (by decide) fun kind H4 c0 c1 R4 K4=>?_
     have K04:al p H H4:=((SW.ac.but s1).trans K2).trans (K3.trans K4);have ha4:=ci hp K04 _ _ ha;have hrs4:=ba hrs (ci hp K04);clear ha1 ha2 hp1;have SzRR:SzR n R:=hsz;have fin:∀ H5 q zs R5,H5 q=some (.tup zs)->Paired (dB H5) zs R5->SzR (2*n+8) R5->Row H5 p->al p H H5->Q (.ref q) H5:=fun H5 q zs R5 h1 h2 h3 h4 h5=>k _ _ (some R5) ⟨q,zs,rfl,h1,h2⟩ h3 h4 h5;walk_at "W";refine fb (fun _=>?_) (fun _=>?_)
     . walk_at "W"
       refine⟨zero_,fun t1 h1=>?_⟩;walk_at "W";refine⟨by show(1:Nat)<=sizeLine;decide,fun t2 h2=>?_⟩
       have d1:=ac.new (o:=.tup []) h1;have d2:=ac.new (o:=.tup [.ref t1]) h2;have d12:=d1.trans d2;walk_at "W";refine⟨a,t2,_,_,rfl,rfl,d12 _ _ ha4,aa,by show _+1<=sizeLine;omega,fun q1 H5 s5 hq1=>?_⟩
       have r1:Paired (dB H5) (xs++[.ref t1]) (R++[[]]):=aG (.cons ⟨t1,[],rfl,(d2.trans s5) _ _ aa,.nil⟩ .nil) (ba hrs4 (SW.ac.tk (d12.trans s5)));have s45:=d12.trans s5;walk_at "W";refine⟨1,rfl,?_⟩;walk_at "W";refine⟨a,xs,rfl,s45 _ _ ha4,fun q2 H6 s6 hq2=>?_⟩;have s46:=s45.trans s6;walk_at "W";refine⟨a,a,_,_,rfl,rfl,s46 _ _ ha4,s46 _ _ ha4,by omega,fun q3 H7 s7 hq3=>?_⟩
       have s47:=s46.trans s7;walk_at "W";refine SW.bG (.inr (SqT.of (s47 _ _ ha4))) ?_;walk_at "W";refine⟨_,rfl,a,xs,rfl,s47 _ _ ha4,fun q4 H8 s8 hq4=>?_⟩;have s48:=s47.trans s8;walk_at "W";refine⟨zero_,fun q5 hq5=>?_⟩;have d9:=ac.new (o:=.tup []) hq5;walk_at "W";refine⟨by show(6:Nat)<=sizeLine;decide,fun L hL=>?_⟩
       have d10:=ac.new (o:=.lst [.ref q1,.ref q2,.ref q3,.ref q4,.ref q5,.non]) hL;have s810:=d9.trans d10;have s410:=s48.trans s810;have R10:=R4.same s410;walk_at "W";refine bi R10 (by decide) (by decide) fun r H11 r0 r1_ R11 K11=>?_
       have nL:L≠p:=((R4.same (s48.trans d9)).ne0 hL).symm;have tk11:=ci R10 K11;have K011:al p H H11:=(K04.trans (SW.ac.but s410)).trans K11;have tk4:TK H4 H11:=(SW.ac.tk s410).trans tk11;have tk5:TK H5 H11:=(SW.ac.tk (s6.trans (s7.trans (s8.trans s810)))).trans tk11;have tk6:TK H6 H11:=(SW.ac.tk (s7.trans (s8.trans s810))).trans tk11;have tk7:TK H7 H11:=(SW.ac.tk (s8.trans s810)).trans tk11;have tk8:TK H8 H11:=(SW.ac.tk s810).trans tk11;obtain⟨vv,hvv,hm⟩:=cb (xs:=[V.ref q1,.ref q2,.ref q3,.ref q4,.ref q5,.non]) r0 r1_;refine ce (K11 _ _ nL aa) hvv ?_;simp only[List.mem_cons,List.not_mem_nil,or_false]at hm;have hr11:=ba hrs4 tk4;rcases hm with rfl | rfl | rfl | rfl | rfl | rfl
       . refine fin H11 q1 _ _ (tk5 _ _ hq1) (ba r1 tk5) ⟨?_,?_,hsz.2.2.app (WbR.bare 1)⟩ R11 K011
         . rw[List.length_append];show _+1<=_;omega
         rw[cu];show _+0<=_;omega
       . exact fin H11 q2 _ _ (tk6 _ _ hq2) (iw hr11 _ _) ((iO SzRR _ _).mono (by omega)) R11 K011
       . exact fin H11 q3 _ _ (tk7 _ _ hq3) (aG hr11 hr11) ((SzRR.app SzRR).mono (by omega)) R11 K011
       . exact fin H11 q4 _ _ (tk8 _ _ hq4) (iw hr11 _ _) ((iO SzRR _ _).mono (by omega)) R11 K011
       . exact fin H11 q5 _ [] (tk11 _ _ (d10 _ _ aa)) .nil ⟨Nat.zero_le _,Nat.zero_le _,fun _ h=>nomatch h⟩ R11 K011
       exact k _ _ none rfl ⟨Nat.zero_le _,Nat.zero_le _,fun _ h=>nomatch h⟩ R11 K011
     walk_at "W";refine fb (fun _=>?_) (fun _=>?_)
     . walk_at "W"
       refine⟨_,rfl,?_⟩;walk_at "W";refine⟨a,xs,rfl,ha4,fun q1 H5 s5 hq1=>?_⟩;walk_at "W";refine⟨_,rfl,a,xs,rfl,s5 _ _ ha4,fun q2 H6 s6 hq2=>?_⟩;have l1:=bw xs (some to_) none;have l2:=bw xs none (some to_);walk_at "W";refine⟨q1,q2,_,_,rfl,rfl,s6 _ _ hq1,hq2,by omega,fun q3 H7 s7 hq3=>?_⟩
       have s47:=(s5.trans s6).trans s7;have hr7:=ba hrs4 (SW.ac.tk s47);exact fin H7 q3 _ _ hq3 (aG (iw hr7 _ _) (iw hr7 _ _)) (((iO SzRR _ _).app (iO SzRR _ _)).mono (by omega)) (R4.same s47) (K04.trans (SW.ac.but s47))
     walk_at "W";refine⟨a,rfl,⟨_,SqT.of ha4⟩,fun D hD=>?_⟩;refine fq (xs:=xs) (fun i Z' H'=>∃(ls:List Addr) (v:Option V),Z'=[v]/\ls.length=i/\H' D=some (.lst (ls.map V.ref))/\ls.Nodup/\(∀ y∈ls,H4 y=none/\y≠D /\ ∃ o,H' y=some o)/\(∀(j:Nat) l r,ls[j]?=some l->R[j]?=some r -> ∃ ys,H' l=some (.lst ys)/\Prs H' ys r)/\ac H4 H') ⟨[],none,rfl,rfl,aa,List.nodup_nil,fun y hy=>(List.not_mem_nil hy).elim,fun j l r e=>by simp at e,ac.new hD⟩ (fun i Z' H' _ ⟨_,_,_,_,_,_,_,_,s'⟩=>SqT.of (s' _ _ ha4)) ?_ ?_
     . rintro i x Z' H' hx hi ⟨ls,v,rfl,hll,g1,nd,g2,g3,s'⟩
       obtain⟨r,hr_,b,ys,rfl,hb,hps⟩:=aX hrs4 hx;walk_at "W";refine⟨b,ys,rfl,.inr (SqT.of (s' _ _ hb)),fun y hy=>?_⟩;have nyD:D≠y:=ai g1 hy;have nin:y∉ls:=fun z=>by
        obtain⟨o,e⟩:=(g2 y z).2.2;rw[hy]at e;cases e
       have nw_:ac H' (upd H' y (.lst ys)):=ac.new hy;have tk:TK H' (upd (upd H' y (.lst ys)) D (.lst (ls.map V.ref++[V.ref y]))):=fun a zs e=>by
        rw[ag (aA e g1 (by intro z;cases z))]
        exact nw_ _ _ e
       refine CN.mk hi (ys:=ls.map V.ref) (by rw[ag nyD];exact g1) (by rw[List.length_map];omega) ⟨ls++[y],_,rfl,by rw[List.length_append,hll];rfl,by rw[aa,List.map_append];rfl,eu nd nin,fun z hz=>?_,fun j l r' e1 e2=>?_,fun b o e=>?_⟩
       . rcases List.mem_append.mp hz with hz | hz
         . obtain⟨c1,c2,o,c3⟩:=g2 z hz
           exact⟨c1,c2,o,by rw[ag c2];exact nw_ _ _ c3⟩
         rw[List.mem_singleton.mp hz];exact⟨s'.free hy,nyD.symm,_,by rw[ag nyD.symm,aa]⟩
       . by_cases hj:j < ls.length
         . rw[List.getElem?_append_left hj]at e1
           obtain⟨zs,c1,c2⟩:=g3 j l r' e1 e2;refine⟨zs,?_,c2.keep tk⟩;rw[ag (g2 l (List.mem_of_getElem? e1)).2.1];exact nw_ _ _ c1
         have hj2:j=ls.length:=by
          have:=(List.getElem?_eq_some_iff.mp e1).1;rw[List.length_append,List.length_singleton]at this;omega
         subst hj2;rw[List.getElem?_append_right (Nat.le_refl _),Nat.sub_self]at e1;cases e1;rw[hll,hr_]at e2;cases e2;exact⟨ys,by rw[ag nyD.symm,aa],(hps.keep (SW.ac.tk s')).keep tk⟩
       rw[ag (ai e hD)];exact nw_ _ _ (s' _ _ e)
     rintro Z' H5 ⟨ls,v,rfl,hll,g1,nd,g2,g3,s5⟩;have hlR:ls.length=R.length:=by rw[hll,hxl]
     have nDp:D≠p:=(R4.ne0 hD).symm;have fr:∀ y,H4 y=none->y≠p/\H y=none:=fun y hy=>⟨(R4.ne0 hy).symm,by
      cases e:H y with
      | none=>rfl
      | some o=>rw[K04 y o (R4.ne0 hy).symm e]at hy;cases hy⟩
     have I5:OI H p D ls n 0 H5 R:=⟨R4.same s5,K04.trans (SW.ac.but s5),⟨g1,hlR,nd,fun z=>(g2 D z).2.1 rfl,g3⟩,nDp,(fr D hD).2,fun y hy=>fr y (g2 y hy).1,hlR.symm,hsz.2.1,hsz.2.2⟩;clear g1 g2 g3 s5;have hat:at_.toNat < ls.length:=by omega
     have hto:to_.toNat < ls.length:=by omega
     obtain⟨la,hla⟩:∃ la,ls[at_.toNat]?=some la:=⟨_,List.getElem?_eq_getElem hat⟩;obtain⟨lt,hlt⟩:∃ lt,ls[to_.toNat]?=some lt:=⟨_,List.getElem?_eq_getElem hto⟩;have ixa:atI (ls.map V.ref) at_=some (.ref la):=by
      obtain⟨j,rfl⟩:=Int.eq_ofNat_of_zero_le a0;rw[Int.toNat_natCast]at hla;exact bH (by rw[List.getElem?_map,hla];rfl)
     have ixt:atI (ls.map V.ref) to_=some (.ref lt):=by
      obtain⟨j,rfl⟩:=Int.eq_ofNat_of_zero_le b0;rw[Int.toNat_natCast]at hlt;exact bH (by rw[List.getElem?_map,hlt];rfl)
     have rowAt:∀{H':Hp}{R':af}{j i:Nat}{l:Addr},OI H p D ls n j H' R'->ls[i]?=some l -> ∃ ys r,H' l=some (.lst ys)/\R'[i]?=some r/\Prs H' ys r/\r.length<=n+j:=by
      intro H' R' j i l I hl;have hi:i < R'.length:=by rw[I.z1];exact(List.getElem?_eq_some_iff.mp hl).1
      obtain⟨ys,c1,c2⟩:=I.l.at_ i l _ hl (List.getElem?_eq_getElem hi);refine⟨ys,R'[i],c1,List.getElem?_eq_getElem hi,c2,?_⟩;have h3:=cv R' (i+1);rw[aw (List.getElem?_eq_getElem hi),cu]at h3;have h4:tot [R'[i]]=R'[i].length:=by unfold tot;simp
      have:=I.z2;omega
     walk_at "W";refine Ae I5.r fun ky H6 _ _ R6 K6=>?_;have I6:=I5.keepP R6 K6;walk_at "W";refine qM I6.r fun wo H7 wo0 wo1 R7 K7=>?_;have I7:=I6.keepP R7 K7;walk_at "W";refine⟨by show(2:Nat)<=sizeLine;decide,fun tp htp=>?_⟩
     have I8:=I7.same (ac.new (o:=.tup [.int ky,.int wo]) htp);have pv8:PrV (upd H7 tp (.tup [.int ky,.int wo])) (.ref tp) (ky,wo):=⟨tp,rfl,aa⟩;obtain⟨H8,hH8⟩:∃ H8,H8=upd H7 tp (.tup [.int ky,.int wo]):=⟨_,rfl⟩;rw[← hH8]at I8 pv8 ⊢;clear hH8;walk_at "W";refine ce I8.l.top ixa ?_;walk_at "W";refine⟨zero_,fun e9 he9=>?_⟩;have I9:=I8.same (ac.new (o:=.lst []) he9);have pv9:=pv8.keep (SW.ac.tk (ac.new (o:=.lst []) he9));obtain⟨ya,ra,hya,hra,hpa,hrl⟩:=rowAt I9 hla;refine yF (SqL.of hya) hpa.dat (SqL.of aa) (jl ra) (pJ ra) ?_;obtain⟨H9,hH9⟩:∃ H9,H9=upd H8 e9 (.lst []):=⟨_,rfl⟩;rw[← hH9]at I9 pv9 hya hpa ⊢;clear hH9;walk_at "W";rename_i N1 hN1;have rest1:∀ H' v pr,OI H p D ls n 0 H' R->PrV H' v pr->Bd pr->N1 [some (.ref p),some (.ref a),some (.int at_),some (.int to_),some (.int kind),some (.ref D),some v,none] H':=by
      intro H' v pr I hv hbd;refine SW.wGo hN1 ?_;walk_at "W";rename_i N2 hN2;have rest2:∀ H' R',OI H p D ls n 1 H' R'->PrV H' v pr->N2 [some (.ref p),some (.ref a),some (.int at_),some (.int to_),some (.int kind),some (.ref D),some v,none] H':=by
       intro H' R' I hv;refine SW.wGo hN2 ?_;walk_at "W";rename_i N3 hN3;have rest3:∀ H' R',OI H p D ls n 1 H' R'->PrV H' v pr->N3 [some (.ref p),some (.ref a),some (.int at_),some (.int to_),some (.int kind),some (.ref D),some v,none] H':=by
        intro H' R' I hv;refine SW.wGo hN3 ?_;walk_at "W";rename_i N4 hN4;have rest4:∀ H' R' o,OI H p D ls n 2 H' R'->N4 [some (.ref p),some (.ref a),some (.int at_),some (.int to_),some (.int kind),some (.ref D),some v,o] H':=by
         intro H' R' o I;refine SW.wGo hN4 ?_;walk_at "W";refine⟨D,rfl,⟨_,SqL.of I.l.top⟩,fun D2 hD2=>?_⟩;refine du (xs:=ls.map V.ref) (fun i Z' H''=>∃(v:Option V) (zs:List V),Z'=[v]/\ac H' H''/\H'' D2=some (.lst zs)/\Paired (dB H'') zs (R'.take i)/\zs.length=i) ⟨none,[],rfl,ac.new hD2,aa,by rw[List.take_zero];exact .nil,rfl⟩ (fun i Z' H'' _ ⟨_,_,_,s',_⟩=>SqL.of (s' _ _ I.l.top)) ?_ ?_
         . rintro i x Z' H'' hx hi ⟨v,zs,rfl,s',hD',hz,hzl⟩
           rw[List.getElem?_map]at hx;obtain⟨l,hl,rfl⟩:=Option.map_eq_some_iff.mp hx;obtain⟨ys,r,c1,c2,c3,_⟩:=rowAt I hl;walk_at "W";refine⟨l,ys,rfl,.inl ⟨SqL.of (s' _ _ c1),fun tt htt=>?_⟩⟩;have n1:tt≠D2:=(ai hD' htt).symm;have tk:TK H'' (upd (upd H'' tt (.tup ys)) D2 (.lst (zs++[.ref tt]))):=fun a us e=>by
            rw[ag (aA e hD' (by intro z;cases z))]
            exact ac.new htt _ _ e
           refine CN.mk hi (by rw[ag n1.symm];exact hD') (by rw[List.length_map]at hi;omega) ⟨_,zs++[.ref tt],rfl,fun b o e=>by rw[ag (ai e hD2)];exact ac.new htt _ _ (s' _ _ e),aa,?_,by rw[List.length_append,hzl];rfl⟩
           rw[aw c2];exact aG (.cons ⟨tt,ys,rfl,by rw[ag n1];exact aa,(c3.keep (SW.ac.tk s')).keep tk⟩ .nil) (ba hz tk)
         rintro Z' H'' ⟨v,zs,rfl,s',hD',hz,hzl⟩;rw[List.length_map,← I.z1,List.take_length]at hz;walk_at "W";refine⟨D2,zs,rfl,.inl ⟨SqL.of hD',fun q hq=>?_⟩⟩;have s2:=s'.trans (ac.new (o:=.tup zs) hq);have z2:=I.z2;refine fin _ q zs R' aa (ba hz (SW.ac.tk (ac.new hq))) ⟨?_,by omega,I.wb⟩ (I.r.same s2) (I.k.trans (SW.ac.but s2))
         rw[I.z1,hlR];omega
        clear hN4;refine fb (fun _=>?_) (fun _=>?_)
        . obtain⟨pa,rfl,hpa⟩:=id hv
          walk_at "W";refine⟨by show(2:Nat)<=sizeLine;decide,fun o1 ho1=>?_⟩
          have i1:=ac.new (o:=.tup [.int (pr.1+4),.int pr.2]) ho1;have hpa1:=i1 _ _ hpa;walk_at "W";refine⟨by show(2:Nat)<=sizeLine;decide,fun o2 ho2=>?_⟩
          have i2:=ac.new (o:=.tup [.int (pr.1+65536),.int 1]) ho2;have hpa2:=i2 _ _ hpa1;walk_at "W";refine⟨by show(2:Nat)<=sizeLine;decide,fun o3 ho3=>?_⟩
          have i3:=ac.new (o:=.tup [.int (0 - pr.1),.int 2]) ho3;have hpa3:=i3 _ _ hpa2;walk_at "W";refine⟨by show(2:Nat)<=sizeLine;decide,fun o4 ho4=>?_⟩
          have i4:=ac.new (o:=.tup [.int pr.1,.int 7]) ho4;walk_at "W";refine⟨by show(4:Nat)<=sizeLine;decide,fun oL hoL=>?_⟩
          have i5:=ac.new (o:=.lst [.ref o1,.ref o2,.ref o3,.ref o4]) hoL;have j45:=i4.trans i5;have j35:=i3.trans j45;have j25:=i2.trans j35;have I5:=I.same (i1.trans j25);have ww:∃ pr1 pr2 pr3 pr4:Int×Int,(Bd pr1/\Bd pr2/\Bd pr3/\Bd pr4)/\PrV _ (.ref o1) pr1/\PrV _ (.ref o2) pr2/\PrV _ (.ref o3) pr3/\PrV (upd (upd (upd (upd (upd H' o1 (.tup [.int (pr.1+4),.int pr.2])) o2 (.tup [.int (pr.1+65536),.int 1])) o3 (.tup [.int (0 - pr.1),.int 2])) o4 (.tup [.int pr.1,.int 7])) oL (.lst [.ref o1,.ref o2,.ref o3,.ref o4])) (.ref o4) pr4:=
           ⟨(pr.1+4,pr.2),(pr.1+65536,1),(0 - pr.1,2),(pr.1,7),⟨hbd,⟨by show(-1000000000:Int)<=1;decide,by show(1:Int)<=1000000000;decide⟩,⟨by show(-1000000000:Int)<=2;decide,by show(2:Int)<=1000000000;decide⟩,⟨by show(-1000000000:Int)<=7;decide,by show(7:Int)<=1000000000;decide⟩⟩,⟨o1,rfl,j25 _ _ aa⟩,⟨o2,rfl,j35 _ _ aa⟩,⟨o3,rfl,j45 _ _ aa⟩,⟨o4,rfl,i5 _ _ aa⟩⟩
          have eL:=aa (H:=upd (upd (upd (upd H' o1 (.tup [.int (pr.1+4),.int pr.2])) o2 (.tup [.int (pr.1+65536),.int 1])) o3 (.tup [.int (0 - pr.1),.int 2])) o4 (.tup [.int pr.1,.int 7])) (a:=oL) (o:=.lst [.ref o1,.ref o2,.ref o3,.ref o4]);have noL:oL≠p:=zL I.r (i1.trans (i2.trans (i3.trans i4))) hoL;obtain⟨Hx,hHx⟩:∃ Hx,Hx=upd (upd (upd (upd (upd H' o1 (.tup [.int (pr.1+4),.int pr.2])) o2 (.tup [.int (pr.1+65536),.int 1])) o3 (.tup [.int (0 - pr.1),.int 2])) o4 (.tup [.int pr.1,.int 7])) oL (.lst [.ref o1,.ref o2,.ref o3,.ref o4]):=⟨_,rfl⟩;rw[← hHx]at I5 ww eL ⊢;clear hHx;walk_at "W";refine wBM ?_;walk_at "W";refine ce I5.l.top ixa ?_;obtain⟨ys,r,c1,c2,c3,c4⟩:=rowAt I5 hla;refine⟨.inl ⟨rfl,_,SqL.of c1⟩,?_⟩;walk_at "W";refine bi I5.r (by decide) (by decide) fun rr Hy r0 r1 Ry Ky=>?_
          have I6:=I5.keepP Ry Ky;have tky:=ci I5.r Ky;obtain⟨vv,hvv,hm⟩:=cb (xs:=[V.ref o1,.ref o2,.ref o3,.ref o4]) r0 r1;refine ce (Ky _ _ noL eL) hvv ?_;obtain⟨prv,hprv,hbv⟩:∃ prv,PrV Hy vv prv/\Bd prv:=by
           obtain⟨p1,p2,p3,p4,⟨u1,u2,u3,u4⟩,w1,w2,w3,w4⟩:=ww;simp only[List.mem_cons,List.not_mem_nil,or_false]at hm;rcases hm with rfl | rfl | rfl | rfl
           . exact⟨p1,w1.keep tky,u1⟩
           . exact⟨p2,w2.keep tky,u2⟩
           . exact⟨p3,w3.keep tky,u3⟩
           exact⟨p4,w4.keep tky,u4⟩
          have c1y:=Ky _ _ (I5.nl la (List.mem_of_getElem? hla)).1 c1;have hyl:=c3.len;walk_at "W";refine⟨la,ys,vv,rfl,rfl,c1y,by omega,?_⟩
          walk_at "W";exact rest4 _ _ _ (I6.set hla c2 (aG (.cons hprv .nil) (c3.keep tky)) (by rw[List.length_append];exact Nat.le_refl _) ((I5.wb r (List.mem_of_getElem? c2)).snoc hbv))
        walk_at "W";exact rest4 _ _ _ ⟨I.r,I.k,I.l,I.nD,I.D0,I.nl,I.z1,Nat.le_succ_of_le I.z2,I.wb⟩
       clear hN3;refine⟨by show(3:Nat)<=sizeLine;decide,fun t3 ht3=>?_⟩
       have i3:=ac.new (o:=.tup [.int 3,.int 4,.int 5]) ht3;have I3:=I.same i3;have hv3:=hv.keep (SW.ac.tk i3);refine⟨t3,_,rfl,.inr (SqT.of aa),rfl,rfl,?_⟩;obtain⟨Hx,hHx⟩:∃ Hx,Hx=upd H' t3 (.tup [.int 3,.int 4,.int 5]):=⟨_,rfl⟩;rw[← hHx]at I3 hv3 ⊢;clear hHx;walk_at "W";refine uq (fun _=>?_) (fun _=>?_)
       . walk_at "W"
         refine ce I3.l.top ixa ?_;obtain⟨ys,r,c1,c2,c3,c4⟩:=rowAt I3 hla;refine⟨_,la,ys,_,sU hv3,rfl,SqL.of c1,c3.dat,rfl,jl r,Nat.le_trans (o7 _ _) (by decide),?_⟩
         walk_at "W";refine uq (fun hb=>?_) (fun _=>?_)
         . walk_at "W"
           refine wBM ?_;walk_at "W";refine ce I3.l.top ixa ?_;refine⟨.inl ⟨rfl,_,SqL.of c1⟩,?_⟩;walk_at "W";refine⟨la,v,_,ys,_,rfl,rfl,c1,sU hv3,c3.dat,rfl,jl r,Nat.le_trans (o7 _ _) (by decide),hb,fun j hj=>?_⟩
           have tk:TK Hx (upd Hx la (.lst (ys.eraseIdx j))):=fun a us e=>by rw[ag (aA e c1 (by intro z;cases z))];exact e
           walk_at "W";refine rest3 _ _ (I3.set hla c2 (gn j c3) ?_ fun x hx=>I3.wb r (List.mem_of_getElem? c2) x (List.mem_of_mem_eraseIdx hx)) (hv3.keep tk);have:=gK r j;omega
         walk_at "W";exact rest3 _ _ I3 hv3
       refine ao ?_;walk_at "W";exact rest3 _ _ I3 hv3
      clear hN2;refine fb (fun _=>?_) (fun _=>?_)
      . walk_at "W"
        refine wBM ?_;walk_at "W";refine ce I.l.top ixt ?_;obtain⟨ys,r,c1,c2,c3,c4⟩:=rowAt I hlt;refine⟨.inl ⟨rfl,_,SqL.of c1⟩,?_⟩;have hyl:=c3.len;walk_at "W";refine⟨lt,ys,v,rfl,rfl,c1,by omega,?_⟩
        have tk:TK H' (upd H' lt (.lst (ys++[v]))):=fun a us e=>by rw[ag (aA e c1 (by intro z;cases z))];exact e
        walk_at "W";exact rest2 _ _ (I.set hlt c2 (aG (.cons hv .nil) c3) (by rw[List.length_append];exact Nat.le_refl _) ((I.wb r (List.mem_of_getElem? c2)).snoc hbd)) (hv.keep tk)
      walk_at "W";exact rest2 _ _ ⟨I.r,I.k,I.l,I.nD,I.D0,I.nl,I.z1,Nat.le_succ_of_le I.z2,I.wb⟩ hv
     clear hN1;refine uq (fun hb=>?_) (fun _=>?_)
     . walk_at "W"
       refine ce I9.l.top ixa ?_;walk_at "W";refine ce I9.l.top ixa ?_;refine SW.bG (.inl (SqL.of hya)) ?_;walk_at "W";have hyl:=hpa.len;have hne:0 < ya.length:=by
        cases hra':ra with
        | nil=>rw[hra']at hb;cases hb
        | cons z zs=>rw[hyl,hra'];exact Nat.zero_lt_succ _
       refine bi I9.r (by omega) (by omega) fun ri H10 i0 i1 R10 K10=>?_
       have I10:=I9.keepP R10 K10;obtain⟨vv,hvv,hm⟩:=cb (xs:=ya) i0 i1;obtain⟨j,hj⟩:=List.mem_iff_getElem?.mp hm;obtain⟨pr,hprm,hpr⟩:=aX hpa hj;refine ce (K10 _ _ (I9.nl la (List.mem_of_getElem? hla)).1 hya) hvv ?_;walk_at "W";exact rest1 _ _ pr I10 (hpr.keep (ci I9.r K10)) (I9.wb ra (List.mem_of_getElem? hra) pr (List.mem_of_getElem? hprm))
     walk_at "W";exact rest1 _ _ _ I9 pv9 ⟨wo0,wo1⟩
def SzS(n:Nat)(S:Sta):Prop:=SzE n S.el/\SzR n S.nw
theorem SzS.fine{n:Nat}{S:Sta}(h:SzS n S)(hn:n<=5000):uu S:=by
 have h1:(S.el.getD []).length<=n/\tot (S.el.getD [])<=n:=⟨h.1.1,h.1.2.1⟩;have h2:S.nw.length<=n/\tot S.nw<=n:=⟨h.2.1,h.2.2.1⟩;exact⟨by unfold Big;omega,by omega,by omega⟩
def lY:Sp:=fun vs H Q _=>∃(p:Addr) (v:V) (S:Sta) (n:Nat),vs=[.ref p,v]/\Row H p/\StV H v S/\SzS n S/\n<=2000 /\ ∀ v' H' S',StV H' v' S'->SzS (2*n+8) S'->Row H' p->al p H H'->Q v' H'
theorem yy{H:Hp}{Q:VK}{E:XK}{p:Addr}{v:V}{S:Sta}{n:Nat}(h1:Row H p)(h2:StV H v S)(h3:SzS n S)(h4:n<=2000)(k:∀ v' H' S',StV H' v' S'->SzS (2*n+8) S'->Row H' p->al p H H'->Q v' H'):lY ([.ref p,v]++[]) H Q E:=⟨p,v,S,n,rfl,h1,h2,h3,h4,k⟩
theorem xM{K:W.Frag}{Z:L2.St}{H:Hp}{Q:VK}{x:V}{el:Option af}{tb:TE}(h:ElV H x el)(kb:tb Z H Q)(k:∀ R,el=some R->bt H x R->Q x H) :
 (x=.non/\tb Z H Q) ∨ ∃ a xs,x=.ref a/\SqT K H a xs/\if xs.isEmpty=true then tb Z H Q else Q x H:=by
 cases el with
 | none=>exact .inl ⟨h,kb⟩
 | some R=>
   have hh:bt H x R:=h;obtain⟨a,xs,rfl,ha,hp⟩:=id hh;refine .inr ⟨a,xs,rfl,SqT.of ha,?_⟩;cases xs with
   | nil=>exact az kb
   | cons y ys=>exact ao (k R rfl hh)
theorem mi(n:Nat)(H:Hp)(t:Addr)(h:H t=some (.tup [])):Paired (dB H) (List.replicate n [V.ref t]).flatten (List.replicate n []):=by
 induction n with
 | zero=>exact .nil
 | succ n ih=>rw[List.replicate_succ,List.flatten_cons,List.replicate_succ];exact .cons ⟨t,[],rfl,h,.nil⟩ ih
theorem dv(n:Nat):tot (List.replicate n [])=0:=by
 unfold tot;rw[List.map_replicate];simp
theorem q1_(d:Dfn K mg "_law_bent" y8 ["row","state"])(g:Gs K mg C CT CE CP CZ CR CV)(q40_:Fn P w K mg base "_law_take" 1 ["row","many"] cH)(q35_:Fn P w K mg base "_law_other_rows" 3 ["row","rows"] jc):Fn P w K mg base "_law_bent" 4 ["row","state"] lY:=by
 refine d.fn ml (fun vs H Q E h=>?_) (fun f cdv A outer s H vs Q E hr h=>?_)
 . obtain⟨p,v,S,n,rfl,_⟩:=h
   rfl
 obtain⟨p,v,S,n,rfl,hp,⟨u,ve,vn,rfl,hu,he,hn⟩,⟨z1,z2⟩,hnl,k⟩:=h;have three:(3:Nat)<=sizeLine:=by decide
 have z2':SzR (2*n+8) S.nw:=z2.mono (by omega)
 have z1':SzE (2*n+8) S.el:=SzR.mono z1 (by omega)
 have fin:∀ H5 v1 v2 S5,ElV H5 v1 S5.el->bt H5 v2 S5.nw->SzS (2*n+8) S5->Row H5 p->al p H H5 -> ∀ t,H5 t=none->Q (.ref t) (upd H5 t (.tup [v1,.int S5.mv,v2])):=fun H5 v1 v2 S5 h1 h2 h3 h4 h5 t ht=>by
  have i:=ac.new (o:=.tup [v1,.int S5.mv,v2]) ht;exact k _ _ S5 ⟨t,v1,v2,rfl,aa,h1.keep (SW.ac.tk i),h2.keep (SW.ac.tk i)⟩ h3 (h4.same i) (h5.trans (al.new ht))
 refine⟨_,(B.scons (B.asg (B.v 1) (B.gtup (B.gcons (B.gname (i:=2) ml.nd) (B.gcons (B.gname (i:=3) ml.nd) (B.gcons (B.gname (i:=4) ml.nd) B.gnil)))))
  (B.scons (B.set 5 ml.nd (B.fn q40_ hr.up (B.cons (B.v 0) (B.cons B.int B.nil))))
  (B.scons (B.ifs (B.tcmp fG (B.v 5) B.int) (B.sone (B.ret (B.tup (B.cons (B.v 2) (B.cons (B.v 3) (B.cons (SW.B.orA (B.fn q35_ hr.up (B.cons (B.v 0) (B.cons (B.v 4) B.nil))) (B.one (B.tup B.nil))) B.nil)))))) B.snil)
  (B.scons (B.ifs (B.tcmp fG (B.v 5) B.int) (B.sone (B.ret (B.tup (B.cons (B.fn q35_ hr.up (B.cons (B.v 0) (B.cons (B.v 2) B.nil))) (B.cons (B.v 3) (B.cons (B.v 4) B.nil)))))) B.snil)
  (B.scons (B.ifs (B.tcmp cz (B.v 5) B.int) (B.sone (B.ret (B.tup (B.cons (B.v 2) (B.cons (B.ix ay (B.lst (B.cons (B.op bv (B.v 3) B.int) (B.cons (B.un eU B.int) (B.cons B.int (B.cons (B.op jF (B.v 3) B.int) (B.cons B.int (B.cons (B.op cG B.int B.int) (B.cons (B.op bv (B.v 3) B.int) B.nil)))))))) (B.fn q40_ hr.up (B.cons (B.v 0) (B.cons B.int B.nil)))) (B.cons (B.v 4) B.nil)))))) B.snil)
  (B.sone (B.ret (B.tup (B.cons (B.v 4) (B.cons (B.v 3) (B.cons (SW.B.orA (B.v 2) (B.one (B.op SW.c_ (B.tup (B.cons (B.tup B.nil) B.nil)) B.int))) B.nil))))))))))),?_⟩
 walk_at "W";refine⟨u,_,rfl,SqT.of hu,rfl,_,_,rfl,?_⟩;walk_at "W";refine⟨_,_,rfl,?_⟩;walk_at "W";refine⟨_,_,rfl,?_⟩;walk_at "W";refine⟨rfl,?_⟩;walk_at "W";refine bi hp (by decide) (by decide) fun kind H1 c0 c1 R1 K1=>?_
 have tk1:=ci hp K1;have he1:=he.keep tk1;have hn1:=hn.keep tk1;walk_at "W";refine fb (fun _=>?_) (fun _=>?_)
 . walk_at "W"
   refine pE (e:=some S.nw) R1 hn1 z2 (by omega) fun v2 H2 e2 hv2 zz R2 K2=>?_
   have he2:=he1.keep (ci R1 K2);refine mE hv2 fun v3 H3 s3 hv3=>?_;walk_at "W";exact⟨three,fin H3 ve v3 ⟨S.el,S.mv,e2.getD []⟩ (he2.keep (SW.ac.tk s3)) hv3 ⟨z1',zz⟩ (R2.same s3) ((K1.trans K2).trans (SW.ac.but s3))⟩
 walk_at "W";refine fb (fun _=>?_) (fun _=>?_)
 . walk_at "W"
   refine pE R1 he1 z1 (by omega) fun v2 H2 e2 hv2 zz R2 K2=>?_
   walk_at "W";exact⟨three,fin H2 v2 vn ⟨e2,S.mv,S.nw⟩ hv2 (hn1.keep (ci R1 K2)) ⟨zz,z2'⟩ R2 (K1.trans K2)⟩
 walk_at "W";refine fb (fun _=>?_) (fun _=>?_)
 . walk_at "W"
   refine⟨by show(7:Nat)<=sizeLine;decide,fun L hL=>?_⟩
   have i2:=ac.new (o:=.lst [.int (S.mv+1),.int (-1),.int 0,.int (S.mv - 1),.int 4,.int (10 ^ Int.toNat 30),.int (S.mv+8)]) hL;have nL:L≠p:=(R1.ne0 hL).symm;walk_at "W";refine bi (R1.same i2) (by decide) (by decide) fun r H3 r0 r1 R3 K3=>?_
   obtain⟨vv,hvv,hm⟩:=cb (xs:=[V.int (S.mv+1),.int (-1),.int 0,.int (S.mv - 1),.int 4,.int (10 ^ Int.toNat 30),.int (S.mv+8)]) r0 r1;obtain⟨z,rfl⟩:∃ z,vv=V.int z:=by
    simp only[List.mem_cons,List.not_mem_nil,or_false]at hm;rcases hm with rfl | rfl | rfl | rfl | rfl | rfl | rfl <;> exact⟨_,rfl⟩
   refine ce (K3 _ _ nL aa) hvv ?_;have K13:=(SW.ac.but (p:=p) i2).trans K3;have tk3:=ci R1 K13;walk_at "W";exact⟨three,fin H3 ve vn ⟨S.el,z,S.nw⟩ (he1.keep tk3) (hn1.keep tk3) ⟨z1',z2'⟩ R3 (K1.trans K13)⟩
 walk_at "W";refine xM he1 ?_ (fun R5 e5 hR5=>?_)
 . walk_at "W"
   refine⟨by show(0:Nat)<=sizeLine;decide,fun t1 h1=>?_⟩
   walk_at "W";refine⟨by show(1:Nat)<=sizeLine;decide,fun t2 h2=>?_⟩
   have i1:=ac.new (o:=.tup []) h1;have i2:=ac.new (o:=.tup [.ref t1]) h2;walk_at "W";refine⟨t2,8,[.ref t1],rfl,rfl,aa,List.cons_ne_nil _ _,by decide,by decide,by show 1*(8:Int).toNat<=sizeLine;decide,fun t3 h3=>?_⟩
   have i3:=ac.new (o:=.tup (List.replicate (8:Int).toNat [V.ref t1]).flatten) h3;have s13:=(i1.trans i2).trans i3;walk_at "W";refine⟨three,fin _ vn (.ref t3) ⟨some S.nw,S.mv,List.replicate 8 []⟩ (hn1.keep (SW.ac.tk s13)) ⟨t3,_,rfl,aa,mi 8 _ t1 ((i2.trans i3) _ _ aa)⟩ ⟨z2',⟨by rw[List.length_replicate];omega,by rw[dv];exact Nat.zero_le _,WbR.bare 8⟩⟩ (R1.same s13) (K1.trans (SW.ac.but s13))⟩
 walk_at "W";have z5:SzR (2*n+8) R5:=by rw[e5]at z1';exact z1'
 exact⟨three,fin H1 vn ve ⟨some S.nw,S.mv,R5⟩ hn1 hR5 ⟨z2',z5⟩ R1 K1⟩
structure TS(H0:Hp)(p rl:Addr)(n:Nat)(q:Nat->Addr)(ls:Nat->List Addr)(R:Nat->af)(H:Hp):Prop where
 r:Row H p
 k:al p H0 H
 top:H rl=some (.lst ((List.range n).map fun s=>V.ref (q s)))
 lr:∀ s,s < n->LR H (q s) (R s) (ls s)
 x1:∀ s s',s < n->s' < n->s≠s' -> ∀ l∈ls s,l∉ls s'
 x2:∀ s s',s < n->s' < n -> ∀ l∈ls s,l≠q s'
 x3:∀ s,s < n -> ∀ l∈ls s,l≠rl/\l≠p/\H0 l=none
 x4:rl≠p
 x5:∀ s,s < n->q s≠p
section
variable{H0 H H':Hp}{p rl:Addr}{n:Nat}{q:Nat->Addr}{ls:Nat->List Addr}{R:Nat->af}
theorem TS.keepP(I:TS H0 p rl n q ls R H)(R':Row H' p)(k:al p H H'):TS H0 p rl n q ls R H':=
 ⟨R',I.k.trans k,k _ _ I.x4 I.top,fun s hs=>(I.lr s hs).keep (G:=fun b=>b=p) (fun b o n e=>k b o n e) (I.x5 s hs) (fun b hb=>(I.x3 s hs b hb).2.1) (fun b xs e=>I.r.ne e),I.x1,I.x2,I.x3,I.x4,I.x5⟩
theorem TS.same(I:TS H0 p rl n q ls R H)(s:ac H H'):TS H0 p rl n q ls R H':=I.keepP (I.r.same s) (SW.ac.but s)
theorem TS.keepD{sd:Addr}{kv kv':List (Key×V)}(I:TS H0 p rl n q ls R H)(hsd:H sd=some (.dK kv))(h0:H0 sd=none):TS H0 p rl n q ls R (upd H sd (.dK kv')):=by
 have kk:∀ b o,b≠sd->H b=some o->upd H sd (.dK kv') b=some o:=fun b o n e=>by rw[ag n];exact e
 refine⟨?_,fun b o n e=>kk _ _ (ai e h0) (I.k _ _ n e),kk _ _ (aA I.top hsd (by intro z;cases z)) I.top,fun s hs=>(I.lr s hs).keep (G:=fun b=>b=sd) (fun b o n e=>kk b o n e) (aA (I.lr s hs).top hsd (by intro z;cases z)) (fun b hb=>?_) (fun b xs e=>aA e hsd (by intro z;cases z)),I.x1,I.x2,I.x3,I.x4,I.x5⟩
 . obtain⟨a,b,c,h,g⟩:=I.r
   exact⟨a,b,c,kk _ _ (aA h hsd (by intro z;cases z)) h,g⟩
 obtain⟨xs,h⟩:=(I.lr s hs).live hb;exact aA h hsd (by intro z;cases z)
theorem TS.set{s i:Nat}{l:Addr}{xs:List V}{r:ar}(I:TS H0 p rl n q ls R H)(hs:s < n)(hl:(ls s)[i]?=some l)(h2:Prs H xs r):TS H0 p rl n q ls (fun s'=>if s'=s then(R s).set i r else R s') (upd H l (.lst xs)):=by
 have hm:=List.mem_of_getElem? hl;obtain⟨ys,hly⟩:=(I.lr s hs).live hm;have kk:∀ b o,b≠l->H b=some o->upd H l (.lst xs) b=some o:=fun b o n e=>by rw[ag n];exact e
 have tk:TK H (upd H l (.lst xs)):=fun a zs e=>kk _ _ (aA e hly (by intro z;cases z)) e
 obtain⟨y1,y2,y3⟩:=I.x3 s hs l hm;refine⟨?_,fun b o n e=>kk _ _ (ai e y3) (I.k _ _ n e),kk _ _ y1.symm I.top,fun s' hs'=>?_,I.x1,I.x2,I.x3,I.x4,I.x5⟩
 . obtain⟨a,b,c,h,g⟩:=I.r
   exact⟨a,b,c,kk _ _ y2.symm h,g⟩
 by_cases e:s'=s
 . subst e
   rw[if_pos rfl];exact(I.lr s' hs).set hl aa (h2.keep tk) kk
 rw[if_neg e];exact(I.lr s' hs').keep (G:=fun b=>b=l) (fun b o n e=>kk b o n e) (I.x2 s s' hs hs' l hm).symm (fun b hb z=>I.x1 s s' hs hs' (fun y=>e y.symm) l hm (z ▸ hb)) (fun b zs e=>aA e hly (by intro z;cases z))
end
def bj(R:af):List Int:=R.flatMap fun r=>r.map (·.1)
theorem dY(A B:af):bj (A++B)=bj A++bj B:=List.flatMap_append
theorem mq(r:ar):bj [r]=r.map (·.1):=by unfold bj;rw[List.flatMap_cons,List.flatMap_nil,List.append_nil]
theorem ni(sh:Bool)(i:Nat)(r:ar):(bV sh i r).map (·.2.2)=r.map (·.1):=by
 unfold bV;rw[List.map_map];rfl
theorem dq(sh:Bool):∀(R:af) (i:Nat),(aJ sh i R).map (·.2.2)=bj R
 | [],_=>rfl
 | r::R,i=>by
   show(bV sh i r++aJ sh (i+1) R).map (·.2.2)=r.map (·.1)++bj R;rw[List.map_append,ni,dq sh R]
theorem fW{R:af}{i:Nat}{r:ar}{pr:Int×Int}(h:R[i]?=some r):(bj (R.set i (r++[pr]))).Perm (pr.1::bj R):=by
 have hi:i < R.length:=(List.getElem?_eq_some_iff.mp h).1;have e1:R.set i (r++[pr])=R.take i++[r++[pr]]++R.drop (i+1):=by rw[List.set_eq_take_append_cons_drop,if_pos hi];simp
 have e2:R=R.take i++[r]++R.drop (i+1):=by rw[← aw h,List.take_append_drop]
 have e3:bj R=bj (R.take i)++r.map (·.1)++bj (R.drop (i+1)):=by
  have:=congrArg bj e2;rw[dY,dY,mq]at this;exact this
 rw[e1,e3,dY,dY,mq,List.map_append];show(bj (R.take i)++(r.map (·.1)++[pr.1])++bj (R.drop (i+1))).Perm _;rw[← List.append_assoc,List.append_assoc,List.singleton_append];exact List.perm_middle
def ff(f m mv:Int)(R:af):Prop:=∀(i:Nat) (r:ar),R[i]?=some r -> ∀ x∈r,(x.1*f+m) % 65536 % (R.length:Int)=i /\ ¬ (i:Int) < mv
theorem ff.set{f m mv:Int}{R:af}{i:Nat}{r:ar}{pr:Int×Int}(h:ff f m mv R)(hr:R[i]?=some r)(h1:(pr.1*f+m) % 65536 % (R.length:Int)=i)(h2:¬ (i:Int) < mv):ff f m mv (R.set i (r++[pr])):=by
 have hi:i < R.length:=(List.getElem?_eq_some_iff.mp hr).1;intro j r' e x hx;rw[List.length_set];by_cases z:i=j
 . subst z
   rw[List.getElem?_set_self hi]at e;cases e;rcases List.mem_append.mp hx with y | y
   . exact h i r hr x y
   rw[List.mem_singleton.mp y];exact⟨h1,h2⟩
 rw[List.getElem?_set_ne z]at e;exact h j r' e x hx
theorem hZ{f m:Int}{sz:Bool->Nat}{mv:Bool->Int}:∀(ts:List eO) (ks:List Int),(∀ t∈ts,(t.2.2*f+m) % 65536 % (sz t.1:Int)=t.2.1 /\ ¬ (t.2.1:Int) < mv t.1)->(ks++ts.map (·.2.2)).Nodup->aM f m sz mv ks ts=none
 | [],_,_,_=>rfl
 | (sh,i,k)::ts,ks,h,nd=>by
   have h0:=h (sh,i,k) (List.mem_cons_self ..);have h1:(k*f+m) % 65536 % (sz sh:Int)=i:=h0.1;have h2:¬ (i:Int) < mv sh:=h0.2;rw[bC,if_neg (fun z=>z h1),if_neg h2];have e:ks++((sh,i,k)::ts).map (·.2.2)=(ks++[k])++ts.map (·.2.2):=by rw[List.map_cons,List.append_assoc];rfl
   rw[e]at nd;have h3:k∉ks:=fun z=>by
    have nd2:=(List.nodup_append.mp nd).1;exact(List.nodup_append.mp nd2).2.2 k z k (List.mem_singleton.mpr rfl) rfl
   rw[if_neg h3];exact hZ ts _ (fun t ht=>h t (List.mem_cons_of_mem _ ht)) nd
theorem jw{f m mv:Int}{R:af}(h:ff f m mv R)(sh:Bool):∀ t∈aJ sh 0 R,(t.2.2*f+m) % 65536 % (R.length:Int)=t.2.1 /\ ¬ (t.2.1:Int) < mv:=by
 have gen:∀(A:af) (i:Nat),(∀ j r,A[j]?=some r->R[i+j]?=some r) -> ∀ t∈aJ sh i A,(t.2.2*f+m) % 65536 % (R.length:Int)=t.2.1 /\ ¬ (t.2.1:Int) < mv:=by
  intro A
  induction A with
  | nil=>intro i _ t ht;cases ht
  | cons r A ih=>
    intro i hA t ht;rcases List.mem_append.mp (show t∈bV sh i r++aJ sh (i+1) A from ht)with z | z
    . obtain⟨x,hx,rfl⟩:=List.mem_map.mp z
      exact h i r (hA 0 r rfl) x hx
    exact ih (i+1) (fun j r' e=>by have:=hA (j+1) r' e;rw[show i+1+j=i+(j+1) by omega];exact this) t z
 exact gen R 0 fun j r e=>by rw[Nat.zero_add];exact e
theorem mT{f m:Int}{S:Sta}(h1:bp S=true)(h2:bS S=true)(h3:ff f m S.mv (S.el.getD []))(h4:ff f m 0 S.nw)(h5:(bj (S.el.getD [])++bj S.nw).Nodup):aB f m S=none:=by
 unfold aB;rw[if_neg (by rw[h1];intro z;cases z),if_neg (by rw[h2];intro z;cases z)]
 refine hZ _ _ (fun t ht=>?_) ?_
 . rcases List.mem_append.mp ht with z | z
   . have:=jw h3 true t z
     rw[(df z).1];exact this
   have:=jw h4 false t z;rw[(df z).1];exact this
 rw[List.nil_append];unfold bO;rw[List.map_append,dq,dq];exact h5
structure kr(f m:Int)(S:Sta):Prop where
 h1:bp S=true
 h2:bS S=true
 h3:ff f m S.mv (S.el.getD [])
 h4:ff f m 0 S.nw
 h5:(bj (S.el.getD [])++bj S.nw).Nodup
 bb:∀ p∈(S.el.getD []).flatten++S.nw.flatten,InB p
 tt:tot (S.el.getD [])+tot S.nw<=39
theorem mY{R:af}{j:Nat}{r:ar}{pr:Int×Int}(h:R[j]?=some r){p:Int×Int}(hp:p∈(R.set j (r++[pr])).flatten):p∈R.flatten∨p=pr:=by
 obtain⟨r',hr',hp'⟩:=List.mem_flatten.mp hp;rcases List.mem_or_eq_of_mem_set hr' with z | z
 . exact .inl (List.mem_flatten.mpr ⟨r',z,hp'⟩)
 rw[z]at hp';rcases List.mem_append.mp hp' with y | y
 . exact .inl (List.mem_flatten.mpr ⟨r,List.mem_of_getElem? h,y⟩)
 exact .inr (List.mem_singleton.mp y)
theorem gZ(n:Nat):(List.replicate n ([]:ar)).flatten=[]:=by
 induction n with
 | zero=>rfl
 | succ n ih=>rw[List.replicate_succ,List.flatten_cons,ih];rfl
def xW(n:Nat)(S:Sta):Prop:=((S.el.getD []).length<=n/\tot (S.el.getD [])<=n)/\S.nw.length<=n/\tot S.nw<=n
theorem kr.sz{f m:Int}{S:Sta}{n:Nat}(h:kr f m S)(z:xW n S):SzS n S:=
 ⟨⟨z.1.1,z.1.2,fun r hr q hq=>(h.bb q (List.mem_append_left _ (List.mem_flatten.mpr ⟨r,hr,hq⟩))).2⟩,⟨z.2.1,z.2.2,fun r hr q hq=>(h.bb q (List.mem_append_right _ (List.mem_flatten.mpr ⟨r,hr,hq⟩))).2⟩⟩
def lf:Sp:=fun vs H Q _=>∃(p t:Addr) (f m:Int),vs=[.ref p,.ref t]/\Row H p/\H t=some (.tup [.int f,.int m])/\(0<=f/\f<=65535) /\ ∀ v' H' S,StV H' v' S->xW 64 S->kr f m S->Row H' p->al p H H'->Q v' H'
theorem xh{H:Hp}{Q:VK}{E:XK}{p t:Addr}{f m:Int}(h1:Row H p)(h2:H t=some (.tup [.int f,.int m]))(h3:0<=f/\f<=65535)(k:∀ v' H' S,StV H' v' S->xW 64 S->kr f m S->Row H' p->al p H H'->Q v' H'):lf ([.ref p,.ref t]++[]) H Q E:=⟨p,t,f,m,rfl,h1,h2,h3,k⟩
theorem LR.bare{H:Hp}{D:Addr}{ls:List Addr}{n:Nat}(h1:H D=some (.lst (ls.map V.ref)))(h2:ls.length=n)(nd:ls.Nodup)(g:∀ y∈ls,H y=some (.lst [])/\y≠D):LR H D (List.replicate n []) ls:=
 ⟨h1,by rw[h2,List.length_replicate],nd,fun z=>(g D z).2 rfl,fun i y r e1 e2=>by
  have er:r=[]:=List.eq_of_mem_replicate (List.mem_of_getElem? e2);subst er;exact⟨[],(g y (List.mem_of_getElem? e1)).1,.nil⟩⟩
theorem cr{f m mv:Int}(n:Nat):ff f m mv (List.replicate n []):=fun i r e x hx=>by
 have er:r=[]:=List.eq_of_mem_replicate (List.mem_of_getElem? e);subst er;cases hx
theorem cq(n:Nat):bj (List.replicate n [])=[]:=by
 induction n with
 | zero=>rfl
 | succ n ih=>rw[List.replicate_succ];show[]++bj (List.replicate n [])=[];rw[ih];rfl
structure TV where
 R:Nat->af
 ks:List Int
structure TI_(H0:Hp)(p rl sd:Addr)(n:Nat)(q:Nat->Addr)(ls:Nat->List Addr)(sz:Nat->Nat)(f m mv:Int)(i:Nat)(x:TV)(H:Hp):Prop where
 t:TS H0 p rl n q ls x.R H
 sd:H sd=some (.dK (kbs x.ks))
 kl:x.ks.length<=i
 len:∀ s,(x.R s).length=sz s
 p0:ff f m mv (x.R 0)
 p1:ff f m 0 (x.R 1)
 nd:(bj (x.R 0)++bj (x.R 1)).Nodup
 inn:∀ k∈bj (x.R 0)++bj (x.R 1),k∈x.ks
 tt:tot (x.R 0)+tot (x.R 1)<=i
 bb:∀ p∈(x.R 0).flatten++(x.R 1).flatten,InB p
section
variable{H0 H H':Hp}{p rl sd:Addr}{n:Nat}{q:Nat->Addr}{ls:Nat->List Addr}{sz:Nat->Nat}{f m mv:Int}{i:Nat}{x:TV}
theorem TI_.keepP(I:TI_ H0 p rl sd n q ls sz f m mv i x H)(R':Row H' p)(k:al p H H'):TI_ H0 p rl sd n q ls sz f m mv i x H':=
 ⟨I.t.keepP R' k,k _ _ (by obtain⟨a,b,c,h,_⟩:=I.t.r;exact aA I.sd h (by intro z;cases z)) I.sd,I.kl,I.len,I.p0,I.p1,I.nd,I.inn,I.tt,I.bb⟩
theorem TI_.same(I:TI_ H0 p rl sd n q ls sz f m mv i x H)(s:ac H H'):TI_ H0 p rl sd n q ls sz f m mv i x H':=I.keepP (I.t.r.same s) (SW.ac.but s)
theorem TI_.next(I:TI_ H0 p rl sd n q ls sz f m mv i x H):TI_ H0 p rl sd n q ls sz f m mv (i+1) x H:=⟨I.t,I.sd,Nat.le_succ_of_le I.kl,I.len,I.p0,I.p1,I.nd,I.inn,Nat.le_succ_of_le I.tt,I.bb⟩
end
theorem mj(a:Int)(A B:List Int):(A++a::B).Perm (a::(A++B)):=List.perm_middle
theorem fu{A B A' B' ks:List Int}{k:Int}(h:(A++B).Nodup)(hin:∀ z∈A++B,z∈ks)(hk:k∉ks)(hp:(A'++B').Perm (k::(A++B))):(A'++B').Nodup /\ ∀ z∈A'++B',z∈ks++[k]:=by
 refine⟨hp.nodup_iff.mpr (List.nodup_cons.mpr ⟨fun z=>hk (hin k z),h⟩),fun z hz=>?_⟩;rcases List.mem_cons.mp (hp.mem_iff.mp hz)with rfl | y
 . exact List.mem_append_right _ (List.mem_singleton.mpr rfl)
 exact List.mem_append_left _ (hin z y)
theorem B4(d:Dfn K mg "_law_table_state" wZ ["row","mixer"])(g:Gs K mg C CT CE CP CZ CR CV)(q40_:Fn P w K mg base "_law_take" 1 ["row","many"] cH)(q28_:Fn P w K mg base "_law_key" 2 ["row"] pq)(q41_:Fn P w K mg base "_law_worth" 2 ["row"] iy):Fn P w K mg base "_law_table_state" 3 ["row","mixer"] lf:=by
 refine d.fn dJ (fun vs H Q E h=>?_) (fun f cdv A outer s H vs Q E hr h=>?_)
 . obtain⟨p,t,f,m,rfl,_⟩:=h
   rfl
 obtain⟨p,t,fa,mo,rfl,hp,ht,hf,k⟩:=h;have lim:sizeLine=16777216:=sizeLine_eq;refine⟨_,(B.scons (B.set 2 dJ.nd (B.ix ay (B.lst (B.cons B.int (B.cons B.int (B.cons B.int (B.cons B.int B.nil))))) (B.fn q40_ hr.up (B.cons (B.v 0) (B.cons B.int B.nil)))))
  (B.scons (B.set 3 dJ.nd (B.ix ay (B.lst (B.cons B.non (B.cons (B.op b9 B.int (B.v 2)) (B.cons (B.op fk (B.v 2) B.int) B.nil)))) (B.fn q40_ hr.up (B.cons (B.v 0) (B.cons B.int B.nil)))))
  (B.scons (B.ifs (B.tcmp cz (B.v 3) B.int) (B.sone (B.set 3 dJ.nd B.int)) B.snil)
  (B.scons (B.set 4 dJ.nd B.int)
  (B.scons (B.set 5 dJ.nd (B.lst (B.cons (SW.B.comp [] ["place"] (SW.ax.of rfl rfl (by decide +kernel) (by decide +kernel) rfl trivial rfl rfl rfl) (by decide +kernel) (B.irange g.b_range (B.cons (B.v 2) B.nil)) (fun _ _ _ _=>(B.lst B.nil))) B.nil)))
  (B.scons (B.ifs (B.tcmp cj (B.v 3) B.non) (B.scons (B.set 4 dJ.nd (B.fn q40_ hr.up (B.cons (B.v 0) (B.cons (B.v 2) B.nil))))
  (B.sone (B.expr (B.m PySem.F.plainAttrs_list PySem.F.slot_list_append PySem.F.type_list_append cE (B.v 5) (B.cons (SW.B.comp [] ["place"] (SW.ax.of rfl rfl (by decide +kernel) (by decide +kernel) rfl trivial rfl rfl rfl) (by decide +kernel) (B.irange g.b_range (B.cons (B.v 3) B.nil)) (fun _ _ _ _=>(B.lst B.nil))) B.nil))))) B.snil)
  (B.scons (B.set 6 dJ.nd B.dnew)
  (B.scons (B.fors (B.irange g.b_range (B.cons (B.fn q40_ hr.up (B.cons (B.v 0) (B.cons (B.ix ay (B.lst (B.cons B.int (B.cons B.int B.nil))) (B.fn q40_ hr.up (B.cons (B.v 0) (B.cons B.int B.nil)))) B.nil))) B.nil)) (B.gname (i:=7) dJ.nd) (B.scons (B.set 8 dJ.nd (B.fn q28_ hr.up (B.cons (B.v 0) B.nil)))
  (B.scons (B.set 9 dJ.nd (B.op cD (B.op bv (B.op b9 (B.v 8) (B.ix av (B.v 1) B.int)) (B.ix av (B.v 1) B.int)) B.int))
  (B.scons (B.set 10 dJ.nd (B.fn q40_ hr.up (B.cons (B.v 0) (B.cons (B.cB aj g.b_len SW.b_len (B.cons (B.v 5) B.nil)) B.nil))))
  (B.scons (B.ifs (B.tw (B.wand (B.tcmp cz (B.v 10) B.int) (B.wand1 (B.tcmp fG (B.op cD (B.v 9) (B.v 2)) (B.v 4))))) (B.sone (B.set 10 dJ.nd B.int)) B.snil)
  (B.sone (B.ifs (B.tdnotin (dW hr) (B.v 8) (B.v 6)) (B.scons (B.dput (dW hr) (B.v 6) (B.v 8) B.bl)
  (B.sone (B.expr (B.m PySem.F.plainAttrs_list PySem.F.slot_list_append PySem.F.type_list_append cE (B.ix ay (B.ix ay (B.v 5) (B.v 10)) (B.op cD (B.v 9) (B.cB aj g.b_len SW.b_len (B.cons (B.ix ay (B.v 5) (B.v 10)) B.nil)))) (B.cons (B.tup (B.cons (B.v 8) (B.cons (B.fn q41_ hr.up (B.cons (B.v 0) B.nil)) B.nil))) B.nil))))) B.snil)))))))
  (B.scons (SW.B.compSet 11 [] ["shelf"] (SW.ax.of rfl rfl (by decide +kernel) (by decide +kernel) rfl trivial rfl rfl rfl) (by decide +kernel) dJ.nd (B.ilist (B.v 5)) (fun _ _ _ _=>(B.cT (SW.dL K) g.b_tuple SW.b_tuple (B.cons (SW.B.comp [] ["one"] (SW.ax.of rfl rfl (by decide +kernel) (by decide +kernel) rfl trivial rfl rfl rfl) (by decide +kernel) (SW.B.ilistK K (B.v 0)) (fun _ _ _ _=>(B.cT (SW.dL K) g.b_tuple SW.b_tuple (B.cons (B.v 0) B.nil)))) B.nil))))
  (B.scons (B.ifs (B.tcmp cz (B.cB aj g.b_len SW.b_len (B.cons (B.v 11) B.nil)) B.int) (B.sone (B.ret (B.tup (B.cons B.non (B.cons B.int (B.cons (B.ix ay (B.v 11) B.int) B.nil)))))) B.snil)
  (B.sone (B.ret (B.tup (B.cons (B.ix ay (B.v 11) B.int) (B.cons (B.v 4) (B.cons (B.ix ay (B.v 11) B.int) B.nil)))))))))))))))),?_⟩
 walk_at "W";refine⟨by show(4:Nat)<=sizeLine;decide,fun L1 hL1=>?_⟩
 have i1:=ac.new (o:=.lst [.int 4,.int 8,.int 16,.int 32]) hL1;have nL1:L1≠p:=(hp.ne0 hL1).symm;walk_at "W";refine bi (hp.same i1) (by decide) (by decide) fun r1 H1 a1 b1 R1 K1=>?_
 obtain⟨vz,hvz,hmz⟩:=cb (xs:=[V.int 4,.int 8,.int 16,.int 32]) a1 b1;obtain⟨n0,rfl,hn0⟩:∃ n0:Nat,vz=V.int (n0:Int)/\(n0=4∨n0=8∨n0=16∨n0=32):=by
  simp only[List.mem_cons,List.not_mem_nil,or_false]at hmz;rcases hmz with rfl | rfl | rfl | rfl
  . exact⟨4,rfl,.inl rfl⟩
  . exact⟨8,rfl,.inr (.inl rfl)⟩
  . exact⟨16,rfl,.inr (.inr (.inl rfl))⟩
  exact⟨32,rfl,.inr (.inr (.inr rfl))⟩
 refine ce (K1 _ _ nL1 aa) hvz ?_;have K01:=(SW.ac.but (p:=p) i1).trans K1;walk_at "W";refine⟨by show(3:Nat)<=sizeLine;decide,fun L2 hL2=>?_⟩
 have i2:=ac.new (o:=.lst [.non,.int (2*(n0:Int)),.int ((n0:Int) / 2)]) hL2;have nL2:L2≠p:=(R1.ne0 hL2).symm;walk_at "W";refine bi (R1.same i2) (by decide) (by decide) fun r2 H2 a2 b2 R2 K2=>?_
 have K02:=(K01.trans (SW.ac.but (p:=p) i2)).trans K2;obtain⟨vo,hvo,hmo⟩:=cb (xs:=[V.non,.int (2*(n0:Int)),.int ((n0:Int) / 2)]) a2 b2;refine ce (K2 _ _ nL2 aa) hvo ?_;walk_at "W";rename_i N1 hN1;have rest1:∀ o:Option Nat,(∀ x,o=some x->am x/\(x=2*n0∨n0=2*x)/\x<=64)->N1 [some (.ref p),some (.ref t),some (.int (n0:Int)),some (oN o),none,none,none,none,none,none,none,none] H2:=by
  intro o ho;refine SW.wGo hN1 ?_;walk_at "W";refine⟨(n0:Int),rfl,by omega,by omega,fun D hD=>?_⟩
  refine cQ (fun i Z' H'=>∃(ls:List Addr) (v:Option V),Z'=[v]/\ls.length=i/\H' D=some (.lst (ls.map V.ref))/\ls.Nodup/\(∀ y∈ls,H' y=some (.lst [])/\H2 y=none/\y≠D)/\ac H2 H') ⟨[],none,rfl,rfl,aa,List.nodup_nil,fun y hy=>(List.not_mem_nil hy).elim,ac.new hD⟩ ?_ ?_
  . rintro i Z' H' hi ⟨ls,v,rfl,hl,g1,nd,g2,s'⟩
    refine⟨by show(0:Nat)<=sizeLine;decide,fun y hy=>?_⟩
    have nyD:D≠y:=ai g1 hy;have nin:y∉ls:=fun z=>by
     have:=(g2 y z).1;rw[hy]at this;cases this
    refine CN.mk hi (ys:=ls.map V.ref) (by rw[ag nyD];exact g1) (by rw[List.length_map];omega) ⟨ls++[y],_,rfl,by rw[List.length_append,hl];rfl,by rw[aa,List.map_append];rfl,eu nd nin,fun z hz=>?_,fun b o e=>?_⟩
    . rcases List.mem_append.mp hz with hz | hz
      . obtain⟨c1,c2,c3⟩:=g2 z hz
        refine⟨?_,c2,c3⟩;rw[ag c3,ag (fun e:z=y=>nin (e ▸ hz))];exact c1
      rw[List.mem_singleton.mp hz];exact⟨by rw[ag nyD.symm,aa],s'.free hy,nyD.symm⟩
    rw[ag (ai e hD),ag (ai (s' b o e) hy)];exact s' b o e
  rintro Z' H3 ⟨l0,v,rfl,hl0,g1,nd0,g2,s3⟩;have hl0:l0.length=n0:=by
   have:l0.length=(n0:Int).toNat:=hl0;omega
  walk_at "W";refine⟨by show(1:Nat)<=sizeLine;decide,fun rl hrl=>?_⟩
  have i4:=ac.new (o:=.lst [.ref D]) hrl;have s24:=s3.trans i4;have R4:=R2.same s24;have K04:=K02.trans (SW.ac.but (p:=p) s24);have fr2:∀ y,H2 y=none->y≠p/\H y=none:=fun y hy=>⟨(R2.ne0 hy).symm,by
   cases e:H y with
   | none=>rfl
   | some o=>rw[K02 y o (R2.ne0 hy).symm e]at hy;cases hy⟩
  have nrp:rl≠p:=((R2.same s3).ne0 hrl).symm;have nDp:D≠p:=(fr2 D hD).1;have lr0:LR (upd H3 rl (.lst [.ref D])) D (List.replicate n0 []) l0:=(LR.bare g1 hl0 nd0 fun y hy=>⟨(g2 y hy).1,(g2 y hy).2.2⟩).same i4;have nrl:∀ y∈l0,y≠rl:=fun y hy=>ai (g2 y hy).1 hrl;have nDl:∀ y∈l0,y≠D:=fun y hy=>(g2 y hy).2.2;have live4:∀ y∈l0,upd H3 rl (.lst [.ref D]) y=some (.lst []):=fun y hy=>i4 _ _ (g2 y hy).1;have fr0:∀ y∈l0,y≠p/\H y=none:=fun y hy=>fr2 y (g2 y hy).2.1;have eD4:=i4 _ _ g1;have erl:=aa (H:=H3) (a:=rl) (o:=.lst [.ref D]);obtain⟨H4,hH4⟩:∃ H4,H4=upd H3 rl (.lst [.ref D]):=⟨_,rfl⟩;rw[← hH4]at R4 K04 lr0 live4 eD4 erl ⊢;clear hH4 i4 s24 g1 g2;walk_at "W";rename_i N2 hN2;have rest2:∀(H':Hp) (n:Nat) (q:Nat->Addr) (ls:Nat->List Addr) (sz:Nat->Nat) (mv:Int),(n=1/\o=none/\mv=0/\sz 1=0∨n=2/\o=some (sz 1)/\0<=mv/\mv < n0)->sz 0=n0->TS H p rl n q ls (fun s=>List.replicate (sz s) []) H'->N2 [some (.ref p),some (.ref t),some (.int (n0:Int)),some (oN o),some (.int mv),some (.ref rl),none,none,none,none,none,none] H':=by
   intro H' n q ls sz mv hcase hsz0 T;have hn2:n=1∨n=2:=by omega
   have hmv:0<=mv/\mv < n0:=by omega
   have hsz64:∀ s,s < n->sz s<=64:=fun s hs=>by
    rcases(show s=0∨s=1 by omega)with rfl | rfl
    . omega
    rcases hcase with y | y
    . omega
    exact(ho (sz 1) y.2.1).2.2
   refine SW.wGo hN2 ?_;walk_at "W";intro sd hsd;have nsp:sd≠p:=(T.r.ne0 hsd).symm;have sd0:H sd=none:=by
    cases e:H sd with
    | none=>rfl
    | some o=>rw[T.k sd o nsp e]at hsd;cases hsd
   have Ta:=T.same (ac.new (o:=.dK []) hsd);have esd:=aa (H:=H') (a:=sd) (o:=.dK []);obtain⟨Ha,hHa⟩:∃ Ha,Ha=upd H' sd (.dK []):=⟨_,rfl⟩;rw[← hHa]at Ta esd ⊢;clear hHa;walk_at "W";refine⟨by show(2:Nat)<=sizeLine;decide,fun L3 hL3=>?_⟩
   have i3:=ac.new (o:=.lst [.int 6,.int 40]) hL3;have nL3:L3≠p:=(Ta.r.ne0 hL3).symm;have Tb:=Ta.same i3;walk_at "W";refine bi Tb.r (by decide) (by decide) fun r3 Hb a3 b3 Rb Kb=>?_
   have Tc:=Tb.keepP Rb Kb;obtain⟨vc,hvc,hmc⟩:=cb (xs:=[V.int 6,.int 40]) a3 b3;obtain⟨cc,rfl,hcc⟩:∃ cc:Int,vc=V.int cc/\(cc=6∨cc=40):=by
    simp only[List.mem_cons,List.not_mem_nil,or_false]at hmc;rcases hmc with rfl | rfl
    . exact⟨6,rfl,.inl rfl⟩
    exact⟨40,rfl,.inr rfl⟩
   refine ce (Kb _ _ nL3 aa) hvc ?_;walk_at "W";refine bi Tc.r (by omega) (by omega) fun c Hc c0 c1 Rc Kc=>?_
   have Td:=Tc.keepP Rc Kc;have esd':=Kc _ _ nsp (Kb _ _ nsp (i3 _ _ esd));walk_at "W";refine⟨c,rfl,by omega,by omega,?_⟩
   refine SW.kL (fun i Z H3=>∃(x:TV) (v7 v8 v9 v10:Option V),Z=[some (.ref p),some (.ref t),some (.int (n0:Int)),some (oN o),some (.int mv),some (.ref rl),some (.ref sd),v7,v8,v9,v10,none]/\TI_ H p rl sd n q ls sz fa mo mv i x H3) ⟨⟨fun s=>List.replicate (sz s) [],[]⟩,none,none,none,none,rfl,⟨Td,esd',Nat.le_refl _,fun s=>List.length_replicate,cr _,cr _,by rw[cq,cq];exact List.nodup_nil,fun k hk=>(by rw[cq,cq]at hk;cases hk),by rw[dv,dv];exact Nat.le_refl _,fun p hp=>(by rw[gZ,gZ]at hp;cases hp)⟩⟩ ?_ ?_
   . rintro i Z H3 hi ⟨x,v7,v8,v9,v10,rfl,I⟩
     have hi40:i < 40:=by
      have:i < c.toNat:=hi;omega
     walk_at "W";refine Ae I.t.r fun ky H4 ky0 ky1 R4 K4=>?_;have I4:=I.keepP R4 K4;have ht4:=I4.t.k _ _ (hp.ne ht) ht;walk_at "W";refine SW.bG (.inl (SqL.of I4.t.top)) ?_;walk_at "W";rw[List.length_map,List.length_range];refine bi I4.t.r (by omega) (by omega) fun at_ H5 a0 a1 R5 K5=>?_
     have I5:=I4.keepP R5 K5;have hmk:0<=(ky*fa+mo) % 65536:=Int.emod_nonneg _ (by decide)
     walk_at "W";rename_i N3 hN3;have rest3:∀ s:Nat,s < n->(s=0 -> ¬ (ky*fa+mo) % 65536 % (n0:Int) < mv)->N3 [some (.ref p),some (.ref t),some (.int (n0:Int)),some (oN o),some (.int mv),some (.ref rl),some (.ref sd),some (.int (0+(i:Int))),some (.int ky),some (.int ((ky*fa+mo) % 65536)),some (.int (s:Int)),none] H5:=by
      intro s hs hs0;have hszs:0 < sz s:=by
       rcases hn2 with e | e
       . have:s=0:=by omega
         subst this;omega
       by_cases z:s=0
       . subst z;omega
       have:s=1:=by omega
       subst this;rcases hcase with y | y
       . omega
       have:=(ho (sz 1) y.2.1).1;unfold am at this;simp only[List.mem_cons,List.not_mem_nil,or_false]at this;omega
      refine SW.wGo hN3 ?_;walk_at "W";refine⟨sd,_,rfl,cK.k (k:=Sum.inl ky) I5.sd,?_⟩;walk_at "W";rw[gj];by_cases hk:ky∈x.ks
      . rw[decide_eq_true hk]
        refine ao ?_;walk_at "W";exact⟨x,_,_,_,_,rfl,I5.next⟩
      rw[decide_eq_false hk];refine az ?_;walk_at "W";refine⟨sd,_,rfl,jR.k (k:=Sum.inl ky) I5.sd (by rw[lj];have:=I5.kl;omega),?_⟩
      rw[jm hk];have T6:=I5.t.keepD (kv':=kbs (x.ks++[ky])) I5.sd sd0;have esd6:=aa (H:=H5) (a:=sd) (o:=.dK (kbs (x.ks++[ky])));obtain⟨H6,hH6⟩:∃ H6,H6=upd H5 sd (.dK (kbs (x.ks++[ky]))):=⟨_,rfl⟩;rw[← hH6]at T6 esd6 ⊢;clear hH6;have ixs:atI ((List.range n).map fun s=>V.ref (q s)) (s:Int)=some (.ref (q s)):=bH (by rw[List.getElem?_map,List.getElem?_range hs];rfl)
      have lrs:=T6.lr s hs;have hll:(ls s).length=sz s:=by rw[lrs.len];exact I5.len s
      obtain⟨j,hj⟩:∃ j,j=plc fa mo (sz s) ky:=⟨_,rfl⟩;have hjI:(ky*fa+mo) % 65536 % (sz s:Int)=(j:Int):=by rw[hj];exact(gq hszs).symm
      have hjl:j < sz s:=by rw[hj];exact eW hszs
      obtain⟨l,ys,e1,e2,e3⟩:=lrs.place (i:=j) (by rw[I5.len s];exact hjl)
      have hrj:(x.R s)[j]?=some ((x.R s).getD j []):=bM (by rw[I5.len s];exact hjl)
      obtain⟨r,hr_⟩:∃ r,r=(x.R s).getD j []:=⟨_,rfl⟩;rw[← hr_]at e3 hrj;have hrl:r.length<=i:=by
       have h3:=cv (x.R s) (j+1);rw[aw hrj,cu]at h3;have h4:tot [r]=r.length:=by unfold tot;simp
       have h5:=I5.tt;rcases(show s=0∨s=1 by omega)with rfl | rfl <;> omega
      walk_at "W";refine wBM ?_;walk_at "W";refine ce T6.top ixs ?_;walk_at "W";refine ce T6.top ixs ?_;refine SW.bG (.inl (SqL.of lrs.top)) ?_;walk_at "W";rw[List.length_map,hll];refine AN (by omega) ?_
      rw[hjI];refine ce lrs.top (v:=.ref l) (bH (by rw[List.getElem?_map,e1];rfl)) ?_
      refine⟨.inl ⟨rfl,_,SqL.of e2⟩,?_⟩;walk_at "W";refine qM T6.r fun wo H7 wo0 wo1 R7 K7=>?_;have T7:=T6.keepP R7 K7;walk_at "W";refine⟨by show(2:Nat)<=sizeLine;decide,fun tp htp=>?_⟩
      have i8:=ac.new (o:=.tup [.int ky,.int wo]) htp;have T8:=T7.same i8;have hm:=List.mem_of_getElem? e1;have e28:=i8 _ _ (K7 _ _ (T6.x3 s hs l hm).2.1 e2);have e38:=(e3.keep (ci T6.r K7)).keep (SW.ac.tk i8);have esd8:=i8 _ _ (K7 _ _ nsp esd6);have nsl:sd≠l:=aA esd8 e28 (by intro z;cases z)
      have hyl:=e3.len;have T9:=T8.set (xs:=ys++[.ref tp]) (r:=r++[(ky,wo)]) hs e1 (aG (.cons ⟨tp,rfl,aa⟩ .nil) e38);walk_at "W";refine⟨l,ys,.ref tp,rfl,rfl,e28,by omega,?_⟩
      walk_at "W";have nw:s=0∨s=1:=by omega
      have ts:=dG (r:=r++[(ky,wo)]) hrj;rw[List.length_append]at ts;have ts:tot ((x.R s).set j (r++[(ky,wo)]))=tot (x.R s)+1:=by
       have:(r.length+[(ky,wo)].length)=r.length+1:=rfl;omega
      have hkl:=I5.kl;have htt:=I5.tt;refine⟨⟨fun s'=>if s'=s then(x.R s).set j (r++[(ky,wo)])else x.R s',x.ks++[ky]⟩,_,_,_,_,rfl,⟨T9,by rw[ag nsl];exact esd8,by rw[List.length_append];exact Nat.succ_le_succ hkl,fun s'=>?_,?_,?_,?_,?_,?_,?_⟩⟩
      . show(if s'=s then(x.R s).set j (r++[(ky,wo)])else x.R s').length=sz s'
        by_cases e:s'=s
        . rw[if_pos e,List.length_set,e];exact I5.len s
        rw[if_neg e];exact I5.len s'
      . rcases nw with rfl | rfl
        . show ff fa mo mv (if(0:Nat)=0 then(x.R 0).set j (r++[(ky,wo)])else x.R 0)
          rw[if_pos rfl];refine I5.p0.set hrj (by rw[I5.len 0];exact hjI) ?_
          rw[hsz0]at hjI;rw[← hjI];exact hs0 rfl
        exact I5.p0
      . rcases nw with rfl | rfl
        . exact I5.p1
        show ff fa mo 0 (if(1:Nat)=1 then(x.R 1).set j (r++[(ky,wo)])else x.R 1);rw[if_pos rfl];exact I5.p1.set hrj (by rw[I5.len 1];exact hjI) (by omega)
      . rcases nw with rfl | rfl
        . exact(fu I5.nd I5.inn hk (by show(bj ((x.R 0).set j (r++[(ky,wo)]))++bj (x.R 1)).Perm _;exact((fW hrj).append_right _))).1
        exact(fu I5.nd I5.inn hk (by show(bj (x.R 0)++bj ((x.R 1).set j (r++[(ky,wo)]))).Perm _;exact((fW hrj).append_left _).trans (mj _ _ _))).1
      . rcases nw with rfl | rfl
        . exact(fu I5.nd I5.inn hk (by show(bj ((x.R 0).set j (r++[(ky,wo)]))++bj (x.R 1)).Perm _;exact((fW hrj).append_right _))).2
        exact(fu I5.nd I5.inn hk (by show(bj (x.R 0)++bj ((x.R 1).set j (r++[(ky,wo)]))).Perm _;exact((fW hrj).append_left _).trans (mj _ _ _))).2
      . rcases nw with rfl | rfl
        . show tot ((x.R 0).set j (r++[(ky,wo)]))+tot (x.R 1)<=_
          omega
        show tot (x.R 0)+tot ((x.R 1).set j (r++[(ky,wo)]))<=_;omega
      have hb:InB (ky,wo):=⟨⟨ky0,ky1⟩,wo0,wo1⟩;rcases nw with rfl | rfl
      . intro p hp
        have hp:p∈((x.R 0).set j (r++[(ky,wo)])).flatten++(x.R 1).flatten:=hp;rcases List.mem_append.mp hp with z | z
        . rcases mY hrj z with y | y
          . exact I5.bb p (List.mem_append_left _ y)
          rw[y];exact hb
        exact I5.bb p (List.mem_append_right _ z)
      intro p hp;have hp:p∈(x.R 0).flatten++((x.R 1).set j (r++[(ky,wo)])).flatten:=hp;rcases List.mem_append.mp hp with z | z
      . exact I5.bb p (List.mem_append_left _ z)
      rcases mY hrj z with y | y
      . exact I5.bb p (List.mem_append_right _ y)
      rw[y];exact hb
     clear hN3;by_cases h0:at_=0
     . refine c5 (by rw[h0]) ?_
       walk_at "W";by_cases h1:(ky*fa+mo) % 65536 % (n0:Int) < mv
       . refine c5 h1 ?_
         walk_at "W";have h2:n=2:=by
          rcases hcase with y | y
          . have:0<=(ky*fa+mo) % 65536 % (n0:Int):=Int.emod_nonneg _ (by omega)
            omega
          exact y.1
         exact rest3 1 (by omega) (fun z=>by omega)
       refine bK h1 ?_;walk_at "W";have:=rest3 0 (by omega) (fun _=>h1)
       rw[h0];exact this
     refine bK (fun z=>h0 (by injection z)) ?_
     refine ao ?_;walk_at "W";obtain⟨sa,rfl⟩:=Int.eq_ofNat_of_zero_le a0;exact rest3 sa (by omega) (fun z=>absurd (by rw[z];rfl) h0)
   rintro Z H8 ⟨x,v7,v8,v9,v10,rfl,I⟩;have htt:=I.tt;have hc40:c.toNat<=39:=by omega
   walk_at "W";refine⟨rl,rfl,⟨_,SqL.of I.t.top⟩,fun D3 hD3=>?_⟩;refine du (xs:=(List.range n).map fun s=>V.ref (q s)) (fun i Z' H9=>∃(v:Option V) (zs:List V),Z'=[v]/\ac H8 H9/\H9 D3=some (.lst zs)/\Paired (bt H9) zs ((List.range i).map x.R)/\zs.length=i) ⟨none,[],rfl,ac.new hD3,aa,.nil,rfl⟩ (fun i Z' H9 _ ⟨_,_,_,s',_⟩=>SqL.of (s' _ _ I.t.top)) ?_ ?_
   . rintro s y Z' H9 hy hs ⟨v,zs,rfl,s9,hD9,hz,hzl⟩
     rw[List.length_map,List.length_range]at hs;rw[List.getElem?_map,List.getElem?_range hs]at hy;cases hy;have lrs:=I.t.lr s hs;walk_at "W";refine⟨q s,rfl,⟨_,SqL.of (s9 _ _ lrs.top)⟩,fun D4 hD4=>?_⟩;refine du (xs:=(ls s).map V.ref) (fun i Z' Hx=>∃(v:Option V) (us:List V),Z'=[v]/\ac H9 Hx/\Hx D4=some (.lst us)/\Paired (dB Hx) us ((x.R s).take i)/\us.length=i) ⟨none,[],rfl,ac.new hD4,aa,by rw[List.take_zero];exact .nil,rfl⟩ (fun i Z' Hx _ ⟨_,_,_,s',_⟩=>SqL.of (s' _ _ (s9 _ _ lrs.top))) ?_ ?_
     . rintro i y Z' Hx hy hi ⟨v,us,rfl,sx,hDx,hu,hul⟩
       rw[List.getElem?_map]at hy;obtain⟨l,hl,rfl⟩:=Option.map_eq_some_iff.mp hy;have hil:i < (x.R s).length:=by rw[← lrs.len];exact(List.getElem?_eq_some_iff.mp hl).1
       obtain⟨ys,c1,c3⟩:=lrs.at_ i l _ hl (List.getElem?_eq_getElem hil);have s8x:=s9.trans sx;walk_at "W";refine⟨l,ys,rfl,.inl ⟨SqL.of (s8x _ _ c1),fun tt htt=>?_⟩⟩;have n1:tt≠D4:=(ai hDx htt).symm;have tk:TK Hx (upd (upd Hx tt (.tup ys)) D4 (.lst (us++[.ref tt]))):=fun a ws e=>by
        rw[ag (aA e hDx (by intro z;cases z))]
        exact ac.new htt _ _ e
       refine CN.mk hi (by rw[ag n1.symm];exact hDx) (by rw[List.length_map,lrs.len,I.len s]at hi;rw[hul];have:sz s<=64:=hsz64 s hs;omega) ⟨_,us++[.ref tt],rfl,fun b o e=>by rw[ag (ai e hD4)];exact ac.new htt _ _ (sx _ _ e),aa,?_,by rw[List.length_append,hul];rfl⟩
       rw[aw (List.getElem?_eq_getElem hil)];exact aG (.cons ⟨tt,ys,rfl,by rw[ag n1];exact aa,(c3.keep (SW.ac.tk s8x)).keep tk⟩ .nil) (ba hu tk)
     rintro Z' Hx ⟨v,us,rfl,sx,hDx,hu,hul⟩;rw[List.length_map,lrs.len,List.take_length]at hu;walk_at "W";refine⟨D4,us,rfl,.inl ⟨SqL.of hDx,fun tt htt=>?_⟩⟩;have s8x:=s9.trans sx;have hDx3:=sx _ _ hD9;have n1:tt≠D3:=(ai hDx3 htt).symm;have tk:TK Hx (upd (upd Hx tt (.tup us)) D3 (.lst (zs++[.ref tt]))):=fun a ws e=>by
      rw[ag (aA e hDx3 (by intro z;cases z))]
      exact ac.new htt _ _ e
     refine CN.mk (by rw[List.length_map,List.length_range];exact hs) (by rw[ag n1.symm];exact hDx3) (by rw[hzl];omega) ⟨_,zs++[.ref tt],rfl,fun b o e=>by rw[ag (ai e hD3)];exact ac.new htt _ _ (s8x _ _ e),aa,?_,by rw[List.length_append,hzl];rfl⟩
     rw[List.range_succ,List.map_append];exact aG (.cons ⟨tt,us,rfl,by rw[ag n1];exact aa,ba hu tk⟩ .nil) (Paired.mapP hz fun _ _ y=>(y.keep (SW.ac.tk sx)).keep tk)
   rintro Z' H9 ⟨v,zs,rfl,s9,hD9,hz,hzl⟩;rw[List.length_map,List.length_range]at hz hzl;have T9:=I.t.same s9;have z0:∀(s:Nat) (y:V),zs[s]?=some y->bt H9 y (x.R s):=fun s y e=>by
    obtain⟨d,e1,e2⟩:=aX hz e;have hs:s < n:=by rw[← hzl];exact(List.getElem?_eq_some_iff.mp e).1
    rw[List.getElem?_map,List.getElem?_range hs]at e1;cases e1;exact e2
   have l0:=I.len 0;have l1:=I.len 1;walk_at "W";refine SW.bG (.inl (SqL.of hD9)) ?_;walk_at "W";rw[hzl];rcases hcase with ⟨rfl,rfl,rfl,h1⟩ | ⟨rfl,ho2,h2,h3⟩
   . refine c5 rfl ?_
     have e0:zs[0]?=some zs[0]:=List.getElem?_eq_getElem (by omega)
     walk_at "W";refine ce hD9 (bH (j:=0) e0) ?_;walk_at "W";refine⟨by show(3:Nat)<=sizeLine;decide,fun q5 hq5=>?_⟩
     have i5:=ac.new (o:=.tup [.non,.int 0,zs[0]]) hq5;have hR1:x.R 1=[]:=List.eq_nil_of_length_eq_zero (by rw[l1];exact h1)
     have nd:=I.nd;rw[hR1]at nd;have nd:(bj (x.R 0)++[]).Nodup:=nd;rw[List.append_nil]at nd;refine k _ _ ⟨none,0,x.R 0⟩ ⟨q5,.non,zs[0],rfl,aa,rfl,(z0 0 _ e0).keep (SW.ac.tk i5)⟩ ⟨⟨Nat.zero_le _,Nat.zero_le _⟩,⟨by show(x.R 0).length<=64;omega,by show tot (x.R 0)<=64;omega⟩⟩ ?_ (T9.r.same i5) (T9.k.trans (SW.ac.but i5))
     refine⟨?_,rfl,(fun i r e=>by simp at e),I.p0,nd,fun p hp=>I.bb p (List.mem_append_left _ hp),by show 0+tot (x.R 0)<=39;omega⟩
     show(decide (am (x.R 0).length) && true)=true;rw[l0,hsz0,decide_eq_true (by rcases hn0 with rfl | rfl | rfl | rfl <;> decide)];rfl
   refine bK (fun z=>by injection z with z;omega) ?_
   have e0:zs[0]?=some zs[0]:=List.getElem?_eq_getElem (by omega)
   have e1:zs[1]?=some zs[1]:=List.getElem?_eq_getElem (by omega)
   obtain⟨y1,y2,y3⟩:=ho (sz 1) ho2;walk_at "W";refine ce hD9 (bH (j:=0) e0) ?_;walk_at "W";refine ce hD9 (bH (j:=1) e1) ?_;walk_at "W";refine⟨by show(3:Nat)<=sizeLine;decide,fun q5 hq5=>?_⟩
   have i5:=ac.new (o:=.tup [zs[0],.int mv,zs[1]]) hq5;refine k _ _ ⟨some (x.R 0),mv,x.R 1⟩ ⟨q5,zs[0],zs[1],rfl,aa,(z0 0 _ e0).keep (SW.ac.tk i5),(z0 1 _ e1).keep (SW.ac.tk i5)⟩ ⟨⟨by show(x.R 0).length<=64;omega,by show tot (x.R 0)<=64;omega⟩,⟨by show(x.R 1).length<=64;omega,by show tot (x.R 1)<=64;omega⟩⟩ ?_ (T9.r.same i5) (T9.k.trans (SW.ac.but i5))
   refine⟨?_,?_,I.p0,I.p1,I.nd,I.bb,by show tot (x.R 0)+tot (x.R 1)<=39;omega⟩
   . show(decide (am (x.R 1).length) && (decide (am (x.R 0).length) && (decide ((x.R 0).length=2*(x.R 1).length) || decide ((x.R 1).length=2*(x.R 0).length))))=true
     rw[l0,l1,hsz0,decide_eq_true y1,decide_eq_true (show am n0 by rcases hn0 with rfl | rfl | rfl | rfl <;> decide)]
     rcases y2 with y2 | y2
     . rw[decide_eq_true y2,Bool.or_true];rfl
     rw[decide_eq_true y2,Bool.true_or];rfl
   show(decide (0<=mv) && decide (mv < ((x.R 0).length:Int)))=true;rw[l0,hsz0,decide_eq_true h2,decide_eq_true h3];rfl
  clear hN2;have ts1:TS H p rl 1 (fun _=>D) (fun _=>l0) (fun s=>List.replicate (if s=0 then n0 else 0) []) H4:=⟨R4,K04,erl,fun s hs=>by rw[Nat.lt_one_iff.mp hs];exact lr0,fun s s' hs hs' hne=>absurd (by omega:s=s') hne,fun s s' _ _ l hl=>nDl l hl,fun s _ l hl=>⟨nrl l hl,fr0 l hl⟩,nrp,fun s _=>nDp⟩
  refine⟨rfl,?_⟩;walk_at "W";cases o with
  | none=>
    refine cp rfl ?_;walk_at "W";exact rest2 H4 1 _ _ _ 0 (.inl ⟨rfl,rfl,rfl,rfl⟩) rfl ts1
  | some x=>
    obtain⟨hx1,hx2,hx3⟩:=ho x rfl;refine bR (fun z=>nomatch z) ?_;walk_at "W";refine bi ts1.r (by omega) (by omega) fun mv H5 m0 m1 R5 K5=>?_
    have ts5:=ts1.keepP R5 K5;walk_at "W";refine wBM ?_;walk_at "W";refine⟨.inl ⟨rfl,_,SqL.of ts5.top⟩,?_⟩;walk_at "W";refine⟨(x:Int),rfl,by omega,by omega,fun D2 hD2=>?_⟩
    refine cQ (fun i Z' H'=>∃(ls:List Addr) (v:Option V),Z'=[v]/\ls.length=i/\H' D2=some (.lst (ls.map V.ref))/\ls.Nodup/\(∀ y∈ls,H' y=some (.lst [])/\H5 y=none/\y≠D2)/\ac H5 H') ⟨[],none,rfl,rfl,aa,List.nodup_nil,fun y hy=>(List.not_mem_nil hy).elim,ac.new hD2⟩ ?_ ?_
    . rintro i Z' H' hi ⟨ls,v,rfl,hl,g1,nd,g2,s'⟩
      refine⟨by show(0:Nat)<=sizeLine;decide,fun y hy=>?_⟩
      have nyD:D2≠y:=ai g1 hy;have nin:y∉ls:=fun z=>by
       have:=(g2 y z).1;rw[hy]at this;cases this
      refine CN.mk hi (ys:=ls.map V.ref) (by rw[ag nyD];exact g1) (by rw[List.length_map];omega) ⟨ls++[y],_,rfl,by rw[List.length_append,hl];rfl,by rw[aa,List.map_append];rfl,eu nd nin,fun z hz=>?_,fun b o e=>?_⟩
      . rcases List.mem_append.mp hz with hz | hz
        . obtain⟨c1,c2,c3⟩:=g2 z hz
          refine⟨?_,c2,c3⟩;rw[ag c3,ag (fun e:z=y=>nin (e ▸ hz))];exact c1
        rw[List.mem_singleton.mp hz];exact⟨by rw[ag nyD.symm,aa],s'.free hy,nyD.symm⟩
      rw[ag (ai e hD2),ag (ai (s' b o e) hy)];exact s' b o e
    rintro Z' H6 ⟨l1,v,rfl,hl1,g1,nd1,g2,s6⟩;have hl1:l1.length=x:=by
     have:l1.length=(x:Int).toNat:=hl1;omega
    walk_at "W";have ts6:=ts5.same s6;refine⟨rl,_,_,rfl,rfl,ts6.top,by show(1:Nat) < sizeLine;omega,?_⟩
    have kk:∀ b o,b≠rl->H6 b=some o->upd H6 rl (.lst [.ref D,.ref D2]) b=some o:=fun b o n e=>by rw[ag n];exact e
    have old:∀ y∈l0,H5 y=some (.lst []):=fun y hy=>K5 _ _ (fr0 y hy).1 (live4 y hy);have new1:∀ y∈l1,y≠rl/\y≠p/\H y=none:=fun y hy=>by
     have h5:=(g2 y hy).2.1;refine⟨fun z=>(by rw[z,ts5.top]at h5;cases h5),(R5.ne0 h5).symm,?_⟩
     cases e:H y with
     | none=>rfl
     | some o=>rw[ts5.k y o (R5.ne0 h5).symm e]at h5;cases h5
    have nD2:D2≠rl:=fun z=>by rw[z,ts5.top]at hD2;cases hD2
    have lr6:=ts6.lr 0 Nat.zero_lt_one;have lr1:LR H6 D2 (List.replicate x []) l1:=LR.bare g1 hl1 nd1 fun y hy=>⟨(g2 y hy).1,(g2 y hy).2.2⟩;have trl:∀ b xs,H6 b=some (.tup xs) -> ¬ b=rl:=fun b xs e=>aA e ts6.top (by intro z;cases z)
    have nDrl:D≠rl:=fun z=>by
     have h1:=lr6.top;have h2:=ts6.top;have h1:H6 D=some (.lst (l0.map V.ref)):=h1;rw[z,h2]at h1;have h3:[V.ref D]=l0.map V.ref:=by
      have:=Option.some.inj h1;injection this
     have:V.ref D∈l0.map V.ref:=by rw[← h3];exact List.mem_singleton.mpr rfl
     obtain⟨y,hy,e⟩:=List.mem_map.mp this;injection e with e;exact nDl y hy e
    walk_at "W";refine rest2 _ 2 (fun s=>if s=0 then D else D2) (fun s=>if s=0 then l0 else l1) (fun s=>if s=0 then n0 else x) mv (.inr ⟨rfl,rfl,m0,m1⟩) rfl ⟨?_,fun b o n e=>?_,aa,fun s hs=>?_,fun s s' hs hs' hne l hl hl'=>?_,fun s s' hs hs' l hl=>?_,fun s hs l hl=>?_,nrp,fun s hs=>?_⟩
    . obtain⟨a,b,c,h,gg⟩:=ts6.r
      exact⟨a,b,c,kk _ _ nrp.symm h,gg⟩
    . exact kk _ _ (fun z=>by
       have:=fr2 rl (s3.free hrl);rw[z,this.2]at e;cases e) (ts6.k _ _ n e)
    . by_cases e:s=0
      . subst e
        exact lr6.keep (G:=fun b=>b=rl) (fun b o n e=>kk b o n e) nDrl (fun b hb z=>nrl b hb z) trl
      have:s=1:=by omega
      subst this;exact lr1.keep (G:=fun b=>b=rl) (fun b o n e=>kk b o n e) nD2 (fun b hb=>(new1 b hb).1) trl
    . have both:∀ y,y∈l0->y∈l1->False:=fun y y0 y1=>by
       have:=old y y0;rw[(g2 y y1).2.1]at this;cases this
      by_cases e:s=0
      . subst e
        have e':s'=1:=by omega
        subst e';exact both l hl hl'
      have e1:s=1:=by omega
      subst e1;have e':s'=0:=by omega
      subst e';exact both l hl' hl
    . have c01:∀ y∈l0,y≠D2:=fun y y0 z=>by
       have:=old y y0;rw[z,hD2]at this;cases this
      have c10:∀ y∈l1,y≠D:=fun y y1 z=>by
       have h5:=(g2 y y1).2.1;have h6:H5 D=some (.lst (l0.map V.ref)):=(ts5.lr 0 Nat.zero_lt_one).top;rw[z,h6]at h5;cases h5
      by_cases e:s=0
      . subst e
        by_cases e':s'=0
        . subst e';exact nDl l hl
        show l≠if s'=0 then D else D2;rw[if_neg e'];exact c01 l hl
      have e1:s=1:=by omega
      subst e1;by_cases e':s'=0
      . subst e';exact c10 l hl
      show l≠if s'=0 then D else D2;rw[if_neg e'];exact(g2 l hl).2.2
    . by_cases e:s=0
      . subst e;exact⟨nrl l hl,fr0 l hl⟩
      have e1:s=1:=by omega
      subst e1;exact new1 l hl
    show(if s=0 then D else D2)≠p;by_cases e:s=0
    . rw[if_pos e];exact nDp
    rw[if_neg e];exact(R5.ne0 hD2).symm
 clear hN1;have hb2:∀ x:Nat,(V.int (x:Int)=V.int 2)->x=2:=fun x z=>by injection z with z;omega
 simp only[List.mem_cons,List.not_mem_nil,or_false]at hmo;rcases hmo with rfl | rfl | rfl
 . refine⟨rfl,?_⟩
   walk_at "W";refine bK (fun z=>nomatch z) ?_;walk_at "W";exact rest1 none (fun x e=>nomatch e)
 . refine⟨rfl,?_⟩
   walk_at "W";refine bK (fun z=>by injection z with z;omega) ?_
   walk_at "W";have:=rest1 (some (2*n0)) (fun x e=>by cases e;refine⟨?_,.inl rfl,by omega⟩;rcases hn0 with rfl | rfl | rfl | rfl <;> decide)
   rw[show oN (some (2*n0))=V.int (2*(n0:Int))from rfl]at this;exact this
 refine⟨rfl,?_⟩;walk_at "W";by_cases h4:n0=4
 . refine c5 (by rw[h4];rfl) ?_
   walk_at "W";exact rest1 (some 8) (fun x e=>by cases e;exact⟨by decide,.inl (by omega),by decide⟩)
 refine bK (fun z=>by injection z with z;omega) ?_
 walk_at "W";have:=rest1 (some (n0 / 2)) (fun x e=>by cases e;refine⟨?_,.inr (by omega),by omega⟩;rcases hn0 with rfl | rfl | rfl | rfl <;> first | exact absurd rfl h4 | decide)
 rw[show oN (some (n0 / 2))=V.int ((n0:Int) / 2)from rfl]at this;exact this
theorem B7{d:PyData}(h:iI d=true):bW d=false:=by
 cases d with
 | bool b=>rfl
 | _=>cases h
theorem By{d:PyData}(h:lK d=false):bW d=false:=by
 cases d with
 | bool b=>rfl
 | int i=>cases h
 | _=>rfl
theorem B9{d:PyData}(h:iI d=false)(h2:lK d=true):bW d=true:=by
 cases d with
 | bool b=>cases h
 | int i=>rfl
 | _=>cases h2
def sD(d:PyData):Prop:=∀ S,d=stD S->uu S
theorem tW{d:PyData}(h:szD d<=100000):Wd1 d:=fun ds e=>by
 subst e;rw[bT]at h;have:=oX ds;omega
theorem zi{d:PyData}(h:szD d<=100000):Wd2 d:=fun ds e=>⟨tW h ds e,fun x hx=>tW (by
 subst e;rw[bT]at h;have:=lT hx
 omega)⟩
theorem lh{d:PyData}(h:szD d<=100000):Wd3 d:=fun ds e x hx=>zi (by
 subst e;rw[bT]at h;have:=lT hx
 omega)
theorem oO{d:PyData}(h:szD d<=100000):sD d:=fun S e=>by
 subst e;rw[jD,r_,gk]at h;exact⟨by unfold Big;omega,by omega,by omega⟩
theorem nU{d:PyData}(h:szD d<=100000):uQ d:=fun S e=>(oO h S e).1
def sJ:Sp:=fun vs H Q _=>∃(v:V) (d:PyData) (t:Addr) (f m:Int),vs=[v,.ref t]/\Any H v d/\Wd3 d/\sD d/\H t=some (.tup [.int f,.int m])/\(0<=f/\f<=65535) /\ ∀ H' b,ac H H'->(aq d=false->b=false)->(aq d=true -> ∀ S,d=stD S->b=(aB f m S).isNone)->Q (.bl b) H'
theorem BE{H:Hp}{Q:VK}{E:XK}{v:V}{d:PyData}{t:Addr}{f m:Int}(h1:Any H v d)(h2:Wd3 d)(h3:sD d)(h4:H t=some (.tup [.int f,.int m]))(h5:0<=f/\f<=65535)(q:∀ H' b,ac H H'->(aq d=false->b=false)->(aq d=true -> ∀ S,d=stD S->b=(aB f m S).isNone)->Q (.bl b) H'):sJ ([v,.ref t]++[]) H Q E:=⟨v,d,t,f,m,rfl,h1,h2,h3,h4,h5,q⟩
theorem q9_(d:Dfn K mg "_law_is" yc ["thing","mixer"])(g:Gs K mg C CT CE CP CZ CR CV)(q23_:Fn P w K mg base "_law_are_rows" 2 ["rows"] gm)(q26_:Fn P w K mg base "_law_due" 2 ["state","mixer"] pF):Fn P w K mg base "_law_is" 3 ["thing","mixer"] sJ:=by
 refine d.fn oT (fun vs H Q E h=>?_) (fun f cdv A outer s H vs Q E hr h=>?_)
 . obtain⟨v,dd,t,fa,mo,rfl,_⟩:=h
   rfl
 obtain⟨v,dd,t,fa,mo,rfl,hd,hw,hb,ht,hf,q⟩:=h;have hd0:=hd;have q0:aq dd=false -> ∀ H',ac H H'->Q (.bl false) H':=fun e H' s'=>q _ _ s' (fun _=>rfl) fun z=>by rw[e]at z;cases z
 refine⟨_,(B.scons (B.ifs (B.tw (B.wor (B.tnot (B.tval (B.cB SW.bx g.b_isinstance SW.b_isinstance (B.cons (B.v 0) (B.cons (B.ty g.b_tuple SW.b_tuple) B.nil))))) (B.wor1 (B.tcmp eF (B.cB aj g.b_len SW.b_len (B.cons (B.v 0) B.nil)) B.int)))) (B.sone (B.ret B.bl)) B.snil)
  (B.scons (B.asg (B.v 0) (B.gtup (B.gcons (B.gname (i:=2) oT.nd) (B.gcons (B.gname (i:=3) oT.nd) (B.gcons (B.gname (i:=4) oT.nd) B.gnil)))))
  (B.scons (B.ifs (B.tw (B.wor (B.tval (B.cB SW.bx g.b_isinstance SW.b_isinstance (B.cons (B.v 3) (B.cons (B.ty g.b_bool SW.b_bool) B.nil)))) (B.wor (B.tnot (B.tval (B.cB SW.bx g.b_isinstance SW.b_isinstance (B.cons (B.v 3) (B.cons (B.ty g.b_int SW.b_int) B.nil))))) (B.wor1 (B.tnot (B.tval (B.fn q23_ hr.up (B.cons (B.v 4) B.nil)))))))) (B.sone (B.ret B.bl)) B.snil)
  (B.scons (B.ifs (B.tw (B.wand (B.tcmp cj (B.v 2) B.non) (B.wand1 (B.tnot (B.tval (B.fn q23_ hr.up (B.cons (B.v 2) B.nil))))))) (B.sone (B.ret B.bl)) B.snil)
  (B.sone (B.ret (B.cmp bZ (B.fn q26_ hr.up (B.cons (B.v 0) (B.cons (B.v 1) B.nil))) B.non))))))),?_⟩
 walk_at "W";refine SW.fB hd.ty (cn dd) ?_;walk_at "W";cases hd with
 | @tup a xs ds h r=>
   have hw':=hw ds rfl;refine ao ?_;walk_at "W";refine SW.bG (.inr (SqT.of h)) ?_;walk_at "W";rcases r with _ | ⟨h1,r⟩
   . refine bR (fun z=>by simp at z) ?_
     walk_at "W";exact q0 rfl _ (ac.refl _)
   rcases r with _ | ⟨h2,r⟩
   . refine bR (fun z=>by simp at z) ?_
     walk_at "W";exact q0 rfl _ (ac.refl _)
   rcases r with _ | ⟨h3,r⟩
   . refine bR (fun z=>by simp at z) ?_
     walk_at "W";exact q0 rfl _ (ac.refl _)
   rcases r with _ | ⟨h4,r⟩
   . rename_i x1 d1 x2 d2 x3 d3
     have eS:aq (.tuple [d1,d2,d3])=(cg d1 && bW d2 && ap d3):=rfl;refine cp rfl ?_;walk_at "W";refine⟨a,_,rfl,SqT.of h,rfl,_,_,rfl,?_⟩;walk_at "W";refine⟨_,_,rfl,?_⟩;walk_at "W";refine⟨_,_,rfl,?_⟩;walk_at "W";refine⟨rfl,?_⟩;walk_at "W";refine SW.fB h2.ty (di d2) ?_;walk_at "W";cases eB:iI d2 with
     | true=>
       have e2:bW d2=false:=B7 eB;refine az ?_;walk_at "W";exact q0 (by rw[eS,e2,Bool.and_false,Bool.false_and]) _ (ac.refl _)
     | false=>
       refine ao ?_;walk_at "W";refine SW.fB h2.ty (gI d2) ?_;walk_at "W";cases eI:lK d2 with
       | false=>
         have e2:bW d2=false:=By eI;refine az ?_;walk_at "W";exact q0 (by rw[eS,e2,Bool.and_false,Bool.false_and]) _ (ac.refl _)
       | true=>
         have e2:bW d2=true:=B9 eB eI;refine ao ?_;walk_at "W";refine iY h3 (hw' d3 (by simp)) fun H1 s1=>?_
         walk_at "W";cases e3:ap d3 with
         | false=>
           refine az ?_;walk_at "W";exact q0 (by rw[eS,e3,Bool.and_false]) _ s1
         | true=>
           refine ao ?_;walk_at "W";rename_i N1 hN1;have rest:cg d1=true -> ∀ H2,ac H H2->N1 [some (.ref a),some (.ref t),some x1,some x2,some x3] H2:=by
            intro e1 H2 s2;refine SW.wGo hN1 ?_;have eT:aq (.tuple [d1,d2,d3])=true:=by rw[eS,e1,e2,e3];rfl
            obtain⟨S,hS,eSt⟩:=jj hd0 eT;walk_at "W";refine AI (hS.keep (SW.ac.tk s2)) (hb S eSt) (s2 _ _ ht) hf fun v2 H3 s3 hv2=>?_;have fin:∀ b,b=(aB fa mo S).isNone->Q (.bl b) H3:=fun b eb=>q _ _ (s2.trans s3) (fun z=>by rw[eT]at z;cases z) fun _ S' eS'=>by rw[← lG (eSt.symm.trans eS')];exact eb
            walk_at "W";refine⟨rfl,?_⟩;cases ef:aB fa mo S with
            | none=>
              rw[ef]at hv2 fin;rw[show v2=V.non from hv2];exact fin _ rfl
            | some fl=>
              rw[ef]at hv2 fin;obtain⟨u,rfl,hu⟩:=hv2;exact fin _ rfl
           clear hN1;refine⟨rfl,?_⟩;walk_at "W";by_cases hx:x1=V.non
           . subst hx
             refine cp rfl ?_;refine ao ?_;walk_at "W";exact rest (by cases h1;rfl) _ s1
           have eN:cg d1=ap d1:=by cases h1 <;> first | exact absurd rfl hx | rfl
           refine bR hx ?_;walk_at "W";refine iY (h1.same s1) (hw' d1 (by simp)) fun H2 s2=>?_
           walk_at "W";cases e1:ap d1 with
           | false=>
             refine az ?_;walk_at "W";exact q0 (by rw[eS,eN,e1,Bool.false_and,Bool.false_and]) _ (s1.trans s2)
           | true=>
             refine ao ?_;walk_at "W";exact rest (eN.trans e1) _ (s1.trans s2)
   refine bR (fun z=>by simp at z;omega) ?_
   walk_at "W";exact q0 rfl _ (ac.refl _)
 | non=>refine az ?_;walk_at "W";exact q0 rfl _ (ac.refl _)
 | bl b=>refine az ?_;walk_at "W";exact q0 rfl _ (ac.refl _)
 | int i=>refine az ?_;walk_at "W";exact q0 rfl _ (ac.refl _)
 | str x=>refine az ?_;walk_at "W";exact q0 rfl _ (ac.refl _)
 | lst h r=>refine az ?_;walk_at "W";exact q0 rfl _ (ac.refl _)
 | dic h=>refine az ?_;walk_at "W";exact q0 rfl _ (ac.refl _)
def sF:Sp:=fun vs H Q _=>∃(v:V) (d:PyData) (t:Addr) (f m:Int),vs=[v,.ref t]/\Any H v d/\szD d<=100000/\H t=some (.tup [.int f,.int m])/\(0<=f/\f<=65535) /\ ∀ H',ac H H'->Q (.bl true) H'
theorem Bk{H:Hp}{Q:VK}{E:XK}{v:V}{d:PyData}{t:Addr}{f m:Int}(h1:Any H v d)(h2:szD d<=100000)(h4:H t=some (.tup [.int f,.int m]))(h5:0<=f/\f<=65535)(q:∀ H',ac H H'->Q (.bl true) H'):sF ([v,.ref t]++[]) H Q E:=⟨v,d,t,f,m,rfl,h1,h2,h4,h5,q⟩
theorem wg{K:W.Frag}:W.kitOne K (.type "bool") (.type "bool")=some true:=by
 show W.kitOne [] (.type "bool") (.type "bool")=some true;decide +kernel
def og:Sp:=fun vs H Q _=>∃(p:Addr) (v:V) (q:Int×Int),vs=[.ref p,v]/\Row H p/\PrV H v q /\ ∀ v' H' d',Any (bL p H') v' d'->szD d'<=10->Row H' p->al p H H'->Q v' H'
theorem zU{H:Hp}{Q:VK}{E:XK}{p:Addr}{v:V}{q:Int×Int}(h1:Row H p)(h2:PrV H v q)(k:∀ v' H' d',Any (bL p H') v' d'->szD d'<=10->Row H' p->al p H H'->Q v' H'):og ([.ref p,v]++[]) H Q E:=⟨p,v,q,rfl,h1,h2,k⟩
theorem Cg(d:Dfn K mg "_law_odd_pair" xZ ["row","pair"])(g:Gs K mg C CT CE CP CZ CR CV)(q40_:Fn P w K mg base "_law_take" 1 ["row","many"] cH):Fn P w K mg base "_law_odd_pair" 2 ["row","pair"] og:=by
 refine d.fn mH (fun vs H Q E h=>?_) (fun f cdv A outer s H vs Q E hr h=>?_)
 . obtain⟨p,v,q,rfl,_⟩:=h
   rfl
 obtain⟨p,v,⟨k1,y1⟩,rfl,R0,⟨u,rfl,hu⟩,k⟩:=h;have hu:H u=some (.tup [.int k1,.int y1]):=hu;have one_:(1:Nat)<=sizeLine:=by decide
 have two_:(2:Nat)<=sizeLine:=by decide
 have three_:(3:Nat)<=sizeLine:=by decide
 refine⟨_,(B.scons (B.asg (B.v 1) (B.gtup (B.gcons (B.gname (i:=2) mH.nd) (B.gcons (B.gname (i:=3) mH.nd) B.gnil))))
  (B.scons (B.set 4 mH.nd (B.lst (B.cons (B.tup (B.cons (B.v 2) (B.cons (B.v 3) (B.cons B.int B.nil)))) (B.cons (B.tup (B.cons (B.v 2) B.nil)) (B.cons (B.lst (B.cons (B.v 2) (B.cons (B.v 3) B.nil))) (B.cons (B.tup (B.cons B.bl (B.cons (B.v 3) B.nil))) (B.cons (B.tup (B.cons (B.v 2) (B.cons B.bl B.nil))) (B.cons (B.tup (B.cons (B.v 2) (B.cons B.non B.nil))) (B.cons (B.tup (B.cons B.str (B.cons (B.v 3) B.nil))) (B.cons (B.v 2) (B.cons B.non B.nil)))))))))))
  (B.scons (B.set 4 mH.nd (B.op m6 (B.v 4) (B.lst (B.cons (B.tup (B.cons (B.v 2) (B.cons (B.op bv (B.op cG B.int B.int) B.int) B.nil))) (B.cons (B.tup (B.cons (B.v 2) (B.cons (B.op jF (B.un eU (B.op cG B.int B.int)) B.int) B.nil))) (B.cons (B.tup (B.cons (B.op bv (B.op cG B.int B.int) B.int) (B.cons (B.v 3) B.nil))) (B.cons (B.tup (B.cons (B.v 2) (B.cons B.str B.nil))) (B.cons (B.tup (B.cons (B.lst (B.cons (B.v 2) B.nil)) (B.cons (B.v 3) B.nil))) B.nil))))))))
  (B.sone (B.ret (B.ix ay (B.v 4) (B.fn q40_ hr.up (B.cons (B.v 0) (B.cons B.int B.nil))))))))),?_⟩
 walk_at "W";refine⟨u,_,rfl,SqT.of hu,rfl,_,_,rfl,?_⟩;walk_at "W";refine⟨_,_,rfl,?_⟩;walk_at "W";refine⟨rfl,?_⟩;have A0:cf p 10 H []:=cf.nil;have S0:ac H H:=ac.refl _;walk_at "W";refine⟨three_,fun t1 h1=>?_⟩;have A1:=A0.tup (xs:=[.int k1,.int y1,.int 0]) R0 h1 (an3 (.int _) (.int _) (.int _)) (by simp only[gb,jB,eJ,aZ,bN,aU,cm,bI];decide)
 have R1:=R0.new (o:=.tup [.int k1,.int y1,.int 0]) h1;have S1:=S0.trans (ac.new (o:=.tup [.int k1,.int y1,.int 0]) h1);walk_at "W";refine⟨one_,fun t2 h2=>?_⟩;have A2:=A1.tup (xs:=[.int k1]) R1 h2 (an1 (.int _)) (by simp only[gb,jB,eJ,aZ,bN,aU,cm,bI];decide)
 have R2:=R1.new (o:=.tup [.int k1]) h2;have S2:=S1.trans (ac.new (o:=.tup [.int k1]) h2);walk_at "W";refine⟨two_,fun t3 h3=>?_⟩;have A3:=A2.lst (xs:=[.int k1,.int y1]) R2 h3 (an2 (.int _) (.int _)) (by decide)
 have R3:=R2.new (o:=.lst [.int k1,.int y1]) h3;have S3:=S2.trans (ac.new (o:=.lst [.int k1,.int y1]) h3);walk_at "W";refine⟨two_,fun t4 h4=>?_⟩;have A4:=A3.tup (xs:=[.bl true,.int y1]) R3 h4 (an2 (.bl _) (.int _)) (by simp only[gb,jB,eJ,aZ,bN,aU,cm,bI];decide)
 have R4:=R3.new (o:=.tup [.bl true,.int y1]) h4;have S4:=S3.trans (ac.new (o:=.tup [.bl true,.int y1]) h4);walk_at "W";refine⟨two_,fun t5 h5=>?_⟩;have A5:=A4.tup (xs:=[.int k1,.bl true]) R4 h5 (an2 (.int _) (.bl _)) (by simp only[gb,jB,eJ,aZ,bN,aU,cm,bI];decide)
 have R5:=R4.new (o:=.tup [.int k1,.bl true]) h5;have S5:=S4.trans (ac.new (o:=.tup [.int k1,.bl true]) h5);walk_at "W";refine⟨two_,fun t6 h6=>?_⟩;have A6:=A5.tup (xs:=[.int k1,.non]) R5 h6 (an2 (.int _) .non) (by simp only[gb,jB,eJ,aZ,bN,aU,cm,bI];decide)
 have R6:=R5.new (o:=.tup [.int k1,.non]) h6;have S6:=S5.trans (ac.new (o:=.tup [.int k1,.non]) h6);walk_at "W";refine⟨two_,fun t7 h7=>?_⟩;have A7:=A6.tup (xs:=[.str "0",.int y1]) R6 h7 (an2 (.str _) (.int _)) (by simp only[gb,jB,eJ,aZ,bN,aU,cm,bI];decide)
 have R7:=R6.new (o:=.tup [.str "0",.int y1]) h7;have S7:=S6.trans (ac.new (o:=.tup [.str "0",.int y1]) h7);have A8:=A7.cons (.int k1) (by rw[aZ];decide)
 have R8:=R7;have S8:=S7;have A9:=A8.cons (.non) (by rw[aU];decide)
 have R9:=R8;have S9:=S8;walk_at "W";refine⟨by show(9:Nat)<=sizeLine;decide,fun L1 hL1=>?_⟩
 have i9:=ac.new (o:=.lst [.ref t1,.ref t2,.ref t3,.ref t4,.ref t5,.ref t6,.ref t7,.int k1,.non]) hL1;have A10:=A9.same i9;have R10:=R9.same i9;have S10:=S9.trans i9;walk_at "W";refine⟨two_,fun t11 h11=>?_⟩;have A11:=A10.tup (xs:=[.int k1,.int (10 ^ Int.toNat 9+1)]) R10 h11 (an2 (.int _) (.int _)) (by simp only[gb,jB,eJ,aZ,bN,aU,cm,bI];decide)
 have R11:=R10.new (o:=.tup [.int k1,.int (10 ^ Int.toNat 9+1)]) h11;have S11:=S10.trans (ac.new (o:=.tup [.int k1,.int (10 ^ Int.toNat 9+1)]) h11);walk_at "W";refine⟨two_,fun t12 h12=>?_⟩;have A12:=A11.tup (xs:=[.int k1,.int (-(10 ^ Int.toNat 9) - 1)]) R11 h12 (an2 (.int _) (.int _)) (by simp only[gb,jB,eJ,aZ,bN,aU,cm,bI];decide)
 have R12:=R11.new (o:=.tup [.int k1,.int (-(10 ^ Int.toNat 9) - 1)]) h12;have S12:=S11.trans (ac.new (o:=.tup [.int k1,.int (-(10 ^ Int.toNat 9) - 1)]) h12);walk_at "W";refine⟨two_,fun t13 h13=>?_⟩;have A13:=A12.tup (xs:=[.int (10 ^ Int.toNat 9+65536),.int y1]) R12 h13 (an2 (.int _) (.int _)) (by simp only[gb,jB,eJ,aZ,bN,aU,cm,bI];decide)
 have R13:=R12.new (o:=.tup [.int (10 ^ Int.toNat 9+65536),.int y1]) h13;have S13:=S12.trans (ac.new (o:=.tup [.int (10 ^ Int.toNat 9+65536),.int y1]) h13);walk_at "W";refine⟨two_,fun t14 h14=>?_⟩;have A14:=A13.tup (xs:=[.int k1,.str "1"]) R13 h14 (an2 (.int _) (.str _)) (by simp only[gb,jB,eJ,aZ,bN,aU,cm,bI];decide)
 have R14:=R13.new (o:=.tup [.int k1,.str "1"]) h14;have S14:=S13.trans (ac.new (o:=.tup [.int k1,.str "1"]) h14);walk_at "W";refine⟨one_,fun t15 h15=>?_⟩;have B15:=lU (xs:=[.int k1]) R14 h15 (an1 (.int _));have A15:=A14.new (o:=.lst [.int k1]) h15;have R15:=R14.new (o:=.lst [.int k1]) h15;have S15:=S14.trans (ac.new (o:=.lst [.int k1]) h15);walk_at "W";refine⟨two_,fun t16 h16=>?_⟩;have A16:=A15.tup (xs:=[.ref t15,.int y1]) R15 h16 (an2 B15 (.int _)) (by simp only[jB,aZ,bI];decide)
 have R16:=R15.new (o:=.tup [.ref t15,.int y1]) h16;have S16:=S15.trans (ac.new (o:=.tup [.ref t15,.int y1]) h16);walk_at "W";refine⟨by show(5:Nat)<=sizeLine;decide,fun L2 hL2=>?_⟩
 have i17:=ac.new (o:=.lst [.ref t11,.ref t12,.ref t13,.ref t14,.ref t16]) hL2;have A17:=A16.same i17;have R17:=R16.same i17;have S17:=S16.trans i17;walk_at "W";refine⟨L1,L2,[.ref t1,.ref t2,.ref t3,.ref t4,.ref t5,.ref t6,.ref t7,.int k1,.non],_,rfl,rfl,?_,aa,by show(14:Nat)<=sizeLine;decide,fun L3 hL3=>?_⟩
 . exact i17 _ _ (ac.new h16 _ _ (ac.new h15 _ _ (ac.new h14 _ _ (ac.new h13 _ _ (ac.new h12 _ _ (ac.new h11 _ _ aa))))))
 have i18:=ac.new (o:=.lst [.ref t1,.ref t2,.ref t3,.ref t4,.ref t5,.ref t6,.ref t7,.int k1,.non,.ref t11,.ref t12,.ref t13,.ref t14,.ref t16]) hL3;have A18:=A17.same i18;have R18:=R17.same i18;have S18:=S17.trans i18;have nL:=(R17.ne0 hL3).symm;walk_at "W";refine bi R18 (by decide) (by decide) fun r H5 a5 b5 R5 K5=>?_
 have e5:=K5 L3 _ nL aa;obtain⟨v,hv,hm⟩:=cb (xs:=[V.ref t1,.ref t2,.ref t3,.ref t4,.ref t5,.ref t6,.ref t7,.int k1,.non,.ref t11,.ref t12,.ref t13,.ref t14,.ref t16]) a5 b5;refine ce e5 hv ?_;obtain⟨dd,hd,hs⟩:=(A18.but K5) v (List.mem_reverse.mp hm);exact k _ _ dd hd hs R5 ((SW.ac.but S18).trans K5)
def oh:Sp:=fun vs H Q _=>∃(p:Addr) (v:V) (e:Option af) (n:Nat),vs=[.ref p,v]/\Row H p/\ElV H v e/\SzE n e/\n<=5000 /\ ∀ v' H' d',Any (bL p H') v' d'->szD d'<=12*n+40->Row H' p->al p H H'->Q v' H'
theorem wv{H:Hp}{Q:VK}{E:XK}{p:Addr}{v:V}{e:Option af}{n:Nat}(h1:Row H p)(h2:ElV H v e)(h3:SzE n e)(h4:n<=5000)(k:∀ v' H' d',Any (bL p H') v' d'->szD d'<=12*n+40->Row H' p->al p H H'->Q v' H'):oh ([.ref p,v]++[]) H Q E:=⟨p,v,e,n,rfl,h1,h2,h3,h4,k⟩
theorem gY{H:Hp}{xs ys:List V}{ds es:List PyData}(h:Anys H xs ds)(g:Anys H ys es):Anys H (xs++ys) (ds++es):=Anys.app g h
theorem pN{H:Hp}{xs:List V}{R:af}(h:Paired (dB H) xs R):Anys H xs (R.map dm):=gD h
theorem Cc(d:Dfn K mg "_law_odd_rows" vK ["row","rows"])(g:Gs K mg C CT CE CP CZ CR CV)(q40_:Fn P w K mg base "_law_take" 1 ["row","many"] cH)(q33_:Fn P w K mg base "_law_odd_pair" 2 ["row","pair"] og):Fn P w K mg base "_law_odd_rows" 3 ["row","rows"] oh:=by
 refine d.fn mO (fun vs H Q E h=>?_) (fun f cdv A outer s H vs Q E hr h=>?_)
 . obtain⟨p,v,e,n,rfl,_⟩:=h
   rfl
 obtain⟨p,v,e,n,rfl,hp,he,hsz,hn,k⟩:=h;have lim:sizeLine=16777216:=sizeLine_eq;have zero_:(0:Nat)<=sizeLine:=by decide
 have one_:(1:Nat)<=sizeLine:=by decide
 have two_:(2:Nat)<=sizeLine:=by decide
 have seven:∀ H0,ac H H0->tOp (fA (dC CX0 P w K mg base ["row","rows","at","kind","pair"] "_law_odd_rows" (ah vK) f cdv A outer s H E).nox.K) (rL (bU (rL c9) (bU nV (bU (tC (V.str "rows")) (bU (tC (V.int 0)) (bU (gA (bU (gA c9) c9)) (bU (gA (bU (tC V.non) c9)) (bU (tC (V.bl true)) c9)))))))) (hV cH [] E0 (bU (gx 0) (bU (tC (V.int 7)) c9))) [some (.ref p),some v,none,none,none] H0 Q:=by
  intro H0 S0;have R0:=hp.same S0;have A0:cf p 10 H0 []:=cf.nil;walk_at "W";refine⟨zero_,fun t1 h1=>?_⟩;have A1:=A0.lst (xs:=[]) R0 h1 an0 (by decide)
  have R1:=R0.new (o:=.lst []) h1;have S1:=S0.trans (ac.new (o:=.lst []) h1);walk_at "W";intro t2 h2;have A2:=A1.dic R1 h2 (by decide)
  have R2:=R1.new (o:=.dK []) h2;have S2:=S1.trans (ac.new (o:=.dK []) h2);have A3:=A2.cons (.str "rows") (by rw[cm];decide)
  have A4:=A3.cons (.int 0) (by rw[aZ];decide)
  walk_at "W";refine⟨zero_,fun t5 h5=>?_⟩;have B5:=lE (xs:=[]) R2 h5 an0;have A5:=A4.new (o:=.tup []) h5;have R5:=R2.new (o:=.tup []) h5;have S5:=S2.trans (ac.new (o:=.tup []) h5);walk_at "W";refine⟨one_,fun t6 h6=>?_⟩;have A6:=A5.tup (xs:=[.ref t5]) R5 h6 (an1 B5) (by simp only[gb,Ac];decide)
  have R6:=R5.new (o:=.tup [.ref t5]) h6;have S6:=S5.trans (ac.new (o:=.tup [.ref t5]) h6);walk_at "W";refine⟨one_,fun t7 h7=>?_⟩;have A7:=A6.tup (xs:=[.non]) R6 h7 (an1 .non) (by simp only[gb,aU];decide)
  have R7:=R6.new (o:=.tup [.non]) h7;have S7:=S6.trans (ac.new (o:=.tup [.non]) h7);have A8:=A7.cons (.bl true) (by rw[bN];decide)
  walk_at "W";refine⟨by show(7:Nat)<=sizeLine;decide,fun L hL=>?_⟩
  have i9:=ac.new (o:=.lst [.ref t1,.ref t2,.str "rows",.int 0,.ref t6,.ref t7,.bl true]) hL;have A9:=A8.same i9;have R9:=R7.same i9;have S9:=S7.trans i9;have nL:=(R7.ne0 hL).symm;walk_at "W";refine bi R9 (by decide) (by decide) fun r H5 a5 b5 R5 K5=>?_
  have e5:=K5 L _ nL aa;obtain⟨v,hv,hm⟩:=cb (xs:=[V.ref t1,.ref t2,.str "rows",.int 0,.ref t6,.ref t7,.bl true]) a5 b5;refine ce e5 hv ?_;obtain⟨dd,hd,hs⟩:=(A9.but K5) v (List.mem_reverse.mp hm);exact k _ _ dd hd (by omega) R5 ((SW.ac.but S9).trans K5)
 refine⟨_,(B.scons (B.ifs (B.tw (B.wor (B.tcmp bZ (B.v 1) B.non) (B.wor1 (B.tcmp (o_ (jh hr)) (B.v 1) (B.tup B.nil))))) (B.sone (B.ret (B.ix ay (B.lst (B.cons (B.lst B.nil) (B.cons B.dnew (B.cons B.str (B.cons B.int (B.cons (B.tup (B.cons (B.tup B.nil) B.nil)) (B.cons (B.tup (B.cons B.non B.nil)) (B.cons B.bl B.nil)))))))) (B.fn q40_ hr.up (B.cons (B.v 0) (B.cons B.int B.nil)))))) B.snil)
  (B.scons (B.set 2 mO.nd (B.fn q40_ hr.up (B.cons (B.v 0) (B.cons (B.cB aj g.b_len SW.b_len (B.cons (B.v 1) B.nil)) B.nil))))
  (B.scons (B.set 3 mO.nd (B.fn q40_ hr.up (B.cons (B.v 0) (B.cons B.int B.nil))))
  (B.scons (B.set 4 mO.nd (B.tup (B.cons B.int (B.cons B.int B.nil))))
  (B.scons (B.ifs (B.tcmp (SW.uM (jh hr)) (B.ix av (B.v 1) (B.v 2)) (B.tup B.nil)) (B.sone (B.set 4 mO.nd (B.ix av (B.ix av (B.v 1) (B.v 2)) B.int))) B.snil)
  (B.scons (B.ifs (B.tcmp cz (B.v 3) B.int) (B.sone (B.ret (B.cT db g.b_list SW.b_list (B.cons (B.v 1) B.nil)))) B.snil)
  (B.scons (B.ifs (B.tcmp cz (B.v 3) B.int) (B.sone (B.ret (B.op da (B.op da (B.slice SW.cM (B.v 1) B.nopart (B.part (B.v 2))) (B.tup (B.cons (B.ix ay (B.lst (B.cons (B.cT db g.b_list SW.b_list (B.cons (B.ix av (B.v 1) (B.v 2)) B.nil)) (B.cons B.non (B.cons B.str (B.cons B.dnew (B.cons B.int B.nil)))))) (B.fn q40_ hr.up (B.cons (B.v 0) (B.cons B.int B.nil)))) B.nil))) (B.slice SW.cM (B.v 1) (B.part (B.op bv (B.v 2) B.int)) B.nopart)))) B.snil)
  (B.sone (B.ret (B.op da (B.op da (B.slice SW.cM (B.v 1) B.nopart (B.part (B.v 2))) (B.tup (B.cons (B.op da (B.tup (B.cons (B.fn q33_ hr.up (B.cons (B.v 0) (B.cons (B.v 4) B.nil))) B.nil)) (B.slice SW.cM (B.ix av (B.v 1) (B.v 2)) (B.part B.int) B.nopart)) B.nil))) (B.slice SW.cM (B.v 1) (B.part (B.op bv (B.v 2) B.int)) B.nopart))))))))))),?_⟩
 walk_at "W";refine⟨rfl,?_⟩;walk_at "W";cases e with
 | none=>
   have he:v=V.non:=he;subst he;refine c5 rfl ?_;refine az ?_;exact wRet (seven H (ac.refl _))
 | some R=>
   obtain⟨a,xs,rfl,ha,hrs⟩:=(show bt H v R from he);have hsz:R.length<=n/\tot R<=n:=⟨hsz.1,hsz.2.1⟩;have hxl:=aH hrs;refine bK (fun z=>nomatch z) ?_;walk_at "W";refine⟨zero_,fun e0 he0=>?_⟩;have s1:=ac.new (o:=.tup []) he0;walk_at "W";refine⟨a,e0,xs,rfl,rfl,SqT.of (s1 _ _ ha),SqT.of aa,?_⟩;walk_at "W";cases hxs:xs with
   | nil=>
     refine az ?_;exact wRet (seven _ s1)
   | cons y0 ys0=>
     refine ao ?_;have hpos:0 < xs.length:=by rw[hxs];exact Nat.zero_lt_succ _
     clear hxs seven;have hp1:=hp.same s1;have ha1:=s1 _ _ ha;walk_at "W";refine SW.bG (.inr (SqT.of ha1)) ?_;walk_at "W";refine bi hp1 (by omega) (by omega) fun at_ H2 a0 a1 R2 K2=>?_
     walk_at "W";refine bi R2 (by decide) (by decide) fun kind H3 c0 c1 R3 K3=>?_
     walk_at "W";refine⟨two_,fun t1 h1=>?_⟩;have i4:=ac.new (o:=.tup [.int 0,.int 1]) h1;have R4:=R3.same i4;have K04:al p H (upd H3 t1 (.tup [.int 0,.int 1])):=((SW.ac.but s1).trans K2).trans (K3.trans (SW.ac.but i4));have et1:PrV (upd H3 t1 (.tup [.int 0,.int 1])) (.ref t1) (0,1):=⟨t1,rfl,aa⟩;obtain⟨H4,hH4⟩:∃ H4,H4=upd H3 t1 (.tup [.int 0,.int 1]):=⟨_,rfl⟩;rw[← hH4]at R4 K04 et1 ⊢;clear hH4 i4;have tk4:=ci hp K04;have ha4:=tk4 _ _ ha;have hrs4:=ba hrs tk4;obtain⟨i,rfl⟩:∃ i:Nat,at_=i:=⟨at_.toNat,by omega⟩
     have hi:i < xs.length:=by omega
     have hxi:xs[i]?=some xs[i]:=List.getElem?_eq_getElem hi;obtain⟨r,hri,b,ys,eb,hb,hps⟩:=aX hrs4 hxi;have hyl:=hps.len;have hrt:r.length<=n:=by
      have h2:=cv R (i+1);rw[aw hri,cu]at h2;have h3:tot [r]=r.length:=by unfold tot;simp
      omega
     walk_at "W";refine nO ha4 (bH hxi) ?_;rw[eb];walk_at "W";refine⟨zero_,fun t2 h2=>?_⟩;have i5:=ac.new (o:=.tup []) h2;walk_at "W";refine⟨b,t2,ys,rfl,rfl,SqT.of (i5 _ _ hb),SqT.of aa,?_⟩;walk_at "W";rename_i N1 hN1;have rest:∀ vp q H5,ac H4 H5->PrV H5 vp q->N1 [some (.ref p),some (.ref a),some (.int i),some (.int kind),some vp] H5:=by
      intro vp q H5 s5 hvp;refine SW.wGo hN1 ?_;have R5:=R4.same s5;have ha5:=s5 _ _ ha4;have K05:=K04.trans (SW.ac.but s5);have hrs5:=ba hrs4 (SW.ac.tk s5);have hb5:=s5 _ _ hb;have hps5:=hps.keep (SW.ac.tk s5);have AN5:Anys (bL p H5) xs (R.map dm):=pN (ba hrs5 (iH R5));have AR5:Anys (bL p H5) ys (r.map fun q=>PyData.tuple [.int q.1,.int q.2]):=lW (hps5.keep (iH R5));have szR:=jL R;have szr:=nC r;walk_at "W";refine fb (fun _=>?_) (fun _=>?_)
      . walk_at "W"
        refine⟨a,xs,rfl,.inr (SqT.of ha5),fun l hl=>?_⟩;exact k _ _ _ (lU R5 hl AN5) (by rw[bI];omega) (R5.new hl) (K05.trans (al.new hl))
      walk_at "W";refine fb (fun _=>?_) (fun _=>?_)
      . walk_at "W"
        refine⟨_,rfl,a,xs,rfl,ha5,fun q1 H6 s6 hq1=>?_⟩;walk_at "W";refine nO (s6 _ _ ha5) (bH hxi) ?_;rw[eb];have R6:=R5.same s6;have AR6:=fY AR5 (SW.ac.but s6);have A6:cf p 10 H6 []:=cf.nil;walk_at "W";refine⟨b,ys,rfl,.inr (SqT.of (s6 _ _ hb5)),fun t3 h3=>?_⟩;have A7:=A6.lst R6 h3 AR6 (by decide)
        have R7:=R6.new (o:=.lst ys) h3;have S7:=s6.trans (ac.new (o:=.lst ys) h3);have A8:=A7.cons .non (by rw[aU];decide)
        have A9:=A8.cons (.str "") (by rw[cm];decide)
        walk_at "W";intro t4 h4;have A10:=A9.dic R7 h4 (by decide)
        have R10:=R7.new (o:=.dK []) h4;have i10:=ac.new (o:=.dK []) h4;have S10:=S7.trans i10;have A11:=A10.cons (.int 0) (by rw[aZ];decide)
        walk_at "W";refine⟨by show(5:Nat)<=sizeLine;decide,fun L hL=>?_⟩
        have i12:=ac.new (o:=.lst [.ref t3,.non,.str "",.ref t4,.int 0]) hL;have A12:=A11.same i12;have R12:=R10.same i12;have S12:=S10.trans i12;have hq12:=i12 _ _ (i10 _ _ (ac.new (o:=.lst ys) h3 _ _ hq1));have nL:=(R10.ne0 hL).symm;walk_at "W";refine bi R12 (by decide) (by decide) fun z H13 z0 z1 R13 K13=>?_
        have e13:=K13 L _ nL aa;obtain⟨v,hv,hm⟩:=cb (xs:=[V.ref t3,.non,.str "",.ref t4,.int 0]) z0 z1;refine ce e13 hv ?_;obtain⟨dd,hd,hs⟩:=(A12.but K13) v (List.mem_reverse.mp hm);have K513:al p H5 H13:=(SW.ac.but S12).trans K13;walk_at "W";refine⟨one_,fun t5 h5=>?_⟩;have i14:=ac.new (o:=.tup [v]) h5;have tk13:=ci R12 K13;have ha14:=i14 _ _ (ci R5 K513 _ _ ha5);have l1:=bw xs none (some (i:Int));have l2:=bw xs (some ((i:Int)+1)) none;walk_at "W";refine⟨q1,t5,_,_,rfl,rfl,i14 _ _ (tk13 _ _ hq12),aa,by show _+1<=sizeLine;omega,fun q2 H15 s15 hq2=>?_⟩
        walk_at "W";refine⟨_,rfl,?_⟩;walk_at "W";refine⟨a,xs,rfl,s15 _ _ ha14,fun q3 H16 s16 hq3=>?_⟩;walk_at "W";refine⟨q2,q3,_,_,rfl,rfl,s16 _ _ hq2,hq3,by rw[List.length_append];show _+1+_<=sizeLine;omega,fun q4 H17 s17 hq4=>?_⟩
        have S1317:=(i14.trans s15).trans (s16.trans s17);have R17:=R13.same S1317;have K517:=K513.trans (SW.ac.but (p:=p) S1317);have AN17:=fY AN5 K517;have hd17:=eh hd (SW.ac.but S1317);have c1:=fo (R.map dm) none (some (i:Int));have c2:=fo (R.map dm) (some ((i:Int)+1)) none;refine k _ _ _ (.tup (dz R17 hq4) (gY (gY (AN17.cut none (some (i:Int))) (an1 hd17)) (AN17.cut (some ((i:Int)+1)) none))) ?_ R17 (K05.trans K517);rw[bT,c8,c8];show 1+(_+szL [dd]+_)<=_;rw[show szL [dd]=szD dd from by rw[szL,szL];rfl]
        omega
      walk_at "W";refine⟨_,rfl,a,xs,rfl,ha5,fun q1 H6 s6 hq1=>?_⟩;have R6:=R5.same s6;walk_at "W";refine zU R6 (hvp.keep (SW.ac.tk s6)) fun v H13 dd hd hs R13 K13=>?_;have K513:al p H5 H13:=(SW.ac.but s6).trans K13;have tk13:=ci R6 K13;have tk513:=ci R5 K513;walk_at "W";refine⟨one_,fun t5 h5=>?_⟩;have i14:=ac.new (o:=.tup [v]) h5;have ha14:=i14 _ _ (tk513 _ _ ha5);walk_at "W";refine nO ha14 (bH hxi) ?_;rw[eb];walk_at "W";refine⟨_,rfl,?_⟩;walk_at "W";refine⟨b,ys,rfl,i14 _ _ (tk513 _ _ hb5),fun q6 H15 s15 hq6=>?_⟩;have l1:=bw xs none (some (i:Int));have l2:=bw xs (some ((i:Int)+1)) none;have l3:=bw ys (some (1:Int)) none;walk_at "W";refine⟨t5,q6,_,_,rfl,rfl,s15 _ _ aa,hq6,by show 1+_<=sizeLine;omega,fun q7 H16 s16 hq7=>?_⟩
      walk_at "W";refine⟨one_,fun q8 hq8=>?_⟩;have i17:=ac.new (o:=.tup [.ref q7]) hq8;have S1417:=(i14.trans s15).trans (s16.trans i17);walk_at "W";refine⟨q1,q8,_,_,rfl,rfl,S1417 _ _ (tk13 _ _ hq1),aa,by show _+1<=sizeLine;omega,fun q9 H18 s18 hq9=>?_⟩
      walk_at "W";refine⟨_,rfl,?_⟩;walk_at "W";refine⟨a,xs,rfl,s18 _ _ (S1417 _ _ (tk513 _ _ ha5)),fun q10 H19 s19 hq10=>?_⟩;walk_at "W";refine⟨q9,q10,_,_,rfl,rfl,s19 _ _ hq9,hq10,by rw[List.length_append];show _+1+_<=sizeLine;omega,fun q11 H20 s20 hq11=>?_⟩
      have S1820:=s18.trans (s19.trans s20);have S1320:=S1417.trans S1820;have R20:=R13.same S1320;have K520:=K513.trans (SW.ac.but (p:=p) S1320);have AN20:=fY AN5 K520;have AR20:=fY AR5 K520;have hd20:=eh hd (SW.ac.but S1320);have hq720:H20 q7=some (.tup ([v]++bQ ys (some (1:Int)) none)):=S1820 _ _ (i17 _ _ hq7);have B20:Any (bL p H20) (.ref q7) (.tuple ([dd]++ut (r.map fun q=>PyData.tuple [.int q.1,.int q.2]) (some (1:Int)) none)):=.tup (dz R20 hq720) (gY (an1 hd20) (AR20.cut (some (1:Int)) none));have c1:=fo (R.map dm) none (some (i:Int));have c2:=fo (R.map dm) (some ((i:Int)+1)) none;have c3:=fo (r.map fun q=>PyData.tuple [.int q.1,.int q.2]) (some (1:Int)) none;refine k _ _ _ (.tup (dz R20 hq11) (gY (gY (AN20.cut none (some (i:Int))) (an1 B20)) (AN20.cut (some ((i:Int)+1)) none))) ?_ R20 (K05.trans K520);rw[bT,c8,c8];show 1+(_+szL [PyData.tuple _]+_)<=_;rw[show ∀ x,szL [x]=szD x from fun x=>by rw[szL,szL];rfl,bT,c8,show ∀ x,szL [x]=szD x from fun x=>by rw[szL,szL];rfl]
      omega
     clear hN1;cases hys:ys with
     | nil=>
       refine ao ?_;walk_at "W";exact rest _ _ _ i5 (et1.keep (SW.ac.tk i5))
     | cons z0 zs0=>
       refine az ?_;have hz0:ys[0]?=some z0:=by rw[hys];rfl
       obtain⟨q,hq,hpr⟩:=aX hps hz0;walk_at "W";refine nO (i5 _ _ ha4) (bH hxi) ?_;rw[eb];walk_at "W";refine nO (i:=0) (i5 _ _ hb) (bH (j:=0) hz0) ?_;walk_at "W";exact rest _ _ _ i5 (PrV.keep hpr (SW.ac.tk i5))
def nZ:Sp:=fun vs H Q _=>∃(p:Addr) (v:V) (S:Sta) (n:Nat),vs=[.ref p,v]/\Row H p/\StV H v S/\SzS n S/\n<=2000 /\ ∀ v' H' d',Any (bL p H') v' d'->szD d'<=20*n+100->Row H' p->al p H H'->Q v' H'
theorem AQ{H:Hp}{Q:VK}{E:XK}{p:Addr}{v:V}{S:Sta}{n:Nat}(h1:Row H p)(h2:StV H v S)(h3:SzS n S)(h4:n<=2000)(k:∀ v' H' d',Any (bL p H') v' d'->szD d'<=20*n+100->Row H' p->al p H H'->Q v' H'):nZ ([.ref p,v]++[]) H Q E:=⟨p,v,S,n,rfl,h1,h2,h3,h4,k⟩
theorem wH{n:Nat}{e:Option af}(h:SzE n e):szD (elD e)<=4*n+1:=by
 have h:(e.getD []).length<=n/\tot (e.getD [])<=n:=⟨h.1,h.2.1⟩;rw[r_];omega
theorem we{n:Nat}{R:af}(h:SzR n R):szD (bh R)<=4*n+1:=by
 have h:R.length<=n/\tot R<=n:=⟨h.1,h.2.1⟩;rw[gk];omega
theorem BU(d:Dfn K mg "_law_odd" zo ["row","state"])(g:Gs K mg C CT CE CP CZ CR CV)(q40_:Fn P w K mg base "_law_take" 1 ["row","many"] cH)(q34_:Fn P w K mg base "_law_odd_rows" 3 ["row","rows"] oh):Fn P w K mg base "_law_odd" 4 ["row","state"] nZ:=by
 refine d.fn mD (fun vs H Q E h=>?_) (fun f cdv A outer s H vs Q E hr h=>?_)
 . obtain⟨p,v,S,n,rfl,_⟩:=h
   rfl
 obtain⟨p,v,S,n,rfl,hp,⟨u,ve,vn,rfl,hu,he,hn⟩,⟨z1,z2⟩,hnl,k⟩:=h;have lim:sizeLine=16777216:=sizeLine_eq;have zero_:(0:Nat)<=sizeLine:=by decide
 have one_:(1:Nat)<=sizeLine:=by decide
 have three:(3:Nat)<=sizeLine:=by decide
 have y1:=wH z1;have y2:=we z2;have fin:∀ H5 v1 v2 v3 d1 d2 d3,Any (bL p H5) v1 d1->Any (bL p H5) v2 d2->Any (bL p H5) v3 d3->szD d1+szD d2+szD d3<=20*n+90->Row H5 p->al p H H5 -> ∀ t,H5 t=none->Q (.ref t) (upd H5 t (.tup [v1,v2,v3])):=fun H5 v1 v2 v3 d1 d2 d3 h1 h2 h3 hz h4 h5 t ht=>
  k _ _ _ (lE h4 ht (an3 h1 h2 h3)) (by rw[eJ];omega) (h4.new ht) (h5.trans (al.new ht))
 refine⟨_,(B.scons (B.asg (B.v 1) (B.gtup (B.gcons (B.gname (i:=2) mD.nd) (B.gcons (B.gname (i:=3) mD.nd) (B.gcons (B.gname (i:=4) mD.nd) B.gnil)))))
  (B.scons (B.set 5 mD.nd (B.fn q40_ hr.up (B.cons (B.v 0) (B.cons B.int B.nil))))
  (B.scons (B.ifs (B.tcmp cz (B.v 5) B.int) (B.sone (B.ret (B.ix ay (B.lst (B.cons (B.cT db g.b_list SW.b_list (B.cons (B.v 1) B.nil)) (B.cons (B.slice SW.cM (B.v 1) B.nopart (B.part B.int)) (B.cons (B.op da (B.v 1) (B.tup (B.cons B.int B.nil))) (B.cons B.non (B.cons (B.lst B.nil) (B.cons B.dnew (B.cons B.str (B.cons B.int (B.cons (B.tup B.nil) (B.cons (B.tup (B.cons (B.v 1) B.nil)) B.nil))))))))))) (B.fn q40_ hr.up (B.cons (B.v 0) (B.cons B.int B.nil)))))) B.snil)
  (B.scons (B.ifs (B.tcmp cz (B.v 5) B.int) (B.sone (B.ret (B.tup (B.cons (B.v 2) (B.cons (B.ix ay (B.lst (B.cons B.bl (B.cons B.bl (B.cons B.non (B.cons B.str (B.cons (B.tup (B.cons B.int B.nil)) (B.cons (B.lst (B.cons B.int B.nil)) B.nil))))))) (B.fn q40_ hr.up (B.cons (B.v 0) (B.cons B.int B.nil)))) (B.cons (B.v 4) B.nil)))))) B.snil)
  (B.scons (B.ifs (B.tcmp cz (B.v 5) B.int) (B.sone (B.ret (B.tup (B.cons (B.fn q34_ hr.up (B.cons (B.v 0) (B.cons (B.v 2) B.nil))) (B.cons (B.v 3) (B.cons (B.v 4) B.nil)))))) B.snil)
  (B.sone (B.ret (B.tup (B.cons (B.v 2) (B.cons (B.v 3) (B.cons (B.fn q34_ hr.up (B.cons (B.v 0) (B.cons (B.v 4) B.nil))) B.nil))))))))))),?_⟩
 walk_at "W";refine⟨u,_,rfl,SqT.of hu,rfl,_,_,rfl,?_⟩;walk_at "W";refine⟨_,_,rfl,?_⟩;walk_at "W";refine⟨_,_,rfl,?_⟩;walk_at "W";refine⟨rfl,?_⟩;walk_at "W";refine bi hp (by decide) (by decide) fun kind H1 c0 c1 R1 K1=>?_
 have tk1:=ci hp K1;have he1:=he.keep tk1;have hn1:=hn.keep tk1;have hu1:=tk1 _ _ hu;have ae:Any (bL p H1) ve (elD S.el):=su (he1.keep (iH R1));have an:Any (bL p H1) vn (bh S.nw):=cR (hn1.keep (iH R1));have as_:Anys (bL p H1) [ve,.int S.mv,vn] [elD S.el,.int S.mv,bh S.nw]:=an3 ae (.int _) an;have au:Any (bL p H1) (.ref u) (.tuple [elD S.el,.int S.mv,bh S.nw]):=.tup (dz R1 hu1) as_;walk_at "W";refine fb (fun _=>?_) (fun _=>?_)
 . have A0:cf p (20*n+50) H1 []:=cf.nil
   walk_at "W";refine⟨u,_,rfl,.inr (SqT.of hu1),fun t1 h1=>?_⟩;have A1:=A0.lst R1 h1 as_ (by omega)
   have i1:=ac.new (o:=.lst [ve,.int S.mv,vn]) h1;have R2:=R1.same i1;walk_at "W";refine⟨2,rfl,u,_,rfl,i1 _ _ hu1,fun t2 H2 s2 ht2=>?_⟩;have i2:=i1.trans s2;have R3:=R2.same s2;have A2:=(A1.same s2).cons (.tup (dz R3 ht2) ((as_.same (dQ i2)).cut none (some 2))) (by
    have c:=fo [elD S.el,.int S.mv,bh S.nw] none (some 2);have e:szL [elD S.el,.int S.mv,bh S.nw]=szD (elD S.el)+1+szD (bh S.nw):=by rw[szL,szL,szL,szL,aZ];omega
    rw[bT];omega)
   walk_at "W";refine⟨one_,fun t3 h3=>?_⟩;have i3:=i2.trans (ac.new (o:=.tup [.int 0]) h3);have A3:=A2.new (o:=.tup [.int 0]) h3;have R4:=R3.new (o:=.tup [.int 0]) h3;walk_at "W";refine⟨u,t3,_,_,rfl,rfl,i3 _ _ hu1,aa,by show(4:Nat)<=sizeLine;decide,fun t4 H4 s4 ht4=>?_⟩
   have i4:=i3.trans s4;have R5:=R4.same s4;have A4:=(A3.same s4).cons (.tup (dz R5 ht4) (gY (as_.same (dQ i4)) (an1 (.int 0)))) (by
    rw[bT,c8,szL,szL,szL,szL,szL,szL,aZ,aZ];omega)
   have A5:=A4.cons .non (by rw[aU];omega)
   walk_at "W";refine⟨zero_,fun t6 h6=>?_⟩;have A6:=A5.lst (xs:=[]) R5 h6 an0 (by omega)
   have R6:=R5.new (o:=.lst []) h6;have i6:=i4.trans (ac.new (o:=.lst []) h6);walk_at "W";intro t7 h7;have A7:=A6.dic R6 h7 (by omega)
   have R7:=R6.new (o:=.dK []) h7;have i7:=i6.trans (ac.new (o:=.dK []) h7);have A8:=A7.cons (.str "state") (by rw[cm];omega)
   have A9:=A8.cons (.int 5) (by rw[aZ];omega)
   walk_at "W";refine⟨zero_,fun t10 h10=>?_⟩;have A10:=A9.tup (xs:=[]) R7 h10 an0 (by rw[Ac];omega)
   have R10:=R7.new (o:=.tup []) h10;have i10:=i7.trans (ac.new (o:=.tup []) h10);walk_at "W";refine⟨one_,fun t11 h11=>?_⟩;have A11:=A10.tup (xs:=[.ref u]) R10 h11 (an1 (au.same (dQ i10))) (by rw[gb,eJ,aZ];omega)
   have R11:=R10.new (o:=.tup [.ref u]) h11;have i11:=i10.trans (ac.new (o:=.tup [.ref u]) h11);walk_at "W";refine⟨by show(10:Nat)<=sizeLine;decide,fun L hL=>?_⟩
   have j12:=ac.new (o:=.lst [.ref t1,.ref t2,.ref t4,.non,.ref t6,.ref t7,.str "state",.int 5,.ref t10,.ref t11]) hL;have A12:=A11.same j12;have R12:=R11.same j12;have i12:=i11.trans j12;have nL:=(R11.ne0 hL).symm;walk_at "W";refine bi R12 (by decide) (by decide) fun z H13 z0 z1 R13 K13=>?_
   have e13:=K13 L _ nL aa;obtain⟨v,hv,hm⟩:=cb (xs:=[V.ref t1,.ref t2,.ref t4,.non,.ref t6,.ref t7,.str "state",.int 5,.ref t10,.ref t11]) z0 z1;refine ce e13 hv ?_;obtain⟨dd,hd,hs⟩:=(A12.but K13) v (List.mem_reverse.mp hm);exact k _ _ dd hd (by omega) R13 ((K1.trans (SW.ac.but i12)).trans K13)
 walk_at "W";refine fb (fun _=>?_) (fun _=>?_)
 . have A0:cf p 10 H1 []:=cf.nil
   have A1:=A0.cons (.bl true) (by rw[bN];decide)
   have A2:=A1.cons (.bl false) (by rw[bN];decide)
   have A3:=A2.cons .non (by rw[aU];decide)
   have A4:=A3.cons (.str "0") (by rw[cm];decide)
   walk_at "W";refine⟨one_,fun t1 h1=>?_⟩;have A5:=A4.tup (xs:=[.int 0]) R1 h1 (an1 (.int _)) (by rw[gb,aZ];decide)
   have R2:=R1.new (o:=.tup [.int 0]) h1;have i2:=ac.new (o:=.tup [.int 0]) h1;walk_at "W";refine⟨one_,fun t2 h2=>?_⟩;have A6:=A5.lst (xs:=[.int 0]) R2 h2 (an1 (.int _)) (by decide)
   have R3:=R2.new (o:=.lst [.int 0]) h2;have i3:=i2.trans (ac.new (o:=.lst [.int 0]) h2);walk_at "W";refine⟨by show(6:Nat)<=sizeLine;decide,fun L hL=>?_⟩
   have j4:=ac.new (o:=.lst [.bl true,.bl false,.non,.str "0",.ref t1,.ref t2]) hL;have A7:=A6.same j4;have R4:=R3.same j4;have i4:=i3.trans j4;have nL:=(R3.ne0 hL).symm;walk_at "W";refine bi R4 (by decide) (by decide) fun z H13 z0 z1 R13 K13=>?_
   have e13:=K13 L _ nL aa;obtain⟨v,hv,hm⟩:=cb (xs:=[V.bl true,.bl false,.non,.str "0",.ref t1,.ref t2]) z0 z1;refine ce e13 hv ?_;obtain⟨dd,hd,hs⟩:=(A7.but K13) v (List.mem_reverse.mp hm);have K113:al p H1 H13:=(SW.ac.but i4).trans K13;walk_at "W";exact⟨three,fin H13 _ _ _ _ _ _ (eh ae K113) hd (eh an K113) (by omega) R13 (K1.trans K113)⟩
 walk_at "W";refine fb (fun _=>?_) (fun _=>?_)
 . walk_at "W"
   refine wv R1 he1 z1 (by omega) fun v H2 dd hd hs R2 K2=>?_
   walk_at "W";exact⟨three,fin H2 _ _ _ _ _ _ hd (.int S.mv) (eh an K2) (by rw[aZ];omega) R2 (K1.trans K2)⟩
 walk_at "W";refine wv (e:=some S.nw) R1 hn1 z2 (by omega) fun v H2 dd hd hs R2 K2=>?_
 walk_at "W";exact⟨three,fin H2 _ _ _ _ _ _ (eh ae K2) (.int S.mv) hd (by rw[aZ];omega) R2 (K1.trans K2)⟩
theorem p6{R:af}{j:Nat}{r:ar}(h:R[j]?=some r):(R.take (j+1)).flatten=(R.take j).flatten++r:=by
 rw[aw h,List.flatten_append,List.flatten_singleton]
theorem yN{r:ar}(h:r.length<=100000):Wd1 (dm r):=fun ds e=>by
 unfold dm at e;injection e with e;rw[← e,List.length_map];exact h
theorem ow{R:af}(h1:R.length<=100000)(h2:tot R<=100000):Wd2 (bh R):=fun ds e=>by
 unfold bh at e;injection e with e;rw[← e,List.length_map];refine⟨h1,fun x hx=>?_⟩;obtain⟨r,hr,rfl⟩:=List.mem_map.mp hx;refine yN (Nat.le_trans ?_ h2);clear hx e h1 h2
 induction R with
 | nil=>cases hr
 | cons q R ih=>
   show r.length<=q.length+tot R;rcases List.mem_cons.mp hr with rfl | hr
   . omega
   have:=ih hr;omega
theorem qI{f m:Int}{M:MT}(T:TOk f m M)(h:SW.cnt M<=100000):Wd3 (stD (eD M))/\uQ (stD (eD M)):=by
 have h1:=fZ M;unfold cW at h1;rw[List.length_append,bq,bq]at h1;have sz:∀{n:Nat},am n->n<=100000:=fun {n} z=>by
  unfold am at z;simp only[List.mem_cons,List.not_mem_nil,or_false]at z;omega
 refine⟨fun ds e x hx=>?_,fun S e=>?_⟩
 . unfold stD at e
   injection e with e;rw[← e]at hx;simp only[List.mem_cons,List.not_mem_nil,or_false]at hx;rcases hx with rfl | rfl | rfl
   . show Wd2 (elD M.el)
     cases e2:M.el with
     | none=>intro ds z;cases z
     | some E=>exact ow (sz (T.el E e2).2.1) (by rw[e2]at h1;have h3:tot E+tot M.nw=SW.cnt M:=h1;omega)
   . intro ds z;cases z
   exact ow (R:=M.nw) (sz T.sz) (by omega)
 obtain rfl:=lG e;show tot (M.el.getD [])+tot M.nw<=100000;omega
theorem qO{K:W.Frag}{H:Hp}:∀{zs:List V}{r:ar},Prs H zs r -> ∃ ps:List (Addr×Int×V),zs=ps.map (fun p=>V.ref p.1)/\(∀ p∈ps,SqT K H p.1 [.int p.2.1,p.2.2])/\ps.map (fun p=>(p.2.1,p.2.2))=r.map (fun q=>(q.1,V.int q.2))
 | _,_,.nil=>⟨[],rfl,(fun p hp=>nomatch hp),rfl⟩
 | _,_,.cons h t=>by
   obtain⟨ps,e1,e2,e3⟩:=qO (K:=K) t;obtain⟨b,rfl,hb⟩:=h;refine⟨(b,_,_)::ps,by rw[List.map_cons,e1],fun p hp=>?_,by rw[List.map_cons,List.map_cons,e3]⟩
   rcases List.mem_cons.mp hp with rfl | hp
   . exact SqT.of hb
   exact e2 p hp
theorem ph{f m:Int}{R:af}(P:POk f m R){p:Int×Int}:p∈R.flatten ↔ aF f m R p.1=some p.2:=by
 constructor
 . intro h
   obtain⟨r,hr,hp⟩:=List.mem_flatten.mp h;obtain⟨i,hi⟩:=List.mem_iff_getElem?.mp hr;have e:=P.at_ i r p hi hp;show aP (R.getD (plc f m R.length p.1) []) p.1=some p.2;rw[e,List.getD_eq_getElem?_getD,hi];exact f_ (P.ok r hr) hp
 intro h;have h:aP (R.getD (plc f m R.length p.1) []) p.1=some p.2:=h;rw[List.getD_eq_getElem?_getD]at h;cases e:R[plc f m R.length p.1]? with
 | none=>rw[e]at h;exact nomatch h
 | some r=>
   rw[e]at h;exact List.mem_flatten.mpr ⟨r,List.mem_of_getElem? e,g_ h⟩
theorem m3{f m:Int}{N:af}{k v:Int}(h:aF f m N k=some v):(k,v)∈N.flatten:=by
 have h:aP (N.getD (plc f m N.length k) []) k=some v:=h;rw[List.getD_eq_getElem?_getD]at h;cases e:N[plc f m N.length k]? with
 | none=>rw[e]at h;exact nomatch h
 | some r=>
   rw[e]at h;exact List.mem_flatten.mpr ⟨r,List.mem_of_getElem? e,g_ h⟩
theorem rM{f m:Int}{M:MT}{k v:Int}(h:cX f m M k=some v):(k,v)∈cW M:=by
 unfold cX at h;unfold cW;cases e:onE f m M k with
 | some w=>
   rw[e]at h;obtain rfl:w=v:=Option.some.inj h;unfold onE at e;cases e2:M.el with
   | none=>rw[e2]at e;cases e
   | some E=>
     rw[e2]at e;exact List.mem_append_left _ (m3 e)
 | none=>
   rw[e]at h;exact List.mem_append_right _ (m3 h)
theorem tM{f m:Int}{M:MT}(T:TOk f m M)(k:Int):aP (cW M) k=cX f m M k:=by
 cases e:cX f m M k with
 | some v=>exact f_ T.pairs (rM e)
 | none=>
   cases e2:aP (cW M) k with
   | none=>rfl
   | some v=>
     have:=T.tell (g_ e2);rw[e]at this;cases this
theorem kY(R:af):bj R=R.flatten.map (·.1):=by
 unfold bj
 induction R with
 | nil=>rfl
 | cons r R ih=>rw[List.flatMap_cons,List.flatten_cons,List.map_append,ih]
theorem yJ{R:af}{r:ar}(h:(bj R).Nodup)(hr:r∈R):ROk r:=by
 obtain⟨a,b,rfl⟩:=List.append_of_mem hr;rw[dY]at h;have h:=(List.nodup_append.mp h).2.1;have h:(r.map (·.1)++bj b).Nodup:=h;exact(List.nodup_append.mp h).1
theorem mh{f m mv:Int}{R:af}(h:ff f m mv R)(nd:(bj R).Nodup):POk f m R:=by
 refine⟨fun i r p hr hp=>?_,fun r hr=>yJ nd hr⟩;have h0:0 < R.length:=Nat.lt_of_le_of_lt (Nat.zero_le _) (List.getElem?_eq_some_iff.mp hr).1;have e:=gq (f:=f) (m:=m) (k:=p.1) h0;rw[(h i r hr p hp).1]at e;exact Int.ofNat.inj e
structure fH(f m:Int)(S:Sta):Prop where
 h1:bp S=true
 h2:bS S=true
 h3:ff f m S.mv (S.el.getD [])
 h4:ff f m 0 S.nw
 h5:(bj (S.el.getD [])++bj S.nw).Nodup
theorem kr.rs{f m:Int}{S:Sta}(h:kr f m S):fH f m S:=⟨h.h1,h.h2,h.h3,h.h4,h.h5⟩
theorem fH.tok{f m:Int}{S:Sta}(h:fH f m S):∃ M:MT,eD M=S/\TOk f m M/\Rat M/\M.el=S.el/\M.nw=S.nw:=by
 obtain⟨h1,h2,h3,h4,h5⟩:=h;unfold bp at h1;unfold bS at h2;rw[Bool.and_eq_true]at h1 h2;obtain⟨p1,p2⟩:=h1;obtain⟨q1,q2⟩:=h2;have p1:am S.nw.length:=of_decide_eq_true p1;have q1:0<=S.mv:=of_decide_eq_true q1;have q2:=of_decide_eq_true q2;have em:((S.mv.toNat:Nat):Int)=S.mv:=Int.toNat_of_nonneg q1;have nds:=List.nodup_append.mp h5;have pn:=mh h4 nds.2.1;refine⟨⟨S.el,S.mv.toNat,S.nw⟩,?_,⟨pn,p1,fun E e=>?_,fun e=>?_⟩,fun E e=>?_,rfl,rfl⟩
 . show Sta.mk S.el ((S.mv.toNat:Nat):Int) S.nw=S
   rw[em]
 . have e:S.el=some E:=e
   rw[e]at p2 q2 h3 nds h5;have p2:(decide (am E.length) && (decide (E.length=2*S.nw.length) || decide (S.nw.length=2*E.length)))=true:=p2;rw[Bool.and_eq_true]at p2;have q2:S.mv < (E.length:Int):=q2;have pe:=mh h3 nds.1;refine⟨pe,of_decide_eq_true p2.1,by show S.mv.toNat < E.length;omega,fun i r hi hr=>?_,fun k hk=>?_⟩
   . cases r with
     | nil=>rfl
     | cons x xs=>exact absurd (show(i:Int) < S.mv by have hi:i < S.mv.toNat:=hi;omega) (h3 i _ hr x List.mem_cons_self).2
   cases e1:aF f m E k with
   | none=>exact absurd e1 hk
   | some v=>
     cases e2:aF f m S.nw k with
     | none=>rfl
     | some v'=>
       have m1:k∈bj E:=by rw[kY];exact List.mem_map_of_mem (f:=(·.1)) ((ph (p:=(k,v)) pe).mpr e1)
       have m2:k∈bj S.nw:=by rw[kY];exact List.mem_map_of_mem (f:=(·.1)) ((ph (p:=(k,v')) pn).mpr e2)
       exact absurd rfl (nds.2.2 k m1 k m2)
 . have e:S.el=none:=e
   rw[e]at q2;have q2:S.mv < 1:=q2;show S.mv.toNat=0;omega
 have e:S.el=some E:=e;rw[e]at p2;have p2:(decide (am E.length) && (decide (E.length=2*S.nw.length) || decide (S.nw.length=2*E.length)))=true:=p2;rw[Bool.and_eq_true,Bool.or_eq_true]at p2;rcases p2.2 with z | z
 . exact .inl (of_decide_eq_true z)
 exact .inr (of_decide_eq_true z)
theorem xm{H:Hp}{v:V}{M:MT}(h:StV H v (eD M)):StU H v M:=by
 obtain⟨a,e,w,rfl,ha,he,hw⟩:=h;refine⟨a,e,w,rfl,ha,?_,hw⟩;have he:ElV H e M.el:=he;cases z:M.el with
 | none=>rw[z]at he;exact he
 | some E=>rw[z]at he;exact he
def gO(C CT:Addr):Sp:=fun vs H Q _=>∃(v:V) (t:Addr) (n f m:Int) (M:MT),vs=[v,.ref t,.int n]/\StU H v M/\TOk f m M/\Rat M/\(∀ p∈cW M,InB p)/\SW.cnt M<=5000/\H t=some (.tup [.int f,.int m])/\(0<=f/\f<=65535)/\0<=n /\ ∀ p H' F,Tb C CT H' p f m n.toNat M 0 F->(∀ b,F b->H b=none)->ac H H'->Q (.ref p) H'
theorem iU{C CT:Addr}{v:V}{t:Addr}{n f m:Int}{M:MT}{H:Hp}{Q:VK}{E:XK}(h1:StU H v M)(h2:TOk f m M)(h3:Rat M)(h4:∀ p∈cW M,InB p)(h5:SW.cnt M<=5000)(h6:H t=some (.tup [.int f,.int m]))(h7:0<=f/\f<=65535)(h8:0<=n)(k:∀ p H' F,Tb C CT H' p f m n.toNat M 0 F->(∀ b,F b->H b=none)->ac H H'->Q (.ref p) H'):gO C CT ([v,.ref t,.int n]++[]) H Q E:=⟨v,t,n,f,m,M,rfl,h1,h2,h3,h4,h5,h6,h7,h8,k⟩
theorem rp{ps:List (Int×V)}(h:(ps.map (·.1)).Nodup):mQ ps=ps.map fun p=>(Sum.inl p.1,p.2):=by
 have gen:∀(ps:List (Int×V)) (kv:List (Key×V)),(ps.map (·.1)).Nodup->(∀ q∈kv,∀ p∈ps,q.1≠Sum.inl p.1)->ps.foldl (fun kv p=>ck kv (.inl p.1) p.2) kv=kv++ps.map fun p=>(Sum.inl p.1,p.2):=by
  intro ps
  induction ps with
  | nil=>intro kv _ _;exact(List.append_nil _).symm
  | cons p r ih=>
    intro kv nd hk;have nd':p.1∉r.map (·.1)/\(r.map (·.1)).Nodup:=List.nodup_cons.mp nd;rw[List.foldl_cons,uc fun q hq=>hk q hq p List.mem_cons_self,ih _ nd'.2 fun q hq p' hp'=>?_,List.append_assoc]
    . rfl
    rcases List.mem_append.mp hq with z | z
    . exact hk q z p' (List.mem_cons_of_mem _ hp')
    rw[List.mem_singleton.mp z];intro e;exact nd'.1 (List.mem_map.mpr ⟨p',hp',(Sum.inl.inj e).symm⟩)
 exact gen ps [] h (fun q hq=>nomatch hq)
def NoD(f m:Int)(d:PyData):Prop:=aq d=true -> ∃ S,d=stD S/\(aB f m S).isNone=false
def kR(CV:Addr):Sp:=fun vs H _ E=>∃(v:V) (d:PyData) (t:Addr) (n f m:Int),vs=[v,.ref t,.int n]/\Any H v d/\szD d<=100000/\H t=some (.tup [.int f,.int m])/\(0<=f/\f<=65535)/\NoD f m d /\ ∀ H',ac H H'->E (.ref CV) none H'
theorem jS:bootBuiltins "ValueError"=some (.type "ValueError"):=by decide +kernel
def eZ:Sp:=fun vs H Q _=>∃(v:V) (d:PyData) (t:Addr) (n f m:Int),vs=[v,.ref t,.int n]/\Any H v d/\szD d<=100000/\H t=some (.tup [.int f,.int m])/\(0<=f/\f<=65535)/\NoD f m d /\ ∀ H',ac H H'->Q (.bl true) H'
theorem cC{H:Hp}{Q:VK}{E:XK}{v:V}{d:PyData}{t:Addr}{n f m:Int}(h1:Any H v d)(h2:szD d<=100000)(h3:H t=some (.tup [.int f,.int m]))(h4:0<=f/\f<=65535)(h5:NoD f m d)(k:∀ H',ac H H'->Q (.bl true) H'):eZ ([v,.ref t,.int n]++[]) H Q E:=⟨v,d,t,n,f,m,rfl,h1,h2,h3,h4,h5,k⟩
theorem Cy{K:W.Frag}{te:XK->TE}{CB:Addr}{i:Nat}{ts:L2.TS}{D:L2.eM}{Z:L2.St}{H:Hp}(h:te (fun cls _ H'=>∃ C,cls=.ref C/\W.exmOne K (.ref C) (.ref CB)=some true /\ ∀ ea,H' ea=none->ts { nx:=fun Z2 H2=>D.nx (Z2.set i none) H2,rt:=fun _ _=>False } (Z.set i (some (.ref ea))) (upd H' ea (j_ ea C))) Z H (fun _ H1=>D.nx Z H1)):yR K te CB i ts D Z H:=h
theorem rj{K:W.Frag}{C:Addr}:W.kitOne K (.ref C) (.ref C)=some true:=by
 simp[W.kitOne]
theorem BY(d:Dfn K mg "table_of" uw ["state","mixer","pace"])(g:Gs K mg C CT CE CP CZ CR CV)(q14_:Fn P w K mg base "is_sound" 7 ["state","mixer"] dU)(q77_:Mkr P w K mg base CT "Table" 6 ["self","mixer","pace","state"] (iG C CT)):Fn P w K mg base "table_of" 8 ["state","mixer","pace"] (gO C CT):=by
 refine d.fn wL (fun vs H Q E h=>?_) (fun f' cdv A outer st H vs Q E hr h=>?_)
 . obtain⟨v,t,n,f,m,M,rfl,_⟩:=h
   rfl
 obtain⟨v,t,n,f,m,M,rfl,hv,T,R,hb,hc,ht,hf,hn,k⟩:=h;obtain⟨w3,bd⟩:=qI T (Nat.le_trans hc (by decide))
 have hst:=wR hb;have hsd:=T.sound R;refine⟨_,(B.scons (B.ifs (B.tnot (B.tval (B.fn q14_ hr.up (B.cons (B.v 0) (B.cons (B.v 1) B.nil))))) (B.sone B.never) B.snil)
  (B.sone (B.ret (B.make q77_ hr.up (B.cons (B.v 1) (B.cons (B.v 2) (B.cons (B.v 0) B.nil))))))),?_⟩
 walk_at "W";refine iL (fQ hv.stv) w3 bd ht hf fun H2 b s2 _ hb=>?_;have eb:b=true:=(hb hst _ rfl).trans (by rw[hsd];rfl)
 subst eb;walk_at "W";refine ao ?_;walk_at "W";refine uj (n:=n) (s2 _ _ ht) hf hn T hc (.inr (hv.keep (b8.same s2))) fun tb H3 F S3 n3 s3=>?_;walk_at "W";exact k tb H3 F S3 (fun b hb=>s2.free (n3 b hb)) (s2.trans s3)
theorem B8(d:Dfn K mg "table_of" uw ["state","mixer","pace"])(g:Gs K mg C CT CE CP CZ CR CV)(q14_:Fn P w K mg base "is_sound" 7 ["state","mixer"] dU)(q77_:Mkr P w K mg base CT "Table" 6 ["self","mixer","pace","state"] (iG C CT)):FnX P w K mg base "table_of" 8 ["state","mixer","pace"] (kR CV):=by
 refine d.fnX wL (fun vs H Q E h=>?_) (fun f' cdv A outer st H vs Q E hr h=>?_)
 . obtain⟨v,dd,t,n,f,m,rfl,_⟩:=h
   rfl
 obtain⟨v,dd,t,n,f,m,rfl,hd,hz,ht,hf,hn,k⟩:=h;refine⟨_,(B.scons (B.ifs (B.tnot (B.tval (B.fn q14_ hr.up (B.cons (B.v 0) (B.cons (B.v 1) B.nil))))) (B.sone (SW.B.raise g.e_NoState)) B.snil)
  (B.sone (B.ret (B.make q77_ hr.up (B.cons (B.v 1) (B.cons (B.v 2) (B.cons (B.v 0) B.nil))))))),?_⟩
 walk_at "W";refine iL hd (lh hz) (nU hz) ht hf fun H2 b s2 h1 h2=>?_;have eb:b=false:=by
  cases e:aq dd with
  | false=>exact h1 e
  | true=>
    obtain⟨S,e1,e2⟩:=hn e;rw[h2 e S e1,e2]
 subst eb;walk_at "W";refine az ?_;walk_at "W";exact k _ s2
theorem Bv(d:Dfn K mg "_law_refused" xB ["state","mixer","pace"])(g:Gs K mg C CT CE CP CZ CR CV)(q71_:FnX P w K mg base "table_of" 8 ["state","mixer","pace"] (kR CV)):Fn P w K mg base "_law_refused" 9 ["state","mixer","pace"] eZ:=by
 refine d.fn oH (fun vs H Q E h=>?_) (fun f' cdv A outer st H vs Q E hr h=>?_)
 . obtain⟨v,dd,t,n,f,m,rfl,_⟩:=h
   rfl
 obtain⟨v,dd,t,n,f,m,rfl,hd,hz,ht,hf,hn,k⟩:=h;have lim:sizeLine=16777216:=sizeLine_eq;refine⟨_,(B.scons (B.set 3 oH.nd B.non)
  (B.scons (SW.B.tryF (i:=4) q71_ hr.up (fun _=>B.cons (B.v 0) (B.cons (B.v 1) (B.cons (B.v 2) B.nil))) g.m_SlowError oH.nd
   (fun ea=>B.sone (B.set 3 oH.nd (B.v 4))))
  (B.scons (B.ifs (B.tw (B.wor (B.tval (B.cB (SW.gW K) g.b_isinstance SW.b_isinstance (B.cons (B.v 3) (B.cons (B.tup (B.cons (B.gref g.m_NoPlace) (B.cons (B.gref g.m_NoRow) (B.cons (B.gref g.m_NoSize) B.nil)))) B.nil)))) (B.wor1 (B.tnot (B.tval (B.cB (SW.gW K) g.b_isinstance SW.b_isinstance (B.cons (B.v 3) (B.cons (B.ty g.b_ValueError jS) B.nil)))))))) (B.sone (B.ret B.bl)) B.snil)
  (B.sone (B.ret (B.cB (SW.gW K) g.b_isinstance SW.b_isinstance (B.cons (B.v 3) (B.cons (B.gref g.m_NoState) B.nil)))))))),?_⟩
 walk_at "W";rename_i N hN;refine Cy ?_;walk_at "W";refine⟨v,dd,t,n,f,m,rfl,hd,hz,ht,hf,hn,fun H1 s1=>⟨CV,rfl,g.s_NoState,fun ea hea=>?_⟩⟩;have s2:=s1.trans (ac.new (o:=j_ ea CV) hea);have ee:upd H1 ea (j_ ea CV) ea=some (j_ ea CV):=aa;generalize upd H1 ea (j_ ea CV)=H2 at *;walk_at "W";refine show N [some v,some (.ref t),some (.int n),some (.ref ea),none] H2 from ?_;refine SW.wGo hN ?_;walk_at "W";refine⟨by show(3:Nat)<=sizeLine;omega,fun tp htp=>?_⟩
 have s3:=ac.new (o:=.tup [.ref CP,.ref CR,.ref CZ]) htp;have et:upd H2 tp (.tup [.ref CP,.ref CR,.ref CZ]) tp=some (.tup ([CP,CR,CZ].map V.ref)):=aa;have ee3:=s3 _ _ ee;have s4:=s2.trans s3;generalize upd H2 tp (.tup [.ref CP,.ref CR,.ref CZ])=H3 at *;refine⟨ea,CV,_,false,rfl,ee3,g.x_NoState,.inr ⟨tp,[CP,CR,CZ],rfl,et,g.o_NoState⟩,?_⟩;walk_at "W";refine ao ?_;walk_at "W";refine⟨ea,CV,_,true,rfl,ee3,g.x_NoState,.inl ⟨_,rfl,g.v_NoState⟩,?_⟩;walk_at "W";refine ao ?_;walk_at "W";refine⟨ea,CV,_,true,rfl,ee3,g.x_NoState,.inl ⟨_,rfl,rj⟩,?_⟩;walk_at "W";exact k H3 s4
theorem jk{f m:Int}{sz:Bool->Nat}{mv:Bool->Int}:∀(ts:List eO) (ks:List Int),aM f m sz mv ks ts=none->ks.Nodup->(∀ t∈ts,(t.2.2*f+m) % 65536 % (sz t.1:Int)=t.2.1 /\ ¬ (t.2.1:Int) < mv t.1)/\(ks++ts.map (·.2.2)).Nodup
 | [],ks,_,nd=>⟨(fun t ht=>nomatch ht),by rw[List.map_nil,List.append_nil];exact nd⟩
 | (sh,i,k)::ts,ks,h,nd=>by
   rw[bC]at h;by_cases h1:(k*f+m) % 65536 % (sz sh:Int)≠i
   . rw[if_pos h1]at h;cases h
   rw[if_neg h1]at h;by_cases h2:(i:Int) < mv sh
   . rw[if_pos h2]at h;cases h
   rw[if_neg h2]at h;by_cases h3:k∈ks
   . rw[if_pos h3]at h;cases h
   rw[if_neg h3]at h;have nd2:(ks++[k]).Nodup:=eu nd h3;obtain⟨a,b⟩:=jk ts (ks++[k]) h nd2;refine⟨fun t ht=>?_,?_⟩
   . rcases List.mem_cons.mp ht with rfl | ht
     . exact⟨Classical.not_not.mp h1,h2⟩
     exact a t ht
   rw[List.map_cons];rw[List.append_assoc]at b;exact b
theorem jd{sh:Bool}{x:Int×Int}{r:ar}(hx:x∈r):∀(R:af) (i0 i:Nat),R[i]?=some r->(sh,i0+i,x.1)∈aJ sh i0 R
 | [],_,_,h=>by simp at h
 | q::R,i0,0,h=>by
   have e:q=r:=Option.some.inj h;subst e;exact List.mem_append_left _ (List.mem_map.mpr ⟨x,hx,rfl⟩)
 | q::R,i0,i+1,h=>by
   have:=jd (sh:=sh) hx R (i0+1) i h;rw[show i0+1+i=i0+(i+1) by omega]at this
   exact List.mem_append_right _ this
theorem ng{f m:Int}{S:Sta}(h:aB f m S=none):fH f m S:=by
 unfold aB at h;by_cases h1:bp S=false
 . rw[if_pos h1]at h;cases h
 rw[if_neg h1]at h;by_cases h2:bS S=false
 . rw[if_pos h2]at h;cases h
 rw[if_neg h2]at h;obtain⟨a,b⟩:=jk _ _ h List.nodup_nil;refine⟨by cases e:bp S with | false=>exact absurd e h1 | true=>rfl,by cases e:bS S with | false=>exact absurd e h2 | true=>rfl,fun i r hr x hx=>?_,fun i r hr x hx=>?_,?_⟩
 . have:=a _ (List.mem_append_left _ (jd (sh:=true) hx _ 0 i hr))
   rw[Nat.zero_add]at this;exact this
 . have:=a _ (List.mem_append_right _ (jd (sh:=false) hx _ 0 i hr))
   rw[Nat.zero_add]at this;exact this
 rw[List.nil_append]at b;unfold bO at b;rw[List.map_append,dq,dq]at b;exact b
def KyR(R:af):Prop:=∀ r∈R,∀ q∈r,(0<=q.1/\q.1<=1000000000)
theorem kH{R:af}(h:ap (bh R)=true):KyR R:=fun r hr q hq=>by
 have h:((R.map dm).all b_)=true:=h;have h1:=List.all_eq_true.mp h (dm r) (List.mem_map_of_mem hr);have h1:((r.map fun p=>PyData.tuple [.int p.1,.int p.2]).all bz)=true:=h1;have h2:=List.all_eq_true.mp h1 _ (List.mem_map_of_mem (f:=fun p:Int×Int=>PyData.tuple [.int p.1,.int p.2]) hq);have h2:((decide (0<=q.1) && decide (q.1<=1000000000)) && cA (-1000000000) (.int q.2))=true:=h2;rw[Bool.and_eq_true,Bool.and_eq_true]at h2;exact⟨of_decide_eq_true h2.1.1,of_decide_eq_true h2.1.2⟩
theorem vj{S:Sta}(h:aq (stD S)=true):KyR (S.el.getD [])/\KyR S.nw:=by
 have h:(cg (elD S.el) && bW (.int S.mv) && ap (bh S.nw))=true:=h;rw[Bool.and_eq_true,Bool.and_eq_true]at h;refine⟨?_,kH h.2⟩;cases e:S.el with
 | none=>exact fun r hr=>nomatch hr
 | some E=>rw[e]at h;exact kH h.1.1
theorem AX{S:Sta}(h1:KyR (S.el.getD []))(h2:KyR S.nw)(w1:WbR (S.el.getD []))(w2:WbR S.nw):∀ p∈(S.el.getD []).flatten++S.nw.flatten,InB p:=fun p hp=>by
 rcases List.mem_append.mp hp with z | z
 . obtain⟨r,hr,hx⟩:=List.mem_flatten.mp z
   exact⟨h1 r hr p hx,w1 r hr p hx⟩
 obtain⟨r,hr,hx⟩:=List.mem_flatten.mp z;exact⟨h2 r hr p hx,w2 r hr p hx⟩
def fc:Sp:=fun vs H Q _=>∃(v:V) (S:Sta),vs=[v]/\StV H v S/\tot (S.el.getD [])<=100000/\tot S.nw<=100000 /\ ∀ H' b,ac H H'->(b=true->KyR (S.el.getD [])/\KyR S.nw)->(b=false -> ¬ (KyR (S.el.getD [])/\KyR S.nw))->Q (.bl b) H'
theorem m5{H:Hp}{Q:VK}{E:XK}{v:V}{S:Sta}(h1:StV H v S)(h2:tot (S.el.getD [])<=100000)(h3:tot S.nw<=100000)(k:∀ H' b,ac H H'->(b=true->KyR (S.el.getD [])/\KyR S.nw)->(b=false -> ¬ (KyR (S.el.getD [])/\KyR S.nw))->Q (.bl b) H'):fc ([v]++[]) H Q E:=⟨v,S,rfl,h1,h2,h3,k⟩
theorem q2_(d:Dfn K mg "_law_bounded" yq ["state"])(g:Gs K mg C CT CE CP CZ CR CV):Fn P w K mg base "_law_bounded" 1 ["state"] fc:=by
 refine d.fn rq (fun vs H Q E h=>?_) (fun f cdv A outer s H vs Q E hr h=>?_)
 . obtain⟨v,S,rfl,_⟩:=h
   rfl
 obtain⟨v,S,rfl,hS,b1,b2,k⟩:=h;obtain⟨u,ve,vn,rfl,hu,he,hn⟩:=id hS;have lim:sizeLine=16777216:=sizeLine_eq;refine⟨_,(B.scons (B.fors (B.ilist (B.lst (B.cons (SW.B.orA (B.ix av (B.v 0) B.int) (B.one (B.tup B.nil))) (B.cons (B.ix av (B.v 0) B.int) B.nil)))) (B.gname (i:=1) rq.nd) (B.sone (B.fors (B.itup (B.v 1)) (B.gname (i:=2) rq.nd) (B.sone (B.ifs (B.tcmp (SW.oZ (jh hr)) (SW.B.compNIf ["key","worth"] [] ["key","worth"] (SW.bD.of rfl rfl (by decide +kernel) (by decide +kernel) trivial rfl rfl rfl) (B.itup (B.v 2)) (fun _ _ _ _=>(B.gtupK K (n:=2) (B.gcons (B.gname (i:=0) (show(["key","worth"]:List Str).Nodup by decide +kernel)) (B.gcons (B.gname (i:=1) (show(["key","worth"]:List Str).Nodup by decide +kernel)) B.gnil)))) (fun _ _ _ _=>(B.tnot (B.tchain eY eY B.int (B.v 0) (B.op cG B.int B.int)))) (fun _ _ _ _=>(B.v 0))) (B.lst B.nil)) (B.sone (B.ret B.bl)) B.snil)))))
  (B.sone (B.ret B.bl))),?_⟩
 walk_at "W";refine mE he fun va H2 s2 ha=>?_;have hu2:=s2 _ _ hu;walk_at "W";refine⟨by show(2:Nat)<=sizeLine;decide,fun t3 ht3=>?_⟩
 have a3:=ac.new (o:=.lst [va,vn]) ht3;have hva:=ha.keep (SW.ac.tk a3);have hvn:=hn.keep (SW.ac.tk (s2.trans a3));have s05:=s2.trans a3;have e3:=aa (H:=H2) (a:=t3) (o:=.lst [va,vn]);generalize upd H2 t3 (.lst [va,vn])=H5 at *;have itm:∀ i x,[va,vn][i]?=some x -> ∃(R:af),bt H5 x R/\tot R<=100000/\(i=0/\R=S.el.getD []∨i=1/\R=S.nw):=by
  intro i x e
  match i,e with
  | 0,e=>cases e;exact⟨_,hva,b1,.inl ⟨rfl,rfl⟩⟩
  | 1,e=>cases e;exact⟨_,hvn,b2,.inr ⟨rfl,rfl⟩⟩
  | n+2,e=>simp at e
 refine⟨t3,rfl,⟨_,SqL.of e3⟩,?_⟩;refine SW.cU (xs:=[va,vn]) (fun i Z H'=>∃(v1 v2:Option V),Z=[some (.ref u),v1,v2]/\ac H5 H'/\(1<=i->KyR (S.el.getD []))/\(2<=i->KyR S.nw)) ⟨none,none,rfl,ac.refl _,fun h=>absurd h (by omega),fun h=>absurd h (by omega)⟩ ?_ ?_ ?_
 . rintro i Z H' _ ⟨v1,v2,rfl,s',_⟩
   exact SqL.of (s' _ _ e3)
 . rintro i x Z H' hx ⟨v1,v2,rfl,s',y1,y2⟩
   obtain⟨R,hR,hlen,hwhich⟩:=itm i x hx;obtain⟨ra,rs,rfl,hra,hrs⟩:=hR;have hrl:=aH hrs;walk_at "W";refine⟨ra,rfl,⟨_,SqT.of (s' _ _ hra)⟩,?_⟩;refine dI (xs:=rs) (fun j Z H''=>∃(v2:Option V),Z=[some (.ref u),some (.ref ra),v2]/\ac H5 H''/\KyR (R.take j)) ⟨v2,rfl,s',by rw[List.take_zero];exact fun r hr=>nomatch hr⟩ ?_ ?_ ?_
   . rintro j Z H'' _ ⟨v2,rfl,s'',_⟩
     exact SqT.of (s'' _ _ hra)
   . rintro j y Z H'' hy ⟨v2,rfl,s'',ky⟩
     obtain⟨r,hr_,b,ys,rfl,hb,hps⟩:=aX hrs hy;walk_at "W";have hb2:=s'' _ _ hb;have hps2:=hps.keep (SW.ac.tk s'');refine⟨b,rfl,⟨_,SqT.of hb2⟩,fun D hD=>?_⟩;have hyl:=hps2.len;have hrl2:r.length<=100000:=Nat.le_trans (by
      have h2:=cv R (j+1);rw[aw hr_]at h2;have h3:tot (R.take j++[r])=tot (R.take j)+r.length:=by
       unfold tot;rw[List.map_append,List.sum_append];simp
      omega) hlen
     refine pK (xs:=ys) (fun i Z' H3=>(∃ v0 v1,Z'=[v0,v1])/\ac H'' H3 /\ ∃ zs:List V,H3 D=some (.lst zs)/\zs.isEmpty=(r.take i).all (fun q=>decide (0<=q.1) && decide (q.1<=1000000000))/\zs.length<=i) ⟨⟨none,none,rfl⟩,ac.new hD,[],aa,rfl,Nat.le_refl _⟩ (fun i Z' H3 _ ⟨_,s3,_⟩=>SqT.of (s3 _ _ hb2)) ?_ ?_
     . rintro i x Z' H3 hx hi ⟨⟨v0,v1,rfl⟩,s3,zs,hz1,hz2,hz3⟩
       obtain⟨⟨k1,y1⟩,hpp,a,rfl,ha⟩:=aX hps2 hx;refine⟨a,_,rfl,SqT.of (s3 _ _ ha),rfl,_,_,rfl,?_⟩;walk_at "W";refine⟨_,_,rfl,?_⟩;walk_at "W";refine⟨rfl,?_⟩;have fal:(decide (0<=k1) && decide (k1<=1000000000))=false->CN (fun i Z' H3=>(∃ v0 v1,Z'=[v0,v1])/\ac H'' H3 /\ ∃ zs:List V,H3 D=some (.lst zs)/\zs.isEmpty=(r.take i).all (fun q=>decide (0<=q.1) && decide (q.1<=1000000000))/\zs.length<=i) ys.length i D [some (.int k1),some (.int y1)] (.int k1) H3:=fun eb=>by
        refine CN.mk hi hz1 (by omega) ⟨⟨_,_,rfl⟩,fun c o e=>by rw[ag (ai e hD)];exact s3 _ _ e,_,aa,?_,by rw[List.length_append];exact Nat.succ_le_succ hz3⟩
        rw[aw hpp,List.all_append];show(zs++[V.int k1]).isEmpty=(_ && ((decide (0<=k1) && decide (k1<=1000000000)) && true));rw[eb];simp
       have e9:(10:Int) ^ (Int.toNat 9)=1000000000:=by decide
       walk_at "W";by_cases c0:0<=k1
       . refine c5 c0 ?_
         walk_at "W";show if(!decide (k1<=10 ^ Int.toNat 9))=true then _ else _;by_cases c1:k1<=10 ^ Int.toNat 9
         . refine cp c1 (CO.mk hi ⟨⟨_,_,rfl⟩,s3,zs,hz1,?_,Nat.le_succ_of_le hz3⟩)
           rw[e9]at c1;rw[aw hpp,List.all_append,← hz2];show zs.isEmpty=(zs.isEmpty && ((decide (0<=k1) && decide (k1<=1000000000)) && true));rw[decide_eq_true c0,decide_eq_true c1];simp
         refine bR c1 ?_;walk_at "W";rw[e9]at c1;exact fal (by rw[decide_eq_false c1,Bool.and_false])
       refine bK c0 ⟨false,rfl,?_⟩;refine az ?_;walk_at "W";exact fal (by rw[decide_eq_false c0,Bool.false_and])
     rintro Z' H3 ⟨_,s3,zs,hz1,hz2,hz3⟩;rw[hyl,List.take_length]at hz2;walk_at "W";refine⟨by show(0:Nat)<=sizeLine;decide,fun p hp=>⟨D,p,zs,rfl,rfl,SqL.of (ac.new hp _ _ hz1),SqL.of aa,?_⟩⟩
     have sP:=s3.trans (ac.new (o:=.lst []) hp);refine⟨_,rfl,?_⟩;cases ez:zs.isEmpty with
     | true=>
       refine ao ?_;walk_at "W";refine⟨_,rfl,s''.trans sP,?_⟩;rw[aw hr_];intro r' hr' q hq;rcases List.mem_append.mp hr' with z | z
       . exact ky r' z q hq
       rw[List.mem_singleton.mp z]at hq;rw[ez]at hz2;have:=List.all_eq_true.mp hz2.symm q hq;rw[Bool.and_eq_true]at this;exact⟨of_decide_eq_true this.1,of_decide_eq_true this.2⟩
     | false=>
       refine az ?_;walk_at "W";refine k _ false (s05.trans (s''.trans sP)) (fun z=>by cases z) fun _=>fun zz=>?_
       obtain⟨z1,z2⟩:=zz;have kyr:KyR R:=by
        rcases hwhich with ⟨_,e⟩ | ⟨_,e⟩
        . rw[e];exact z1
        rw[e];exact z2
       rw[ez]at hz2;have all:(List.all r fun q=>decide (0<=q.1) && decide (q.1<=1000000000))=true:=List.all_eq_true.mpr fun q hq=>by
        have:=kyr r (List.mem_of_getElem? hr_) q hq;rw[decide_eq_true this.1,decide_eq_true this.2];rfl
       rw[all]at hz2;cases hz2
   rintro Z H'' ⟨v2,rfl,s'',ky⟩;rw[hrl,List.take_length]at ky;walk_at "W";refine⟨_,_,rfl,s'',fun _=>?_,fun _=>?_⟩
   . rcases hwhich with ⟨rfl,rfl⟩ | ⟨rfl,rfl⟩
     . exact ky
     exact y1 (by omega)
   rcases hwhich with ⟨rfl,rfl⟩ | ⟨rfl,rfl⟩
   . omega
   exact ky
 rintro Z H' ⟨v1,v2,rfl,s',y1,y2⟩;walk_at "W";exact k _ true (s05.trans s') (fun _=>⟨y1 (by show 1<=2;decide),y2 (by show 2<=2;decide)⟩) (fun z=>by cases z)
def Sm(M:MT)(H:Hp)(xs:List V):Prop:=∀ x∈xs,∃ q∈cW M,PrV H x q
theorem Sm.of{M:MT}{H:Hp}{zs:List V}(h:Prs H zs (cW M)):Sm M H zs:=fun x hx=>by
 obtain⟨i,hi⟩:=List.mem_iff_getElem?.mp hx;obtain⟨q,h1,h2⟩:=aX h hi;exact⟨q,List.mem_of_getElem? h1,h2⟩
theorem o9{xs:List V}{lo hi:Option Int}{x:V}(h:x∈bQ xs lo hi):x∈xs:=by
 unfold bQ at h;exact List.mem_of_mem_drop (List.mem_of_mem_take h)
theorem tJ(xs:List V)(lo hi:Option Int):(bQ xs lo hi).length<=xs.length:=by
 unfold bQ;rw[List.length_take,List.length_drop];omega
def fU(C CT:Addr):Sp:=fun vs H Q _=>∃(v:V) (t:Addr) (n f m:Int) (M:MT),vs=[v,.ref t,.int n]/\StU H v M/\TOk f m M/\Rat M/\(∀ p∈cW M,InB p)/\SW.cnt M<=4000/\H t=some (.tup [.int f,.int m])/\(0<=f/\f<=65535)/\0<=n/\n<=1000 /\ ∀ H',ac H H'->Q (.bl true) H'
theorem uk{C CT:Addr}{v:V}{t:Addr}{n f m:Int}{M:MT}{H:Hp}{Q:VK}{E:XK}(h1:StU H v M)(h2:TOk f m M)(h3:Rat M)(h4:∀ p∈cW M,InB p)(h5:SW.cnt M<=4000)(h6:H t=some (.tup [.int f,.int m]))(h7:0<=f/\f<=65535)(h8:0<=n)(h9:n<=1000)(k:∀ H',ac H H'->Q (.bl true) H'):fU C CT ([v,.ref t,.int n]++[]) H Q E:=⟨v,t,n,f,m,M,rfl,h1,h2,h3,h4,h5,h6,h7,h8,h9,k⟩
theorem BS(d:Dfn K mg "_law_made" xt ["state","mixer","pace"])(g:Gs K mg C CT CE CP CZ CR CV)(q71_:Fn P w K mg base "table_of" 8 ["state","mixer","pace"] (gO C CT))(q91_:Mt P w K mg base CT "look" 7 ["self","key"] (lu C CT))(q98_:Mt P w K mg base CT "state" 5 ["self"] (jH C CT))(q92_:Mt P w K mg base CT "many" 2 ["self"] (lA C CT))(q96_:Mt P w K mg base CT "sizes" 2 ["self"] (jg C CT))(q99_:Mt P w K mg base CT "touched" 1 ["self"] (fS C CT)):Fn P w K mg base "_law_made" 9 ["state","mixer","pace"] (fU C CT):=by
 refine d.fn eX (fun vs H Q E h=>?_) (fun f' cdv A outer s H vs Q E hr h=>?_)
 . obtain⟨v,t,n,f,m,M,rfl,_⟩:=h
   rfl
 obtain⟨v,t,n,f,m,M,rfl,hv,T,R,hb,hc,ht,hf,hn,hn2,k⟩:=h;have lim:sizeLine=16777216:=sizeLine_eq;have hc5:SW.cnt M<=5000:=by omega
 obtain⟨u,ve,vn,rfl,hu,he,hnw⟩:=id hv;have he:ElV H ve M.el:=by
  cases z:M.el with
  | none=>rw[z]at he;exact he
  | some E=>rw[z]at he;exact he
 have hnw:bt H vn M.nw:=hnw;refine⟨_,(B.scons (B.set 3 eX.nd (B.fn q71_ hr.up (B.cons (B.v 0) (B.cons (B.v 1) (B.cons (B.v 2) B.nil)))))
  (B.scons (B.set 4 eX.nd (B.lst B.nil))
  (B.scons (B.fors (B.ilist (B.lst (B.cons (SW.B.orA (B.ix av (B.v 0) B.int) (B.one (B.tup B.nil))) (B.cons (B.ix av (B.v 0) B.int) B.nil)))) (B.gname (i:=5) eX.nd) (B.sone (B.fors (B.itup (B.v 5)) (B.gname (i:=6) eX.nd) (B.sone (B.expr (B.m PySem.F.plainAttrs_list PySem.F.slot_list_extend PySem.F.type_list_extend SW.nA (B.v 4) (B.cons (B.v 6) B.nil)))))))
  (B.scons (B.set 7 eX.nd (B.tup (B.cons B.non (B.cons (B.cB aj g.b_len SW.b_len (B.cons (B.ix av (B.v 0) B.int) B.nil)) B.nil))))
  (B.scons (B.ifs (B.tcmp cj (B.ix av (B.v 0) B.int) B.non) (B.sone (B.set 7 eX.nd (B.tup (B.cons (B.cB aj g.b_len SW.b_len (B.cons (B.ix av (B.v 0) B.int) B.nil)) (B.cons (B.cB aj g.b_len SW.b_len (B.cons (B.ix av (B.v 0) B.int) B.nil)) B.nil))))) B.snil)
  (B.scons (B.ifs (B.tw (B.wor (B.tcmp (nH K hr.units) (B.meth0 (B.v 3) g.cl_Table q98_ hr.up) (B.v 0)) (B.wor (B.tcmp (nH K hr.units) (B.meth0 (B.v 3) g.cl_Table q96_ hr.up) (B.v 7)) (B.wor (B.tcmp eF (B.meth0 (B.v 3) g.cl_Table q92_ hr.up) (B.cB aj g.b_len SW.b_len (B.cons (B.v 4) B.nil))) (B.wor1 (B.tcmp eF (B.meth0 (B.v 3) g.cl_Table q99_ hr.up) B.int)))))) (B.sone (B.ret B.bl)) B.snil)
  (B.scons (B.set 8 eX.nd (B.op m6 (B.slice lc (B.v 4) B.nopart (B.part B.int)) (B.slice lc (B.v 4) (B.part (B.un eU B.int)) B.nopart)))
  (B.scons (B.ifs (B.tcmp sK (B.cB aj g.b_len SW.b_len (B.cons (B.v 4) B.nil)) B.int) (B.sone (B.set 8 eX.nd (B.lst (B.cons (B.ix ay (B.v 4) B.int) (B.cons (B.ix ay (B.v 4) (B.un eU B.int)) B.nil))))) B.snil)
  (B.scons (B.fors (B.ilist (B.v 8)) (B.gtup (B.gcons (B.gname (i:=9) eX.nd) (B.gcons (B.gname (i:=10) eX.nd) B.gnil))) (B.sone (B.ifs (B.tcmp eF (B.meth (B.fn q71_ hr.up (B.cons (B.v 0) (B.cons (B.v 1) (B.cons (B.v 2) B.nil)))) g.cl_Table q91_ hr.up (B.cons (B.v 9) B.nil)) (B.v 10)) (B.sone (B.ret B.bl)) B.snil)))
  (B.sone (B.ret (B.cmp cz (B.meth (B.fn q71_ hr.up (B.cons (B.v 0) (B.cons (B.v 1) (B.cons (B.v 2) B.nil)))) g.cl_Table q91_ hr.up (B.cons B.int B.nil)) (B.dget1 (dW hr) (B.cT SW.nQ g.b_dict SW.b_dict (B.cons (B.v 4) B.nil)) B.int (m:=B.m1)))))))))))))),?_⟩
 rw[show L2.c6 _ [V.ref u,V.ref t,V.int n]=[some (.ref u),some (.ref t),some (.int n),none,none,none,none,none,none,none,none]from rfl];walk_at "W";refine iU hv T R hb hc5 ht hf hn fun tb H0 F0 S0 n0 s0=>?_;walk_at "W";refine⟨by show(0:Nat)<=sizeLine;decide,fun l hl=>?_⟩
 have s1:ac H0 (upd H0 l (.lst [])):=ac.new hl;have hu1:=(s0.trans s1) _ _ hu;walk_at "W";refine mE (he.keep (SW.ac.tk (s0.trans s1))) fun va H2 s2 ha=>?_;have hu2:=s2 _ _ hu1;walk_at "W";refine⟨by show(2:Nat)<=sizeLine;decide,fun t3 ht3=>?_⟩
 have a3:=ac.new (o:=.lst [va,vn]) ht3;have s15:=s2.trans a3;have hva:=ha.keep (SW.ac.tk a3);have hvn:=hnw.keep (SW.ac.tk (s0.trans (s1.trans s15)));have el:=s15 _ _ (aa (H:=H0) (a:=l) (o:=.lst []));have s05:=s1.trans s15;have e3:=aa (H:=H2) (a:=t3) (o:=.lst [va,vn]);have n3:t3≠l:=(ai (s2 _ _ (aa (H:=H0) (a:=l) (o:=.lst []))) ht3).symm;obtain⟨H5,hH5⟩:∃ H5,H5=upd H2 t3 (.lst [va,vn]):=⟨_,rfl⟩;rw[← hH5]at hva hvn el s05 e3 ⊢;clear hH5 s15 a3;have hB2:tot (M.el.getD [])+tot M.nw<=100000:=by
  have h1:=fZ M;unfold cW at h1;rw[List.length_append,bq,bq]at h1;omega
 obtain⟨acc,hacc⟩:∃ acc:Nat->ar,acc=fun i=>if i=0 then[]else if i=1 then(M.el.getD []).flatten else cW M:=⟨_,rfl⟩;have itm:∀ i x,[va,vn][i]?=some x -> ∃(R:af),bt H5 x R/\acc (i+1)=acc i++R.flatten/\(acc i).length+tot R<=100000:=by
  intro i x e
  match i,e with
  | 0,e=>
    cases e;refine⟨M.el.getD [],hva,by rw[hacc];rfl,?_⟩
    rw[hacc];show 0+_<=_;omega
  | 1,e=>
    cases e;refine⟨M.nw,hvn,by rw[hacc];rfl,?_⟩
    rw[hacc];show((M.el.getD []).flatten).length+_<=_;rw[bq];exact hB2
  | n+2,e=>simp at e
 refine⟨t3,rfl,⟨_,SqL.of e3⟩,?_⟩;refine SW.cU (xs:=[va,vn]) (fun i Z H'=>∃(zs:List V) (v2 v3:Option V),Z=[some (.ref u),some (.ref t),some (.int n),some (.ref tb),some (.ref l),v2,v3,none,none,none,none]/\al l H5 H'/\H' l=some (.lst zs)/\Prs H' zs (acc i)) ⟨[],none,none,rfl,fun b o _ e=>e,el,by rw[hacc];exact .nil⟩ ?_ ?_ ?_
 . rintro i Z H' hi ⟨zs,v2,v3,rfl,k',hl',hz⟩
   exact SqL.of (k' _ _ n3 e3)
 . rintro i x Z H' hx ⟨zs,v2,v3,rfl,k',hl',hz⟩
   obtain⟨R,hR,hac,hlen⟩:=itm i x hx;have tk':TK H5 H':=fun a xs e=>k' _ _ (aA e el (by intro z;cases z)) e
   obtain⟨ra,rs,rfl,hra,hrs⟩:=hR;have hrl:=aH hrs;walk_at "W";refine⟨ra,rfl,⟨_,SqT.of (tk' _ _ hra)⟩,?_⟩;refine dI (xs:=rs) (fun j Z H''=>∃(zs:List V) (v3:Option V),Z=[some (.ref u),some (.ref t),some (.int n),some (.ref tb),some (.ref l),some (.ref ra),v3,none,none,none,none]/\al l H5 H''/\H'' l=some (.lst zs)/\Prs H'' zs (acc i++(R.take j).flatten)) ⟨zs,v3,rfl,k',hl',by rw[List.take_zero,List.flatten_nil,List.append_nil];exact hz⟩ ?_ ?_ ?_
   . rintro j Z H'' _ ⟨zs,v3,rfl,k'',hl'',hz⟩
     exact SqT.of (k'' _ _ (aA hra el (by intro z;cases z)) hra)
   . rintro j y Z H'' hy ⟨zs,v3,rfl,k'',hl'',hz⟩
     obtain⟨r,hr_,b,ys,rfl,hb,hps⟩:=aX hrs hy;have tk'':TK H5 H'':=fun a xs e=>k'' _ _ (aA e el (by intro z;cases z)) e
     have hb2:=tk'' _ _ hb;have hps2:=hps.keep tk'';have hyl:=hps.len;have hzl:zs.length+r.length<=100000:=by
      have h1:=hz.len;rw[List.length_append,bq]at h1;have h2:=cv R (j+1);rw[aw hr_]at h2;have h3:tot (R.take j++[r])=tot (R.take j)+r.length:=by
       unfold tot;rw[List.map_append,List.sum_append];simp
      omega
     walk_at "W";refine wBM ?_;walk_at "W";refine⟨.inl ⟨rfl,_,SqL.of hl''⟩,?_⟩;walk_at "W";refine⟨l,b,zs,ys,rfl,rfl,hl'',SqT.of hb2,by omega,?_⟩
     have tkx:TK H'' (upd H'' l (.lst (zs++ys))):=fun a xs e=>by rw[ag (aA e hl'' (by intro z;cases z))];exact e
     walk_at "W";refine⟨zs++ys,_,rfl,fun b o n e=>?_,aa,?_⟩
     . rw[ag n]
       exact k'' _ _ n e
     rw[p6 hr_,← List.append_assoc];exact aG (hps2.keep tkx) (hz.keep tkx)
   rintro Z H'' ⟨zs,v3,rfl,k'',hl'',hz⟩;rw[hrl,List.take_length,← hac]at hz;walk_at "W";exact⟨zs,_,_,rfl,k'',hl'',hz⟩
 rintro Z H' ⟨zs,v2,v3,rfl,k',hl',hz⟩;have e2:acc [va,vn].length=cW M:=by rw[hacc];rfl
 rw[e2]at hz;walk_at "W";have tk':TK H5 H':=fun a xs e=>k' _ _ (aA e el (by intro z;cases z)) e
 have sA:ac H0 H':=fun b o e=>k' _ _ (ai e hl) (s05 _ _ e);have s0A:=s0.trans sA;clear itm hacc e2 k' n3 e3 hva hvn el s05 hB2 hu2 hu1 ha s2 s1;have ht':=s0A _ _ ht;have hv':=hv.keep (b8.same s0A);have S':=S0.same sA;have hu':=s0A _ _ hu;obtain⟨nb,nys,rfl,hnb,hnp⟩:=id hnw;have hnb':=s0A _ _ hnb;have hnl:=aH hnp;have hzl:zs.length=SW.cnt M:=by rw[hz.len,fZ]
 have pcn:n.toNat<=1000:=by omega
 clear ht3 hnw;walk_at "W";refine SW.bG (.inr (SqT.of hnb')) ?_;walk_at "W";refine⟨by show(2:Nat)<=sizeLine;decide,fun t7 ht7=>?_⟩
 have s7:=ac.new (o:=.tup [.non,.int (nys.length:Nat)]) ht7;have e7:upd H' t7 (.tup [.non,.int (nys.length:Nat)]) t7=some (.tup [.non,.int (nys.length:Nat)]):=aa;generalize upd H' t7 (.tup [.non,.int (nys.length:Nat)])=H7 at *;have hu7:=s7 _ _ hu';have hnb7:=s7 _ _ hnb';walk_at "W";refine⟨rfl,_,rfl,?_⟩;rename_i N hN;have rest:∀ tz H8,ac H' H8->H8 tz=some (.tup [szE M.el,.int (M.nw.length:Nat)])->N [some (.ref u),some (.ref t),some (.int n),some (.ref tb),some (.ref l),v2,v3,some (.ref tz),none,none,none] H8:=by
  intro tz H8 s8 e8;refine SW.wGo hN ?_;clear hN;have S8:=S'.same s8;have hv8:=hv'.keep (b8.same s8);have hl8:=s8 _ _ hl';have hz8:=hz.keep (SW.ac.tk s8);have ht8:=s8 _ _ ht';have hu8:=s8 _ _ hu';walk_at "W";refine wT S8 sO ?_;walk_at "W";refine uT S8 fun v9 H9 s9 u9=>?_;walk_at "W";refine pf u9.dat (hv8.keep (b8.same s9)).dat (ux M) (sw M) ?_;walk_at "W";refine ao ?_;walk_at "W";refine wT (S8.same s9) tQ ?_;walk_at "W";refine vY (S8.same s9) fun a10 ha10=>?_;have s10:=ac.new (o:=.tup [szE M.el,.int (M.nw.length:Nat)]) ha10;have e10:upd H9 a10 (.tup [szE M.el,.int (M.nw.length:Nat)]) a10=some (.tup [szE M.el,.int (M.nw.length:Nat)]):=aa;have s810:=s9.trans s10;generalize upd H9 a10 (.tup [szE M.el,.int (M.nw.length:Nat)])=H10 at *;walk_at "W";refine zg e10 (s810 _ _ e8) ?_;walk_at "W";refine ao ?_;walk_at "W";refine wT (S8.same s810) vQ ?_;walk_at "W";refine xl (S8.same s810) fun H11 s11=>?_;have s811:=s810.trans s11;have hl11:=s811 _ _ hl8;walk_at "W";refine SW.bG (.inl (SqL.of hl11)) ?_;rw[hzl];walk_at "W";refine cp rfl ?_;walk_at "W";refine wT (S8.same s811) nr ?_;walk_at "W";refine pH (S8.same s811) ?_;walk_at "W";refine cp rfl ?_;have s011:=s8.trans s811;have hv11:=hv8.keep (b8.same s811);have hz11:=hz8.keep (SW.ac.tk s811);have ht11:=s811 _ _ ht8;clear s9 s10 s810 s811 S8 hv8 hl8 hz8 ht8 e8 u9 e10 ha10 hu8 s11;walk_at "W";have sm11:Sm M H11 zs:=Sm.of hz11;refine⟨6,rfl,l,_,rfl,SqL.of hl11,fun q1 h1=>?_⟩;have s12:=ac.new (o:=.lst (bQ zs none (some 6))) h1;have e12:upd H11 q1 (.lst (bQ zs none (some 6))) q1=some (.lst (bQ zs none (some 6))):=aa;generalize upd H11 q1 (.lst (bQ zs none (some 6)))=H12 at *;have hl12:=s12 _ _ hl11;walk_at "W";refine⟨-3,rfl,l,_,rfl,SqL.of hl12,fun q2 h2=>?_⟩;have s13:=ac.new (o:=.lst (bQ zs (some (-3)) none)) h2;have e13:upd H12 q2 (.lst (bQ zs (some (-3)) none)) q2=some (.lst (bQ zs (some (-3)) none)):=aa;generalize upd H12 q2 (.lst (bQ zs (some (-3)) none))=H13 at *;have c1:=tJ zs none (some 6);have c2:=tJ zs (some (-3)) none;walk_at "W";refine⟨q1,q2,_,_,rfl,rfl,s13 _ _ e12,e13,by omega,fun q3 h3=>?_⟩
  have s14:=ac.new (o:=.lst (bQ zs none (some 6)++bQ zs (some (-3)) none)) h3;have e14:upd H13 q3 (.lst (bQ zs none (some 6)++bQ zs (some (-3)) none)) q3=some (.lst (bQ zs none (some 6)++bQ zs (some (-3)) none)):=aa;generalize upd H13 q3 (.lst (bQ zs none (some 6)++bQ zs (some (-3)) none))=H14 at *;have s1114:=(s12.trans s13).trans s14;have hl14:=s1114 _ _ hl11;have sm14:Sm M H14 (bQ zs none (some 6)++bQ zs (some (-3)) none):=fun x hx=>by
   have hx:x∈zs:=(List.mem_append.mp hx).elim o9 o9;obtain⟨q,h1,h2⟩:=sm11 x hx;exact⟨q,h1,h2.keep (SW.ac.tk s1114)⟩
  walk_at "W";refine SW.bG (.inl (SqL.of hl14)) ?_;rw[hzl];walk_at "W";rename_i N2 hN2;have rest2:∀ ql xs H15,ac H11 H15->H15 ql=some (.lst xs)->Sm M H15 xs->N2 [some (.ref u),some (.ref t),some (.int n),some (.ref tb),some (.ref l),v2,v3,some (.ref tz),some (.ref ql),none,none] H15:=by
   intro ql xs H15 s15 e15 sm15;refine SW.wGo hN2 ?_;clear hN2;walk_at "W";refine⟨ql,rfl,⟨_,SqL.of e15⟩,?_⟩;refine SW.cU (xs:=xs) (fun i Z H16=>∃ v9 v10:Option V,Z=[some (.ref u),some (.ref t),some (.int n),some (.ref tb),some (.ref l),v2,v3,some (.ref tz),some (.ref ql),v9,v10]/\ac H15 H16) ⟨none,none,rfl,ac.refl _⟩ ?_ ?_ ?_
   . rintro i Z H16 _ ⟨v9,v10,rfl,s16⟩
     exact SqL.of (s16 _ _ e15)
   . rintro i x Z H16 hx ⟨v9,v10,rfl,s16⟩
     obtain⟨q,hq,a,rfl,ha⟩:=sm15 x (List.mem_of_getElem? hx);have s1116:=s15.trans s16;walk_at "W";refine⟨a,_,rfl,SqT.of (s16 _ _ ha),rfl,_,_,rfl,?_⟩;walk_at "W";refine⟨_,_,rfl,?_⟩;walk_at "W";refine⟨rfl,?_⟩;walk_at "W";refine iU (hv11.keep (b8.same s1116)) T R hb hc5 (s1116 _ _ ht11) hf hn fun p1 H17 F17 S17 n17 s17=>?_;walk_at "W";refine wT S17 oW ?_;walk_at "W";refine tF S17 T pcn (by omega) fun H18 F18 S18 g18 k18=>?_
     have s18:ac H16 H18:=fun b o e=>k18 _ _ (fun z=>by rw[n17 b z]at e;cases e) (s17 _ _ e)
     rw[T.tell hq];walk_at "W";refine⟨rfl,?_⟩;walk_at "W";refine cp rfl ?_;walk_at "W";exact⟨_,_,rfl,s16.trans s18⟩
   rintro Z H16 ⟨v9,v10,rfl,s16⟩;have s1116:=s15.trans s16;walk_at "W";refine iU (hv11.keep (b8.same s1116)) T R hb hc5 (s1116 _ _ ht11) hf hn fun p1 H17 F17 S17 n17 s17=>?_;walk_at "W";refine wT S17 oW ?_;walk_at "W";refine tF S17 T pcn (by omega) fun H18 F18 S18 g18 k18=>?_
   have s18:ac H16 H18:=fun b o e=>k18 _ _ (fun z=>by rw[n17 b z]at e;cases e) (s17 _ _ e)
   have s1118:=s1116.trans s18;have hl18:=s1118 _ _ hl11;obtain⟨ps,e1,e2,e3⟩:=qO (K:=K) (hz11.keep (SW.ac.tk s1118));have hpl:ps.length=SW.cnt M:=by rw[← hzl,e1,List.length_map]
   have hdk:mQ (ps.map fun p=>(p.2.1,p.2.2))=kvs (cW M):=by
    rw[e3,rp (by rw[List.map_map];exact T.pairs),List.map_map]
    rfl
   walk_at "W";refine⟨l,ps,rfl,SqL.of (e1 ▸ hl18),e2,by omega,fun dd hdd=>?_⟩
   rw[hdk];have s19:=ac.new (o:=.dK (kvs (cW M))) hdd;have e19:upd H18 dd (.dK (kvs (cW M))) dd=some (.dK (kvs (cW M))):=aa;generalize upd H18 dd (.dK (kvs (cW M)))=H19 at *;walk_at "W";refine⟨dd,rfl,.inl ⟨_,.inl e19⟩,?_⟩;walk_at "W";refine⟨_,cK.k (k:=Sum.inl 123456789) e19,?_⟩;rw[l5,tM T];walk_at "W";refine⟨uU _ _,?_⟩;rw[decide_eq_true rfl];exact k _ (s0A.trans (s011.trans (s1118.trans s19)))
  clear hN2;by_cases c100:(100:Int) < (SW.cnt M:Nat)
  . refine c5 c100 ?_
    have hz0:100 < zs.length:=by omega
    obtain⟨x0,hx0,m0⟩:=cb (xs:=zs) (i:=0) (by omega) (by omega)
    obtain⟨x1,hx1,m1⟩:∃ x1,atI zs (-1)=some x1/\x1∈zs:=by
     have hne:zs≠[]:=fun z=>by rw[z]at hz0;cases hz0
     refine⟨zs.getLast hne,?_,List.getLast_mem hne⟩;have:=SW.rG zs.dropLast (zs.getLast hne);rw[List.dropLast_concat_getLast]at this;exact this
    walk_at "W";refine ce hl14 hx0 ?_;walk_at "W";refine ce hl14 hx1 ?_;walk_at "W";refine⟨by show(2:Nat)<=sizeLine;decide,fun q4 h4=>?_⟩
    walk_at "W";have s15:=s1114.trans (ac.new (o:=.lst [x0,x1]) h4);refine rest2 q4 [x0,x1] _ s15 aa fun x hx=>?_;have hx:x∈zs:=by
     simp only[List.mem_cons,List.not_mem_nil,or_false]at hx;rcases hx with rfl | rfl
     . exact m0
     exact m1
    obtain⟨q,h1,h2⟩:=sm11 x hx;exact⟨q,h1,h2.keep (SW.ac.tk s15)⟩
  refine bK c100 ?_;walk_at "W";exact rest2 q3 _ H14 s1114 e14 sm14
 clear hN;cases z:M.el with
 | none=>
   rw[z]at he;obtain rfl:ve=.non:=he;rw[show(!decide (V.non=V.non))=false by simp]
   refine ao ?_;walk_at "W";refine rest t7 H7 s7 ?_;rw[z,← hnl];exact e7
 | some E=>
   rw[z]at he;obtain⟨eb,exs,rfl,heb,hep⟩:=he;have heb7:=(s0A.trans s7) _ _ heb;refine bR (fun y=>by cases y) ?_
   walk_at "W";refine SW.bG (.inr (SqT.of heb7)) ?_;walk_at "W";refine SW.bG (.inr (SqT.of hnb7)) ?_;walk_at "W";refine⟨by show(2:Nat)<=sizeLine;decide,fun t8 ht8=>?_⟩
   walk_at "W";refine rest t8 _ (s7.trans (ac.new ht8)) ?_;rw[z,← hnl];show _=some (HO.tup [V.int (E.length:Nat),_]);rw[← aH hep];exact aa
theorem CU(d:Dfn K mg "_law_worth" yg ["row"])(q40_:Fn P w K mg base "_law_take" 1 ["row","many"] cH):Fn P w K mg base "_law_worth" 2 ["row"] iy:=by
 refine d.fn zF (fun vs H Q E h=>?_) (fun f cdv A outer s H vs Q E hr h=>?_)
 . obtain⟨p,rfl,_⟩:=h
   rfl
 obtain⟨p,rfl,hp,k⟩:=h;refine⟨_,(B.sone (B.ret (B.ix ay (B.lst (B.cons B.int (B.cons (B.un eU B.int) (B.cons (B.op jF (B.fn q40_ hr.up (B.cons (B.v 0) (B.cons (B.op bv (B.op b9 B.int (B.op cG B.int B.int)) B.int) B.nil))) (B.op cG B.int B.int)) (B.cons (B.op cG B.int B.int) (B.cons (B.fn q40_ hr.up (B.cons (B.v 0) (B.cons B.int B.nil))) B.nil)))))) (B.fn q40_ hr.up (B.cons (B.v 0) (B.cons B.int B.nil)))))),?_⟩;walk_at "W";refine bi hp (by decide) (by decide) fun r1 H1 a1 b1 R1 K1=>?_
 have e9:(10:Int) ^ (Int.toNat 9)=1000000000:=by decide
 walk_at "W";refine bi R1 (by decide) (by decide) fun r2 H2 a2 b2 R2 K2=>?_
 walk_at "W";refine⟨by show(5:Nat)<=sizeLine;decide,fun q hq=>?_⟩
 walk_at "W";refine bi (R2.new hq) (by decide) (by decide) fun r5 H5 a5 b5 R5 K5=>?_
 have e5:=K5 q _ (R2.ne0 hq).symm aa;obtain⟨v,hv,hm⟩:=cb (xs:=[V.int 0,V.int (-1),V.int (r1 - 10 ^ (Int.toNat 9)),V.int (10 ^ (Int.toNat 9)),V.int r2]) a5 b5;refine ce e5 hv ?_;obtain⟨z,rfl,z0,z1⟩:∃ z,v=V.int z /\ -1000000000<=z/\z<=1000000000:=by
  rw[e9]at hm b1;simp only[List.mem_cons,List.not_mem_nil,or_false]at hm;rcases hm with rfl | rfl | rfl | rfl | rfl
  . exact⟨_,rfl,by decide,by decide⟩
  . exact⟨_,rfl,by decide,by decide⟩
  . exact⟨_,rfl,by omega,by omega⟩
  . exact⟨_,rfl,by decide,by decide⟩
  exact⟨_,rfl,by omega,by omega⟩
 exact k z H5 z0 z1 R5 ((K1.trans K2).trans ((al.new hq).trans K5))
theorem Cv(d:Dfn K mg "is_size" vm ["thing"])(g:Gs K mg C CT CE CP CZ CR CV)(q16_:Fn P w K mg base "is_whole" 1 ["thing"] dw):Fn P w K mg base "is_size" 2 ["thing"] ft:=
 BR d g (q16_.imp fun vs H Q E h=>by
  obtain⟨i,rfl,q⟩:=h;exact⟨_,.int i,rfl,.int i,q⟩)
theorem AU(d:Dk K mg C "Shelf" "Shelf.__init__" z0_ ["self","size","mixer"])(g:Gs K mg C CT CE CP CZ CR CV)(q13_:Fn P w K mg base "is_size" 2 ["thing"] ft):Mkr P w K mg base C "Shelf" 3 ["self","size","mixer"] (gc C):=
 AE d g (q13_.imp fun vs H Q E h=>by
  obtain⟨i,rfl,hi,q⟩:=h;exact⟨i,rfl,by rw[decide_eq_true hi];exact q⟩)
theorem Af(d:Dm K C "check_place" "Shelf.check_place" z1_ ["self","place"])(g:Gs K mg C CT CE CP CZ CR CV)(q16_:Fn P w K mg base "is_whole" 1 ["thing"] dw):Mt P w K mg base C "check_place" 2 ["self","place"] (jJ C):=
 zV d g (q16_.imp fun vs H Q E h=>by
  obtain⟨i,rfl,q⟩:=h;exact⟨_,.int i,rfl,.int i,q⟩)
theorem me{H:Hp}{t:Addr}{ve vn:V}{el:Option af}{nw:af}{mv:Int}(ht:H t=none)(h1:ElV H ve el)(h2:bt H vn nw):StV (upd H t (.tup [ve,.int mv,vn])) (.ref t) ⟨el,mv,nw⟩:=
 ⟨t,ve,vn,rfl,aa,h1.keep (SW.ac.tk (ac.new ht)),h2.keep (SW.ac.tk (ac.new ht))⟩
theorem oS{H:Hp}{t:Addr}{xs:List V}{R:af}(ht:H t=none)(h:Paired (dB H) xs R):bt (upd H t (.tup xs)) (.ref t) R:=
 ⟨t,xs,rfl,aa,ba h (SW.ac.tk (ac.new ht))⟩
theorem Cr{H:Hp}{t:Addr}{xs:List V}{r:ar}(ht:H t=none)(h:Prs H xs r):dB (upd H t (.tup xs)) (.ref t) r:=
 ⟨t,xs,rfl,aa,h.keep (SW.ac.tk (ac.new ht))⟩
theorem CY{H:Hp}{t:Addr}{a b:Int}(_:H t=none):PrV (upd H t (.tup [.int a,.int b])) (.ref t) (a,b):=⟨t,rfl,aa⟩
def bare(n:Nat):af:=List.replicate n []
theorem cw(n:Nat):(bare n).length=n:=List.length_replicate ..
theorem mF{f m mv:Int}{nw:af}(n:Nat)(hn:nw.length=n)(h:decide (am n)=false)(el:Option af):aB f m ⟨el,mv,nw⟩=some .places:=by
 refine if_pos ?_;unfold bp;show(decide (am nw.length) && _)=false;rw[hn,h];rfl
theorem p_{f m mv:Int}{nw E:af}(n:Nat)(hn:E.length=n)(h:decide (am n)=false):aB f m ⟨some E,mv,nw⟩=some .places:=by
 refine if_pos ?_;unfold bp;show(decide (am nw.length) && (decide (am E.length) && _))=false;rw[hn,h,Bool.false_and,Bool.and_false]
theorem Bc(n:Nat)(h:decide (am n)=true):aB 1 0 ⟨none,0,bare n⟩=none:=by
 refine mT ?_ rfl (cr 0) (cr n) ?_
 . unfold bp
   show(decide (am (bare n).length) && true)=true;rw[cw,h];rfl
 show([]++bj (List.replicate n [])).Nodup;rw[cq];exact List.nodup_nil
theorem dH{H:Hp}{Q:VK}{n:Nat}{t1 t2:Addr}(h2:H t2=some (.tup [.ref t1]))(h1:H t1=some (.tup []))(hn:1 < n)(hl:n<=10000)(k:∀ v H',ac H H'->bt H' v (bare n)->Q v H'):SW.wA (.ref t2) (.int (n:Int)) H Q:=by
 have lim:sizeLine=16777216:=sizeLine_eq;refine⟨t2,n,[.ref t1],rfl,rfl,h2,List.cons_ne_nil _ _,by omega,by omega,by rw[Int.toNat_natCast];show 1*n<=_;omega,fun t3 h3=>?_⟩
 rw[Int.toNat_natCast];exact k _ _ (ac.new h3) (oS h3 (mi n H t1 h1))
theorem zv:aB 1 0 ⟨some (bare 4096),4095,bare 2048⟩=none:=by
 refine mT ?_ ?_ (cr 4096) (cr 2048) ?_
 . unfold bp
   show(decide (am (bare 2048).length) && (decide (am (bare 4096).length) && (decide ((bare 4096).length=2*(bare 2048).length) || _)))=true;rw[cw,cw];rfl
 . unfold bS
   show(decide ((0:Int)<=4095) && decide ((4095:Int) < ((bare 4096).length:Int)))=true;rw[cw];rfl
 show(bj (List.replicate 4096 [])++bj (List.replicate 2048 [])).Nodup;rw[cq,cq];exact List.nodup_nil
theorem de(n:Nat):szD (bh (bare n))=1+n:=by
 rw[gk,cw,show tot (bare n)=0 from dv n];omega
theorem gL(n:Nat):ap (bh (bare n))=true:=by
 show((bare n).map dm).all b_=true;rw[List.all_eq_true];intro x hx;obtain⟨r,hr,rfl⟩:=List.mem_map.mp hx;rw[List.eq_of_mem_replicate hr]
 rfl
theorem Aj(n m:Nat)(mv:Int):aq (stD ⟨some (bare n),mv,bare m⟩)=true:=by
 show(cg (bh (bare n)) && true && ap (bh (bare m)))=true;rw[gL,show cg (bh (bare n))=ap (bh (bare n))from rfl,gL];rfl
theorem Bl(m:Nat)(mv:Int):aq (stD ⟨none,mv,bare m⟩)=true:=by
 show(true && true && ap (bh (bare m)))=true;rw[gL];rfl
theorem Bm{H:Hp}{Q:VK}{E:XK}{v:V}{S:Sta}{t:Addr}{f m:Int}{b:Bool}(h1:StV H v S)(hz:szD (stD S)<=100000)(hs:aq (stD S)=true)(h4:H t=some (.tup [.int f,.int m]))(h5:0<=f/\f<=65535)(hb:(aB f m S).isNone=b)(q:∀ H',ac H H'->Q (.bl b) H'):dU ([v,.ref t]++[]) H Q E:=
 iL (fQ h1) (lh hz) (nU hz) h4 h5 fun H' b' s _ y=>by rw[y hs S rfl,hb];exact q H' s
theorem Bj{H:Hp}{Q:VK}{E:XK}{v:V}{d:PyData}{t:Addr}{f m:Int}(h1:Any H v d)(hz:szD d<=100000)(hs:aq d=false)(h4:H t=some (.tup [.int f,.int m]))(h5:0<=f/\f<=65535)(q:∀ H',ac H H'->Q (.bl false) H'):dU ([v,.ref t]++[]) H Q E:=
 iL h1 (lh hz) (nU hz) h4 h5 fun H' b' s n _=>by rw[n hs];exact q H' s
theorem is3(a b c:PyData):aq (.tuple [a,b,c])=(cg a && bW b && ap c):=rfl
def dA(H:Hp)(vs:List V):Prop:=∀ v∈vs,∃ d,Any H v d/\szD d<=1000/\aq d=false
theorem dA.same{H H':Hp}{vs:List V}(A:dA H vs)(s:ac H H'):dA H' vs:=fun v h=>by
 obtain⟨d,h1,h2,h3⟩:=A v h;exact⟨d,h1.same s,h2,h3⟩
theorem dA.cons{H:Hp}{v:V}{vs:List V}(A:dA H vs){d:PyData}(h:Any H v d)(h2:szD d<=1000)(h3:aq d=false):dA H (v::vs):=fun x hx=>by
 rcases List.mem_cons.mp hx with rfl | hx
 . exact⟨d,h,h2,h3⟩
 exact A x hx
theorem dA.tup{H:Hp}{vs:List V}{t:Addr}{xs:List V}{ds:List PyData}(A:dA H vs)(h:H t=none)(r:Anys H xs ds)(h2:szD (.tuple ds)<=1000)(h3:aq (.tuple ds)=false):dA (upd H t (.tup xs)) (.ref t::vs):=
 dA.cons (A.same (ac.new h)) (.tup aa (r.same (ac.new h))) h2 h3
theorem AW{n:Nat}{S:Sta}(h:SzS n S):szD (stD S)<=8*n+4:=by
 have h1:=wH h.1;have h2:=we h.2;rw[jD];omega
theorem NoD.of{f m:Int}{d:PyData}(h:aq d=false):NoD f m d:=fun z=>by rw[h]at z;cases z
theorem NoD.flt{f m:Int}{S:Sta}(h:(aB f m S).isNone=false):NoD f m (stD S):=fun _=>⟨S,rfl,h⟩
def NoS(H:Hp)(vs:List V):Prop:=∀ v∈vs,∃ d,Any H v d/\szD d<=100000/\NoD 1 0 d
theorem dA.no{H:Hp}{vs:List V}(A:dA H vs):NoS H vs:=fun v h=>by
 obtain⟨d,h1,h2,h3⟩:=A v h;exact⟨d,h1,by omega,NoD.of h3⟩
theorem NoS.same{H H':Hp}{vs:List V}(A:NoS H vs)(s:ac H H'):NoS H' vs:=fun v h=>by
 obtain⟨d,h1,h2,h3⟩:=A v h;exact⟨d,h1.same s,h2,h3⟩
theorem NoS.cons{H:Hp}{v:V}{vs:List V}(A:NoS H vs){d:PyData}(h:Any H v d)(h2:szD d<=100000)(h3:NoD 1 0 d):NoS H (v::vs):=fun x hx=>by
 rcases List.mem_cons.mp hx with rfl | hx
 . exact⟨d,h,h2,h3⟩
 exact A x hx
def cV(n:Nat):af:=(List.range n).map fun k:Nat=>[((k:Int),(k:Int) - 9)]
theorem iE(n:Nat):(cV n).length=n:=by unfold cV;rw[List.length_map,List.length_range]
theorem jr(n:Nat):cV (n+1)=cV n++[[((n:Int),(n:Int) - 9)]]:=by unfold cV;rw[List.range_succ,List.map_append];rfl
theorem pC(n:Nat):tot (cV n)=n:=by
 induction n with
 | zero=>rfl
 | succ n ih=>rw[jr,cu,ih];rfl
theorem rD{n i:Nat}{r:ar}(h:(cV n)[i]?=some r):i < n/\r=[((i:Int),(i:Int) - 9)]:=by
 unfold cV at h;rw[List.getElem?_map]at h;obtain⟨j,hj,rfl⟩:=Option.map_eq_some_iff.mp h;have hl:=(List.getElem?_eq_some_iff.mp hj).1;rw[List.length_range]at hl;rw[List.getElem?_range hl]at hj;cases hj;exact⟨hl,rfl⟩
theorem tP(n:Nat):bj (cV n)=(List.range n).map fun k:Nat=>(k:Int):=by
 induction n with
 | zero=>rfl
 | succ n ih=>rw[jr,dY,ih,List.range_succ,List.map_append];rfl
theorem sr(n:Nat):(bj (cV n)).Nodup:=by
 rw[tP];exact List.Pairwise.map _ (fun a b h e=>h (Int.ofNat.inj e)) List.nodup_range
theorem ub:ff 1 0 0 (cV 2048):=fun i r h x hx=>by
 obtain⟨h1,rfl⟩:=rD h;rw[List.mem_singleton.mp hx,iE];show((i:Int)*1+0) % 65536 % ((2048:Nat):Int)=i /\ ¬ (i:Int) < 0;omega
theorem rR{p:Int×Int}(h:p∈(cV 2048).flatten):InB p:=by
 obtain⟨r,hr,hp⟩:=List.mem_flatten.mp h;obtain⟨i,hi⟩:=List.mem_iff_getElem?.mp hr;obtain⟨h1,rfl⟩:=rD hi;rw[List.mem_singleton.mp hp];show(0<=(i:Int)/\(i:Int)<=1000000000) /\ -1000000000<=(i:Int) - 9/\(i:Int) - 9<=1000000000;omega
theorem vU:fH 1 0 ⟨none,0,cV 2048⟩:=by
 refine⟨?_,rfl,cr 0,ub,?_⟩
 . unfold bp
   show(decide (am (cV 2048).length) && true)=true;rw[iE];rfl
 show([]++bj (cV 2048)).Nodup;exact sr 2048
theorem uG:fH 1 0 ⟨some (cV 2048),0,bare 4096⟩:=by
 refine⟨?_,?_,ub,cr 4096,?_⟩
 . unfold bp
   show(decide (am (bare 4096).length) && (decide (am (cV 2048).length) && (decide ((cV 2048).length=2*(bare 4096).length) || decide ((bare 4096).length=2*(cV 2048).length))))=true;rw[cw,iE];rfl
 . unfold bS
   show(decide ((0:Int)<=0) && decide ((0:Int) < ((cV 2048).length:Int)))=true;rw[iE];rfl
 show(bj (cV 2048)++bj (List.replicate 4096 [])).Nodup;rw[cq,List.append_nil];exact sr 2048
theorem lm{C CT:Addr}{v:V}{t:Addr}{n f m:Int}{S:Sta}{H:Hp}{Q:VK}{E:XK}(h1:StV H v S)(h2:fH f m S)(h4:∀ p∈(S.el.getD []).flatten++S.nw.flatten,InB p)(h5:tot (S.el.getD [])+tot S.nw<=4000)(h6:H t=some (.tup [.int f,.int m]))(h7:0<=f/\f<=65535)(h8:0<=n)(h9:n<=1000)(k:∀ H',ac H H'->Q (.bl true) H'):fU C CT ([v,.ref t,.int n]++[]) H Q E:=by
 obtain⟨M,rfl,T,R,e1,e2⟩:=h2.tok;have a1:=fZ M;unfold cW at a1;rw[List.length_append,bq,bq]at a1;exact uk (xm h1) T R h4 (by rw[← a1];exact h5) h6 h7 h8 h9 k
def sN:Nat->Nat
 | 0=>64
 | n+1=>2*sN n+8
theorem wn{j:Nat}(h:j<=2):sN j<=280:=by
 match j,h with
 | 0,_=>decide
 | 1,_=>decide
 | 2,_=>decide
theorem zl{f:Addr}{fd:FuncData}(F:Fun K "law" "law" qd f fd)(g:Gs K mg C CT CE CP CZ CR CV)
 (q38_:Fn P w K mg base "_law_stream" 1 ["cell"] iS) (q40_:Fn P w K mg base "_law_take" 1 ["row","many"] cH) (q30_:Fn P w K mg base "_law_mixer" 2 ["row"] lV) (q39_:Fn P w K mg base "_law_table_state" 3 ["row","mixer"] lf) (q26_:Fn P w K mg base "_law_due" 2 ["state","mixer"] pF) (q24_:Fn P w K mg base "_law_bent" 4 ["row","state"] lY) (q27_:Fn P w K mg base "_law_is" 3 ["thing","mixer"] sJ) (q32_:Fn P w K mg base "_law_odd" 4 ["row","state"] nZ)
 (q36_:Fn P w K mg base "_law_refused" 9 ["state","mixer","pace"] eZ) (q29_:Fn P w K mg base "_law_made" 9 ["state","mixer","pace"] (fU C CT)) (q25_:Fn P w K mg base "_law_bounded" 1 ["state"] fc) :
 c7 P w K mg base CX0 10 f fd ["script"] (oM K):=by
 refine xX F dh (fun vs H Q E h=>?_) (fun cdv A outer st H vs Q E hr h=>?_)
 . obtain⟨a,ns,rfl,_⟩:=h
   rfl
 obtain⟨a,ns,rfl,hS,hlen,k⟩:=h;have lim:sizeLine=16777216:=sizeLine_eq;have zero_:(0:Nat)<=sizeLine:=by decide
 have one_:(1:Nat)<=sizeLine:=by decide
 have two_:(2:Nat)<=sizeLine:=by decide
 have three_:(3:Nat)<=sizeLine:=by decide
 refine⟨_,(B.scons (B.set 1 dh.nd (B.op SW.c_ (B.tup (B.cons (B.tup B.nil) B.nil)) B.int))
  (B.scons (B.fors (B.ilist (B.lst (B.cons (B.tup (B.cons B.non (B.cons B.int (B.cons B.non B.nil)))) (B.cons (B.tup (B.cons (B.v 1) (B.cons B.int (B.cons B.non B.nil)))) (B.cons (B.tup (B.cons (B.v 1) (B.cons B.non (B.cons B.non B.nil)))) (B.cons (B.tup (B.cons B.non (B.cons B.non (B.cons (B.v 1) B.nil)))) (B.cons (B.tup (B.cons B.non (B.cons B.int (B.cons (B.lst (B.cons (B.v 1) B.nil)) B.nil)))) B.nil))))))) (B.gname (i:=2) dh.nd) (B.sone (B.ifs (B.tnot (B.tval (B.fn q36_ hr.up (B.cons (B.v 2) (B.cons (B.tup (B.cons B.int (B.cons B.int B.nil))) (B.cons B.int B.nil)))))) (B.sone (B.ret B.bl)) B.snil)))
  (B.scons (B.fors (B.ilist (B.lst (B.cons B.non (B.cons B.int (B.cons B.bl (B.cons B.str (B.cons (B.lst B.nil) (B.cons B.dnew (B.cons (B.tup B.nil) (B.cons (B.tup (B.cons B.non (B.cons B.int B.nil))) (B.cons (B.lst (B.cons B.non (B.cons B.int (B.cons (B.tup (B.cons (B.tup B.nil) (B.cons (B.tup B.nil) (B.cons (B.tup B.nil) (B.cons (B.tup B.nil) B.nil))))) B.nil)))) (B.cons (B.tup (B.cons B.non (B.cons B.bl (B.cons (B.op SW.c_ (B.tup (B.cons (B.tup B.nil) B.nil)) B.int) B.nil)))) B.nil)))))))))))) (B.gname (i:=2) dh.nd) (B.sone (B.ifs (B.tnot (B.tval (B.fn q36_ hr.up (B.cons (B.v 2) (B.cons (B.tup (B.cons B.int (B.cons B.int B.nil))) (B.cons B.int B.nil)))))) (B.sone (B.ret B.bl)) B.snil)))
  (B.scons (B.fors (B.ilist (B.lst (B.cons (B.tup (B.cons B.non (B.cons B.int (B.cons (B.op SW.c_ (B.tup (B.cons (B.tup B.nil) B.nil)) B.int) B.nil)))) (B.cons (B.tup (B.cons (B.op SW.c_ (B.tup (B.cons (B.tup B.nil) B.nil)) B.int) (B.cons B.int (B.cons (B.op SW.c_ (B.tup (B.cons (B.tup B.nil) B.nil)) B.int) B.nil)))) (B.cons (B.tup (B.cons (B.op SW.c_ (B.tup (B.cons (B.tup B.nil) B.nil)) B.int) (B.cons B.int (B.cons (B.op SW.c_ (B.tup (B.cons (B.tup B.nil) B.nil)) B.int) B.nil)))) B.nil))))) (B.gname (i:=2) dh.nd) (B.sone (B.ifs (B.tnot (B.tval (B.fn q36_ hr.up (B.cons (B.v 2) (B.cons (B.tup (B.cons B.int (B.cons B.int B.nil))) (B.cons B.int B.nil)))))) (B.sone (B.ret B.bl)) B.snil)))
  (B.scons (B.set 3 dh.nd (B.cT cN g.b_tuple SW.b_tuple (B.cons (SW.B.comp [] ["k"] (SW.ax.of rfl rfl (by decide +kernel) (by decide +kernel) rfl trivial rfl rfl rfl) (by decide +kernel) (B.irange g.b_range (B.cons B.int B.nil)) (fun _ _ _ _=>(B.tup (B.cons (B.tup (B.cons (B.v 0) (B.cons (B.op jF (B.v 0) B.int) B.nil))) B.nil)))) B.nil)))
  (B.scons (B.ifs (B.tw (B.wor (B.tnot (B.tval (B.fn q29_ hr.up (B.cons (B.tup (B.cons B.non (B.cons B.int (B.cons (B.v 3) B.nil)))) (B.cons (B.tup (B.cons B.int (B.cons B.int B.nil))) (B.cons B.int B.nil)))))) (B.wor1 (B.tnot (B.tval (B.fn q29_ hr.up (B.cons (B.tup (B.cons (B.v 3) (B.cons B.int (B.cons (B.op SW.c_ (B.tup (B.cons (B.tup B.nil) B.nil)) B.int) B.nil)))) (B.cons (B.tup (B.cons B.int (B.cons B.int B.nil))) (B.cons B.int B.nil))))))))) (B.sone (B.ret B.bl)) B.snil)
  (B.scons (B.fors (B.ilist (B.op m6 (B.lst (B.cons B.int B.nil)) (B.slice lc (B.v 0) B.nopart (B.part B.int)))) (B.gname (i:=4) dh.nd) (B.scons (B.set 5 dh.nd (B.fn q38_ hr.up (B.cons (B.v 4) B.nil)))
  (B.scons (B.set 6 dh.nd (B.fn q30_ hr.up (B.cons (B.v 5) B.nil)))
  (B.scons (B.set 7 dh.nd (B.op bv B.int (B.fn q40_ hr.up (B.cons (B.v 5) (B.cons B.int B.nil)))))
  (B.scons (B.set 8 dh.nd (B.fn q39_ hr.up (B.cons (B.v 5) (B.cons (B.v 6) B.nil))))
  (B.scons (B.ifs (B.tnot (B.tval (B.fn q29_ hr.up (B.cons (B.v 8) (B.cons (B.v 6) (B.cons (B.v 7) B.nil)))))) (B.sone (B.ret B.bl)) B.snil)
  (B.scons (B.fors (B.irange g.b_range (B.cons B.int B.nil)) (B.gname (i:=9) dh.nd) (B.scons (B.set 2 dh.nd (B.fn q32_ hr.up (B.cons (B.v 5) (B.cons (B.v 8) B.nil))))
  (B.sone (B.ifs (B.tw (B.wand (B.tnot (B.tval (B.fn q27_ hr.up (B.cons (B.v 2) (B.cons (B.v 6) B.nil))))) (B.wand1 (B.tnot (B.tval (B.fn q36_ hr.up (B.cons (B.v 2) (B.cons (B.v 6) (B.cons (B.v 7) B.nil))))))))) (B.sone (B.ret B.bl)) B.snil))))
  (B.sone (B.fors (B.irange g.b_range (B.cons B.int B.nil)) (B.gname (i:=9) dh.nd) (B.scons (B.set 8 dh.nd (B.fn q24_ hr.up (B.cons (B.v 5) (B.cons (B.v 8) B.nil))))
  (B.sone (B.ifs (B.tw (B.wand (B.tcmp bZ (B.fn q26_ hr.up (B.cons (B.v 8) (B.cons (B.v 6) B.nil))) B.non) (B.wand1 (B.tval (B.fn q25_ hr.up (B.cons (B.v 8) B.nil)))))) (B.sone (B.ifs (B.tnot (B.tval (B.fn q29_ hr.up (B.cons (B.v 8) (B.cons (B.v 6) (B.cons (B.v 7) B.nil)))))) (B.sone (B.ret B.bl)) B.snil)) (B.sone (B.ifs (B.tnot (B.tval (B.fn q36_ hr.up (B.cons (B.v 8) (B.cons (B.v 6) (B.cons (B.v 7) B.nil)))))) (B.sone (B.ret B.bl)) B.snil))))))))))))))
  (B.sone (B.ret B.bl))))))))),?_⟩
 rw[show L2.c6 _ [V.ref a]=[some (.ref a),none,none,none,none,none,none,none,none,none]from rfl];walk_at "W2";refine⟨zero_,fun t1 h1=>?_⟩;walk_at "W2";refine⟨one_,fun t2 h2=>?_⟩;walk_at "W2";refine dH (n:=4) aa (ac.new (o:=.tup [.ref t1]) h2 _ _ aa) (by decide) (by decide) fun v4 H1 s1 w1=>?_
 have hS1:=(((ac.new (o:=.tup []) h1).trans (ac.new (o:=.tup [.ref t1]) h2)).trans s1).seq hS;clear s1 h1 h2 hS;walk_at "W2";refine⟨three_,fun b1 g1=>?_⟩;have i1:=ac.new (o:=.tup [.non,.int 0,.non]) g1;have A1:=dA.tup (H:=H1) (vs:=[]) (fun v h=>by cases h) g1 (an3 .non (.int 0) .non) (by rw[eJ,aU,aZ];decide) rfl
 have w2:=w1.keep (SW.ac.tk i1);generalize upd H1 b1 (.tup [.non,.int 0,.non])=H2 at *;walk_at "W2";refine⟨three_,fun b2 g2=>?_⟩;have i2:=ac.new (o:=.tup [v4,.int 0,.non]) g2;have A2:=dA.tup A1 g2 (an3 (cR w2) (.int 0) .non) (by rw[eJ,aU,aZ,de];decide) (by rw[is3,show ap .none=false from rfl,Bool.and_false])
 have w3:=w2.keep (SW.ac.tk i2);generalize upd H2 b2 (.tup [v4,.int 0,.non])=H3 at *;walk_at "W2";refine⟨three_,fun b3 g3=>?_⟩;have i3:=ac.new (o:=.tup [v4,.non,.non]) g3;have A3:=dA.tup A2 g3 (an3 (cR w3) .non .non) (by rw[eJ,aU,de];decide) (by rw[is3,show ap .none=false from rfl,Bool.and_false])
 have w4:=w3.keep (SW.ac.tk i3);generalize upd H3 b3 (.tup [v4,.non,.non])=H4 at *;walk_at "W2";refine⟨three_,fun b4 g4=>?_⟩;have i4:=ac.new (o:=.tup [.non,.non,v4]) g4;have A4:=dA.tup A3 g4 (an3 .non .non (cR w4)) (by rw[eJ,aU,de];decide) (by rw[is3,show bW .none=false from rfl,Bool.and_false,Bool.false_and])
 have w5:=w4.keep (SW.ac.tk i4);generalize upd H4 b4 (.tup [.non,.non,v4])=H5 at *;walk_at "W2";refine⟨one_,fun b5 g5=>?_⟩;have i5:=ac.new (o:=.lst [v4]) g5;have w6:=w5.keep (SW.ac.tk i5);have e5:upd H5 b5 (.lst [v4]) b5=some (.lst [v4]):=aa;generalize upd H5 b5 (.lst [v4])=H6 at *;walk_at "W2";refine⟨three_,fun b6 g6=>?_⟩;have i6:=ac.new (o:=.tup [.non,.int 0,.ref b5]) g6;have A6:=dA.tup (A4.same i5) g6 (an3 .non (.int 0) (.lst e5 (an1 (cR w6)))) (by rw[eJ,aU,aZ,bI];decide) (by rw[is3,show ap (.list _)=false from rfl,Bool.and_false])
 generalize upd H6 b6 (.tup [.non,.int 0,.ref b5])=H7 at *;walk_at "W2";refine⟨by show(5:Nat)<=sizeLine;decide,fun L hL=>?_⟩
 have i7:=ac.new (o:=.lst [.ref b1,.ref b2,.ref b3,.ref b4,.ref b6]) hL;have A7:=(A6.same i7).no;have eL:upd H7 L (.lst [.ref b1,.ref b2,.ref b3,.ref b4,.ref b6]) L=some (.lst [.ref b1,.ref b2,.ref b3,.ref b4,.ref b6]):=aa;have i17:=((((((i1.trans i2).trans i3).trans i4).trans i5).trans i6).trans i7);have hS8:=i17.seq hS1;generalize upd H7 L (.lst [.ref b1,.ref b2,.ref b3,.ref b4,.ref b6])=H8 at *;clear A1 A2 A3 A4 A6 w1 w2 w3 w4 w5 w6 i1 i2 i3 i4 i5 i6 i7 i17 g1 g2 g3 g4 g5 g6 hL e5 hS1;walk_at "W2";refine⟨L,rfl,⟨_,SqL.of eL⟩,?_⟩;refine SW.cU (xs:=[.ref b1,.ref b2,.ref b3,.ref b4,.ref b6]) (fun i Z H'=>∃ x2,Z=[some (.ref a),some v4,x2,none,none,none,none,none,none,none]/\ac H8 H')
  ⟨none,rfl,ac.refl _⟩ (fun i Z H' _ ⟨_,_,h⟩=>SqL.of (h _ _ eL)) ?_ ?_
 . rintro j x Z' H' hj ⟨x2,rfl,s'⟩
   obtain⟨dd,hd,hz,hn⟩:=A7 x (List.mem_reverse.mp (List.mem_of_getElem? hj));walk_at "W2";refine⟨two_,fun m1 hm1=>?_⟩;have i13:=s'.trans (ac.new (o:=.tup [.int 1,.int 0]) hm1);walk_at "W2";refine cC (hd.same i13) hz aa ⟨by decide,by decide⟩ hn fun H14 s14=>?_
   walk_at "W2";refine ao ?_;walk_at "W2";exact⟨_,rfl,i13.trans s14⟩
 rintro Z' H9 ⟨x2,rfl,s9⟩;have hS9:=s9.seq hS8;clear A7 s9 eL hS8;walk_at "W2";refine⟨zero_,fun c1 g1=>?_⟩;have i1:=ac.new (o:=.lst []) g1;have A1:dA (upd H9 c1 (.lst [])) [.ref c1,.str "",.bl true,.int 0,.non]:=(((((show dA (upd H9 c1 (.lst [])) []from fun v h=>by cases h).cons .non (by rw[aU];decide) rfl).cons (.int 0) (by rw[aZ];decide) rfl).cons (.bl true) (by rw[bN];decide) rfl).cons (.str "") (by rw[cm];decide) rfl).cons (.lst aa .nil) (by rw[bI];decide) rfl
 generalize upd H9 c1 (.lst [])=H10 at *;walk_at "W2";intro c2 g2;have i2:=ac.new (o:=.dK []) g2;have A2:=(A1.same i2).cons (.dic aa) (by rw[oY];decide) rfl
 generalize upd H10 c2 (.dK [])=H11 at *;walk_at "W2";refine⟨zero_,fun c3 g3=>?_⟩;have i3:=ac.new (o:=.tup []) g3;have A3:=dA.tup A2 g3 .nil (by rw[bT];decide) rfl
 generalize upd H11 c3 (.tup [])=H12 at *;walk_at "W2";refine⟨two_,fun c4 g4=>?_⟩;have i4:=ac.new (o:=.tup [.non,.int 0]) g4;have A4:=dA.tup A3 g4 (an2 .non (.int 0)) (by rw[bT,szL,szL,szL,aU,aZ];decide) rfl
 generalize upd H12 c4 (.tup [.non,.int 0])=H13 at *;walk_at "W2";refine⟨zero_,fun u1 k1=>?_⟩;walk_at "W2";refine⟨zero_,fun u2 k2=>?_⟩;walk_at "W2";refine⟨zero_,fun u3 k3=>?_⟩;walk_at "W2";refine⟨zero_,fun u4 k4=>?_⟩;have j1:=ac.new (o:=.tup []) k1;have j2:=ac.new (o:=.tup []) k2;have j3:=ac.new (o:=.tup []) k3;have j4:=ac.new (o:=.tup []) k4;have q1:Any _ (.ref u1) (.tuple []):=.tup ((j2.trans (j3.trans j4)) _ _ (aa (H:=H13) (a:=u1) (o:=.tup []))) .nil;have q2:Any _ (.ref u2) (.tuple []):=.tup ((j3.trans j4) _ _ (aa (a:=u2) (o:=.tup []))) .nil;have q3:Any _ (.ref u3) (.tuple []):=.tup (j4 _ _ (aa (a:=u3) (o:=.tup []))) .nil;have q4:Any (upd (upd (upd (upd H13 u1 (.tup [])) u2 (.tup [])) u3 (.tup [])) u4 (.tup [])) (.ref u4) (.tuple []):=.tup aa .nil;have j14:=j1.trans (j2.trans (j3.trans j4));have A5:=A4.same j14;generalize upd (upd (upd (upd H13 u1 (.tup [])) u2 (.tup [])) u3 (.tup [])) u4 (.tup [])=H14 at *;clear j1 j2 j3 j4 k1 k2 k3 k4;walk_at "W2";refine⟨by show(4:Nat)<=sizeLine;decide,fun u5 k5=>?_⟩
 have j5:=ac.new (o:=.tup [.ref u1,.ref u2,.ref u3,.ref u4]) k5;have q5:Any (upd H14 u5 (.tup [.ref u1,.ref u2,.ref u3,.ref u4])) (.ref u5) (.tuple [.tuple [],.tuple [],.tuple [],.tuple []]):=.tup aa (.cons (q1.same j5) (.cons (q2.same j5) (.cons (q3.same j5) (.cons (q4.same j5) .nil))));have A6:=A5.same j5;generalize upd H14 u5 (.tup [.ref u1,.ref u2,.ref u3,.ref u4])=H15 at *;walk_at "W2";refine⟨three_,fun u6 k6=>?_⟩;have j6:=ac.new (o:=.lst [.non,.int 0,.ref u5]) k6;have A7:=(A6.same j6).cons (.lst (aa (a:=u6) (o:=.lst [.non,.int 0,.ref u5])) (an3 .non (.int 0) (q5.same j6))) (by rw[bI];decide) rfl
 generalize upd H15 u6 (.lst [.non,.int 0,.ref u5])=H16 at *;walk_at "W2";refine⟨zero_,fun u7 k7=>?_⟩;walk_at "W2";refine⟨one_,fun u8 k8=>?_⟩;have j78:=(ac.new (o:=.tup []) k7).trans (ac.new (o:=.tup [.ref u7]) k8);walk_at "W2";refine dH (n:=4) aa (ac.new (o:=.tup [.ref u7]) k8 _ _ aa) (by decide) (by decide) fun v9 H17 s17 w17=>?_
 walk_at "W2";refine⟨three_,fun u9 k9=>?_⟩;have j9:=ac.new (o:=.tup [.non,.bl false,v9]) k9;have j79:=(j78.trans s17).trans j9;have A8:=dA.tup (A7.same (j78.trans s17)) k9 (an3 .non (.bl false) (cR w17)) (by rw[eJ,aU,bN,de];decide) (by rw[is3,show bW (.bool false)=false from rfl,Bool.and_false,Bool.false_and])
 generalize upd H17 u9 (.tup [.non,.bl false,v9])=H18 at *;walk_at "W2";refine⟨by show(10:Nat)<=sizeLine;decide,fun L hL=>?_⟩
 have i10:=ac.new (o:=.lst [.non,.int 0,.bl true,.str "",.ref c1,.ref c2,.ref c3,.ref c4,.ref u6,.ref u9]) hL;have A9:=(A8.same i10).no;have eL:upd H18 L (.lst [.non,.int 0,.bl true,.str "",.ref c1,.ref c2,.ref c3,.ref c4,.ref u6,.ref u9]) L=some (.lst [.non,.int 0,.bl true,.str "",.ref c1,.ref c2,.ref c3,.ref c4,.ref u6,.ref u9]):=aa;have hS19:=((((((i1.trans i2).trans i3).trans i4).trans j14).trans (j5.trans j6)).trans (j79.trans i10)).seq hS9;generalize upd H18 L (.lst [.non,.int 0,.bl true,.str "",.ref c1,.ref c2,.ref c3,.ref c4,.ref u6,.ref u9])=H19 at *;clear A1 A2 A3 A4 A5 A6 A7 A8 i1 i2 i3 i4 j14 j5 j6 j79 j9 j78 s17 w17 q1 q2 q3 q4 q5 i10 hS9 g1 g2 g3 g4 k5 k6 k7 k8 k9 hL;walk_at "W2";refine⟨L,rfl,⟨_,SqL.of eL⟩,?_⟩;refine SW.cU (xs:=[.non,.int 0,.bl true,.str "",.ref c1,.ref c2,.ref c3,.ref c4,.ref u6,.ref u9]) (fun i Z H'=>∃ x2,Z=[some (.ref a),some v4,x2,none,none,none,none,none,none,none]/\ac H19 H')
  ⟨_,rfl,ac.refl _⟩ (fun i Z H' _ ⟨_,_,h⟩=>SqL.of (h _ _ eL)) ?_ ?_
 . rintro j x Z' H' hj ⟨x2,rfl,s'⟩
   obtain⟨dd,hd,hz,hn⟩:=A9 x (List.mem_reverse.mp (List.mem_of_getElem? hj));walk_at "W2";refine⟨two_,fun m1 hm1=>?_⟩;have i13:=s'.trans (ac.new (o:=.tup [.int 1,.int 0]) hm1);walk_at "W2";refine cC (hd.same i13) hz aa ⟨by decide,by decide⟩ hn fun H14 s14=>?_
   walk_at "W2";refine ao ?_;walk_at "W2";exact⟨_,rfl,i13.trans s14⟩
 rintro Z' H20 ⟨x2,rfl,s20⟩;have hS20:=s20.seq hS19;clear A9 s20 eL hS19;walk_at "W2";refine⟨zero_,fun yd1a kd1a=>?_⟩;walk_at "W2";refine⟨one_,fun yd1b kd1b=>?_⟩;have jd10:=(ac.new (o:=.tup []) kd1a).trans (ac.new (o:=.tup [.ref yd1a]) kd1b);walk_at "W2";refine dH (n:=8192) aa (ac.new (o:=.tup [.ref yd1a]) kd1b _ _ aa) (by decide) (by decide) fun vvd1 Gd1 sd1 wwd1=>?_
 have jd1:=jd10.trans sd1;clear jd10 sd1 kd1a kd1b;walk_at "W2";refine⟨three_,fun d1 g1=>?_⟩;have i1:=ac.new (o:=.tup [.non,.int 0,vvd1]) g1;have ST1:=me (mv:=0) (el:=none) g1 rfl wwd1;have A1:NoS _ [.ref d1]:=NoS.cons (fun v h=>by cases h) (fQ ST1) (by rw[jD,de];show 2+szD .none+_<=_;rw[aU];decide) (NoD.flt (by rw[mF 8192 (cw _) rfl];rfl))
 clear ST1;generalize upd Gd1 d1 (.tup [.non,.int 0,vvd1])=H21 at *;walk_at "W2";refine⟨zero_,fun yd2a kd2a=>?_⟩;walk_at "W2";refine⟨one_,fun yd2b kd2b=>?_⟩;have jd20:=(ac.new (o:=.tup []) kd2a).trans (ac.new (o:=.tup [.ref yd2a]) kd2b);walk_at "W2";refine dH (n:=8192) aa (ac.new (o:=.tup [.ref yd2a]) kd2b _ _ aa) (by decide) (by decide) fun vvd2 Gd2 sd2 wwd2=>?_
 have jd2:=jd20.trans sd2;clear jd20 sd2 kd2a kd2b;walk_at "W2";refine⟨zero_,fun yd3a kd3a=>?_⟩;walk_at "W2";refine⟨one_,fun yd3b kd3b=>?_⟩;have jd30:=(ac.new (o:=.tup []) kd3a).trans (ac.new (o:=.tup [.ref yd3a]) kd3b);walk_at "W2";refine dH (n:=4096) aa (ac.new (o:=.tup [.ref yd3a]) kd3b _ _ aa) (by decide) (by decide) fun vvd3 Gd3 sd3 wwd3=>?_
 have jd3:=jd30.trans sd3;clear jd30 sd3 kd3a kd3b;walk_at "W2";refine⟨three_,fun d2 g2=>?_⟩;have i2:=ac.new (o:=.tup [vvd2,.int 0,vvd3]) g2;have ST2:=me (mv:=0) (el:=some (bare 8192)) g2 (wwd2.keep (SW.ac.tk jd3)) wwd3;have A2:=NoS.cons (A1.same ((jd2.trans jd3).trans i2)) (fQ ST2) (by rw[jD,de];show 2+szD (bh _)+_<=_;rw[de];decide) (NoD.flt (by rw[p_ 8192 (cw _) rfl];rfl))
 clear ST2 A1;generalize upd Gd3 d2 (.tup [vvd2,.int 0,vvd3])=H22 at *;walk_at "W2";refine⟨zero_,fun yd4a kd4a=>?_⟩;walk_at "W2";refine⟨one_,fun yd4b kd4b=>?_⟩;have jd40:=(ac.new (o:=.tup []) kd4a).trans (ac.new (o:=.tup [.ref yd4a]) kd4b);walk_at "W2";refine dH (n:=4096) aa (ac.new (o:=.tup [.ref yd4a]) kd4b _ _ aa) (by decide) (by decide) fun vvd4 Gd4 sd4 wwd4=>?_
 have jd4:=jd40.trans sd4;clear jd40 sd4 kd4a kd4b;walk_at "W2";refine⟨zero_,fun yd5a kd5a=>?_⟩;walk_at "W2";refine⟨one_,fun yd5b kd5b=>?_⟩;have jd50:=(ac.new (o:=.tup []) kd5a).trans (ac.new (o:=.tup [.ref yd5a]) kd5b);walk_at "W2";refine dH (n:=8192) aa (ac.new (o:=.tup [.ref yd5a]) kd5b _ _ aa) (by decide) (by decide) fun vvd5 Gd5 sd5 wwd5=>?_
 have jd5:=jd50.trans sd5;clear jd50 sd5 kd5a kd5b;walk_at "W2";refine⟨three_,fun d3 g3=>?_⟩;have i3:=ac.new (o:=.tup [vvd4,.int 0,vvd5]) g3;have ST3:=me (mv:=0) (el:=some (bare 4096)) g3 (wwd4.keep (SW.ac.tk jd5)) wwd5;have A3:=NoS.cons (A2.same ((jd4.trans jd5).trans i3)) (fQ ST3) (by rw[jD,de];show 2+szD (bh _)+_<=_;rw[de];decide) (NoD.flt (by rw[mF 8192 (cw _) rfl];rfl))
 clear ST3 A2;generalize upd Gd5 d3 (.tup [vvd4,.int 0,vvd5])=H23 at *;walk_at "W2";refine⟨three_,fun L hL=>?_⟩;have i10:=ac.new (o:=.lst [.ref d1,.ref d2,.ref d3]) hL;have A9:=A3.same i10;have eL:upd H23 L (.lst [.ref d1,.ref d2,.ref d3]) L=some (.lst [.ref d1,.ref d2,.ref d3]):=aa;have hS24:=(((jd1.trans i1).trans ((jd2.trans jd3).trans i2)).trans (((jd4.trans jd5).trans i3).trans i10)).seq hS20;generalize upd H23 L (.lst [.ref d1,.ref d2,.ref d3])=H24 at *;clear A3 wwd1 wwd2 wwd3 wwd4 wwd5 jd1 jd2 jd3 jd4 jd5 i1 i2 i3 i10 hL g1 g2 g3 hS20;walk_at "W2";refine⟨L,rfl,⟨_,SqL.of eL⟩,?_⟩;refine SW.cU (xs:=[.ref d1,.ref d2,.ref d3]) (fun i Z H'=>∃ x2,Z=[some (.ref a),some v4,x2,none,none,none,none,none,none,none]/\ac H24 H')
  ⟨_,rfl,ac.refl _⟩ (fun i Z H' _ ⟨_,_,h⟩=>SqL.of (h _ _ eL)) ?_ ?_
 . rintro j x Z' H' hj ⟨x2,rfl,s'⟩
   obtain⟨dd,hd,hz,hn⟩:=A9 x (List.mem_reverse.mp (List.mem_of_getElem? hj));walk_at "W2";refine⟨two_,fun m1 hm1=>?_⟩;have i13:=s'.trans (ac.new (o:=.tup [.int 1,.int 0]) hm1);walk_at "W2";refine cC (hd.same i13) hz aa ⟨by decide,by decide⟩ hn fun H14 s14=>?_
   walk_at "W2";refine ao ?_;walk_at "W2";exact⟨_,rfl,i13.trans s14⟩
 rintro Z' H25 ⟨x2,rfl,s25⟩;have hS25:=s25.seq hS24;clear A9 s25 eL hS24;walk_at "W2";refine⟨2048,rfl,by decide,by decide,fun D hD=>?_⟩
 refine cQ (fun i Z' H'=>∃(v:Option V) (zs:List V),Z'=[v]/\ac H25 H'/\H' D=some (.lst zs)/\Paired (dB H') zs (cV i)/\zs.length=i) ⟨none,[],rfl,ac.new hD,aa,.nil,rfl⟩ ?_ ?_
 . rintro i Z' H' hi ⟨v,zs,rfl,s',hD',hz,hzl⟩
   walk_at "W2";refine⟨two_,fun e1 g1=>?_⟩;walk_at "W2";refine⟨one_,fun e2 g2=>?_⟩;have hi':i < 2048:=hi;have i1:=ac.new (o:=.tup [V.int (0+(i:Int)),V.int (0+(i:Int) - 9)]) g1;have i2:=ac.new (o:=.tup [.ref e1]) g2;have x1:=i2 _ _ (aa (H:=H') (a:=e1) (o:=.tup [V.int (0+(i:Int)),V.int (0+(i:Int) - 9)]));have x2:=aa (H:=upd H' e1 (.tup [V.int (0+(i:Int)),V.int (0+(i:Int) - 9)])) (a:=e2) (o:=.tup [.ref e1]);have i12:=i1.trans i2;have hD2:=i12 _ _ hD';generalize upd (upd H' e1 (.tup [V.int (0+(i:Int)),V.int (0+(i:Int) - 9)])) e2 (.tup [.ref e1])=HN at *;have tk:TK HN (upd HN D (.lst (zs++[.ref e2]))):=fun b us e=>by rw[ag (aA e hD2 (by intro z;cases z))];exact e
   refine CN.mk hi hD2 (by omega) ⟨_,zs++[.ref e2],rfl,fun b o e=>?_,aa,?_,by rw[List.length_append,hzl];rfl⟩
   . rw[ag (ai e hD)]
     exact i12 _ _ (s' _ _ e)
   rw[jr];rw[Int.zero_add]at x1;exact aG (.cons ⟨e2,[.ref e1],rfl,tk _ _ x2,.cons ⟨e1,rfl,tk _ _ x1⟩ .nil⟩ .nil) (ba (ba hz (SW.ac.tk i12)) tk)
 rintro Z' H26 ⟨v,zs,rfl,s26,hD26,hz26,hzl⟩;walk_at "W2";refine⟨D,zs,rfl,.inl ⟨SqL.of hD26,fun qm hqm=>?_⟩⟩;have hz26:Paired (dB H26) zs (cV 2048):=hz26;have wm:=oS hqm hz26;have hS27:=(s26.trans (ac.new (o:=.tup zs) hqm)).seq hS25;generalize upd H26 qm (.tup zs)=H27 at *;clear hz26 hzl hD26 s26 hD hS25;walk_at "W2";refine⟨three_,fun f1 g1=>?_⟩;have i1:=ac.new (o:=.tup [.non,.int 0,.ref qm]) g1;have ST1:=me (mv:=0) (el:=none) g1 rfl wm;have wm1:=wm.keep (SW.ac.tk i1);generalize upd H27 f1 (.tup [.non,.int 0,.ref qm])=H28 at *;walk_at "W2";refine⟨two_,fun f2 g2=>?_⟩;have i2:=ac.new (o:=.tup [.int 1,.int 0]) g2;walk_at "W2";refine lm (ST1.keep (SW.ac.tk i2)) vU (fun p hp=>rR hp) (by show 0+tot (cV 2048)<=4000;rw[pC];decide) aa ⟨by decide,by decide⟩ (by decide) (by decide) fun H29 s29=>?_
 have wm2:=(wm1.keep (SW.ac.tk i2)).keep (SW.ac.tk s29);have hS29:=((i1.trans i2).trans s29).seq hS27;clear ST1 wm1 wm i1 i2 s29 hS27 g1 g2;walk_at "W2";refine ao ?_;walk_at "W2";refine⟨zero_,fun yf1a kf1a=>?_⟩;walk_at "W2";refine⟨one_,fun yf1b kf1b=>?_⟩;have jf10:=(ac.new (o:=.tup []) kf1a).trans (ac.new (o:=.tup [.ref yf1a]) kf1b);walk_at "W2";refine dH (n:=4096) aa (ac.new (o:=.tup [.ref yf1a]) kf1b _ _ aa) (by decide) (by decide) fun vvf1 Gf1 sf1 wwf1=>?_
 have jf1:=jf10.trans sf1;clear jf10 sf1 kf1a kf1b;walk_at "W2";refine⟨three_,fun f3 g3=>?_⟩;have i3:=ac.new (o:=.tup [.ref qm,.int 0,vvf1]) g3;have ST3:=me (mv:=0) (el:=some (cV 2048)) g3 (wm2.keep (SW.ac.tk jf1)) wwf1;generalize upd Gf1 f3 (.tup [.ref qm,.int 0,vvf1])=H30 at *;walk_at "W2";refine⟨two_,fun f4 g4=>?_⟩;have i4:=ac.new (o:=.tup [.int 1,.int 0]) g4;walk_at "W2";refine lm (ST3.keep (SW.ac.tk i4)) uG (fun p hp=>by
  rcases List.mem_append.mp hp with z | z
  . exact rR z
  rw[show(bare 4096).flatten=[]from gZ 4096]at z;cases z) (by show tot (cV 2048)+tot (bare 4096)<=4000;rw[pC,show tot (bare 4096)=0 from dv 4096];decide) aa ⟨by decide,by decide⟩ (by decide) (by decide) fun H31 s31=>?_
 have hS31:=(((jf1.trans i3).trans i4).trans s31).seq hS29;clear ST3 wm2 wwf1 jf1 i3 i4 s31 hS29 g3 g4;walk_at "W2";refine ao ?_;walk_at "W2";refine⟨one_,fun l1 h1=>?_⟩;have s1:=ac.new (o:=.lst [.int 0]) h1;walk_at "W2";refine⟨14,rfl,a,_,rfl,s1.seq hS31,fun l2 h2=>?_⟩;obtain⟨cs,ecs,hcs⟩:=s_ ns none (some 14);rw[ecs];have s2:=ac.new (o:=.lst (cs.map V.int)) h2;walk_at "W2";refine⟨l1,l2,_,_,rfl,rfl,s2 _ _ aa,aa,by rw[List.length_map];show 1+_<=sizeLine;omega,fun q hq=>?_⟩
 obtain⟨ds,hds⟩:∃ ds:List Int,ds=0::cs:=⟨_,rfl⟩;rw[show[V.int 0]++cs.map V.int=ds.map V.int by rw[hds];rfl]
 walk_at "W2";refine⟨q,rfl,⟨_,SqL.of aa⟩,?_⟩;refine SW.cU (xs:=ds.map V.int) (fun i Z H'=>∃ x2 x4 x5 x6 x7 x8 x9,Z=[some (.ref a),some v4,x2,some (.ref qm),x4,x5,x6,x7,x8,x9]/\H' q=some (.lst (ds.map V.int)))
  ⟨_,none,none,none,none,none,none,rfl,aa⟩ (fun i Z H' _ ⟨_,_,_,_,_,_,_,_,h⟩=>SqL.of h) ?_ ?_
 . rintro i y Z H2 hi ⟨x2,x4,x5,x6,x7,x8,x9,rfl,hq2⟩
   obtain⟨c,rfl⟩:=xC hi;clear s1 s2 hS31 h1 h2 hq;walk_at "W2";refine uA fun p o hp R3=>?_;have nqp:q≠p:=ai hq2 hp;have q3:=ac.new (o:=o) hp _ _ hq2;walk_at "W2";refine zt R3 fun t H4 mx R4 K4=>?_;obtain⟨fa,mo,ht4,f0,f1,_⟩:=mx;have q4:=K4 _ _ nqp q3;walk_at "W2";refine bi R4 (by decide) (by decide) fun r5 H5 a5 b5 R5 K5=>?_
   have q5:=K5 _ _ nqp q4;have ht5:=ci R4 K5 _ _ ht4;obtain⟨pv,epv,pv0,pv1⟩:∃ pv:Int,pv=1+r5/\0<=pv/\pv<=1000:=⟨_,rfl,by omega,by omega⟩
   walk_at "W2";rw[← epv];refine xh R5 ht5 ⟨f0,f1⟩ fun vs6 H6 S hS6 hz6 hT R6 K6=>?_;have q6:=K6 _ _ nqp q5;have ht6:=ci R5 K6 _ _ ht5;have hz6:SzS 64 S:=hT.sz hz6;clear q3 q4 q5 ht4 ht5 R3 R4 R5 K4 K5 K6;walk_at "W2";refine lm hS6 hT.rs hT.bb (Nat.le_trans hT.tt (by decide)) ht6 ⟨f0,f1⟩ pv0 pv1 fun H7 s7=>?_
   have q7:=s7 _ _ q6;have ht7:=s7 _ _ ht6;have R7:=R6.same s7;have hS7:=hS6.keep (SW.ac.tk s7);clear q6 ht6 R6 hS6 s7;walk_at "W2";refine ao ?_;walk_at "W2";refine⟨3,rfl,by decide,by decide,gQ (n:=3) (fun j Z H'=>∃ z2 z9,Z=[some (.ref a),some v4,z2,some (.ref qm),some (.int c),some (.ref p),some (.ref t),some (.int pv),some vs6,z9]/\Row H' p/\H' t=some (.tup [.int fa,.int mo])/\StV H' vs6 S/\H' q=some (.lst (ds.map V.int))) ⟨_,_,rfl,R7,ht7,hS7,q7⟩ ?_ ?_⟩
   . rintro j Z H8 hj ⟨z2,z9,rfl,R8,ht8,hS8,q8⟩
     walk_at "W2";refine AQ R8 hS8 hz6 (by decide) fun v9 H9 d9 a9 z9' R9 K9=>?_
     have ht9:=ci R8 K9 _ _ ht8;have hS9:=hS8.keep (ci R8 K9);have q9:=K9 _ _ nqp q8;have hz9:szD d9<=100000:=by omega
     have a9:=yz a9;walk_at "W2";refine BE a9 (lh hz9) (oO hz9) ht9 ⟨f0,f1⟩ fun H10 b10 s10 n10 y10=>?_;walk_at "W2";cases b10 with
     | true=>
       refine ao ?_;refine ao ?_;walk_at "W2";exact⟨_,_,rfl,R9.same s10,s10 _ _ ht9,hS9.keep (SW.ac.tk s10),s10 _ _ q9⟩
     | false=>
       have no:NoD fa mo d9:=fun e=>by
        obtain⟨S',_,eS⟩:=jj a9 e;exact⟨S',eS,(y10 e S' eS).symm⟩
       refine az ?_;walk_at "W2";refine cC (a9.same s10) hz9 (s10 _ _ ht9) ⟨f0,f1⟩ no fun H11 s11=>?_;have s9:=s10.trans s11;walk_at "W2";refine ao ?_;walk_at "W2";exact⟨_,_,rfl,R9.same s9,s9 _ _ ht9,hS9.keep (SW.ac.tk s9),s9 _ _ q9⟩
   rintro Z H8 ⟨z2,z9,rfl,R8,ht8,hS8,q8⟩;clear R7 ht7 hS7 q7;walk_at "W2";refine⟨2,rfl,by decide,by decide,gQ (n:=2) (fun j Z H'=>∃ z8 z9 S',Z=[some (.ref a),some v4,z2,some (.ref qm),some (.int c),some (.ref p),some (.ref t),some (.int pv),some z8,z9]/\Row H' p/\H' t=some (.tup [.int fa,.int mo])/\StV H' z8 S'/\SzS (sN j) S'/\H' q=some (.lst (ds.map V.int))) ⟨_,_,_,rfl,R8,ht8,hS8,hz6,q8⟩ ?_ ?_⟩
   . rintro j Z H9 hj ⟨z8,z9,S',rfl,R9,ht9,hS9,hz9,q9⟩
     have hj:j < 2:=hj;have l1:=wn (j:=j) (by omega)
     have l2:=wn (j:=j+1) (by omega)
     walk_at "W2";refine yy R9 hS9 hz9 (by omega) fun v10 H10 S10 hS10 hz10 R10 K10=>?_
     have hz10:SzS (sN (j+1)) S10:=hz10;have ht10:=ci R9 K10 _ _ ht9;have q10:=K10 _ _ nqp q9;have szd:szD (stD S10)<=100000:=by have:=AW hz10;omega
     walk_at "W2";refine AI hS10 (hz10.fine (by omega)) ht10 ⟨f0,f1⟩ fun vd H11 s11 fl11=>?_
     have R11:=R10.same s11;have ht11:=s11 _ _ ht10;have hS11:=hS10.keep (SW.ac.tk s11);have q11:=s11 _ _ q10;walk_at "W2";refine⟨rfl,_,rfl,?_⟩;have tots:tot (S10.el.getD [])<=280/\tot S10.nw<=280:=⟨Nat.le_trans hz10.1.2.1 l2,Nat.le_trans hz10.2.2.1 l2⟩;have ends:∀ H12,ac H11 H12 -> ∃ z8 z9 S',[some (.ref a),some v4,z2,some (.ref qm),some (.int c),some (.ref p),some (.ref t),some (.int pv),some v10,some (.int (0+(j:Int)))]=[some (.ref a),some v4,z2,some (.ref qm),some (.int c),some (.ref p),some (.ref t),some (.int pv),some z8,z9]/\Row H12 p/\H12 t=some (.tup [.int fa,.int mo])/\StV H12 z8 S'/\SzS (sN (j+1)) S'/\H12 q=some (.lst (ds.map V.int)):=fun H12 s12=>⟨_,_,S10,rfl,R11.same s12,s12 _ _ ht11,hS11.keep (SW.ac.tk s12),hz10,s12 _ _ q11⟩;cases ef:aB fa mo S10 with
     | none=>
       rw[ef]at fl11;obtain rfl:vd=.non:=fl11;refine c5 rfl ?_;walk_at "W2";refine m5 hS11 (by omega) (by omega) fun H12 b12 s12 y12 n12=>?_
       walk_at "W2";cases b12 with
       | true=>
         refine az ?_;walk_at "W2";refine lm (hS11.keep (SW.ac.tk s12)) (ng ef) (AX (y12 rfl).1 (y12 rfl).2 hz10.1.2.2 hz10.2.2.2) (by omega) (s12 _ _ ht11) ⟨f0,f1⟩ pv0 pv1 fun H13 s13=>?_
         walk_at "W2";refine ao ?_;walk_at "W2";exact ends H13 (s12.trans s13)
       | false=>
         refine ao ?_;walk_at "W2";refine cC (fQ (hS11.keep (SW.ac.tk s12))) szd (s12 _ _ ht11) ⟨f0,f1⟩ (fun z=>absurd (vj z) (n12 rfl)) fun H13 s13=>?_;walk_at "W2";refine ao ?_;walk_at "W2";exact ends H13 (s12.trans s13)
     | some fl=>
       have fx:∃ u,vd=.ref u:=by
        rw[ef]at fl11;obtain⟨u,e,_⟩:=fl11;exact⟨u,e⟩
       obtain⟨u,rfl⟩:=fx;refine bK (fun z=>by cases z) ?_
       refine ao ?_;walk_at "W2";refine cC (fQ hS11) szd ht11 ⟨f0,f1⟩ (NoD.flt (by rw[ef];rfl)) fun H13 s13=>?_
       walk_at "W2";refine ao ?_;walk_at "W2";exact ends H13 s13
   rintro Z H9 ⟨z8,z9,S',rfl,R9,ht9,hS9,hz9,q9⟩;walk_at "W2";exact⟨_,_,_,_,_,_,_,rfl,q9⟩
 rintro Z H2 ⟨x2,x4,x5,x6,x7,x8,x9,rfl,hq2⟩;walk_at "W2";exact k _
theorem yE{l:W.OpenLaw}{w:World}{K:W.Frag}{h:Heap}{mg:Str->Option Value}{fa:Addr}(X:K.In h)(G:h.Ns mainGlobals mg)(hfa:mg "law"=some (.ref fa))
 {C_Shelf:Addr}
 {C_Table:Addr}
 {C_SlowError:Addr}
 {C_NoPlace:Addr}
 {C_NoSize:Addr}
 {C_NoRow:Addr}
 {C_NoState:Addr}
 {f0:Addr}{g0:FuncData}
 {f1:Addr}{g1:FuncData}
 {f2:Addr}{g2:FuncData}
 {f3:Addr}{g3:FuncData}
 {f4:Addr}{g4:FuncData}
 {f5:Addr}{g5:FuncData}
 {f6:Addr}{g6:FuncData}
 {f7:Addr}{g7:FuncData}
 {f8:Addr}{g8:FuncData}
 {f9:Addr}{g9:FuncData}
 {f10:Addr}{g10:FuncData}
 {f11:Addr}{g11:FuncData}
 {f12:Addr}{g12:FuncData}
 {f13:Addr}{g13:FuncData}
 {f14:Addr}{g14:FuncData}
 {f15:Addr}{g15:FuncData}
 {f16:Addr}{g16:FuncData}
 {f17:Addr}{g17:FuncData}
 {f18:Addr}{g18:FuncData}
 {f19:Addr}{g19:FuncData}
 {f20:Addr}{g20:FuncData}
 {f21:Addr}{g21:FuncData}
 {f22:Addr}{g22:FuncData}
 {f23:Addr}{g23:FuncData}
 {f24:Addr}{g24:FuncData}
 {f25:Addr}{g25:FuncData}
 {f26:Addr}{g26:FuncData}
 {f27:Addr}{g27:FuncData}
 {f28:Addr}{g28:FuncData}
 {f29:Addr}{g29:FuncData}
 {f30:Addr}{g30:FuncData}
 {f31:Addr}{g31:FuncData}
 {f32:Addr}{g32:FuncData}
 {f33:Addr}{g33:FuncData}
 {f34:Addr}{g34:FuncData}
 {f35:Addr}{g35:FuncData}
 {f36:Addr}{g36:FuncData}
 {f37:Addr}{g37:FuncData}
 {f38:Addr}{g38:FuncData}
 {f39:Addr}{g39:FuncData}
 {f40:Addr}{g40:FuncData}
 {f41:Addr}{g41:FuncData}
 {f42:Addr}{g42:FuncData}
 {f43:Addr}{g43:FuncData}
 {f44:Addr}{g44:FuncData}
 {f45:Addr}{g45:FuncData}
 {f46:Addr}{g46:FuncData}
 {f47:Addr}{g47:FuncData}
 {f48:Addr}{g48:FuncData}
 {f49:Addr}{g49:FuncData}
 {f50:Addr}{g50:FuncData}
 {f51:Addr}{g51:FuncData}
 {f52:Addr}{g52:FuncData}
 {f53:Addr}{g53:FuncData}
 {f54:Addr}{g54:FuncData}
 {f55:Addr}{g55:FuncData}
 {f56:Addr}{g56:FuncData}
 {f57:Addr}{g57:FuncData}
 {f58:Addr}{g58:FuncData}
 {f59:Addr}{g59:FuncData}
 {f60:Addr}{g60:FuncData}
 {f61:Addr}{g61:FuncData}
 {f62:Addr}{g62:FuncData}
 {f63:Addr}{g63:FuncData}
 {tk0:Tok}
 {tk1:Tok}
 {tA_SIZES:Addr}{tD_SIZES:Option Addr}{tN_SIZES:Nat}{tS_SIZES:Array (Option Value)}{tT_SIZES_0 tT_SIZES_1 tT_SIZES_2 tT_SIZES_3 tT_SIZES_4 tT_SIZES_5 tT_SIZES_6 tT_SIZES_7 tT_SIZES_8 tT_SIZES_9 tT_SIZES_10:Tok}
 {eA_ eB_ eC0 eC1 eC2 eC3:Addr}{eD0 eD1 eD2 eD3 eD4 eD5:Option Addr}{eN0 eN1 eN2 eN3 eN4 eN5:Nat}{eS0 eS1 eS2 eS3 eS4 eS5:Array (Option Value)}{eT_:Tok}
 (q_Shelf:W.nsIn K mainGlobals "Shelf"=some (some (.ref C_Shelf)))
 (pg_Shelf:W.plainGet K C_Shelf Str.empty=true)
 (hd_Shelf:W.hasDictIn K C_Shelf=true)
 (po_Shelf:W.plainOver K C_Shelf=true)
 (sa_Shelf:W.findIn K (.ref C_Shelf) "__setattr__"=some (some (.builtin "object.__setattr__")))
 (mk_Shelf:W.makesIn K C_Shelf=true)
 (kc_Shelf:W.keepIn K (.ref C_Shelf)=true)
 (na_Shelf_mixer:W.findIn K (.ref C_Shelf) "mixer"=some none)
 (na_Shelf_rows:W.findIn K (.ref C_Shelf) "rows"=some none)
 (na_Shelf_held:W.findIn K (.ref C_Shelf) "held"=some none)
 (q_Table:W.nsIn K mainGlobals "Table"=some (some (.ref C_Table)))
 (pg_Table:W.plainGet K C_Table Str.empty=true)
 (hd_Table:W.hasDictIn K C_Table=true)
 (po_Table:W.plainOver K C_Table=true)
 (sa_Table:W.findIn K (.ref C_Table) "__setattr__"=some (some (.builtin "object.__setattr__")))
 (mk_Table:W.makesIn K C_Table=true)
 (kc_Table:W.keepIn K (.ref C_Table)=true)
 (na_Table_mixer:W.findIn K (.ref C_Table) "mixer"=some none)
 (na_Table_pace:W.findIn K (.ref C_Table) "pace"=some none)
 (na_Table_elder:W.findIn K (.ref C_Table) "elder"=some none)
 (na_Table_moved:W.findIn K (.ref C_Table) "moved"=some none)
 (na_Table_newer:W.findIn K (.ref C_Table) "newer"=some none)
 (na_Table_touches:W.findIn K (.ref C_Table) "touches"=some none)
 (q_SlowError:W.nsIn K mainGlobals "SlowError"=some (some (.ref C_SlowError)))
 (q_NoPlace:W.nsIn K mainGlobals "NoPlace"=some (some (.ref C_NoPlace)))
 (q_NoSize:W.nsIn K mainGlobals "NoSize"=some (some (.ref C_NoSize)))
 (q_NoRow:W.nsIn K mainGlobals "NoRow"=some (some (.ref C_NoRow)))
 (q_NoState:W.nsIn K mainGlobals "NoState"=some (some (.ref C_NoState)))
 (xo_NoState:W.excIn K C_NoState [.type "ValueError",.type "Exception",.type "BaseException",.type "object"] "ValueError.__new__"=true)
 (xa_NoState:W.findIn K (.ref C_NoState) "__getattribute__"=some (some (.builtin "BaseException.__getattribute__")))
 (xb_NoState:W.findIn K (.ref C_NoState) "__getattr__"=some none)
 (xc_NoState:W.findIn K (.ref C_NoState) "__class__"=some (some (.builtin "object.__class__")))
 (xd_NoState:W.specialIn K (.builtin "object.__class__") "__get__"=some (some (.builtin "getset_descriptor.__get__")))
 (xe_NoState:W.takesIn K (.builtin "object.__class__")=some true)
 (xf_NoState:W.mroIn K C_NoState (.type "object")=some true)
 (xg_NoState:W.mroIn K C_NoState (.type "BaseException")=some true)
 (xh_NoState:(W.clsIn K C_NoState).isSome=true)
 (xs_NoState:W.exmOne K (.ref C_NoState) (.ref C_SlowError)=some true)
 (xv_NoState:W.kitOne K (.ref C_NoState) (.type "ValueError")=some true)
 (xn_NoState:W.kitAny K (.ref C_NoState) [.ref C_NoPlace,.ref C_NoRow,.ref C_NoSize]=some false)
 (a0:W.nsIn K mainGlobals "is_whole"=some (some (.ref f0)))
 (u0:Fun K "is_whole" "is_whole" xI f0 g0)
 (a1:W.nsIn K mainGlobals "is_size"=some (some (.ref f1)))
 (u1:Fun K "is_size" "is_size" vm f1 g1)
 (a2:W.nsIn K mainGlobals "is_key"=some (some (.ref f2)))
 (u2:Fun K "is_key" "is_key" yw f2 g2)
 (a3:W.nsIn K mainGlobals "is_worth"=some (some (.ref f3)))
 (u3:Fun K "is_worth" "is_worth" yT f3 g3)
 (a4:W.nsIn K mainGlobals "mark_of"=some (some (.ref f4)))
 (u4:Fun K "mark_of" "mark_of" yx f4 g4)
 (a5:W.nsIn K mainGlobals "place_of"=some (some (.ref f5)))
 (u5:Fun K "place_of" "place_of" yH f5 g5)
 (a6:W.findIn K (.ref C_Shelf) "__init__"=some (some (.ref f6)))
 (i6:W.isFn K (.ref f6)=true)
 (u6:Fun K "__init__" "Shelf.__init__" z0_ f6 g6)
 (a7:W.findIn K (.ref C_Shelf) "place_with"=some (some (.ref f7)))
 (i7:W.isFn K (.ref f7)=true)
 (u7:Fun K "place_with" "Shelf.place_with" z6_ f7 g7)
 (a8:W.findIn K (.ref C_Shelf) "row_with"=some (some (.ref f8)))
 (i8:W.isFn K (.ref f8)=true)
 (u8:Fun K "row_with" "Shelf.row_with" z9_ f8 g8)
 (a9:W.findIn K (.ref C_Shelf) "put"=some (some (.ref f9)))
 (i9:W.isFn K (.ref f9)=true)
 (u9:Fun K "put" "Shelf.put" z7_ f9 g9)
 (a10:W.findIn K (.ref C_Shelf) "look"=some (some (.ref f10)))
 (i10:W.isFn K (.ref f10)=true)
 (u10:Fun K "look" "Shelf.look" z4_ f10 g10)
 (a11:W.findIn K (.ref C_Shelf) "size"=some (some (.ref f11)))
 (i11:W.isFn K (.ref f11)=true)
 (u11:Fun K "size" "Shelf.size" zj f11 g11)
 (a12:W.findIn K (.ref C_Shelf) "many"=some (some (.ref f12)))
 (i12:W.isFn K (.ref f12)=true)
 (u12:Fun K "many" "Shelf.many" z5_ f12 g12)
 (a13:W.findIn K (.ref C_Shelf) "check_place"=some (some (.ref f13)))
 (i13:W.isFn K (.ref f13)=true)
 (u13:Fun K "check_place" "Shelf.check_place" z1_ f13 g13)
 (a14:W.findIn K (.ref C_Shelf) "row"=some (some (.ref f14)))
 (i14:W.isFn K (.ref f14)=true)
 (u14:Fun K "row" "Shelf.row" z8_ f14 g14)
 (a15:W.findIn K (.ref C_Shelf) "empty"=some (some (.ref f15)))
 (i15:W.isFn K (.ref f15)=true)
 (u15:Fun K "empty" "Shelf.empty" z3_ f15 g15)
 (a16:W.nsIn K mainGlobals "shelf_of"=some (some (.ref f16)))
 (u16:Fun K "shelf_of" "shelf_of" xg f16 g16)
 (a17:W.findIn K (.ref C_Table) "__init__"=some (some (.ref f17)))
 (i17:W.isFn K (.ref f17)=true)
 (u17:Fun K "__init__" "Table.__init__" yL f17 g17)
 (a18:W.findIn K (.ref C_Table) "due_places"=some (some (.ref f18)))
 (i18:W.isFn K (.ref f18)=true)
 (u18:Fun K "due_places" "Table.due_places" xS f18 g18)
 (a19:W.findIn K (.ref C_Table) "end_move"=some (some (.ref f19)))
 (i19:W.isFn K (.ref f19)=true)
 (u19:Fun K "end_move" "Table.end_move" yA f19 g19)
 (a20:W.findIn K (.ref C_Table) "stands_on_elder"=some (some (.ref f20)))
 (i20:W.isFn K (.ref f20)=true)
 (u20:Fun K "stands_on_elder" "Table.stands_on_elder" wM f20 g20)
 (a21:W.findIn K (.ref C_Table) "shelf_with"=some (some (.ref f21)))
 (i21:W.isFn K (.ref f21)=true)
 (u21:Fun K "shelf_with" "Table.shelf_with" xj f21 g21)
 (a22:W.findIn K (.ref C_Table) "wanted_size"=some (some (.ref f22)))
 (i22:W.isFn K (.ref f22)=true)
 (u22:Fun K "wanted_size" "Table.wanted_size" xa f22 g22)
 (a23:W.findIn K (.ref C_Table) "begin_move"=some (some (.ref f23)))
 (i23:W.isFn K (.ref f23)=true)
 (u23:Fun K "begin_move" "Table.begin_move" y7 f23 g23)
 (a24:W.findIn K (.ref C_Table) "move_place"=some (some (.ref f24)))
 (i24:W.isFn K (.ref f24)=true)
 (u24:Fun K "move_place" "Table.move_place" xQ f24 g24)
 (a25:W.findIn K (.ref C_Table) "go_on"=some (some (.ref f25)))
 (i25:W.isFn K (.ref f25)=true)
 (u25:Fun K "go_on" "Table.go_on" xf f25 g25)
 (a26:W.findIn K (.ref C_Table) "look"=some (some (.ref f26)))
 (i26:W.isFn K (.ref f26)=true)
 (u26:Fun K "look" "Table.look" wW f26 g26)
 (a27:W.nsIn K mainGlobals "rows_of"=some (some (.ref f27)))
 (u27:Fun K "rows_of" "rows_of" yk f27 g27)
 (a28:W.findIn K (.ref C_Table) "state"=some (some (.ref f28)))
 (i28:W.isFn K (.ref f28)=true)
 (u28:Fun K "state" "Table.state" xN f28 g28)
 (a29:W.findIn K (.ref C_Table) "shelves"=some (some (.ref f29)))
 (i29:W.isFn K (.ref f29)=true)
 (u29:Fun K "shelves" "Table.shelves" xn f29 g29)
 (a30:W.findIn K (.ref C_Table) "many"=some (some (.ref f30)))
 (i30:W.isFn K (.ref f30)=true)
 (u30:Fun K "many" "Table.many" xc f30 g30)
 (a31:W.findIn K (.ref C_Table) "sizes"=some (some (.ref f31)))
 (i31:W.isFn K (.ref f31)=true)
 (u31:Fun K "sizes" "Table.sizes" xq f31 g31)
 (a32:W.findIn K (.ref C_Table) "touched"=some (some (.ref f32)))
 (i32:W.isFn K (.ref f32)=true)
 (u32:Fun K "touched" "Table.touched" xT f32 g32)
 (a33:W.nsIn K mainGlobals "has_right_places"=some (some (.ref f33)))
 (u33:Fun K "has_right_places" "has_right_places" yv f33 g33)
 (a34:W.nsIn K mainGlobals "has_right_moved"=some (some (.ref f34)))
 (u34:Fun K "has_right_moved" "has_right_moved" yh f34 g34)
 (a35:W.nsIn K mainGlobals "keys_in_turn"=some (some (.ref f35)))
 (u35:Fun K "keys_in_turn" "keys_in_turn" yD f35 g35)
 (a36:W.nsIn K mainGlobals "first_fault_of_pairs"=some (some (.ref f36)))
 (u36:Fun K "first_fault_of_pairs" "first_fault_of_pairs" xF f36 g36)
 (a37:W.nsIn K mainGlobals "first_fault"=some (some (.ref f37)))
 (u37:Fun K "first_fault" "first_fault" wO f37 g37)
 (a38:W.nsIn K mainGlobals "is_pair"=some (some (.ref f38)))
 (u38:Fun K "is_pair" "is_pair" yl f38 g38)
 (a39:W.nsIn K mainGlobals "is_row"=some (some (.ref f39)))
 (u39:Fun K "is_row" "is_row" zu f39 g39)
 (a40:W.nsIn K mainGlobals "are_rows"=some (some (.ref f40)))
 (u40:Fun K "are_rows" "are_rows" yY f40 g40)
 (a41:W.nsIn K mainGlobals "is_state"=some (some (.ref f41)))
 (u41:Fun K "is_state" "is_state" yW f41 g41)
 (a42:W.nsIn K mainGlobals "is_sound"=some (some (.ref f42)))
 (u42:Fun K "is_sound" "is_sound" yU f42 g42)
 (a43:W.nsIn K mainGlobals "_law_stream"=some (some (.ref f43)))
 (u43:Fun K "_law_stream" "_law_stream" xD f43 g43)
 (a44:W.nsIn K mainGlobals "_law_take"=some (some (.ref f44)))
 (u44:Fun K "_law_take" "_law_take" xv f44 g44)
 (a45:W.nsIn K mainGlobals "_law_mixer"=some (some (.ref f45)))
 (u45:Fun K "_law_mixer" "_law_mixer" yG f45 g45)
 (a46:W.nsIn K mainGlobals "_law_key"=some (some (.ref f46)))
 (u46:Fun K "_law_key" "_law_key" yC f46 g46)
 (a47:W.nsIn K mainGlobals "_law_worth"=some (some (.ref f47)))
 (u47:Fun K "_law_worth" "_law_worth" yg f47 g47)
 (a48:W.nsIn K mainGlobals "_law_table_state"=some (some (.ref f48)))
 (u48:Fun K "_law_table_state" "_law_table_state" wZ f48 g48)
 (a49:W.nsIn K mainGlobals "_law_shelf_fault"=some (some (.ref f49)))
 (u49:Fun K "_law_shelf_fault" "_law_shelf_fault" ye f49 g49)
 (a50:W.nsIn K mainGlobals "_law_due"=some (some (.ref f50)))
 (u50:Fun K "_law_due" "_law_due" xp f50 g50)
 (a51:W.nsIn K mainGlobals "_law_other_rows"=some (some (.ref f51)))
 (u51:Fun K "_law_other_rows" "_law_other_rows" yZ f51 g51)
 (a52:W.nsIn K mainGlobals "_law_bent"=some (some (.ref f52)))
 (u52:Fun K "_law_bent" "_law_bent" y8 f52 g52)
 (a53:W.nsIn K mainGlobals "_law_number"=some (some (.ref f53)))
 (u53:Fun K "_law_number" "_law_number" xG f53 g53)
 (a54:W.nsIn K mainGlobals "_law_are_rows"=some (some (.ref f54)))
 (u54:Fun K "_law_are_rows" "_law_are_rows" xy f54 g54)
 (a55:W.nsIn K mainGlobals "_law_is"=some (some (.ref f55)))
 (u55:Fun K "_law_is" "_law_is" yc f55 g55)
 (a56:W.nsIn K mainGlobals "_law_odd_pair"=some (some (.ref f56)))
 (u56:Fun K "_law_odd_pair" "_law_odd_pair" xZ f56 g56)
 (a57:W.nsIn K mainGlobals "_law_odd_rows"=some (some (.ref f57)))
 (u57:Fun K "_law_odd_rows" "_law_odd_rows" vK f57 g57)
 (a58:W.nsIn K mainGlobals "_law_odd"=some (some (.ref f58)))
 (u58:Fun K "_law_odd" "_law_odd" zo f58 g58)
 (a59:W.nsIn K mainGlobals "table_of"=some (some (.ref f59)))
 (u59:Fun K "table_of" "table_of" uw f59 g59)
 (a60:W.nsIn K mainGlobals "_law_refused"=some (some (.ref f60)))
 (u60:Fun K "_law_refused" "_law_refused" xB f60 g60)
 (a61:W.nsIn K mainGlobals "_law_made"=some (some (.ref f61)))
 (u61:Fun K "_law_made" "_law_made" xt f61 g61)
 (a62:W.nsIn K mainGlobals "_law_bounded"=some (some (.ref f62)))
 (u62:Fun K "_law_bounded" "_law_bounded" yq f62 g62)
 (a63:W.nsIn K mainGlobals "law"=some (some (.ref f63)))
 (u63:Fun K "law" "law" qd f63 g63)
 (cst0:W.nsIn K mainGlobals "MARKS"=some (some (.int 65536 tk0)))
 (cst1:W.nsIn K mainGlobals "GREATEST"=some (some (.int 1000000000 tk1)))
 (ta_SIZES:W.nsIn K mainGlobals "SIZES"=some (some (.ref tA_SIZES)))
 (tl_SIZES:K.lookup tA_SIZES=some ⟨.type "tuple",tD_SIZES,.seq #[.int 4 tT_SIZES_0,.int 8 tT_SIZES_1,.int 16 tT_SIZES_2,.int 32 tT_SIZES_3,.int 64 tT_SIZES_4,.int 128 tT_SIZES_5,.int 256 tT_SIZES_6,.int 512 tT_SIZES_7,.int 1024 tT_SIZES_8,.int 2048 tT_SIZES_9,.int 4096 tT_SIZES_10] tN_SIZES,tS_SIZES⟩)
 (ea_:W.nsIn K mainGlobals "EMPTY"=some (some (.ref eA_)))
 (eb_:K.lookup eA_=some ⟨.type "tuple",eD0,.seq #[.none,.int 0 eT_,.ref eB_] eN0,eS0⟩)
 (ec_:K.lookup eB_=some ⟨.type "tuple",eD1,.seq #[.ref eC0,.ref eC1,.ref eC2,.ref eC3] eN1,eS1⟩)
 (ed0:K.lookup eC0=some ⟨.type "tuple",eD2,.seq #[] eN2,eS2⟩)
 (ed1:K.lookup eC1=some ⟨.type "tuple",eD3,.seq #[] eN3,eS3⟩)
 (ed2:K.lookup eC2=some ⟨.type "tuple",eD4,.seq #[] eN4,eS4⟩)
 (ed3:K.lookup eC3=some ⟨.type "tuple",eD5,.seq #[] eN5,eS5⟩)
 (blt0:W.nsIn K mainGlobals "int"=some none)
 (blt1:W.nsIn K mainGlobals "bool"=some none)
 (blt2:W.nsIn K mainGlobals "isinstance"=some none)
 (blt3:W.nsIn K mainGlobals "range"=some none)
 (blt4:W.nsIn K mainGlobals "len"=some none)
 (blt5:W.nsIn K mainGlobals "list"=some none)
 (blt6:W.nsIn K mainGlobals "tuple"=some none)
 (blt7:W.nsIn K mainGlobals "sum"=some none)
 (blt8:W.nsIn K mainGlobals "min"=some none)
 (blt9:W.nsIn K mainGlobals "max"=some none)
 (blt10:W.nsIn K mainGlobals "set"=some none)
 (blt11:W.nsIn K mainGlobals "enumerate"=some none)
 (blt12:W.nsIn K mainGlobals "all"=some none)
 (blt13:W.nsIn K mainGlobals "dict"=some none)
 (blt14:W.nsIn K mainGlobals "ValueError"=some none) :
 ∃ fd:FuncData,(∀(s:Shared) (v:Value),BindsTo s fd ⟨[v],[]⟩ [("script",v)]) /\ ∀ base:Heap,K.In base->base.Ns mainGlobals mg->c7 l.prog w K mg base CX0 10 fa fd ["script"] (oM K):=by
 have e:=hfa.symm.trans (W.mg_of X G a63);cases e;have g:Gs K mg C_Shelf C_Table C_SlowError C_NoPlace C_NoSize C_NoRow C_NoState:=⟨⟨_,W.mg_of X G cst0⟩,⟨_,W.mg_of X G cst1⟩,⟨_,W.mg_of X G ta_SIZES,fun H=>.inr ⟨_,_,_,tl_SIZES,rfl,rfl,by show(11:Nat)<=sizeLine;decide,.cons ⟨_,rfl⟩ (.cons ⟨_,rfl⟩ (.cons ⟨_,rfl⟩ (.cons ⟨_,rfl⟩ (.cons ⟨_,rfl⟩ (.cons ⟨_,rfl⟩ (.cons ⟨_,rfl⟩ (.cons ⟨_,rfl⟩ (.cons ⟨_,rfl⟩ (.cons ⟨_,rfl⟩ (.cons ⟨_,rfl⟩ (.nil)))))))))))⟩⟩,⟨_,_,W.mg_of X G ea_,fun H=>.inr ⟨_,_,_,eb_,rfl,rfl,by show(3:Nat)<=sizeLine;decide,.cons rfl (.cons ⟨_,rfl⟩ (.cons rfl .nil))⟩,fun H=>⟨[.ref _,.ref _,.ref _,.ref _],.inr ⟨_,_,_,ec_,rfl,rfl,by show(4:Nat)<=sizeLine;decide,.cons rfl (.cons rfl (.cons rfl (.cons rfl .nil)))⟩,.cons ⟨_,[],rfl,.inr ⟨_,_,_,ed0,rfl,rfl,by show(0:Nat)<=sizeLine;decide,.nil⟩,.nil⟩ (.cons ⟨_,[],rfl,.inr ⟨_,_,_,ed1,rfl,rfl,by show(0:Nat)<=sizeLine;decide,.nil⟩,.nil⟩ (.cons ⟨_,[],rfl,.inr ⟨_,_,_,ed2,rfl,rfl,by show(0:Nat)<=sizeLine;decide,.nil⟩,.nil⟩ (.cons ⟨_,[],rfl,.inr ⟨_,_,_,ed3,rfl,rfl,by show(0:Nat)<=sizeLine;decide,.nil⟩,.nil⟩ .nil)))⟩⟩,⟨pg_Shelf,hd_Shelf,po_Shelf,sa_Shelf⟩,na_Shelf_mixer,na_Shelf_rows,na_Shelf_held,⟨pg_Table,hd_Table,po_Table,sa_Table⟩,na_Table_mixer,na_Table_pace,na_Table_elder,na_Table_moved,na_Table_newer,na_Table_touches,W.mg_none_of X G blt0,W.mg_none_of X G blt1,W.mg_none_of X G blt2,W.mg_none_of X G blt3,W.mg_none_of X G blt4,W.mg_none_of X G blt5,W.mg_none_of X G blt6,W.mg_none_of X G blt7,W.mg_none_of X G blt8,W.mg_none_of X G blt9,W.mg_none_of X G blt10,W.mg_none_of X G blt11,W.mg_none_of X G blt12,W.mg_none_of X G blt13,W.mg_none_of X G blt14,W.mg_of X G q_SlowError,W.mg_of X G q_NoPlace,W.mg_of X G q_NoSize,W.mg_of X G q_NoRow,W.mg_of X G q_NoState,⟨W.mg_of X G q_NoState,xo_NoState⟩,⟨⟨xa_NoState,xb_NoState,xc_NoState,xd_NoState,xe_NoState,xf_NoState,xg_NoState⟩,xh_NoState⟩,xs_NoState,xv_NoState,xn_NoState⟩
 have FL:=u63;obtain⟨oc,od,kV,dc,pm,an,cd,ct,sl,rfl,_,_⟩:=id FL.ex;refine⟨W.fnOf "law" "law" (cP qd) (bA qd) (ah qd) .none kV dc pm an cd ct,fun s v=>.of_eq rfl,fun base _ _=>?_⟩;have T0:=Cd (P:=l.prog) (w:=w) (base:=base) ⟨_,_,u0,W.mg_of X G a0,SW.bd1 u0⟩ g;have T1:=Cv (P:=l.prog) (w:=w) (base:=base) ⟨_,_,u1,W.mg_of X G a1,SW.bd1 u1⟩ g T0;have T2:=BW (P:=l.prog) (w:=w) (base:=base) ⟨_,_,u2,W.mg_of X G a2,SW.bd1 u2⟩ g T0;have T3:=BV (P:=l.prog) (w:=w) (base:=base) ⟨_,_,u3,W.mg_of X G a3,SW.bd1 u3⟩ g T0;have T4:=CQ (P:=l.prog) (w:=w) (base:=base) ⟨_,_,u4,W.mg_of X G a4,SW.bd2 u4⟩ g;have T5:=CK (P:=l.prog) (w:=w) (base:=base) ⟨_,_,u5,W.mg_of X G a5,SW.bd2 u5⟩;have T6:=AU (P:=l.prog) (w:=w) (base:=base) ⟨_,_,u6,⟨mk_Shelf,a6,i6,kc_Shelf⟩,W.mg_of X G q_Shelf,SW.bd3 u6⟩ g T1;have T7:=Aw (P:=l.prog) (w:=w) (base:=base) ⟨_,_,u7,⟨a7,i7,u7.kp⟩,SW.bd2 u7⟩ g T4 T5;have T8:=zP (P:=l.prog) (w:=w) (base:=base) ⟨_,_,u8,⟨a8,i8,u8.kp⟩,SW.bd2 u8⟩ g T7;have T9:=Az (P:=l.prog) (w:=w) (base:=base) ⟨_,_,u9,⟨a9,i9,u9.kp⟩,SW.bd3 u9⟩ g T8;have T10:=Ab (P:=l.prog) (w:=w) (base:=base) ⟨_,_,u10,⟨a10,i10,u10.kp⟩,SW.bd2 u10⟩ T8 g;have T11:=zK (P:=l.prog) (w:=w) (base:=base) ⟨_,_,u11,⟨a11,i11,u11.kp⟩,SW.bd1 u11⟩ g;have T12:=AA (P:=l.prog) (w:=w) (base:=base) ⟨_,_,u12,⟨a12,i12,u12.kp⟩,SW.bd1 u12⟩ g;have T13:=Af (P:=l.prog) (w:=w) (base:=base) ⟨_,_,u13,⟨a13,i13,u13.kp⟩,SW.bd2 u13⟩ g T0;have T14:=zH (P:=l.prog) (w:=w) (base:=base) ⟨_,_,u14,⟨a14,i14,u14.kp⟩,SW.bd2 u14⟩ g T13;have T15:=AL (P:=l.prog) (w:=w) (base:=base) ⟨_,_,u15,⟨a15,i15,u15.kp⟩,SW.bd2 u15⟩ g T14;have T16:=q62_ (P:=l.prog) (w:=w) (base:=base) ⟨_,_,u16,W.mg_of X G a16,SW.bd2 u16⟩ g T6 T9;have T17:=AT (P:=l.prog) (w:=w) (base:=base) ⟨_,_,u17,⟨mk_Table,a17,i17,kc_Table⟩,W.mg_of X G q_Table,SW.bd4 u17⟩ g T16;have T18:=zQ (P:=l.prog) (w:=w) (base:=base) ⟨_,_,u18,⟨a18,i18,u18.kp⟩,SW.bd1 u18⟩ g T11;have T19:=zx (P:=l.prog) (w:=w) (base:=base) ⟨_,_,u19,⟨a19,i19,u19.kp⟩,SW.bd1 u19⟩ g T11;have T20:=Bh (P:=l.prog) (w:=w) (base:=base) ⟨_,_,u20,⟨a20,i20,u20.kp⟩,SW.bd2 u20⟩ g T7;have T21:=AY (P:=l.prog) (w:=w) (base:=base) ⟨_,_,u21,⟨a21,i21,u21.kp⟩,SW.bd2 u21⟩ g T10;have T22:=AS (P:=l.prog) (w:=w) (base:=base) ⟨_,_,u22,⟨a22,i22,u22.kp⟩,SW.bd1 u22⟩ g T11 T12;have T23:=z6 (P:=l.prog) (w:=w) (base:=base) ⟨_,_,u23,⟨a23,i23,u23.kp⟩,SW.bd1 u23⟩ g T22 T11 T6;have T24:=zy (P:=l.prog) (w:=w) (base:=base) ⟨_,_,u24,⟨a24,i24,u24.kp⟩,SW.bd2 u24⟩ g T15 T9 T7;have T25:=BA (P:=l.prog) (w:=w) (base:=base) ⟨_,_,u25,⟨a25,i25,u25.kp⟩,SW.bd2 u25⟩ g T18 T24 T19 T20 T7;have T26:=z7 (P:=l.prog) (w:=w) (base:=base) ⟨_,_,u26,⟨a26,i26,u26.kp⟩,SW.bd2 u26⟩ g T25 T21 T23 T10;have T27:=q60_ (P:=l.prog) (w:=w) (base:=base) ⟨_,_,u27,W.mg_of X G a27,SW.bd1 u27⟩ g T11 T14;have T28:=z_ (P:=l.prog) (w:=w) (base:=base) ⟨_,_,u28,⟨a28,i28,u28.kp⟩,SW.bd1 u28⟩ g T27;have T29:=Am (P:=l.prog) (w:=w) (base:=base) ⟨_,_,u29,⟨a29,i29,u29.kp⟩,SW.bd1 u29⟩ g;have T30:=AM (P:=l.prog) (w:=w) (base:=base) ⟨_,_,u30,⟨a30,i30,u30.kp⟩,SW.bd1 u30⟩ g T29 T12;have T31:=zO (P:=l.prog) (w:=w) (base:=base) ⟨_,_,u31,⟨a31,i31,u31.kp⟩,SW.bd1 u31⟩ g T11;have T32:=zJ (P:=l.prog) (w:=w) (base:=base) ⟨_,_,u32,⟨a32,i32,u32.kp⟩,SW.bd1 u32⟩ g;have T33:=BG (P:=l.prog) (w:=w) (base:=base) ⟨_,_,u33,W.mg_of X G a33,SW.bd2 u33⟩ g T1;have T34:=Bt (P:=l.prog) (w:=w) (base:=base) ⟨_,_,u34,W.mg_of X G a34,SW.bd2 u34⟩ g;have T35:=B2 (P:=l.prog) (w:=w) (base:=base) ⟨_,_,u35,W.mg_of X G a35,SW.bd1 u35⟩ g;have T36:=Ct (P:=l.prog) (w:=w) (base:=base) ⟨_,_,u36,W.mg_of X G a36,SW.bd2 u36⟩ g T5 T4 T35;have T37:=q4_ (P:=l.prog) (w:=w) (base:=base) ⟨_,_,u37,W.mg_of X G a37,SW.bd2 u37⟩ g T33 T34 T36;have T38:=BF (P:=l.prog) (w:=w) (base:=base) ⟨_,_,u38,W.mg_of X G a38,SW.bd1 u38⟩ g T2 T3;have T39:=BO (P:=l.prog) (w:=w) (base:=base) ⟨_,_,u39,W.mg_of X G a39,SW.bd1 u39⟩ g T38;have T40:=CI (P:=l.prog) (w:=w) (base:=base) ⟨_,_,u40,W.mg_of X G a40,SW.bd1 u40⟩ g T39;have T41:=Cm (P:=l.prog) (w:=w) (base:=base) ⟨_,_,u41,W.mg_of X G a41,SW.bd1 u41⟩ g T0 T40;have T42:=CA (P:=l.prog) (w:=w) (base:=base) ⟨_,_,u42,W.mg_of X G a42,SW.bd2 u42⟩ g T41 T37;have T43:=Ci (P:=l.prog) (w:=w) (base:=base) ⟨_,_,u43,W.mg_of X G a43,SW.bd1 u43⟩ g;have T44:=Br (P:=l.prog) (w:=w) (base:=base) ⟨_,_,u44,W.mg_of X G a44,SW.bd2 u44⟩;have T45:=BJ (P:=l.prog) (w:=w) (base:=base) ⟨_,_,u45,W.mg_of X G a45,SW.bd1 u45⟩ T44;have T46:=B0 (P:=l.prog) (w:=w) (base:=base) ⟨_,_,u46,W.mg_of X G a46,SW.bd1 u46⟩ T44;have T47:=CU (P:=l.prog) (w:=w) (base:=base) ⟨_,_,u47,W.mg_of X G a47,SW.bd1 u47⟩ T44;have T48:=B4 (P:=l.prog) (w:=w) (base:=base) ⟨_,_,u48,W.mg_of X G a48,SW.bd2 u48⟩ g T44 T46 T47;have T49:=Bp (P:=l.prog) (w:=w) (base:=base) ⟨_,_,u49,W.mg_of X G a49,SW.bd5 u49⟩ g;have T50:=q3_ (P:=l.prog) (w:=w) (base:=base) ⟨_,_,u50,W.mg_of X G a50,SW.bd2 u50⟩ g T49;have T51:=Cj (P:=l.prog) (w:=w) (base:=base) ⟨_,_,u51,W.mg_of X G a51,SW.bd2 u51⟩ g T44 T46 T47;have T52:=q1_ (P:=l.prog) (w:=w) (base:=base) ⟨_,_,u52,W.mg_of X G a52,SW.bd2 u52⟩ g T44 T51;have T53:=BD (P:=l.prog) (w:=w) (base:=base) ⟨_,_,u53,W.mg_of X G a53,SW.bd2 u53⟩ g;have T54:=Bu (P:=l.prog) (w:=w) (base:=base) ⟨_,_,u54,W.mg_of X G a54,SW.bd1 u54⟩ g T53;have T55:=q9_ (P:=l.prog) (w:=w) (base:=base) ⟨_,_,u55,W.mg_of X G a55,SW.bd2 u55⟩ g T54 T50;have T56:=Cg (P:=l.prog) (w:=w) (base:=base) ⟨_,_,u56,W.mg_of X G a56,SW.bd2 u56⟩ g T44;have T57:=Cc (P:=l.prog) (w:=w) (base:=base) ⟨_,_,u57,W.mg_of X G a57,SW.bd2 u57⟩ g T44 T56;have T58:=BU (P:=l.prog) (w:=w) (base:=base) ⟨_,_,u58,W.mg_of X G a58,SW.bd2 u58⟩ g T44 T57;have T59:=BY (P:=l.prog) (w:=w) (base:=base) ⟨_,_,u59,W.mg_of X G a59,SW.bd3 u59⟩ g T42 T17;have T60:=B8 (P:=l.prog) (w:=w) (base:=base) ⟨_,_,u59,W.mg_of X G a59,SW.bd3 u59⟩ g T42 T17;have T61:=Bv (P:=l.prog) (w:=w) (base:=base) ⟨_,_,u60,W.mg_of X G a60,SW.bd3 u60⟩ g T60;have T62:=BS (P:=l.prog) (w:=w) (base:=base) ⟨_,_,u61,W.mg_of X G a61,SW.bd3 u61⟩ g T59 T26 T28 T30 T31 T32;have T63:=q2_ (P:=l.prog) (w:=w) (base:=base) ⟨_,_,u62,W.mg_of X G a62,SW.bd1 u62⟩ g;exact zl FL g T43 T44 T45 T48 T50 T52 T55 T58 T61 T62 T63
theorem walk{l:W.OpenLaw}{q:Program}{loose:List Str}{XP:(Str->Option Value)->Heap->Prop}{YP:World->Heap->Prop}{d:DefRec}{K:Params->W.Frag}(hn:l.most=some 63)(hdf:d.params.defaults=[])
 (hY:∀(w:World) (h:Heap),YP w h->(K w.params).In h)
 (F:∀(w:World) (mg:Str->Option Value) (fa:Addr) (h:Heap),(K w.params).In h->h.Ns mainGlobals mg->mg d.name=some (.ref fa) ->
  ∃ fd:FuncData,(∀(s:Shared) (u:Value),BindsTo s fd ⟨[u],[]⟩ [("script",u)]) /\ ∀ base:Heap,(K w.params).In base->base.Ns mainGlobals mg->c7 l.prog w (K w.params) mg base CX0 10 fa fd ["script"] (oM (K w.params))) :
 W.WalkO q loose XP YP l.row.toRowW d [] (fun f vs=>PySem.call f vs):=
 L2.walk_of (n:=63) (k:=10) (x:="script") (CX:=fun _=>CX0) (sp:=fun w=>oM (K w.params)) hn (by decide) hdf ⟨rfl,by decide,by decide⟩ hY F (fun _ _ a ns hl _ hS=>⟨a,ns,rfl,hS,hl,fun _=>rfl⟩) fun _ _ _ _ _ z=>z
end
end
end K
def PySem.W.Fast.tw12423788572004304880:Nat:=0
def PySem.W.Fast.tw11253810927280860119:Nat:=0
def PySem.W.Fast.tw4360390596767143797:Nat:=0
def PySem.W.Fast.tw16060281840330269566:Nat:=0
def PySem.W.Fast.tw16630058285556703597:Nat:=0
def PySem.W.Fast.tw15712664903226178540:Nat:=0
def PySem.W.Fast.tw8581660284866275812:Nat:=0
def PySem.W.Fast.tw10955428742400373242:Nat:=0
def PySem.W.Fast.tw5509505172040320577:Nat:=0
def PySem.W.Fast.tw8004323410251324175:Nat:=0
def PySem.W.Fast.tw4916634452561330798:Nat:=0
def PySem.W.Fast.tw16572473677247023131:Nat:=0
def PySem.W.Fast.tw954602466923392184:Nat:=0
def PySem.W.Fast.tw15366660222060851563:Nat:=0
def PySem.W.Fast.tw4316441851909228025:Nat:=0
def PySem.W.Fast.tw3867567070713680649:Nat:=0
def PySem.W.Fast.tw1721433321553313086:Nat:=0
def PySem.W.Fast.tw15667127235689746672:Nat:=0
def PySem.W.Fast.tw1460121860947916322:Nat:=0
def PySem.W.Fast.tw13169423820327265562:Nat:=0
def PySem.W.Fast.tw11959999639521580195:Nat:=0
def PySem.W.Fast.tw15111063102569937047:Nat:=0
def PySem.W.Fast.tw9980500772168720387:Nat:=0
def PySem.W.Fast.tw8479911364597083677:Nat:=0
def PySem.W.Fast.tw10387804690517680843:Nat:=0
def PySem.W.Fast.tw3460271241746917700:Nat:=0
def PySem.W.Fast.tw13282893444052188541:Nat:=0
def PySem.W.Fast.tw13410284264870443060:Nat:=0
def PySem.W.Fast.tw7548365151625335504:Nat:=0
open PySem PySem.W PyProof.Rows L2
local macro_rules | `(tactic| walk_at "F")=>`(tactic| (refine' L2.xY ?l ?c ?k;(case l=>k_is);(case c=>k_is);(case k=>k_is)))
set_option maxRecDepth 100000 in
set_option maxHeartbeats 0 in
theorem PySem.Challenge.cw_slowshift_k39_tables_of_states_holds : PySem.Challenge.rw_slowshift_k39_tables_of_states.Holds := by
 w_on;o_law;z_head;(case hw=>w_witness2)
 k_fill
 refine SW.walkX (fun _=>by kernel_rfl) (K.walk (l:=PySem.Challenge.rw_slowshift_k39_tables_of_states) rfl rfl (fun w h Y=>Y) ?F)
 case F=>
  intro w mg fa h KX G hmg
  refine' K.yE KX G hmg ?q_Shelf ?pg_Shelf ?hd_Shelf ?po_Shelf ?sa_Shelf ?mk_Shelf ?kc_Shelf ?na_Shelf_mixer ?na_Shelf_rows ?na_Shelf_held ?q_Table ?pg_Table ?hd_Table ?po_Table ?sa_Table ?mk_Table ?kc_Table ?na_Table_mixer ?na_Table_pace ?na_Table_elder ?na_Table_moved ?na_Table_newer ?na_Table_touches ?q_SlowError ?q_NoPlace ?q_NoSize ?q_NoRow ?q_NoState ?xo_NoState ?xa_NoState ?xb_NoState ?xc_NoState ?xd_NoState ?xe_NoState ?xf_NoState ?xg_NoState ?xh_NoState ?xs_NoState ?xv_NoState ?xn_NoState ?a0 ?u0 ?a1 ?u1 ?a2 ?u2 ?a3 ?u3 ?a4 ?u4 ?a5 ?u5 ?a6 ?i6 ?u6 ?a7 ?i7 ?u7 ?a8 ?i8 ?u8 ?a9 ?i9 ?u9 ?a10 ?i10 ?u10 ?a11 ?i11 ?u11 ?a12 ?i12 ?u12 ?a13 ?i13 ?u13 ?a14 ?i14 ?u14 ?a15 ?i15 ?u15 ?a16 ?u16 ?a17 ?i17 ?u17 ?a18 ?i18 ?u18 ?a19 ?i19 ?u19 ?a20 ?i20 ?u20 ?a21 ?i21 ?u21 ?a22 ?i22 ?u22 ?a23 ?i23 ?u23 ?a24 ?i24 ?u24 ?a25 ?i25 ?u25 ?a26 ?i26 ?u26 ?a27 ?u27 ?a28 ?i28 ?u28 ?a29 ?i29 ?u29 ?a30 ?i30 ?u30 ?a31 ?i31 ?u31 ?a32 ?i32 ?u32 ?a33 ?u33 ?a34 ?u34 ?a35 ?u35 ?a36 ?u36 ?a37 ?u37 ?a38 ?u38 ?a39 ?u39 ?a40 ?u40 ?a41 ?u41 ?a42 ?u42 ?a43 ?u43 ?a44 ?u44 ?a45 ?u45 ?a46 ?u46 ?a47 ?u47 ?a48 ?u48 ?a49 ?u49 ?a50 ?u50 ?a51 ?u51 ?a52 ?u52 ?a53 ?u53 ?a54 ?u54 ?a55 ?u55 ?a56 ?u56 ?a57 ?u57 ?a58 ?u58 ?a59 ?u59 ?a60 ?u60 ?a61 ?u61 ?a62 ?u62 ?a63 ?u63 ?cst0 ?cst1 ?ta_SIZES ?tl_SIZES ?ea_ ?eb_ ?ec_ ?ed0 ?ed1 ?ed2 ?ed3 ?blt0 ?blt1 ?blt2 ?blt3 ?blt4 ?blt5 ?blt6 ?blt7 ?blt8 ?blt9 ?blt10 ?blt11 ?blt12 ?blt13 ?blt14
  (case q_Shelf=>k_is)
  (case pg_Shelf=>k_is)
  (case hd_Shelf=>k_is)
  (case po_Shelf=>k_is)
  (case sa_Shelf=>k_is)
  (case mk_Shelf=>k_is)
  (case kc_Shelf=>k_is)
  (case na_Shelf_mixer=>k_is)
  (case na_Shelf_rows=>k_is)
  (case na_Shelf_held=>k_is)
  (case q_Table=>k_is)
  (case pg_Table=>k_is)
  (case hd_Table=>k_is)
  (case po_Table=>k_is)
  (case sa_Table=>k_is)
  (case mk_Table=>k_is)
  (case kc_Table=>k_is)
  (case na_Table_mixer=>k_is)
  (case na_Table_pace=>k_is)
  (case na_Table_elder=>k_is)
  (case na_Table_moved=>k_is)
  (case na_Table_newer=>k_is)
  (case na_Table_touches=>k_is)
  (case q_SlowError=>k_is)
  (case q_NoPlace=>k_is)
  (case q_NoSize=>k_is)
  (case q_NoRow=>k_is)
  (case q_NoState=>k_is)
  (case xo_NoState=>kernel_rfl)
  (case xa_NoState=>k_is)
  (case xb_NoState=>k_is)
  (case xc_NoState=>k_is)
  (case xd_NoState=>k_is)
  (case xe_NoState=>k_is)
  (case xf_NoState=>k_is)
  (case xg_NoState=>k_is)
  (case xh_NoState=>kernel_rfl)
  (case xs_NoState=>kernel_rfl)
  (case xv_NoState=>kernel_rfl)
  (case xn_NoState=>kernel_rfl)
  (case a0=>k_is)
  (case u0=>walk_at "F")
  (case a1=>k_is)
  (case u1=>walk_at "F")
  (case a2=>k_is)
  (case u2=>walk_at "F")
  (case a3=>k_is)
  (case u3=>walk_at "F")
  (case a4=>k_is)
  (case u4=>walk_at "F")
  (case a5=>k_is)
  (case u5=>walk_at "F")
  (case a6=>k_is)
  (case i6=>k_is)
  (case u6=>walk_at "F")
  (case a7=>k_is)
  (case i7=>k_is)
  (case u7=>walk_at "F")
  (case a8=>k_is)
  (case i8=>k_is)
  (case u8=>walk_at "F")
  (case a9=>k_is)
  (case i9=>k_is)
  (case u9=>walk_at "F")
  (case a10=>k_is)
  (case i10=>k_is)
  (case u10=>walk_at "F")
  (case a11=>k_is)
  (case i11=>k_is)
  (case u11=>walk_at "F")
  (case a12=>k_is)
  (case i12=>k_is)
  (case u12=>walk_at "F")
  (case a13=>k_is)
  (case i13=>k_is)
  (case u13=>walk_at "F")
  (case a14=>k_is)
  (case i14=>k_is)
  (case u14=>walk_at "F")
  (case a15=>k_is)
  (case i15=>k_is)
  (case u15=>walk_at "F")
  (case a16=>k_is)
  (case u16=>walk_at "F")
  (case a17=>k_is)
  (case i17=>k_is)
  (case u17=>walk_at "F")
  (case a18=>k_is)
  (case i18=>k_is)
  (case u18=>walk_at "F")
  (case a19=>k_is)
  (case i19=>k_is)
  (case u19=>walk_at "F")
  (case a20=>k_is)
  (case i20=>k_is)
  (case u20=>walk_at "F")
  (case a21=>k_is)
  (case i21=>k_is)
  (case u21=>walk_at "F")
  (case a22=>k_is)
  (case i22=>k_is)
  (case u22=>walk_at "F")
  (case a23=>k_is)
  (case i23=>k_is)
  (case u23=>walk_at "F")
  (case a24=>k_is)
  (case i24=>k_is)
  (case u24=>walk_at "F")
  (case a25=>k_is)
  (case i25=>k_is)
  (case u25=>walk_at "F")
  (case a26=>k_is)
  (case i26=>k_is)
  (case u26=>walk_at "F")
  (case a27=>k_is)
  (case u27=>walk_at "F")
  (case a28=>k_is)
  (case i28=>k_is)
  (case u28=>walk_at "F")
  (case a29=>k_is)
  (case i29=>k_is)
  (case u29=>walk_at "F")
  (case a30=>k_is)
  (case i30=>k_is)
  (case u30=>walk_at "F")
  (case a31=>k_is)
  (case i31=>k_is)
  (case u31=>walk_at "F")
  (case a32=>k_is)
  (case i32=>k_is)
  (case u32=>walk_at "F")
  (case a33=>k_is)
  (case u33=>walk_at "F")
  (case a34=>k_is)
  (case u34=>walk_at "F")
  (case a35=>k_is)
  (case u35=>walk_at "F")
  (case a36=>k_is)
  (case u36=>walk_at "F")
  (case a37=>k_is)
  (case u37=>walk_at "F")
  (case a38=>k_is)
  (case u38=>walk_at "F")
  (case a39=>k_is)
  (case u39=>walk_at "F")
  (case a40=>k_is)
  (case u40=>walk_at "F")
  (case a41=>k_is)
  (case u41=>walk_at "F")
  (case a42=>k_is)
  (case u42=>walk_at "F")
  (case a43=>k_is)
  (case u43=>walk_at "F")
  (case a44=>k_is)
  (case u44=>walk_at "F")
  (case a45=>k_is)
  (case u45=>walk_at "F")
  (case a46=>k_is)
  (case u46=>walk_at "F")
  (case a47=>k_is)
  (case u47=>walk_at "F")
  (case a48=>k_is)
  (case u48=>walk_at "F")
  (case a49=>k_is)
  (case u49=>walk_at "F")
  (case a50=>k_is)
  (case u50=>walk_at "F")
  (case a51=>k_is)
  (case u51=>walk_at "F")
  (case a52=>k_is)
  (case u52=>walk_at "F")
  (case a53=>k_is)
  (case u53=>walk_at "F")
  (case a54=>k_is)
  (case u54=>walk_at "F")
  (case a55=>k_is)
  (case u55=>walk_at "F")
  (case a56=>k_is)
  (case u56=>walk_at "F")
  (case a57=>k_is)
  (case u57=>walk_at "F")
  (case a58=>k_is)
  (case u58=>walk_at "F")
  (case a59=>k_is)
  (case u59=>walk_at "F")
  (case a60=>k_is)
  (case u60=>walk_at "F")
  (case a61=>k_is)
  (case u61=>walk_at "F")
  (case a62=>k_is)
  (case u62=>walk_at "F")
  (case a63=>k_is)
  (case u63=>walk_at "F")
  (case cst0=>k_is)
  (case cst1=>k_is)
  (case ta_SIZES=>k_is)
  (case tl_SIZES=>k_is)
  (case ea_=>k_is)
  (case eb_=>k_is)
  (case ec_=>k_is)
  (case ed0=>k_is)
  (case ed1=>k_is)
  (case ed2=>k_is)
  (case ed3=>k_is)
  (case blt0=>k_is)
  (case blt1=>k_is)
  (case blt2=>k_is)
  (case blt3=>k_is)
  (case blt4=>k_is)
  (case blt5=>k_is)
  (case blt6=>k_is)
  (case blt7=>k_is)
  (case blt8=>k_is)
  (case blt9=>k_is)
  (case blt10=>k_is)
  (case blt11=>k_is)
  (case blt12=>k_is)
  (case blt13=>k_is)
  (case blt14=>k_is)

