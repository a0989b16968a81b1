import PyProof.Rows.All
import Wide.All
import OpenK.AllK
import Wide.FinOn
import Lean
import PyProof.EqAt
import PyProof.EqKinds
import PyProof.TupleCall
import PySem.Challenge.RW_roadshare_k54_endless_ways
open PySem.W (instObj methodObj hideAll hideAll_get of_hideAll lookIn plainGet hasDictIn handedIn plainGet_of isFn plainOver takerIn makesIn emptyDict keepIn kitOne kia_one kitx_list kitx_dict callWith_K methodCall_KW cellsFrom_some fnOf codeIn excIn exmOne kdl_call kdl_dict KeqHits codeHdIn codeHd_of_K nsIn mg_of mg_none_of km_in_of)
abbrev Ya:=@Nat.le_refl
abbrev Yb:=@List.getElem?_eq_getElem
abbrev Yc:=@PySem.wpAny_bind
abbrev Yd:=@PySem.Heap.lt_size
abbrev Ye:=@Nat.lt_of_le_of_lt
abbrev Yf:=@List.getElem?_eq_some_iff
abbrev Yg:=@PySem.wpAny_pure
abbrev Yh:=@Nat.le_trans
abbrev Yi:=@Bool.false_ne_true
abbrev Yj:=@PySem.PassesOwn.never
abbrev Yk:=@Nat.lt_of_lt_of_le
abbrev Yl:=@Nat.ne_of_lt
abbrev Ym:=@PySem.Heap.get?_push_of_some
abbrev Yn:=@PySem.wpAny_mono
abbrev Yo:=@List.mem_append_right
abbrev Yp:=@List.getElem?_eq_none
abbrev Yq:=@List.mem_cons
abbrev Yr:=@List.map_cons
abbrev Ys:=@Nat.zero_le
abbrev Yt:=@List.getElem?_map
abbrev Yu:=@Int.toNat_natCast
abbrev Yv:=@PySem.Heap.get?_push_size
abbrev Yw:=@Rat.num_divInt_den
abbrev Yx:=@Option.some.inj
abbrev Yy:=@List.length_map
abbrev Yz:=@decide_eq_true
abbrev YA:=@Nat.le_of_lt
abbrev YB:=@PySem.mem_of_lookup
abbrev YC:=@List.size_toArray
abbrev YD:=@List.length_take
abbrev YE:=@decide_eq_false
abbrev YF:=@Nat.lt_irrefl
abbrev YG:=@List.length_append
abbrev YH:=@List.ext_getElem?
abbrev YI:=@Bool.eq_iff_iff
abbrev YJ:=@PySem.wpAny_passesOwn
abbrev YK:=@Nat.pow_add
abbrev YL:=@List.getElem?_append_right
abbrev YM:=@List.mem_cons_of_mem
abbrev YN:=@List.length_cons
abbrev YO:=@PySem.wpAny_truthy_bool
abbrev YQ:=@Nat.two_pow_pos
abbrev YR:=@PySem.codeAny_mono
abbrev YS:=@Int.fdiv_eq_ediv_of_nonneg
abbrev YT:=@List.getElem?_append_left
abbrev YU:=@Int.emod_nonneg
abbrev YV:=@List.mem_range
abbrev YW:=@PyProof.Rows.callWith_type1
abbrev YX:=@Nat.pow_le_pow_right
abbrev YY:=@List.mem_of_getElem?
abbrev YZ:=@beq_eq_false_iff_ne
abbrev Y0:=@Array.length_toList
abbrev Y1:=@PySem.wpAny_tupleItemsOf
abbrev Y2:=@PySem.wpAny_Call_Name_kw
abbrev Y3:=@Nat.le_add_right
abbrev Y4:=@Nat.mul_le_mul
abbrev Y5:=@Int.gcd_pos_of_ne_zero_right
abbrev Y6:=@List.getElem?_of_mem
abbrev PySem.VSP:=PySem.Value->PySem.Shared->Prop
set_option Elab.async false
set_option linter.all false
set_option maxRecDepth 100000
namespace L2
open PySem PySem.Spec PyProof.Rows
abbrev Key:=Sum Int Str
def keyIs:Key->Value->Bool
 | .inl k,v=>Value.isInt k v
 | .inr x,v=>Value.isStrOf x v
def keyH(w:World):Key->Int
 | .inl k=>hashInt k
 | .inr x=>hashStr w x
def keyIs_shape:∀ {k:Key}{v:Value},keyIs k v=true->(∃ i t,k=Sum.inl i/\v=Value.int i t)\/(∃ x t,k=Sum.inr x/\v=Value.str x t)
 | .inl i,v,h=>by
  obtain⟨t,e⟩:=Value.isInt_shape (k:=i) (v:=v) h
  exact .inl ⟨i,t,rfl,e⟩
 | .inr x,v,h=>by
  obtain⟨t,e⟩:=Value.isStrOf_shape (x:=x) (v:=v) h
  exact .inr ⟨x,t,rfl,e⟩
def key_ll(a b:Int):decide ((Sum.inl a:Key)=Sum.inl b)=(a == b):=by
 by_cases e:a=b
 ·subst e; simp
 ·have h:¬ (Sum.inl a:Key)=Sum.inl b:=λq=>e (Sum.inl.inj q)
  rw [YE h]
  exact (YZ.mpr e).symm
def key_rr(a b:Str):decide ((Sum.inr a:Key)=Sum.inr b)=decide (a=b):=by
 by_cases e:a=b
 ·subst e; simp
 ·have h:¬ (Sum.inr a:Key)=Sum.inr b:=λq=>e (Sum.inr.inj q)
  rw [YE h,YE e]
def key_lr(a:Int)(b:Str):decide ((Sum.inl a:Key)=Sum.inr b)=false:=YE (λq=>nomatch q)
def key_rl(a:Str)(b:Int):decide ((Sum.inr a:Key)=Sum.inl b)=false:=YE (λq=>nomatch q)
def mixKind(prog:Program)(w:World):PySem.KeyKind prog w Key where
 is:=keyIs
 hash:=keyH w
 inj:=λv a b ha hb=>by
  rcases keyIs_shape ha with ⟨i,t,rfl,rfl⟩ | ⟨x,t,rfl,rfl⟩
  ·rcases keyIs_shape hb with ⟨j,u,rfl,e⟩ | ⟨y,u,rfl,e⟩
   ·injection e with e1 _; rw [e1]
   ·exact nomatch e
  ·rcases keyIs_shape hb with ⟨j,u,rfl,e⟩ | ⟨y,u,rfl,e⟩
   ·exact nomatch e
   ·injection e with e1 _; rw [e1]
 byValue:=λk v h=>by
  rcases keyIs_shape h with ⟨i,t,rfl,rfl⟩ | ⟨x,t,rfl,rfl⟩ <;> rfl
 pyHash:=λhv h=>by
  rcases keyIs_shape hv with ⟨i,t,rfl,rfl⟩ | ⟨x,t,rfl,rfl⟩
  ·exact wpAny_pyHash_int h
  ·exact wpAny_pyHash_str h
 eqBool:=λhu hv h=>by
  rcases keyIs_shape hu with ⟨i,t,rfl,rfl⟩ | ⟨x,t,rfl,rfl⟩
  ·rcases keyIs_shape hv with ⟨j,u,rfl,rfl⟩ | ⟨y,u,rfl,rfl⟩
   ·rw [key_ll] at h; exact wpAny_eqBool_int h
   ·rw [key_lr] at h; exact SeqAt.EqAt.int_str i t y u _ _ _ _ h
  ·rcases keyIs_shape hv with ⟨j,u,rfl,rfl⟩ | ⟨y,u,rfl,rfl⟩
   ·rw [key_rl] at h; exact SeqAt.EqAt.str_int x t j u _ _ _ _ h
   ·rw [key_rr] at h; exact wpAny_eqBool_str h
 «strs»:=λk x t v h=>by
  rcases keyIs_shape h with ⟨i,u,rfl,e⟩ | ⟨y,u,rfl,e⟩
  ·exact nomatch e
  ·injection e with e1 _
   subst e1
   cases v <;> rfl
inductive V where
 | non | bl (b:Bool) | int (i:Int) | str (x:Str) | byt (b:Array UInt8) | flt (b:UInt64) | ref (a:Addr) | ty (n:String)
 deriving DecidableEq
def RelV:V->Value->Prop
 | .non,u=>u=Value.none
 | .bl b,u=>u=Value.bool b
 | .int i,u=>∃ t,u=Value.int i t
 | .str x,u=>∃ t,u=Value.str x t
 | .byt b,u=>∃ t,u=Value.bytes b t
 | .flt b,u=>∃ t,u=Value.float b t
 | .ref a,u=>u=Value.ref a
 | .ty n,u=>u=Value.type n
abbrev Vals:List V->List Value->Prop:=Paired RelV
variable {us:List Value}
theorem Vals.length{xs:List V}(r:Vals xs us):xs.length=us.length:=Paired.length r
theorem Vals.get:∀ {xs:List V}{us:List Value}{i:Nat}{x:V},Vals xs us->xs[i]?=some x->∃ u,us[i]?=some u/\RelV x u
 | _,_,_,_,.nil,e=>by simp at e
 | _,_,0,_,.cons r _,e=>by simp at e; subst e; exact⟨_,rfl,r⟩
 | _,_,i + 1,x,.cons _ t,e=>by
  obtain⟨u,h1,h2⟩:=Vals.get (i:=i) (x:=x) t (by simpa using e)
  exact⟨u,by simpa using h1,h2⟩
variable {u:Value}
def Vals.set{x:V}(r:RelV x u):∀ {xs:List V}{us:List Value}(i:Nat),Vals xs us->Vals (xs.set i x) (us.set i u)
 | _,_,_,.nil=>.nil
 | _,_,0,.cons _ t=>.cons r t
 | _,_,i + 1,.cons q t=>.cons q (Vals.set r i t)
theorem Vals.append:∀ {xs ys:List V}{us ws:List Value},Vals xs us->Vals ys ws->Vals (xs ++ ys) (us ++ ws)
 | _,_,_,_,.nil,s=>s
 | _,_,_,_,.cons r t,s=>.cons r (Vals.append t s)
def Vals.take:∀ {xs:List V}{us:List Value}(n:Nat),Vals xs us->Vals (xs.take n) (us.take n)
 | _,_,0,_=>.nil
 | _,_,_ + 1,.nil=>.nil
 | _,_,n + 1,.cons r t=>.cons r (Vals.take n t)
def Vals.drop:∀ {xs:List V}{us:List Value}(n:Nat),Vals xs us->Vals (xs.drop n) (us.drop n)
 | _,_,0,r=>r
 | _,_,_ + 1,.nil=>.nil
 | _,_,n + 1,.cons _ t=>Vals.drop n t
def Vals.none_of:∀ {xs:List V}{us:List Value}{i:Nat},Vals xs us->xs[i]?=none->us[i]?=none:=λ{xs us i} r e=>by
 have h1:=r.length
 have h2:xs.length<=i:=List.getElem?_eq_none_iff.mp e
 exact List.getElem?_eq_none_iff.mpr (by omega)
def RelO:Option V->Option Value->Prop
 | some v,some u=>RelV v u
 | none,none=>True
 | _,_=>False
def KV{κ:Type}:List (κ × V)->List (κ × Value)->Prop:=Paired λ(p:κ × V) (q:κ × Value)=>p.1=q.1/\RelV p.2 q.2
def kV:Key->V
 | .inl i=>.int i
 | .inr x=>.str x
inductive HO where
 | lst (xs:List V)
 | tup (xs:List V)
 | dK (kvs:List (Key × V)) | dT (kvs:List (List Key × V))
 | set (S:Int->Bool) (n:Nat)
 | ins (C dx:Addr) (fs:List (Str × V))
 | own (x:Addr)
 | xd (fs:List (Str × V))
 | met (f x:Addr)
 | rng (lo hi:Int)
 | frz (o:Obj) (u:HO)
 | tbl (ps:Array Value)
 | ext (φ:Heap->Prop)
abbrev Hp:=Addr->Option HO
def upd(H:Hp)(a:Addr)(o:HO):Hp:=λb=>if b=a then some o else H b
variable {H:Hp}
theorem upd_same{a:Addr}{o:HO}:upd H a o a=some o:=by unfold upd; rw [if_pos rfl]
theorem upd_ne{a b:Addr}{o:HO}(h:b ≠ a):upd H a o b=H b:=by unfold upd; rw [if_neg h]
theorem ne_of_none{a b:Addr}{o:HO}(h:H a=some o)(h':H b=none):a ≠ b:=by
 intro e; subst e; rw [h] at h'; cases h'
section
variable (P:Program)(w:World)
def ObjOk(H:Hp)(h:Heap)(a:Addr):HO->Prop
 | .lst xs=>xs.length<=sizeLine/\∃ (its:List Value) (n:Nat),Vals xs its/\h.get? a=some { cls:=.type "list",data:=.seq its.toArray n }
 | .tup xs=>xs.length<=sizeLine/\∃ its:List Value,Vals xs its/\IsTup h a its.toArray
 | .dK kvs=>kvs.length<=sizeLine/\(a == sysModules)=false/\∃ vs,KV kvs vs/\h.DictOf (mixKind P w) a vs
 | .dT kvs=>kvs.length<=sizeLine/\(a == sysModules)=false/\∃ xs:List (List Key × Addr × Value),
   Paired (λ(p:List Key × V) (q:List Key × Addr × Value)=>p.1=q.1/\H q.2.1=some (.tup (p.1.map kV))/\RelV p.2 q.2.2) kvs xs /\
   ∃ o es ep,h.get? a=some o/\o.ExactDict/\o.data=.dict es ep/\es.toList=xs.map (entryOfKey (tupleKind (mixKind P w)))/\(xs.map (·.1)).Nodup
 | .set S n=>h.SetOf (intKind P w) a S n
 | .ins C dx fs=>H dx=some (.own a)/\fs.length<=1000/\dx ≠ a/\h.get? a=some (instObj C dx) /\
   ∃ mA,h.Ns1 dx mA/\(∀ f,RelO (fs.lookup f) (mA f))/\PySem.Within mA (fs.map (·.1))
 | .own _=>∃ o,h.get? a=some o
 | .xd fs=>∃ mA,h.Ns1 a mA/\∀ f,RelO (fs.lookup f) (mA f)
 | .rng lo hi=>∃ t u v,h.get? a=some { cls:=.type "range",data:=.fields #[.int lo t,.int hi u,.int 1 v] }
 | .frz o u=>h.get? a=some o/\ObjOk H h a u
 | .tbl ps=>∃ qs:Array Value,h.get? a=some { cls:=.none,data:=.fields qs }/\TriplesOk qs.toList/\∀ (pos:Pos) (v:Value),codeAmong pos qs.toList=some v ->
   ∃ (c:Addr) (o:Obj) (vs:Array Value) (q:Str) (t t':Tok),v=.ref c/\H c=some (.frz o (.own a))/\o.data=.fields vs/\vs[1]?=some (.str q t)/\ps[0]?=some (.str q t')
 | .met f x=>h.get? a=some (methodObj (.ref f) (.ref x))
 | .ext φ=>φ h/\(∃ o,h.get? a=some o)/\∀ h1 h2:Heap,φ h1->(∀ o,h1.get? a=some o->h2.get? a=some o)->φ h2
def HOk(H:Hp)(h:Heap):Prop:=∀ a o,H a=some o->ObjOk P w H h a o
end
section
variable {P:Program}{w:World}{H H':Hp}{h h':Heap}{a:Addr}{o:HO}
theorem ObjOk.lt(x:ObjOk P w H h a o):a < h.objs.size:=by
 cases o with
 | lst xs=>obtain⟨_,_,_,_,e⟩:=x; exact Yd e
 | tup xs=>obtain⟨_,_,_,p⟩:=x; exact p.lt
 | dK kvs=>obtain⟨_,_,_,_,o,_,_,e,_⟩:=x; exact Yd e
 | dT kvs=>obtain⟨_,_,_,_,o,_,_,e,_⟩:=x; exact Yd e
 | set S n=>obtain⟨o,_,_,_,e,_⟩:=x; exact Yd e
 | ins C dx fs=>obtain⟨_,_,_,e,_⟩:=x; exact Yd e
 | own y=>obtain⟨_,e⟩:=x; exact Yd e
 | xd fs=>obtain⟨_,⟨_,_,_,e,_⟩,_⟩:=x; exact Yd e
 | rng lo hi=>obtain⟨_,_,_,e⟩:=x; exact Yd e
 | frz ob u=>obtain⟨e,_⟩:=x; exact Yd e
 | tbl ps=>obtain⟨_,e,_⟩:=x; exact Yd e
 | met f y=>exact Yd (show h.get? a=some _ from x)
 | ext φ=>obtain⟨_,⟨_,e⟩,_⟩:=x; exact Yd e
def Paired.mapP{α β:Type}{F G:α->β->Prop}:∀ {l₁:List α}{l₂:List β},Paired F l₁ l₂->(∀ a b,F a b->G a b)->Paired G l₁ l₂
 | _,_,.nil,_=>.nil
 | _,_,.cons r t,f=>.cons (f _ _ r) (Paired.mapP t f)
def ObjOk.stay(x:ObjOk P w H h a o)(k:∀ b u,(b=a\/H b=some (.own a))->h.get? b=some u->h'.get? b=some u)
  (ho:∀ b,H b=some (.own a)->H' b=some (.own a)) (ht:∀ b xs,H b=some (.tup xs)->H' b=some (.tup xs))
  (hf:∀ b o,H b=some (.frz o (.own a))->H' b=some (.frz o (.own a)):=by exact λ_ _ q=>q):ObjOk P w H' h' a o:=by
 induction o with
 | lst xs=>obtain⟨z,its,n,r,e⟩:=x; exact⟨z,its,n,r,k _ _ (.inl rfl) e⟩
 | tup xs=>obtain⟨z,its,r,ob,e,c⟩:=x; exact⟨z,its,r,ob,k _ _ (.inl rfl) e,c⟩
 | dK kvs=>obtain⟨z,y,vs,r,ob,es,ep,e,c⟩:=x; exact⟨z,y,vs,r,ob,es,ep,k _ _ (.inl rfl) e,c⟩
 | dT kvs =>
  obtain⟨z,y,xs,r,ob,es,ep,e,c⟩:=x
  exact⟨z,y,xs,Paired.mapP r λp q z=>⟨z.1,ht _ _ z.2.1,z.2.2⟩,ob,es,ep,k _ _ (.inl rfl) e,c⟩
 | set S n=>obtain⟨ob,es,ep,t,e,c⟩:=x; exact⟨ob,es,ep,t,k _ _ (.inl rfl) e,c⟩
 | ins C dx fs =>
  obtain⟨d,z,ne,e,mA,⟨od,es,ep,e2,c⟩,r⟩:=x
  exact⟨ho _ d,z,ne,k _ _ (.inl rfl) e,mA,⟨od,es,ep,k _ _ (.inr d) e2,c⟩,r⟩
 | own y=>obtain⟨ob,e⟩:=x; exact⟨ob,k _ _ (.inl rfl) e⟩
 | xd fs=>obtain⟨mA,⟨od,es,ep,e,c⟩,r⟩:=x; exact⟨mA,⟨od,es,ep,k _ _ (.inl rfl) e,c⟩,r⟩
 | rng lo hi=>obtain⟨t,u,v,e⟩:=x; exact⟨t,u,v,k _ _ (.inl rfl) e⟩
 | frz ob u ih=>obtain⟨e,q⟩:=x; exact⟨k _ _ (.inl rfl) e,ih q⟩
 | tbl ps =>
  obtain⟨qs,e,t,f⟩:=x
  exact⟨qs,k _ _ (.inl rfl) e,t,λpos v z=>by
   obtain⟨c,o,vs,q,t,t',e1,e2,r⟩:=f pos v z
   exact⟨c,o,vs,q,t,t',e1,hf _ _ e2,r⟩⟩
 | met f y =>
  have e:h.get? a=some (methodObj (.ref f) (.ref y)):=x
  show h'.get? a=some (methodObj (.ref f) (.ref y))
  exact k a _ (.inl rfl) e
 | ext φ=>obtain⟨p,⟨o,e⟩,st⟩:=x; exact⟨st _ _ p λo q=>k _ _ (.inl rfl) q,⟨o,k _ _ (.inl rfl) e⟩,st⟩
theorem HOk.lt(x:HOk P w H h)(e:H a=some o):a < h.objs.size:=(x a o e).lt
theorem HOk.fresh(x:HOk P w H h)(e:h.objs.size<=a):H a=none:=by
 cases q:H a with
 | none=>rfl
 | some u=>exact absurd (Yk (x.lt q) e) (YF _)
theorem HOk.kept(x:HOk P w H h)(k:∀ b u,h.get? b=some u->h'.get? b=some u):HOk P w H h':=λa o e =>
 (x a o e).stay (λb u _ q=>k b u q) (λ_ q=>q) λ_ _ q=>q
theorem HOk.laid(x:HOk P w H h)(k:∀ b u,h.get? b=some u->h'.get? b=some u)(hp:h.objs.size<=a)(new:ObjOk P w (upd H a o) h' a o):HOk P w (upd H a o) h':=λb u e=>by
 have hn:=x.fresh hp
 by_cases hb:b=a
 ·subst hb; rw [upd_same] at e; cases e; exact new
 ·rw [upd_ne hb] at e
  exact (x b u e).stay (λc v _ q=>k c v q) (λc q=>by rw [upd_ne (ne_of_none q hn)]; exact q) (λc xs q=>by rw [upd_ne (ne_of_none q hn)]; exact q) λc o q=>by rw [upd_ne (ne_of_none q hn)]; exact q
end
def Rd(H:Hp)(a:Addr)(u:HO):Prop:=H a=some u\/∃ o,H a=some (.frz o u)
theorem Rd.of{a:Addr}{u:HO}(h:H a=some u):Rd H a u:=.inl h
variable {P:Program}{w:World}
theorem Rd.ok{h:Heap}{a:Addr}{u:HO}(r:Rd H a u)(x:HOk P w H h):ObjOk P w H h a u:=by
 rcases r with r | ⟨o,r⟩
 ·exact x a u r
 ·obtain⟨_,q⟩:=x a _ r
  exact q
def Mut:Option HO->Prop
 | some (.lst _)=>True
 | some (.dK _)=>True
 | some (.dT _)=>True
 | some (.set _ _)=>True
 | some (.ins _ _ _)=>True
 | some (.ext _)=>True
 | _=>False
section
variable {P:Program}{w:World}{H:Hp}{h h':Heap}{x e:Addr}{o':HO}
def HOk.write(ok:HOk P w H h)(mu:Mut (H x))(he:e=x\/H e=some (.own x))(k:∀ b u,b ≠ e->h.get? b=some u->h'.get? b=some u)(heo:∃ u,h'.get? e=some u)
  (new:ObjOk P w (upd H x o') h' x o'):HOk P w (upd H x o') h':=λb u q=>by
 have nown:∀ c y,H c=some (.own y)->c ≠ x:=λc y r z=>by subst z; rw [r] at mu; exact mu
 have ntup:∀ c xs,H c=some (.tup xs)->c ≠ x:=λc xs r z=>by subst z; rw [r] at mu; exact mu
 by_cases hb:b=x
 ·subst hb; rw [upd_same] at q; cases q; exact new
 ·rw [upd_ne hb] at q
  by_cases hbe:b=e
  ·have q':H b=some (.own x):=by
    rcases he with z | z
    ·exact absurd (hbe.trans z) hb
    ·rw [hbe]; exact z
   rw [q] at q'; cases q'
   obtain⟨v,hv⟩:=heo
   exact⟨v,by rw [hbe]; exact hv⟩
  ·refine (ok b u q).stay (λc v hc r=>k c v ?_ r) (λc r=>by rw [upd_ne (nown c b r)]; exact r) (λc xs r=>by rw [upd_ne (ntup c xs r)]; exact r) λc o r=>by rw [upd_ne λz=>by subst z; rw [r] at mu; exact mu]; exact r
   rcases hc with rfl | hc
   ·exact hbe
   ·rintro rfl
    rcases he with z | z
    ·exact nown c b hc z
    ·rw [hc] at z; cases z; exact hb rfl
end
structure Un(fs ex:List Addr)(H H':Hp)(h h':Heap):Prop where
 keep:∀ b o,h.get? b=some o->H b=none->b ∉ fs->b ∉ ex->h'.get? b=some o
 slot:∀ b o,h.get? b=some o->H b=none->b∈fs->b ∉ ex->∃ sl,h'.get? b=some { o with slots:=sl }
 free:∀ b o,h.get? b=some o->H b=none->b ∉ ex->H' b=none
 there:∀ b o,h.get? b=some o->b ∉ ex->∃ o',h'.get? b=some o'
 tups:∀ b xs,H b=some (.tup xs)->H' b=some (.tup xs)
 frzs:∀ b o u,H b=some (.frz o u)->H' b=some (.frz o u)
 tbls:∀ b ps,H b=some (.tbl ps)->∃ more,H' b=some (.tbl (ps ++ more))
section
variable {fs fs' ex ex':List Addr}{H H1 H2:Hp}{h h1 h2 h':Heap}{a x e:Addr}{o:HO}
theorem Un.any(u:Un fs ex H H1 h h1){b:Addr}{ob:Obj}(q:h.get? b=some ob)(n:H b=none)(hx:b ∉ ex):∃ sl,h1.get? b=some { ob with slots:=sl }:=by
 by_cases hb:b∈fs
 ·exact u.slot b ob q n hb hx
 ·exact⟨ob.slots,u.keep b ob q n hb hx⟩
theorem Un.trans(a:Un fs ex H H1 h h1)(b:Un fs ex H1 H2 h1 h2):Un fs ex H H2 h h2 where
 keep:=λc ob q n hc hx=>b.keep c ob (a.keep c ob q n hc hx) (a.free c ob q n hx) hc hx
 slot:=λc ob q n hc hx=>by
  obtain⟨sl,e1⟩:=a.slot c ob q n hc hx
  obtain⟨sl',e2⟩:=b.slot c _ e1 (a.free c ob q n hx) hc hx
  exact⟨sl',e2⟩
 free:=λc ob q n hx=>by
  obtain⟨o',e1⟩:=a.there c ob q hx
  exact b.free c o' e1 (a.free c ob q n hx) hx
 there:=λc ob q hx=>by
  obtain⟨o',e1⟩:=a.there c ob q hx
  exact b.there c o' e1 hx
 tups:=λc xs q=>b.tups c xs (a.tups c xs q)
 frzs:=λc ob xs q=>b.frzs c ob xs (a.frzs c ob xs q)
 tbls:=λc ps q=>by
  obtain⟨m1,e1⟩:=a.tbls c ps q
  obtain⟨m2,e2⟩:=b.tbls c _ e1
  exact⟨m1 ++ m2,by rw [e2,Array.append_assoc]⟩
theorem Un.kept(k:∀ b u,h.get? b=some u->h'.get? b=some u):Un fs ex H H h h' :=
 ⟨λb ob q _ _ _=>k b ob q,λb ob q _ _ _=>⟨ob.slots,k b ob q⟩,λ_ _ _ n _=>n,λb ob q _=>⟨ob,k b ob q⟩,λ_ _ q=>q,λ_ _ _ q=>q,λ_ ps q=>⟨#[],by rw [q]; simp⟩⟩
def Un.refl:Un fs ex H H h h:=Un.kept λ_ _ q=>q
theorem Un.laid(k:∀ b u,h.get? b=some u->h'.get? b=some u)(hp:h.objs.size<=a)(hn:H a=none):Un fs ex H (upd H a o) h h' where
 keep:=λb u q _ _ _=>k b u q
 slot:=λb u q _ _ _=>⟨u.slots,k b u q⟩
 free:=λb u q n _=>by rw [upd_ne (Yl (Yk (Yd q) hp))]; exact n
 there:=λb u q _=>⟨u,k b u q⟩
 tups:=λb xs q=>by rw [upd_ne (ne_of_none q hn)]; exact q
 frzs:=λb u xs q=>by rw [upd_ne (ne_of_none q hn)]; exact q
 tbls:=λb ps q=>⟨#[],by rw [upd_ne (ne_of_none q hn),q]; simp⟩
def Un.write(mu:Mut (H x))(he:e=x\/H e=some (.own x))(k:∀ b u,b ≠ e->h.get? b=some u->h'.get? b=some u)(heo:∃ u,h'.get? e=some u):Un fs ex H (upd H x o) h h':=by
 have hx:∀ b,H b=none->b ≠ x:=λb n z=>by subst z; rw [n] at mu; exact mu
 have hb:∀ b,H b=none->b ≠ e:=λb n z=>by
  subst z
  rcases he with r | r
  ·exact hx b n r
  ·rw [n] at r; cases r
 have hm:∀ b u,H b=some u->¬ Mut (some u)->b ≠ x:=λb u q nm z=>by subst z; rw [q] at mu; exact nm mu
 refine⟨λb u q n _ _=>k b u (hb b n) q,λb u q n _ _=>⟨u.slots,k b u (hb b n) q⟩,λb u q n _=>by rw [upd_ne (hx b n)]; exact n,λb u q _=>?_,
  λb xs q=>by rw [upd_ne (hm b _ q λz=>z)]; exact q,λb u xs q=>by rw [upd_ne (hm b _ q λz=>z)]; exact q,λb ps q=>⟨#[],by rw [upd_ne (hm b _ q λz=>z),q]; simp⟩⟩
 by_cases hbe:b=e
 ·subst hbe; exact heo
 ·exact⟨u,k b u hbe q⟩
def Un.mono(u:Un fs ex H H1 h h1)(hs:∀ b∈fs,b∈fs')(hx:∀ b∈ex,b∈ex'):Un fs' ex' H H1 h h1 :=
 ⟨λb ob q n hb he=>u.keep b ob q n (λz=>hb (hs b z)) λz=>he (hx b z),λ_ _ q n _ he=>u.any q n λz=>he (hx _ z),λb ob q n he=>u.free b ob q n λz=>he (hx b z),λb ob q he=>u.there b ob q λz=>he (hx b z),u.tups,u.frzs,u.tbls⟩
end
def trk(h:Heap)(H:Hp):List Addr:=(List.range h.objs.size).filter λa=>(H a).isSome
def hidT(h:Heap)(H:Hp):Heap:=hideAll h (trk h H)
theorem hidT_size(h:Heap)(H:Hp):(hidT h H).objs.size=h.objs.size:=PySem.W.hideAll_size _ _
def hidT_get{h:Heap}{b:Addr}{o:Obj}(e:h.get? b=some o)(n:H b=none):(hidT h H).get? b=some o :=
 hideAll_get _ e λhm=>by
  have q:(H b).isSome=true:=(List.mem_filter.mp hm).2
  rw [n] at q; simp at q
theorem of_hidT{h:Heap}{b:Addr}{o:Obj}(e:(hidT h H).get? b=some o):h.get? b=some o/\H b=none:=by
 have e':h.get? b=some o:=of_hideAll (trk h H) e
 refine⟨e',?_⟩
 cases q:H b with
 | none=>rfl
 | some x =>
  have hm:b∈trk h H:=List.mem_filter.mpr ⟨List.mem_range.mpr (Heap.lt_size e'),by simp [q]⟩
  have z:(hidT h H).get? b=none:=PySem.W.hideAll_none (trk h H) hm
  rw [z] at e; cases e
def allNews(g h:Heap)(L:Addr):List (Addr × Obj):=(List.range h.objs.size).filterMap λa=>if a=L\/(g.get? a).isSome=true then none else (h.get? a).map λo=>(a,o)
def rest(g h:Heap)(L d:Addr):List (Addr × Obj):=(allNews g h L).filter λp=>decide (p.1 ≠ d)
structure Mod(K:PySem.W.Frag)(mg:Str->Option Value)(base:Heap):Prop where
 kin:K.In base
 glob:base.Ns mainGlobals mg
 blt:∃ mb,base.Ns builtinsNs mb/\∀ x:Str,x ≠ "__name__"->mb x=bootBuiltins x
 nolimit:base.NoLimit
structure Cx where
 prog:Program
 w:World
 K:PySem.W.Frag
 mg:Str->Option Value
 base:Heap
 A:Around
 N:List Str
 s₀:Shared
 H₀:Hp
 env:Env
 outer:List Env
 stack:List Env
 ex:List Addr
 fn:Str->Bool
 calm:Bool
 pn:List (Addr × Obj)
 xe:VSP
def frs(l:List Env):List Addr:=l.filterMap (·.frame)
abbrev Cx.fs(X:Cx):List Addr:=frs X.outer
def Vis(sc:Scope)(x:Str):Prop:=sc.names.lookup x=some .local\/sc.names.lookup x=some .cell\/sc.names.lookup x=some .free
def Loc(sc:Scope)(x:Str):Prop:=sc.names.lookup x=some .local\/sc.names.lookup x=some .cell
def Look(env:Env)(h:Heap)(m:Str->Option Value)(x:Str)(u:Value):Prop :=
 (env.kindOf x=some .local/\m x=some u)\/((env.kindOf x=some .cell\/env.kindOf x=some .free)/\∃ c,env.cells.lookup x=some c/\h.IsCell c (some u))
structure Cx.Ok(X:Cx):Prop where
 mod:Mod X.K X.mg X.base
 kind:X.env.scope.kind=.function
 glob:X.env.globals=mainGlobals
 blt:X.env.builtins=builtinsNs
 above:X.s₀.heap.objs.size<=X.env.locals
 inj:∀ x y c,X.env.cells.lookup x=some c->X.env.cells.lookup y=some c->x=y
 has:∀ x,(X.env.kindOf x=some .cell\/X.env.kindOf x=some .free)->∃ c,X.env.cells.lookup x=some c
 cab:∀ x c,X.fn x=true->X.env.cells.lookup x=some c->X.s₀.heap.objs.size<=c
 hd:X.calm=true->X.A.handled=none
 frames:X.A.frames=some X.stack
 stk:X.stack=X.outer\/(X.stack=X.env :: X.outer/\X.env.frame=some X.env.locals)
 exf:∀ b∈X.ex,b ≠ X.env.locals/\∀ x c,X.env.cells.lookup x=some c->c ≠ b
 bs:∀ b o,X.base.get? b=some o->X.s₀.heap.get? b=some o/\X.H₀ b=none
 bsz:X.base.objs.size<=X.s₀.heap.objs.size
 noex:∀ b o,X.base.get? b=some o->b ∉ X.ex
 exfs:∀ b∈X.ex,b ∉ X.fs
 funs:X.s₀.heap.FunFrames X.base X.outer
 frf:∀ b∈X.fs,X.H₀ b=none
structure Inv(X:Cx)(pins:List (Addr × Obj))(Z:List (Option V))(H:Hp)(s:Shared):Prop where
 ok:X.Ok
 os:s.os=X.s₀.os
 bare:AllBare s.gens
 base:Un X.fs X.ex X.H₀ H X.s₀.heap s.heap
 loc:∃ m,s.heap.Ns X.env.locals m/\∀ (i:Nat) (x:Str) (v:V),X.N[i]?=some x->Z[i]?=some (some v)->Vis X.env.scope x->∃ u,RelV v u/\Look X.env s.heap m x u
 cell:∀ x c,X.env.cells.lookup x=some c->∃ v,s.heap.IsCell c v
 free:H X.env.locals=none
 freeC:∀ x c,X.env.cells.lookup x=some c->H c=none
 pin:∀ p∈X.pn ++ pins,s.heap.get? p.1=some p.2/\H p.1=none/\p.1 ≠ X.env.locals/\p.1 ∉ X.fs/\∀ v,p.2.data ≠ .cell v
 hok:HOk X.prog X.w H s.heap
 len:Z.length=X.N.length
section
variable {X:Cx}{pins:List (Addr × Obj)}{Z:List (Option V)}{H H':Hp}{s:Shared}{h':Heap}
def Cx.Ok.nofr(ok:X.Ok){b:Addr}{o:Obj}(e:X.base.get? b=some o):b ∉ X.fs:=λhb=>by
 have:=(ok.funs.mem hb).1
 rw [e] at this; cases this
theorem Inv.bs(I:Inv X pins Z H s):∀ b o,X.base.get? b=some o->s.heap.get? b=some o/\H b=none:=λb o e =>
 ⟨I.base.keep b o (I.ok.bs b o e).1 (I.ok.bs b o e).2 (I.ok.nofr e) (I.ok.noex b o e),I.base.free b o (I.ok.bs b o e).1 (I.ok.bs b o e).2 (I.ok.noex b o e)⟩
def Inv.bk(I:Inv X pins Z H s):∀ b o,X.base.get? b=some o->s.heap.get? b=some o:=λb o e=>(I.bs b o e).1
theorem Inv.mod(I:Inv X pins Z H s):Mod X.K X.mg X.base:=I.ok.mod
theorem Inv.kIn(I:Inv X pins Z H s):X.K.In s.heap:=I.ok.mod.kin.keeps I.bk
def Inv.nolimit(I:Inv X pins Z H s):s.heap.NoLimit:=I.ok.mod.nolimit.keeps I.bk
def Inv.fr(I:Inv X pins Z H s):∃ m,Fr X.base X.env.locals s.heap m :=
 let ⟨m,hn,_⟩:=I.loc
 ⟨m,hn,I.bk,Yh I.ok.bsz I.ok.above⟩
theorem Inv.lt(I:Inv X pins Z H s):X.env.locals < s.heap.objs.size:=let ⟨_,hn,_⟩:=I.loc; hn.lt
def Inv.sz(I:Inv X pins Z H s):X.s₀.heap.objs.size<=s.heap.objs.size:=Yh I.ok.above (YA I.lt)
def Inv.nofs(I:Inv X pins Z H s){a:Addr}(h:s.heap.objs.size<=a):a ∉ X.fs:=λhb=>by
 obtain⟨_,o,ho,_⟩:=I.ok.funs.mem hb
 exact absurd (Yk (Yd ho) (Yh I.sz h)) (YF _)
theorem Inv.cne(I:Inv X pins Z H s):∀ x c,X.env.cells.lookup x=some c->c ≠ X.env.locals:=λx c e z=>by
 obtain⟨v,o,ho,hd⟩:=I.cell x c e
 obtain⟨m,⟨o',es,ep,ho',hd',_⟩,_⟩:=I.loc
 rw [z,ho'] at ho; cases ho; rw [hd'] at hd; cases hd
theorem Inv.funs(I:Inv X pins Z H s):s.heap.FunFrames X.base X.outer:=by
 have all:∀ (l:List Env),(∀ b∈frs l,b∈X.fs)->X.s₀.heap.FunFrames X.base l->s.heap.FunFrames X.base l:=by
  intro l
  induction l with
  | nil=>intro _ _; trivial
  | cons env r ih =>
   intro hs hl
   obtain⟨hk,⟨L,o,hf,hn,ho,hd⟩,hr⟩:=hl
   have hL:L∈X.fs:=hs L (by unfold frs; rw [List.filterMap_cons,hf]; exact List.mem_cons_self)
   obtain⟨sl,e⟩:=I.base.slot L o ho (I.ok.frf L hL) hL λz=>I.ok.exfs L z hL
   exact⟨hk,⟨L,_,hf,hn,e,hd⟩,ih (λb hb=>hs b (by unfold frs; rw [List.filterMap_cons,hf]; exact List.mem_cons_of_mem _ hb)) hr⟩
 exact all X.outer (λ_ hb=>hb) I.ok.funs
def Inv.stack(I:Inv X pins Z H s):s.heap.FunFrames X.base X.stack:=by
 rcases I.ok.stk with e | ⟨e,hf⟩
 ·rw [e]; exact I.funs
 ·rw [e]
  obtain⟨m,hn,_⟩:=I.loc
  refine .cons (by rw [I.ok.kind]; decide) hf hn ?_ I.funs
  exact Heap.get?_none_of_le (Yh I.ok.bsz I.ok.above)
def Inv.stkSub(I:Inv X pins Z H s):∀ b∈frs X.stack,b∈X.env.locals :: X.fs:=λb hb=>by
 rcases I.ok.stk with e | ⟨e,hf⟩
 ·rw [e] at hb; exact YM _ hb
 ·rw [e] at hb
  unfold frs at hb
  rw [List.filterMap_cons,hf] at hb
  exact hb
def Inv.stkFree(I:Inv X pins Z H s):∀ b∈frs X.stack,H b=none:=λb hb=>by
 rcases Yq.mp (I.stkSub b hb) with e | hb
 ·rw [e]; exact I.free
 ·obtain⟨_,o,ho,_⟩:=I.ok.funs.mem hb
  exact I.base.free b o ho (I.ok.frf b hb) λz=>I.ok.exfs b z hb
theorem Inv.step{g':Array GenState}{t':Nat}{d':Drawn}{ch:List Addr}(I:Inv X pins Z H s)
  (hch:∀ b∈ch,(b∈X.ex\/X.s₀.heap.objs.size<=b)/\b ≠ X.env.locals/\(∀ x c,X.env.cells.lookup x=some c->c ≠ b)/\∀ p∈X.pn ++ pins,p.1 ≠ b)
  (keep:∀ b o,b ≠ X.env.locals->b ∉ X.fs->b ∉ ch->s.heap.get? b=some o->H b=none->h'.get? b=some o)
  (slot:∀ b o,b ≠ X.env.locals->b∈X.fs->b ∉ ch->s.heap.get? b=some o->H b=none->∃ sl,h'.get? b=some { o with slots:=sl }) (free:∀ b o,b ∉ ch->s.heap.get? b=some o->H b=none->H' b=none)
  (there:∀ b o,b ∉ ch->s.heap.get? b=some o->∃ o',h'.get? b=some o')
  (tups:∀ b xs,H b=some (.tup xs)->H' b=some (.tup xs)) (frzs:∀ b o u,H b=some (.frz o u)->H' b=some (.frz o u)) (tbls:∀ b ps,H b=some (.tbl ps)->∃ more,H' b=some (.tbl (ps ++ more)))
  (ns:∀ m,s.heap.Ns X.env.locals m->h'.Ns X.env.locals m) (hok:HOk X.prog X.w H' h') (hg:AllBare g') :
  Inv X pins Z H' { s with heap:=h',gens:=g',drawn:=d',toks:=t' }:=by
 have neL:∀ b o,X.s₀.heap.get? b=some o->b ≠ X.env.locals:=λb o e=>Yl (Yk (Yd e) I.ok.above)
 have neC:∀ b o,X.s₀.heap.get? b=some o->b ∉ X.ex->b ∉ ch:=λb o e hx hb=>by
  rcases (hch b hb).1 with z | z
  ·exact hx z
  ·exact absurd (Yk (Yd e) z) (YF _)
 have cellK:∀ x c,X.env.cells.lookup x=some c->∀ v,s.heap.IsCell c v->h'.IsCell c v:=λx c e v ⟨o,ho,hd⟩=>by
  have nch:c ∉ ch:=λz=>(hch c z).2.2.1 x c e rfl
  by_cases hc:c∈X.fs
  ·obtain⟨sl,q⟩:=slot c o (I.cne x c e) hc nch ho (I.freeC x c e)
   exact⟨_,q,hd⟩
  ·exact⟨o,keep c o (I.cne x c e) hc nch ho (I.freeC x c e),hd⟩
 refine⟨I.ok,I.os,hg,⟨λb o e n hb hx=>?_,λb o e n hb hx=>?_,λb o e n hx=>?_,λb o e hx=>?_,λb xs e=>tups b xs (I.base.tups b xs e),λb o xs e=>frzs b o xs (I.base.frzs b o xs e),λb ps e=>?_⟩,?_,λx c e=>?_,?_,λx c e=>?_,λp hp=>?_,hok,I.len⟩
 ·exact keep b o (neL b o e) hb (neC b o e hx) (I.base.keep b o e n hb hx) (I.base.free b o e n hx)
 ·obtain⟨sl,e1⟩:=I.base.slot b o e n hb hx
  obtain⟨sl',e2⟩:=slot b _ (neL b o e) hb (neC b o e hx) e1 (I.base.free b o e n hx)
  exact⟨sl',e2⟩
 ·obtain⟨o',e1⟩:=I.base.there b o e hx
  exact free b o' (neC b o e hx) e1 (I.base.free b o e n hx)
 ·obtain⟨o',e1⟩:=I.base.there b o e hx
  exact there b o' (neC b o e hx) e1
 ·obtain⟨m1,e1⟩:=I.base.tbls b ps e
  obtain⟨m2,e2⟩:=tbls b _ e1
  exact⟨m1 ++ m2,by rw [e2,Array.append_assoc]⟩
 ·obtain⟨m,hn,hl⟩:=I.loc
  refine⟨m,ns m hn,λi x v e1 e2 e3=>?_⟩
  obtain⟨u,r,l⟩:=hl i x v e1 e2 e3
  refine⟨u,r,?_⟩
  rcases l with l | ⟨k,c,e,z⟩
  ·exact .inl l
  ·exact .inr ⟨k,c,e,cellK x c e _ z⟩
 ·obtain⟨v,z⟩:=I.cell x c e
  exact⟨v,cellK x c e v z⟩
 ·obtain⟨m,⟨o,_,_,ho,_⟩,_⟩:=I.loc
  exact free _ o (λz=>(hch _ z).2.1 rfl) ho I.free
 ·obtain⟨v,o,ho,hd⟩:=I.cell x c e
  exact free c o (λz=>(hch c z).2.2.1 x c e rfl) ho (I.freeC x c e)
 ·obtain⟨e,n,ne,nf,d⟩:=I.pin p hp
  have nch:p.1 ∉ ch:=λz=>(hch p.1 z).2.2.2 p hp rfl
  exact⟨keep p.1 p.2 ne nf nch e n,free p.1 p.2 nch e n,ne,nf,d⟩
theorem Inv.un{t':Nat}(I:Inv X pins Z H s)(u:Un X.fs [] H H' s.heap h')(hok:HOk X.prog X.w H' h'):Inv X pins Z H' { s with heap:=h',toks:=t' }:=by
 obtain⟨m,⟨o,es,ep,ho,r⟩,_⟩:=id I.loc
 obtain⟨sl,hL⟩:=u.any ho I.free (by simp)
 exact I.step (g':=s.gens) (d':=s.drawn) (ch:=[]) (λ_ z=>nomatch z) (λb o _ hb _ e n=>u.keep b o e n hb (by simp)) (λb o _ hb _ e n=>u.slot b o e n hb (by simp)) (λb o _ e n=>u.free b o e n (by simp)) (λb o _ e=>u.there b o e (by simp)) u.tups u.frzs u.tbls (λm' hm=>by
  obtain⟨o',es',ep',ho',r'⟩:=hm
  rw [ho] at ho'; cases ho'
  exact⟨_,es',ep',hL,r'⟩) hok I.bare
theorem Inv.call{g':Array GenState}{t':Nat}{d':Drawn}{ch:List Addr}(I:Inv X pins Z H s)(u:Un (frs X.stack) ch H H' s.heap h')(hok:HOk X.prog X.w H' h')(hg:AllBare g')
  (hch:∀ b∈ch,(b∈X.ex\/X.s₀.heap.objs.size<=b)/\b ≠ X.env.locals/\(∀ x c,X.env.cells.lookup x=some c->c ≠ b)/\∀ p∈X.pn ++ pins,p.1 ≠ b) :
  Inv X pins Z H' { s with heap:=h',gens:=g',drawn:=d',toks:=t' }:=by
 obtain⟨m,⟨o,es,ep,ho,r⟩,_⟩:=id I.loc
 obtain⟨sl,hL⟩:=u.any ho I.free λz=>(hch _ z).2.1 rfl
 exact I.step (ch:=ch) hch (λb o hL hb hc e n=>u.keep b o e n (λz=>(Yq.mp (I.stkSub b z)).elim hL hb) hc) (λb o _ _ hc e n=>u.any e n hc) (λb o hc e n=>u.free b o e n hc) (λb o hc e=>u.there b o e hc) u.tups u.frzs u.tbls (λm' hm=>by
  obtain⟨o',es',ep',ho',r'⟩:=hm
  rw [ho] at ho'; cases ho'
  exact⟨_,es',ep',hL,r'⟩) hok hg
theorem Inv.turned{t':Nat}{it:Addr}(I:Inv X pins Z H s)(k:∀ b o,b ≠ it->s.heap.get? b=some o->h'.get? b=some o)(hn:H it=none)(hL:it ≠ X.env.locals)
  (h1:it∈X.ex\/X.s₀.heap.objs.size<=it) (h2:∀ x c,X.env.cells.lookup x=some c->c ≠ it) (h3:∀ p∈X.pn ++ pins,p.1 ≠ it):Inv X pins Z H { s with heap:=h',toks:=t' }:=by
 have nit:∀ b u,H b=some u->b ≠ it:=λb u e z=>by rw [z,hn] at e; cases e
 refine I.step (g':=s.gens) (d':=s.drawn) (ch:=[it]) (λb hb=>?_) (λb o _ _ hc e _=>k b o (λz=>hc (by simp [z])) e) (λb o _ _ hc e _=>⟨o.slots,k b o (λz=>hc (by simp [z])) e⟩) (λ_ _ _ _ n=>n)
  (λb o hc e=>⟨o,k b o (λz=>hc (by simp [z])) e⟩) (λ_ _ e=>e) (λ_ _ _ e=>e) (λb ps e=>⟨#[],by rw [e]; simp⟩) (λm hm=>?_) (λb u e=>?_) I.bare
 ·have e:b=it:=by simpa using hb
  subst e
  exact⟨h1,hL,h2,h3⟩
 ·obtain⟨o,es,ep,ho,r⟩:=hm
  exact⟨o,es,ep,k _ o (Ne.symm hL) ho,r⟩
 ·refine (I.hok b u e).stay (λc v hc q=>k c v ?_ q) (λ_ q=>q) λ_ _ q=>q
  rcases hc with z | z
  ·rw [z]; exact nit b u e
  ·exact nit c _ z
theorem Inv.tok(I:Inv X pins Z H s)(t:Nat):Inv X pins Z H { s with toks:=t }:=I.un (h':=s.heap) (t':=t) Un.refl I.hok
theorem Inv.kept{t':Nat}(I:Inv X pins Z H s)(k:∀ b u,s.heap.get? b=some u->h'.get? b=some u):Inv X pins Z H { s with heap:=h',toks:=t' }:=I.un (Un.kept k) (I.hok.kept k)
theorem Inv.laid{a:Addr}{o:HO}{t':Nat}(I:Inv X pins Z H s)(k:∀ b u,s.heap.get? b=some u->h'.get? b=some u)(hp:s.heap.objs.size<=a)(new:ObjOk X.prog X.w (upd H a o) h' a o) :
  Inv X pins Z (upd H a o) { s with heap:=h',toks:=t' }:=I.un (Un.laid k hp (I.hok.fresh hp)) (I.hok.laid k hp new)
def Inv.write{x e:Addr}{o:HO}{t':Nat}(I:Inv X pins Z H s)(mu:Mut (H x))(he:e=x\/H e=some (.own x))(k:∀ b u,b ≠ e->s.heap.get? b=some u->h'.get? b=some u)(heo:∃ u,h'.get? e=some u)
  (new:ObjOk X.prog X.w (upd H x o) h' x o):Inv X pins Z (upd H x o) { s with heap:=h',toks:=t' }:=I.un (Un.write mu he k heo) (I.hok.write mu he k heo new)
def Inv.pins_of{pins':List (Addr × Obj)}(I:Inv X pins Z H s)(h:∀ p∈pins',s.heap.get? p.1=some p.2/\H p.1=none/\p.1 ≠ X.env.locals/\p.1 ∉ X.fs/\∀ v,p.2.data ≠ .cell v):Inv X pins' Z H s :=
 ⟨I.ok,I.os,I.bare,I.base,I.loc,I.cell,I.free,I.freeC,λp hp=>(List.mem_append.mp hp).elim (λz=>I.pin p (List.mem_append_left _ z)) (h p),I.hok,I.len⟩
def nodup_ix{N:List Str}(hN:N.Nodup){i j:Nat}{x:Str}(a:N[i]?=some x)(b:N[j]?=some x):i=j:=by
 obtain⟨h1,e1⟩:=Yf.mp a
 obtain⟨h2,e2⟩:=Yf.mp b
 exact (List.getElem_inj hN).mp (e1.trans e2.symm)
def store_ok2{M:Model}{A:Around}{E:VSP}{i:Nat}{x:Str}{v:V}{Q:Unit->Shared->Prop}(I:Inv X pins Z H s)(hN:X.N.Nodup)(hi:X.N[i]?=some x)(hx:Loc X.env.scope x)(r:RelV v u)
  (h:∀ s',Inv X pins (Z.set i (some v)) H s'->(∃ a,Heap.SameBut a s.heap s'.heap/\(a=X.env.locals\/X.env.cells.lookup x=some a))->Q () s') (hf:X.fn x=true\/X.env.scope.names.lookup x=some .local:=by first | exact .inl rfl | exact .inr rfl | assumption):wpAny M A (storeName X.env x u) Q E s:=by
 obtain⟨m,hn,hl⟩:=id I.loc
 have hcls:(X.env.scope.kind == .class || (X.env.scope.kind == .module && X.env.locals != X.env.globals))=false:=by rw [I.ok.kind]; rfl
 have hiZ:i < Z.length:=by rw [I.len]; exact (Yf.mp hi).1
 have cne:=I.cne
 have tracked:∀ {a:Addr}{h':Heap},(∃ o,s.heap.get? a=some o/\H a=none)->Heap.SameBut a s.heap h'->HOk X.prog X.w H h':=λ{a h'} ha hs b ob e=>by
  obtain⟨_,_,hfree⟩:=ha
  refine (I.hok b ob e).stay (λc w' hc q=>(hs.2 c ?_).trans q) (λ_ q=>q) λ_ _ q=>q
  rintro rfl
  rcases hc with rfl | hc
  ·rw [hfree] at e; cases e
  ·rw [hfree] at hc; cases hc
 rcases hx with hk | hk
 ·refine wpAny_storeName_local hk hn (λh' hn' hs=>?_) hcls
  obtain⟨oL,_,_,hoL,_⟩:=id hn
  refine h _ ⟨I.ok,I.os,I.bare,⟨λb o e n hb hx=>?_,λb o e n hb hx=>?_,I.base.free,λb o e hx=>?_,I.base.tups,I.base.frzs,I.base.tbls⟩,⟨_,hn',λj y v' e1 e2 e3=>?_⟩,λy c e=>?_,I.free,I.freeC,λp hp=>?_,tracked ⟨oL,hoL,I.free⟩ hs,by simpa using I.len⟩ ⟨_,hs,.inl rfl⟩
  ·exact (hs.2 b (Yl (Yk (Yd e) I.ok.above))).trans (I.base.keep b o e n hb hx)
  ·obtain⟨sl,e1⟩:=I.base.slot b o e n hb hx
   exact⟨sl,(hs.2 b (Yl (Yk (Yd e) I.ok.above))).trans e1⟩
  ·obtain⟨o',e1⟩:=I.base.there b o e hx
   exact⟨o',(hs.2 b (Yl (Yk (Yd e) I.ok.above))).trans e1⟩
  ·by_cases hj:j=i
   ·subst hj
    rw [hi] at e1; cases e1
    rw [List.getElem?_set_self hiZ] at e2
    cases e2
    exact⟨u,r,.inl ⟨hk,by simp⟩⟩
   ·rw [List.getElem?_set_ne (Ne.symm hj)] at e2
    obtain⟨u',r',q⟩:=hl j y v' e1 e2 e3
    refine⟨u',r',?_⟩
    rcases q with ⟨k,e⟩ | ⟨k,c,e,z⟩
    ·refine .inl ⟨k,?_⟩
     have:y ≠ x:=λe=>hj (nodup_ix hN e1 (e ▸ hi))
     simp [this,e]
    ·exact .inr ⟨k,c,e,z.sameBut hs (cne y c e)⟩
  ·obtain⟨w',z⟩:=I.cell y c e
   exact⟨w',z.sameBut hs (cne y c e)⟩
  ·obtain⟨e,n,ne,nf,d⟩:=I.pin p hp
   exact⟨(hs.2 p.1 ne).trans e,n,ne,nf,d⟩
 ·have hfn:X.fn x=true:=by
   rcases hf with z | z
   ·exact z
   ·rw [z] at hk; cases hk
  obtain⟨c,hc⟩:=I.ok.has x (.inl hk)
  obtain⟨w',z⟩:=I.cell x c hc
  refine wpAny_storeName_cell I.ok.kind hk hc z (λh' hc' hs=>?_)
  obtain⟨oc,hoc,hocd⟩:=id z
  refine h { s with heap:=h' } ⟨I.ok,I.os,I.bare,⟨λb o e n hb hx=>?_,λb o e n hb hx=>?_,I.base.free,λb o e hx=>?_,I.base.tups,I.base.frzs,I.base.tbls⟩,⟨m,hn.sameBut hs (Ne.symm (cne x c hc)),λj y v' e1 e2 e3=>?_⟩,λy c' e=>?_,I.free,I.freeC,λp hp=>?_,tracked ⟨oc,hoc,I.freeC x c hc⟩ hs,by simpa using I.len⟩ ⟨c,hs,.inr hc⟩
  ·exact (hs.2 b (Yl (Yk (Yd e) (I.ok.cab x c hfn hc)))).trans (I.base.keep b o e n hb hx)
  ·obtain⟨sl,e1⟩:=I.base.slot b o e n hb hx
   exact⟨sl,(hs.2 b (Yl (Yk (Yd e) (I.ok.cab x c hfn hc)))).trans e1⟩
  ·obtain⟨o',e1⟩:=I.base.there b o e hx
   exact⟨o',(hs.2 b (Yl (Yk (Yd e) (I.ok.cab x c hfn hc)))).trans e1⟩
  ·by_cases hj:j=i
   ·subst hj
    rw [hi] at e1; cases e1
    rw [List.getElem?_set_self hiZ] at e2
    cases e2
    exact⟨u,r,.inr ⟨.inl hk,c,hc,hc'⟩⟩
   ·rw [List.getElem?_set_ne (Ne.symm hj)] at e2
    obtain⟨u',r',q⟩:=hl j y v' e1 e2 e3
    refine⟨u',r',?_⟩
    rcases q with q | ⟨k,c',e,z'⟩
    ·exact .inl q
    ·refine .inr ⟨k,c',e,z'.sameBut hs ?_⟩
     rintro rfl
     exact hj (nodup_ix hN e1 (I.ok.inj _ _ _ e hc ▸ hi))
  ·by_cases hcc:c'=c
   ·subst hcc; exact⟨_,hc'⟩
   ·obtain⟨w2,z2⟩:=I.cell y c' e
    exact⟨w2,z2.sameBut hs hcc⟩
  ·obtain⟨e,n,ne,nf,d⟩:=I.pin p hp
   refine⟨(hs.2 p.1 ?_).trans e,n,ne,nf,d⟩
   intro q
   rw [q,hoc] at e
   have q':oc=p.2:=Yx e
   exact d w' (by rw [<- q']; exact hocd)
def store_ok{M:Model}{A:Around}{E:VSP}{i:Nat}{x:Str}{v:V}{Q:Unit->Shared->Prop}(I:Inv X pins Z H s)(hN:X.N.Nodup)(hi:X.N[i]?=some x)(hx:Loc X.env.scope x)(r:RelV v u)
  (h:∀ s',Inv X pins (Z.set i (some v)) H s'->Q () s') (hf:X.fn x=true\/X.env.scope.names.lookup x=some .local:=by first | exact .inl rfl | exact .inr rfl | assumption):wpAny M A (storeName X.env x u) Q E s :=
 store_ok2 I hN hi hx r (λs' I' _=>h s' I') hf
def Inv.call'{s':Shared}{ch:List Addr}(I:Inv X pins Z H s)(ho:s'.os=s.os)(u:Un (frs X.stack) ch H H' s.heap s'.heap)(hok:HOk X.prog X.w H' s'.heap)(hg:AllBare s'.gens)
  (hch:∀ b∈ch,(b∈X.ex\/X.s₀.heap.objs.size<=b)/\b ≠ X.env.locals/\(∀ x c,X.env.cells.lookup x=some c->c ≠ b)/\∀ p∈X.pn ++ pins,p.1 ≠ b):Inv X pins Z H' s':=by
 obtain⟨h',g',d',t',o'⟩:=s'
 have e:o'=s.os:=ho
 subst e
 exact I.call (g':=g') (t':=t') (d':=d') u hok hg hch
end
abbrev XK:=Value->Option Addr->Hp->Prop
abbrev St:=List (Option V)
abbrev VK:=V->Hp->Prop
abbrev TE:=St->Hp->VK->Prop
abbrev TT:=St->Hp->(Bool->Hp->Prop)->Prop
abbrev TA:=St->Hp->(List V->Hp->Prop)->Prop
structure Ends where
 nx:St->Hp->Prop
 rt:VK
 bk:St->Hp->Prop:=λ_ _=>False
 ct:St->Hp->Prop:=λ_ _=>False
abbrev TS:=Ends->St->Hp->Prop
def EP(X:Cx)(pins:List (Addr × Obj))(Z:St)(Q:VK)(u:Value)(s':Shared):Prop:=∃ v H',Inv X pins Z H' s'/\RelV v u/\Q v H'
def TP(X:Cx)(pins:List (Addr × Obj))(Z:St)(Q:Bool->Hp->Prop)(b:Bool)(s':Shared):Prop:=∃ H',Inv X pins Z H' s'/\Q b H'
def AP(X:Cx)(pins:List (Addr × Obj))(Z:St)(Q:List V->Hp->Prop)(us:List Value)(s':Shared):Prop:=∃ vs H',Inv X pins Z H' s'/\Vals vs us/\Q vs H'
def SP(X:Cx)(pins:List (Addr × Obj))(D:Ends)(f:Flow)(s':Shared):Prop :=
 match f with
 | .next=>∃ Z' H',Inv X pins Z' H' s'/\D.nx Z' H'
 | .brk=>∃ Z' H',Inv X pins Z' H' s'/\D.bk Z' H'
 | .cont=>∃ Z' H',Inv X pins Z' H' s'/\D.ct Z' H'
 | .ret u=>∃ v Z' H',Inv X pins Z' H' s'/\RelV v u/\D.rt v H'
def PE(X:Cx)(e:Expr)(t:TE):Prop :=
 ∀ (pins:List (Addr × Obj)) (s:Shared) (Z:St) (H:Hp) (Q:VK),Inv X pins Z H s->t Z H Q->wpAny (model X.prog X.w) X.A (eval e X.env) (EP X pins Z Q) X.xe s
def PT(X:Cx)(e:Expr)(t:TT):Prop :=
 ∀ (pins:List (Addr × Obj)) (s:Shared) (Z:St) (H:Hp) (Q:Bool->Hp->Prop),Inv X pins Z H s->t Z H Q->wpAny (model X.prog X.w) X.A (isTrue e X.env (eval e X.env)) (TP X pins Z Q) X.xe s
def PW(X:Cx)(e:Expr)(t:TT):Prop :=
 ∀ (whole:Sem Value) (pins:List (Addr × Obj)) (s:Shared) (Z:St) (H:Hp) (Q:Bool->Hp->Prop),Inv X pins Z H s->t Z H Q->wpAny (model X.prog X.w) X.A (isTrue e X.env whole) (TP X pins Z Q) X.xe s
def PW.pt{X:Cx}{e:Expr}{t:TT}(h:PW X e t):PT X e t:=h _
def PA(X:Cx)(es:List Expr)(t:TA):Prop :=
 ∀ (pos:Pos) (pins:List (Addr × Obj)) (s:Shared) (Z:St) (H:Hp) (Q:List V->Hp->Prop),Inv X pins Z H s->t Z H Q->wpAny (model X.prog X.w) X.A (spliced (backTo pos (starEach es X.env))) (AP X pins Z Q) X.xe s
def PS(X:Cx)(st:Stmt)(t:TS):Prop :=
 ∀ (pins:List (Addr × Obj)) (s:Shared) (Z:St) (H:Hp) (D:Ends),Inv X pins Z H s->t D Z H->wpAny (model X.prog X.w) X.A (exec st X.env) (SP X pins D) X.xe s
def PSs(X:Cx)(st:List Stmt)(t:TS):Prop :=
 ∀ (pins:List (Addr × Obj)) (s:Shared) (Z:St) (H:Hp) (D:Ends),Inv X pins Z H s->t D Z H->wpAny (model X.prog X.w) X.A (execs st X.env) (SP X pins D) X.xe s
variable {A:Around}{E:VSP}{s:Shared}
def thn{α:Type}{t:Sem α}{Q Q':α->Shared->Prop}{M:Model}(h:wpAny M A t Q E s)(hQ:∀ a s,Q a s->Q' a s):wpAny M A t Q' E s:=Yn h hQ λ_ _ x=>x
section
variable {X:Cx}
def tVar(i:Nat):TE:=λZ H Q=>∃ v,Z[i]?=some (some v)/\Q v H
def tC(v:V):TE:=λ_ H Q=>Q v H
def pe_var{i:Nat}{x:Str}{pos:Pos}(hN:X.N[i]?=some x)(hv:Vis X.env.scope x)(hd:(x == ("__debug__":Str))=false:=by decide)(hcd:(x == ("__classdict__":Str))=false:=by decide):PE X (.Name x pos) (tVar i):=by
 intro pins s Z H Q I h
 obtain⟨v,e,h⟩:=h
 obtain⟨m,hn,hl⟩:=I.loc
 obtain⟨u,r,l⟩:=hl i x v hN e hv
 have fin:EP X pins Z Q u s:=⟨v,H,I,r,h⟩
 rcases l with ⟨hk,hm⟩ | ⟨hk,c,hc,hcell⟩
 ·exact wpAny_Name (wpAny_loadName_local I.ok.kind hk hn hm fin) hd
 ·rcases hk with hk | hk
  ·exact wpAny_Name (wpAny_loadName_cell I.ok.kind hk hc hcell fin) hd
  ·exact wpAny_Name (wpAny_loadName_free I.ok.kind hk hc hcell fin hcd) hd
def pe_int{i j pos}:PE X (.Constant (.int i) j pos) (tC (.int i)):=λ_ _ _ H _ I h=>wpAny_Constant_int ⟨.int i,H,I.tok _,⟨_,rfl⟩,h⟩
def pe_bl{b j pos}:PE X (.Constant (.bool b) j pos) (tC (.bl b)):=λ_ _ _ H _ I h=>Constant_bool ⟨.bl b,H,I,rfl,h⟩
def pe_non{j pos}:PE X (.Constant .none j pos) (tC .non):=λ_ _ _ H _ I h=>Constant_none ⟨.non,H,I,rfl,h⟩
def pe_str{x j pos}:PE X (.Constant (.str x) j pos) (tC (.str x)):=λ_ _ _ H _ I h=>Calls.Constant_str ⟨.str x,H,I.tok _,⟨_,rfl⟩,h⟩
def Gl(X:Cx)(x:Str):Prop:=X.env.kindOf x=some .globalImplicit
def ld_glob{pins:List (Addr × Obj)}{Z:St}{x:Str}{pos:Pos}{Q:VSP}(I:Inv X pins Z H s)(hg:Gl X x)(hm:X.mg x=some u)(h:Q u s)
  (hd:(x == ("__debug__":Str))=false:=by decide):wpAny (model X.prog X.w) X.A (eval (.Name x pos) X.env) Q E s :=
 Calls.Name_function_global I.ok.kind hg (Calls.loadGlobal_global (by rw [I.ok.glob]; exact I.mod.glob.keeps I.bk) hm h) hd
def ld_blt{pins:List (Addr × Obj)}{Z:St}{x:Str}{pos:Pos}{Q:VSP}(I:Inv X pins Z H s)(hg:Gl X x)(hm:X.mg x=none)(hv:bootBuiltins x=some u)(h:Q u s)
  (hn:x ≠ "__name__":=by decide) (hd:(x == ("__debug__":Str))=false:=by decide):wpAny (model X.prog X.w) X.A (eval (.Name x pos) X.env) Q E s:=by
 obtain⟨mb,h1,h2⟩:=I.mod.blt
 exact Calls.Name_function_global I.ok.kind hg (Calls.loadGlobal_builtin (by rw [I.ok.glob]; exact I.mod.glob.keeps I.bk) hm (by rw [I.ok.blt]; exact h1.keeps I.bk) ((h2 x hn).trans hv) h) hd
def pe_bltn{x:Str}{v:V}{pos:Pos}(hg:Gl X x)(hm:X.mg x=none)(hv:bootBuiltins x=some u)(r:RelV v u)(hn:x ≠ "__name__":=by decide)(hd:(x == ("__debug__":Str))=false:=by decide):PE X (.Name x pos) (tC v) :=
 λ_ _ _ H _ I h=>ld_blt I hg hm hv ⟨v,H,I,r,h⟩ hn hd
variable {a b:Expr}{ta tb:TE}{pos:Pos}
def tB(t:TE):TT:=λZ H Q=>t Z H λx H1=>∃ c,x=.bl c/\Q c H1
def pt_val{e:Expr}{t:TE}(h:PE X e t)(he:∀ whole,isTrue e X.env whole=(do let v <- whole; standAt e.pos; holding [v] (truthy v)):=by intro _; rfl):PT X e (tB t):=by
 intro pins s Z H Q I hw
 refine isTrue_plain (thn (h pins s Z H _ I hw) λv s1 ⟨x,H1,I1,r1,q1⟩=>?_) (he _)
 obtain⟨d,rfl,q⟩:=q1
 cases r1
 exact YO ⟨H1,I1,q⟩
variable {tA tB':TT}{rest:List Expr}
def tAnd(t u:TT):TT:=λZ H Q=>t Z H λc H1=>if c=true then u Z H1 Q else Q false H1
def tOr(t u:TT):TT:=λZ H Q=>t Z H λc H1=>if c=true then Q true H1 else u Z H1 Q
def tNot(t:TT):TT:=λZ H Q=>t Z H λc H1=>Q (!c) H1
def pw_and1(ha:PT X a tA):PW X (.BoolOp .And [a] pos) tA:=by
 intro wh pins s Z H Q I h
 refine isTrue_and (thn (ha pins s Z H Q I h) λc s1 e=>?_)
 cases c with
 | true=>exact isTrue_and_nil e
 | false=>exact e
def pw_or1(ha:PT X a tA):PW X (.BoolOp .Or [a] pos) tA:=by
 intro wh pins s Z H Q I h
 refine isTrue_or (thn (ha pins s Z H Q I h) λc s1 e=>?_)
 cases c with
 | false=>exact isTrue_or_nil e
 | true=>exact e
def pw_and(ha:PT X a tA)(hb:PW X (.BoolOp .And (b :: rest) pos) tB'):PW X (.BoolOp .And (a :: b :: rest) pos) (tAnd tA tB'):=by
 intro wh pins s Z H Q I h
 refine isTrue_and (thn (ha pins s Z H _ I h) λc s1 ⟨H1,I1,q1⟩=>?_)
 cases c with
 | true=>exact hb wh pins s1 Z H1 Q I1 q1
 | false=>exact⟨H1,I1,q1⟩
def pw_or(ha:PT X a tA)(hb:PW X (.BoolOp .Or (b :: rest) pos) tB'):PW X (.BoolOp .Or (a :: b :: rest) pos) (tOr tA tB'):=by
 intro wh pins s Z H Q I h
 refine isTrue_or (thn (ha pins s Z H _ I h) λc s1 ⟨H1,I1,q1⟩=>?_)
 cases c with
 | true=>exact⟨H1,I1,q1⟩
 | false=>exact hb wh pins s1 Z H1 Q I1 q1
def pt_not(ha:PT X a tA):PT X (.UnaryOp .Not a pos) (tNot tA):=by
 intro pins s Z H Q I h
 exact isTrue_not (ha pins s Z H (λc H1=>Q (!c) H1) I h)
def tAndV(ta tb:TE):TE:=λZ H Q=>ta Z H λx H1=>∃ c,x=.bl c/\if c=true then tb Z H1 Q else Q (.bl false) H1
def tOrV(ta tb:TE):TE:=λZ H Q=>ta Z H λx H1=>∃ c,x=.bl c/\if c=true then Q (.bl true) H1 else tb Z H1 Q
def tNotV(ta:TE):TE:=λZ H Q=>ta Z H λx H1=>∃ c,x=.bl c/\Q (.bl (!c)) H1
def pe_one{op}{t:TE}(h:PE X a t):PE X (.BoolOp op [a] pos) t:=λpins s Z H Q I hw=>BoolOp_one (h pins s Z H Q I hw)
def pe_and(ha:PE X a ta)(hb:PE X (.BoolOp .And (b :: rest) pos) tb):PE X (.BoolOp .And (a :: b :: rest) pos) (tAndV ta tb):=by
 intro pins s Z H Q I h
 refine BoolOp_and (thn (ha pins s Z H _ I h) λv s1 ⟨x,H1,I1,r1,q1⟩=>?_)
 obtain⟨c,rfl,q1⟩:=q1
 cases r1
 refine YO ?_
 cases c with
 | true=>exact hb pins s1 Z H1 Q I1 q1
 | false=>exact⟨.bl false,H1,I1,rfl,q1⟩
def pe_not(ha:PE X a ta):PE X (.UnaryOp .Not a pos) (tNotV ta):=by
 intro pins s Z H Q I h
 refine UnaryOp_ (thn (ha pins s Z H _ I h) λv s1 ⟨x,H1,I1,r1,q1⟩=>?_)
 obtain⟨c,rfl,q1⟩:=q1
 cases r1
 exact not_of (YO ⟨.bl (!c),H1,I1,rfl,q1⟩)
def tIf(t:TT)(ta tb:TE):TE:=λZ H Q=>t Z H λc H1=>if c=true then ta Z H1 Q else tb Z H1 Q
def pe_ifExp{c:Expr}(hc:PT X c tA)(ha:PE X a ta)(hb:PE X b tb):PE X (.IfExp c a b pos) (tIf tA ta tb):=by
 intro pins s Z H Q I h
 refine wpAny_IfExp (thn (hc pins s Z H _ I h) λd s1 ⟨H1,I1,q1⟩=>?_)
 cases d with
 | true=>exact ha pins s1 Z H1 Q I1 q1
 | false=>exact hb pins s1 Z H1 Q I1 q1
end
def SqL(K:PySem.W.Frag)(H:Hp)(a:Addr)(xs:List V):Prop :=
 Rd H a (.lst xs) \/
  ∃ (o:Obj) (its:Array Value) (n:Nat),K.lookup a=some o/\o.cls=.type "list"/\o.dict=none/\o.data=.seq its n/\its.size<=sizeLine/\Vals xs its.toList
def SqT(K:PySem.W.Frag)(H:Hp)(a:Addr)(xs:List V):Prop :=
 Rd H a (.tup xs) \/
  ∃ (o:Obj) (its:Array Value) (n:Nat),K.lookup a=some o/\o.cls=.type "tuple"/\o.data=.seq its n/\its.size<=sizeLine/\Vals xs its.toList
def absV:Value->Option V
 | .none=>some .non
 | .bool b=>some (.bl b)
 | .int i _=>some (.int i)
 | .str x _=>some (.str x)
 | .bytes b _=>some (.byt b)
 | .float b _=>some (.flt b)
 | .ref a=>some (.ref a)
 | .type n=>some (.ty n)
 | _=>none
def RelV.abs{x:V}(r:RelV x u):absV u=some x:=by
 cases x with
 | non=>cases r; rfl
 | bl _=>cases r; rfl
 | int _=>obtain⟨t,rfl⟩:=r; rfl
 | str _=>obtain⟨t,rfl⟩:=r; rfl
 | byt _=>obtain⟨t,rfl⟩:=r; rfl
 | flt _=>obtain⟨t,rfl⟩:=r; rfl
 | ref _=>cases r; rfl
 | ty _=>cases r; rfl
def RelV.inj{x y:V}(r:RelV x u)(q:RelV y u):x=y:=Yx (r.abs.symm.trans q.abs)
def Vals.inj:∀ {xs ys:List V}{us:List Value},Vals xs us->Vals ys us->xs=ys
 | _,_,_,.nil,.nil=>rfl
 | _,_,_,.cons r t,.cons r' t'=>by rw [r.inj r',Vals.inj t t']
section
variable {X:Cx}{pins:List (Addr × Obj)}{Z:St}{H:Hp}{s:Shared}{a:Addr}{xs ys:List V}
theorem SqL.of{K:PySem.W.Frag}(h:H a=some (.lst xs)):SqL K H a xs:=.inl (.inl h)
theorem SqT.of{K:PySem.W.Frag}(h:H a=some (.tup xs)):SqT K H a xs:=.inl (.inl h)
theorem Inv.list(I:Inv X pins Z H s)(h:SqL X.K H a xs):∃ its:List Value,Vals xs its/\PlainL s.heap a its.toArray/\xs.length<=sizeLine:=by
 rcases h with h | ⟨o,its,n,hk,hc,hd,hs,hz,r⟩
 ·obtain⟨z,its,n,r,e⟩:=h.ok I.hok
  exact⟨its,r,⟨_,n,e,rfl,rfl,rfl⟩,z⟩
 ·refine⟨its.toList,r,⟨o,n,I.kIn a o hk,hc,hd,by simpa using hs⟩,?_⟩
  have e:=r.length
  simp only [Array.length_toList] at e
  omega
theorem Inv.tuple(I:Inv X pins Z H s)(h:SqT X.K H a xs):∃ its:List Value,Vals xs its/\IsTup s.heap a its.toArray/\xs.length<=sizeLine:=by
 rcases h with h | ⟨o,its,n,hk,hc,hs,hz,r⟩
 ·obtain⟨z,its,r,p⟩:=h.ok I.hok
  exact⟨its,r,p,z⟩
 ·refine⟨its.toList,r,⟨o,I.kIn a o hk,hc,n,by simpa using hs⟩,?_⟩
  have e:=r.length
  simp only [Array.length_toList] at e
  omega
def Inv.list_inj(I:Inv X pins Z H s)(h:SqL X.K H a xs)(h':SqL X.K H a ys):xs=ys:=by
 obtain⟨its,r,⟨o,n,e,_,_,d⟩,_⟩:=I.list h
 obtain⟨its',r',⟨o',n',e',_,_,d'⟩,_⟩:=I.list h'
 rw [e] at e'; cases e'
 rw [d] at d'
 injection d' with d1 _
 have:its=its':=by simpa using congrArg Array.toList d1
 subst this
 exact r.inj r'
def Inv.tuple_inj(I:Inv X pins Z H s)(h:SqT X.K H a xs)(h':SqT X.K H a ys):xs=ys:=by
 obtain⟨its,r,⟨o,e,_,n,d⟩,_⟩:=I.tuple h
 obtain⟨its',r',⟨o',e',_,n',d'⟩,_⟩:=I.tuple h'
 rw [e] at e'; cases e'
 rw [d] at d'
 injection d' with d1 _
 have:its=its':=by simpa using congrArg Array.toList d1
 subst this
 exact r.inj r'
end
abbrev Cx.wish(X:Cx)(E:VSP):Cx:={ X with xe:=E }
abbrev Cx.nox(X:Cx):Cx:=X.wish λ_ _=>False
def Cx.Ok.wish{X:Cx}(ok:X.Ok)(E:VSP):(X.wish E).Ok :=
 ⟨ok.mod,ok.kind,ok.glob,ok.blt,ok.above,ok.inj,ok.has,ok.cab,ok.hd,ok.frames,ok.stk,ok.exf,ok.bs,ok.bsz,ok.noex,ok.exfs,ok.funs,ok.frf⟩
def Cx.Ok.unwish{X:Cx}(ok:(X.wish E).Ok):X.Ok :=
 ⟨ok.mod,ok.kind,ok.glob,ok.blt,ok.above,ok.inj,ok.has,ok.cab,ok.hd,ok.frames,ok.stk,ok.exf,ok.bs,ok.bsz,ok.noex,ok.exfs,ok.funs,ok.frf⟩
section
variable {X:Cx}{pins:List (Addr × Obj)}{Z:St}{H:Hp}{s:Shared}{E:VSP}
def Inv.wish(I:Inv X pins Z H s)(E:VSP):Inv (X.wish E) pins Z H s:=⟨I.ok.wish E,I.os,I.bare,I.base,I.loc,I.cell,I.free,I.freeC,I.pin,I.hok,I.len⟩
def Inv.unwish(I:Inv (X.wish E) pins Z H s):Inv X pins Z H s:=⟨I.ok.unwish,I.os,I.bare,I.base,I.loc,I.cell,I.free,I.freeC,I.pin,I.hok,I.len⟩
def SP.unwish{D:Ends}{f:Flow}{s':Shared}(h:SP (X.wish E) pins D f s'):SP X pins D f s':=by
 cases f with
 | next=>obtain⟨Z',H',I,q⟩:=h; exact⟨Z',H',I.unwish,q⟩
 | brk=>obtain⟨Z',H',I,q⟩:=h; exact⟨Z',H',I.unwish,q⟩
 | cont=>obtain⟨Z',H',I,q⟩:=h; exact⟨Z',H',I.unwish,q⟩
 | ret u=>obtain⟨v,Z',H',I,r,q⟩:=h; exact⟨v,Z',H',I.unwish,r,q⟩
def PE.nox{e:Expr}{t:TE}(h:PE X.nox e t):PE X e t:=λpins s Z H Q I hw =>
 Yn (h pins s Z H Q (I.wish _) hw) (λ_ _ ⟨v,H',I',r,q⟩=>⟨v,H',I'.unwish,r,q⟩) λ_ _ z=>False.elim z
def PT.nox{e:Expr}{t:TT}(h:PT X.nox e t):PT X e t:=λpins s Z H Q I hw =>
 Yn (h pins s Z H Q (I.wish _) hw) (λ_ _ ⟨H',I',q⟩=>⟨H',I'.unwish,q⟩) λ_ _ z=>False.elim z
def PSs.nox{st:List Stmt}{t:TS}(h:PSs X.nox st t):PSs X st t:=λpins s Z H D I hw =>
 Yn (h pins s Z H D (I.wish _) hw) (λ_ _ q=>q.unwish) λ_ _ z=>False.elim z
end
section
variable {X:Cx}{st:Stmt}{rest:List Stmt}{t u:TS}{e:Expr}{te:TE}{pos:Pos}
def tNext:TS:=λD Z H=>D.nx Z H
def tSeq(t u:TS):TS:=λD Z H=>t { D with nx:=u D } Z H
def pss_nil:PSs X [] tNext:=λ_ _ Z H _ I h=>wpAny_execs_nil ⟨Z,H,I,h⟩
def pss_cons(h1:PS X st t)(h2:PSs X rest u):PSs X (st :: rest) (tSeq t u):=by
 intro pins s Z H D I h
 refine wpAny_execs_cons (thn (h1 pins s Z H { D with nx:=u D } I h) λf s1 q=>?_)
 cases f with
 | next =>
  obtain⟨Z',H',I',q⟩:=q
  exact h2 pins s1 Z' H' D I' q
 | ret v=>exact q
 | brk=>exact q
 | cont=>exact q
def pss_one(h1:PS X st t):PSs X [st] t:=by
 intro pins s Z H D I h
 refine wpAny_execs_cons (thn (h1 pins s Z H D I h) λf s1 q=>?_)
 cases f with
 | next=>exact wpAny_execs_nil q
 | ret v=>exact q
 | brk=>exact q
 | cont=>exact q
theorem Inv.quiet{pins:List (Addr × Obj)}{Z:St}(I:Inv X pins Z H s):interactive X.env=false:=by simp [interactive,I.ok.kind]
def tDrop(te:TE):TS:=λD Z H=>te Z H λ_ H1=>D.nx Z H1
def ps_expr(he:PE X e te)(hs:swapsWith e none pos.line X.env=pure false:=by rfl):PS X (.Expr e pos) (tDrop te):=by
 intro pins s Z H D I h
 exact wpAny_Expr_any (thn (he pins s Z H _ I h) λv s1 ⟨x,H1,I1,r1,q1⟩=>⟨Z,H1,I1,q1⟩) I.quiet hs
def tRet(te:TE):TS:=λD Z H=>te Z H D.rt
def ps_ret(he:PE X e te):PS X (.Return (some e) pos) (tRet te):=by
 intro pins s Z H D I h
 exact wpAny_Return_some (thn (he pins s Z H _ I h) λv s1 ⟨x,H1,I1,r1,q1⟩=>⟨x,Z,H1,I1,r1,q1⟩)
def tRetN:TS:=λD _ H=>D.rt .non H
def tIfS(c:TT)(t u:TS):TS:=λD Z H=>c Z H λb H1=>if b=true then t D Z H1 else u D Z H1
def ps_if{c:Expr}{a b:List Stmt}{tc:TT}(hc:PT X c tc)(ha:PSs X a t)(hb:PSs X b u):PS X (.If c a b pos) (tIfS tc t u):=by
 intro pins s Z H D I h
 refine wpAny_If (thn (hc pins s Z H _ I h) λd s1 ⟨H1,I1,q1⟩=>?_)
 cases d with
 | true=>exact ha pins s1 Z H1 D I1 q1
 | false=>exact hb pins s1 Z H1 D I1 q1
def tNever:TS:=λ_ _ _=>False
def ps_never:PS X st tNever:=λ_ _ _ _ _ _ h=>h.elim
end
abbrev TG:=V->St->Hp->(St->Hp->Prop)->Prop
abbrev TGs:=List V->St->Hp->(St->Hp->Prop)->Prop
def PG(X:Cx)(target:Expr)(t:TG):Prop :=
 ∀ (pins:List (Addr × Obj)) (s:Shared) (Z:St) (H:Hp) (v:V) (u:Value) (Q:St->Hp->Prop),Inv X pins Z H s->RelV v u->t v Z H Q ->
  wpAny (model X.prog X.w) X.A (assign target X.env u) (λ_ s'=>∃ Z' H',Inv X pins Z' H' s'/\Q Z' H') X.xe s
def PGs(X:Cx)(ts:List Expr)(t:TGs):Prop :=
 ∀ (pins:List (Addr × Obj)) (s:Shared) (Z:St) (H:Hp) (vs:List V) (us:List Value) (Q:St->Hp->Prop),Inv X pins Z H s->Vals vs us->t vs Z H Q ->
  wpAny (model X.prog X.w) X.A (assignInOrder ((assignEach ts X.env).map (·.2)) us) (λ_ s'=>∃ Z' H',Inv X pins Z' H' s'/\Q Z' H') X.xe s
abbrev TSet:=V->V->V->Hp->(Hp->Prop)->Prop
def PSet(X:Cx)(t:TSet):Prop :=
 ∀ (pins:List (Addr × Obj)) (s:Shared) (Z:St) (H:Hp) (o i v:V) (ov iv u:Value) (Q:Hp->Prop),Inv X pins Z H s->RelV o ov->RelV i iv->RelV v u->t o i v H Q ->
  wpAny (model X.prog X.w) X.A (setItem ov iv u) (λ_ s'=>∃ H',Inv X pins Z H' s'/\Q H') X.xe s
abbrev TIp:=V->V->Hp->VK->Prop
section
variable {X:Cx}{pos:Pos}
def gName(i:Nat):TG:=λv Z H Q=>Q (Z.set i (some v)) H
def pg_name{i:Nat}{x:Str}(hN:X.N.Nodup)(hi:X.N[i]?=some x)(hx:Loc X.env.scope x)(hf:X.fn x=true\/X.env.scope.names.lookup x=some .local:=by first | exact .inl rfl | exact .inr rfl | assumption):PG X (.Name x pos) (gName i):=by
 intro pins s Z H v u Q I r h
 exact wpAny_assign_Name (store_ok I hN hi hx r (λs' I'=>⟨_,H,I',h⟩) hf)
def gNil:TGs:=λvs Z H Q=>vs=[]/\Q Z H
def gCons(t:TG)(u:TGs):TGs:=λvs Z H Q=>∃ v r,vs=v :: r/\t v Z H λZ' H'=>u r Z' H' Q
def pgs_nil:PGs X [] gNil:=by
 intro pins s Z H vs us Q I r h
 obtain⟨e,h⟩:=h
 subst e
 cases r
 exact assignInOrder_nil ⟨Z,H,I,h⟩
def pgs_cons{e:Expr}{es:List Expr}{t:TG}{u:TGs}(h1:PG X e t)(h2:PGs X es u)
  (hs:(assignEach (e :: es) X.env).map (·.2)=assign e X.env :: (assignEach es X.env).map (·.2):=by rfl):PGs X (e :: es) (gCons t u):=by
 intro pins s Z H vs us Q I r h
 obtain⟨v,vr,e1,h⟩:=h
 subst e1
 cases r with
 | cons r rr =>
  rw [hs]
  refine assignInOrder_cons (thn (h1 pins s Z H _ _ _ I r h) λ_ s1 ⟨Z1,H1,I1,q1⟩=>?_)
  exact h2 pins s1 Z1 H1 _ _ Q I1 rr q1
def gTup(K:PySem.W.Frag)(n:Nat)(t:TGs):TG:=λv Z H Q=>∃ a xs,v=.ref a/\SqT K H a xs/\xs.length=n/\t xs Z H Q
def pg_tup{es:List Expr}{k:Nat}{t:TGs}{n:Nat}(hc:X.calm=true)(h:PGs X es t)
  (hn:(assignEach es X.env).length=n:=by rfl) (hst:(assignEach es X.env).findIdx? (·.1)=none:=by rfl):PG X (.Tuple es k pos) (gTup X.K n t):=by
 intro pins s Z H v u Q I r hw
 obtain⟨a,xs,e1,hq,hl,hw⟩:=hw
 subst e1
 cases r
 obtain⟨its,rv,ht,hz⟩:=I.tuple hq
 refine assign_Tuple_tuple (I.ok.hd hc) ht (by simp [hn,<- hl,rv.length]) hst λh' hx=>?_
 have I1:Inv X pins Z H { s with heap:=h' }:=I.kept (t':=s.toks) λb o e=>hx b o (Yl (Yd e)) e
 exact h pins _ Z H xs _ Q I1 (by simpa using rv) hw
def gSub(to ti:TE)(t:TSet):TG:=λv Z H Q=>to Z H λo H1=>ti Z H1 λi H2=>t o i v H2 λH3=>Q Z H3
def pg_sub{o i:Expr}{to ti:TE}{t:TSet}(ho:PE X o to)(hi:PE X i ti)(hs:PSet X t)
  (ha:∀ v,assign (.Subscript o i pos) X.env v=(do
   let ov <- holding [v] (eval o X.env)
   let iv <- holding [v,ov] (eval i X.env)
   standAt pos
   holding [v,ov,iv] (setItem ov iv v)
   release [v,ov,iv] []):=by intro _; rfl):PG X (.Subscript o i pos) (gSub to ti t):=by
 intro pins s Z H v u Q I r h
 rw [ha]
 refine Yc (wpAny_holding (thn (ho pins s Z H _ I h) λov s1 ⟨x,H1,I1,r1,q1⟩=>?_))
 refine Yc (wpAny_holding (thn (hi pins s1 Z H1 _ I1 q1) λiv s2 ⟨y,H2,I2,r2,q2⟩=>?_))
 refine Yc (wpAny_standAt (Yc (wpAny_holding (thn (hs pins s2 Z H2 x y v ov iv u _ I2 r1 r2 r q2) λ_ s3 ⟨H3,I3,q3⟩=>?_))))
 exact wpAny_release ⟨Z,H3,I3,q3⟩
def tAsg(te:TE)(g:TG):TS:=λD Z H=>te Z H λx H1=>g x Z H1 D.nx
def ps_asg{tg e:Expr}{te:TE}{g:TG}(he:PE X e te)(hg:PG X tg g)(hs:swapsWithSole [tg] e pos.line X.env=pure false:=by rfl)(hw:swappedStores [tg] e X.env=pure none:=by rfl)
  (h1:(assignEach [tg] X.env).map (·.2)=[assign tg X.env]:=by rfl):PS X (.Assign [tg] e pos) (tAsg te g):=by
 intro pins s Z H D I h
 refine wpAny_Assign_stores (thn (he pins s Z H _ I h) λv s1 ⟨x,H1,I1,r1,q1⟩=>?_) hs hw
 rw [h1]
 exact thn (hg pins s1 Z H1 x v _ I1 r1 q1) λ_ s2 q=>q
def ps_set{i:Nat}{x:Str}{e:Expr}{te:TE}{pos':Pos}(hN:X.N.Nodup)(hi:X.N[i]?=some x)(hx:Loc X.env.scope x)(he:PE X e te)(hs:swapsWith e (some (.Name x pos')) pos.line X.env=pure false:=by rfl)(hf:X.fn x=true\/X.env.scope.names.lookup x=some .local:=by first | exact .inl rfl | exact .inr rfl | assumption) :
  PS X (.Assign [.Name x pos'] e pos) (tAsg te (gName i)):=by
 intro pins s Z H D I h
 refine wpAny_Assign_Name (thn (he pins s Z H _ I h) λv s1 ⟨y,H1,I1,r1,q1⟩=>?_) hs
 exact store_ok I1 hN hi hx r1 (λs2 I2=>⟨_,H1,I2,q1⟩) hf
def tPar(i j:Nat)(ta:TA):TS:=λD Z H=>ta Z H λvs H1=>∃ v w,vs=[v,w]/\D.nx ((Z.set i (some v)).set j (some w)) H1
def ps_par{i j:Nat}{x y:Str}{a b:Expr}{ta:TA}{px py pt:Pos}{kt k2 pt2}(hc:X.calm=true)(hN:X.N.Nodup)(hi:X.N[i]?=some x)(hj:X.N[j]?=some y)(hij:i ≠ j)
  (hx:X.env.scope.names.lookup x=some .local) (hy:X.env.scope.names.lookup y=some .local) (ha:PA X [a,b] ta)
  (hw:swappedStores [.Tuple [.Name x px,.Name y py] kt pt] (.Tuple [a,b] k2 pt2) X.env=pure (some [x,y]))
  (hs:swapsWithSole [.Tuple [.Name x px,.Name y py] kt pt] (.Tuple [a,b] k2 pt2) pos.line X.env=pure false:=by rfl) :
  PS X (.Assign [.Tuple [.Name x px,.Name y py] kt pt] (.Tuple [a,b] k2 pt2) pos) (tPar i j ta):=by
 intro pins s Z H D I h
 rw [exec_Assign_arm]
 refine Yc (wpAny_standAt ?_)
 rw [hs]
 refine Yc (Yg ?_)
 rw [if_neg (by decide)]
 refine Yc (Tuple_ (thn (ha _ pins s Z H _ I h) λus s1 ⟨vs,H1,I1,r1,q1⟩=>?_))
 obtain⟨v,w,e1,q1⟩:=q1
 subst e1
 obtain⟨u1,u2,rfl,rv,rw'⟩:∃ u1 u2,us=[u1,u2]/\RelV v u1/\RelV w u2:=by
  cases r1 with
  | cons p q =>
   cases q with
   | cons p' q' =>
    cases q'
    exact⟨_,_,rfl,p,p'⟩
 refine wpAny_newObj_type ?_ (by show 2<=sizeLine; decide)
 have I2:Inv X pins Z H1 { s1 with heap:=s1.heap.push { cls:=.type "tuple",data:=.seq [u1,u2].toArray } }:=I1.kept (t':=s1.toks) λb o e=>Ym _ e
 rw [hw]
 refine Yc (Yg ?_)
 show wpAny (model X.prog X.w) X.A (do rule "assign.swapped-stores"; let items <- unpackItems (.ref s1.heap.objs.size) 2 none; assignInOrder [λv=>bindName X.env y v,λv=>bindName X.env x v] items.reverse; pure Flow.next) _ _ _
 refine Yc (wpAny_rule (Yc (unpackItems_tuple (items:=#[u1,u2]) (I.ok.hd hc) (IsTup.new s1.heap _) λh' hx'=>?_)))
 have I3:=I2.kept (h':=h') (t':=s1.toks) λb o e=>hx' b o (Yl (Yd e)) e
 show wpAny _ _ (assignInOrder [λv=>bindName X.env y v,λv=>bindName X.env x v] [u2,u1] >>= λ_=>pure Flow.next) _ _ _
 refine Yc (assignInOrder_cons (wpAny_bindName (store_ok I3 hN hj (.inl hy) rw' (λs2 I4=>?_) (.inr hy))))
 refine assignInOrder_cons (wpAny_bindName (store_ok I4 hN hi (.inl hx) rv (λs3 I5=>assignInOrder_nil (Yg ?_)) (.inr hx)))
 rw [List.set_comm _ _ (Ne.symm hij)] at I5
 exact⟨_,H1,I5,q1⟩
def tAugS(to ti te:TE)(tget:V->V->Hp->VK->Prop)(tip:TIp)(tset:TSet):TS:=λD Z H=>to Z H λo H1=>ti Z H1 λi H2=>tget o i H2 λx H3=>te Z H3 λy H4=>tip x y H4 λz H5=>tset o i z H5 λH6=>D.nx Z H6
def ipI(f:Int->Int->Int):TIp:=λx y H Q=>∃ i j,x=.int i/\y=.int j/\Q (.int (f i j)) H
def tWhile(c:TT)(tb:TS):TS:=λD Z H=>∃ W:Nat->St->Hp->Prop,(∃ m,W m Z H)/\∀ m Z H,W m Z H ->
 c Z H λb H1=>if b=true then ∃ N:St->Hp->Prop,(∀ Z' H',N Z' H'->∃ m',m' < m/\W m' Z' H')/\tb { D with nx:=N,ct:=N,bk:=D.nx } Z H1 else D.nx Z H1
def ps_while{c:Expr}{body:List Stmt}{tc:TT}{tb:TS}(hp:PassesOwn (model X.prog X.w) X.A X.env X.xe)(hc:PT X c tc)(hb:PSs X body tb):PS X (.While c body [] pos) (tWhile tc tb):=by
 intro pins s Z H D I h
 obtain⟨W,⟨m0,w0⟩,turn⟩:=h
 refine wpAny_While (codeAny_whileLoop (λn s'=>∃ Z' H',Inv X pins Z' H' s'/\W n Z' H') ?_ m0 ⟨Z,H,I,w0⟩)
 rintro n s1 ⟨Z1,H1,I1,w1⟩
 refine YJ hp (thn (hc pins s1 Z1 H1 _ I1 (turn n Z1 H1 w1)) λb s2 ⟨H2,I2,q2⟩=>?_)
 cases b with
 | true =>
  obtain⟨N,hN,q2⟩:=q2
  rw [if_pos rfl]
  refine YJ hp (thn (hb pins s2 Z1 H2 _ I2 q2) λf s3 q3=>?_)
  cases f with
  | next =>
   obtain⟨Z3,H3,I3,n3⟩:=q3
   obtain⟨m',hm,w3⟩:=hN Z3 H3 n3
   exact⟨m',hm,Z3,H3,I3,w3⟩
  | cont =>
   obtain⟨Z3,H3,I3,n3⟩:=q3
   obtain⟨m',hm,w3⟩:=hN Z3 H3 n3
   exact⟨m',hm,Z3,H3,I3,w3⟩
  | brk=>exact q3
  | ret v=>exact q3
 | false =>
  rw [if_neg Yi]
  exact wpAny_execs_nil ⟨Z1,H2,I2,q2⟩
end
structure It where
 go:Nat->Hp->Prop
 yld:Nat->Hp->V->Hp->Prop
 stop:Nat->Hp->Prop
def FpOk(X:Cx)(pins:List (Addr × Obj))(H:Hp)(b:Addr):Prop :=
 H b=none/\b ≠ X.env.locals/\b ∉ X.fs/\(b∈X.ex\/X.s₀.heap.objs.size<=b)/\(∀ x c,X.env.cells.lookup x=some c->c ≠ b)/\∀ p∈X.pn ++ pins,p.1 ≠ b
variable {pins:List (Addr × Obj)}{Z:St}
def Inv.fpOk{X:Cx}{H H':Hp}{b:Addr}(I:Inv X pins Z H s)(hb:s.heap.objs.size<=b)(hn:H' b=none):FpOk X pins H' b:=by
 refine⟨hn,Nat.ne_of_gt (Yk I.lt hb),I.nofs hb,.inr (Yh I.sz hb),λx c e z=>?_,λp hp z=>?_⟩
 ·obtain⟨v,q⟩:=I.cell x c e
  exact absurd (Yk q.lt (by rw [z]; exact hb)) (YF _)
 ·exact absurd (Yk (Yd (I.pin p hp).1) (by rw [z]; exact hb)) (YF _)
structure Turn(P:Program)(w:World)(K:PySem.W.Frag)(tg:Expr)(J:It)(fp:List Addr)(it:Addr)(tn:Nat->Heap->Prop):Prop where
 mem:it∈fp
 obj:∀ i h,tn i h->∀ b∈fp,∃ o,h.get? b=some o/\∀ v,o.data ≠ .cell v
 keep:∀ i h h',tn i h->(∀ b∈fp,∀ o,h.get? b=some o->h'.get? b=some o)->tn i h'
 item:∀ (X:Cx),X.prog=P->X.w=w->X.K=K->X.calm=true->∀ (i:Nat) (pins:List (Addr × Obj)) (s:Shared) (Z:St) (H:Hp) (E:VSP),Inv X pins Z H s->(∀ b∈fp,FpOk X pins H b)->tn i s.heap->J.go i H ->
  wpAny (model P w) X.A (pyNext (.ref it)) (λr s1=>∃ u,r=some u /\
   wpAny (model P w) X.A (letOwnedTupleGo tg (.ref it) u) (λ_ s2=>∃ x H',Inv X pins Z H' s2/\RelV x u/\J.yld i H x H'/\tn (i + 1) s2.heap/\∀ b∈fp,H' b=none) E s1) E s
 done:∀ (X:Cx),X.prog=P->X.w=w->X.K=K->X.calm=true->∀ (i:Nat) (pins:List (Addr × Obj)) (s:Shared) (Z:St) (H:Hp) (E:VSP),Inv X pins Z H s->(∀ b∈fp,FpOk X pins H b)->tn i s.heap->J.stop i H ->
  wpAny (model P w) X.A (pyNext (.ref it)) (λr s1=>r=none/\Inv X pins Z H s1) E s
 self:∀ (A:Around) (i:Nat) (s:Shared) (Q:VSP) (E:VSP),tn i s.heap->Q (.ref it) s->wpAny (model P w) A (pyIter (.ref it)) Q E s
abbrev TI:=St->Hp->(It->Hp->Prop)->Prop
def PIE(X:Cx)(pins:List (Addr × Obj))(Z:St)(tg:Expr)(R:It->Hp->Prop)(itv:Value)(s2:Shared):Prop :=
 ∃ (it:Addr) (fp:List Addr) (tn:Nat->Heap->Prop) (J:It) (H':Hp),itv=.ref it/\Inv X pins Z H' s2/\Turn X.prog X.w X.K tg J fp it tn/\tn 0 s2.heap/\(∀ b∈fp,FpOk X pins H' b)/\R J H'
def PI(X:Cx)(tg iter:Expr)(wi:TI):Prop :=
 ∀ (pins:List (Addr × Obj)) (s:Shared) (Z:St) (H:Hp) (R:It->Hp->Prop),Inv X pins Z H s->wi Z H R ->
  wpAny (model X.prog X.w) X.A (eval iter X.env) (λv s1=>wpAny (model X.prog X.w) X.A (pyIter v) (PIE X pins Z tg R) X.xe s1) X.xe s
variable {Q:Unit->Shared->Prop}
def go_of{M:Model}{tg:Expr}{it:Addr}{o:Obj}{n:String}{vs:Array Value}(ho:s.heap.get? it=some o)(hc:o.cls=.type n)(hd:o.data=.fields vs)
    (hn:["enumerate","zip","dict_itemiterator","dict_reverseitemiterator","odict_iterator","itertools.zip_longest","itertools.pairwise"].contains n=false) (hQ:Q () s):wpAny M A (letOwnedTupleGo tg (.ref it) u) Q E s:=by
  unfold letOwnedTupleGo
  cases tg <;> first
    | exact Yg hQ
    | (cases u <;> first
        | exact Yg hQ
        | (refine Yc (wpAny_load ho ?_)
           rw [hc,hd]
           show wpAny M A (if (["enumerate","zip","dict_itemiterator","dict_reverseitemiterator","odict_iterator","itertools.zip_longest","itertools.pairwise"].contains n && vs[0]? == some (rawInt _))=true then _ else _) Q E s
           rw [if_neg (by intro h; rw [hn,Bool.false_and] at h; cases h)]
           exact Yg hQ))
def Itl(K:PySem.W.Frag)(a:Addr):It :=
 ⟨λi H=>∃ xs x,SqL K H a xs/\xs[i]?=some x,λi H x H'=>H'=H/\∀ xs,SqL K H a xs->xs[i]?=some x,λi H=>∃ xs,SqL K H a xs/\xs.length<=i⟩
def Itt(K:PySem.W.Frag)(a:Addr):It :=
 ⟨λi H=>∃ xs x,SqT K H a xs/\xs[i]?=some x,λi H x H'=>H'=H/\∀ xs,SqT K H a xs->xs[i]?=some x,λi H=>∃ xs,SqT K H a xs/\xs.length<=i⟩
def Itr(lo:Int)(n:Nat):It:=⟨λi _=>i < n,λi H x H'=>H'=H/\x=.int (lo + i),λi _=>n<=i⟩
variable {K:PySem.W.Frag}
def turn_list{tg:Expr}(a it:Addr):Turn P w K tg (Itl K a) [it] it (λi h=>h.IsListIter it a i) where
 mem:=by simp
 obj:=λi h st b hb=>by
  have e:b=it:=by simpa using hb
  subst e
  obtain⟨o,e,c,d⟩:=st
  exact⟨o,e,λv z=>by rw [d] at z; cases z⟩
 keep:=λi h h' st k=>st.at λo e=>k it (by simp) o e
 item:=by
  intro X hP hw hK hc i pins s Z H E I hf st hg
  subst hP hw hK
  obtain⟨xs,x,hq,hx⟩:=hg
  obtain⟨its,rv,p,hz⟩:=I.list hq
  obtain⟨u,hu,ru⟩:=rv.get hx
  obtain⟨f0,f1,f2,f3,f4,f5⟩:=hf it (by simp)
  refine wpAny_pyNext_list_item st p.isList (x:=u) (by simpa using hu) λh' st' sb=>?_
  have I1:Inv X pins Z H { s with heap:=h' }:=I.turned (t':=s.toks) (λb o hb e=>(sb.2 b hb).trans e) f0 f1 f3 f4 f5
  obtain⟨o,e,c,d⟩:=id st'
  exact⟨u,rfl,go_of (s:={ s with heap:=h' }) e c d (by decide) ⟨x,H,I1,ru,⟨rfl,λys hy=>by rw [I.list_inj hy hq]; exact hx⟩,st',λb hb=>(hf b hb).1⟩⟩
 done:=by
  intro X hP hw hK hc i pins s Z H E I hf st hg
  subst hP hw hK
  obtain⟨xs,hq,hx⟩:=hg
  obtain⟨its,rv,p,hz⟩:=I.list hq
  obtain⟨f0,f1,f2,f3,f4,f5⟩:=hf it (by simp)
  have hl:=rv.length
  exact wpAny_pyNext_list_end (I.ok.hd hc) st p.isList (by simp; omega) λh' eb=>⟨rfl,I.turned (t':=s.toks) (λb o hb e=>eb b o hb e) f0 f1 f3 f4 f5⟩
 self:=λ_ _ _ _ _ st h=>wpAny_pyIter_listiter st h
def turn_tuple{tg:Expr}(a it:Addr):Turn P w K tg (Itt K a) [it] it (λi h=>h.IsTupleIter it a i) where
 mem:=by simp
 obj:=λi h st b hb=>by
  have e:b=it:=by simpa using hb
  subst e
  obtain⟨o,e,c,d⟩:=st
  exact⟨o,e,λv z=>by rw [d] at z; cases z⟩
 keep:=λi h h' st k=>st.at λo e=>k it (by simp) o e
 item:=by
  intro X hP hw hK hc i pins s Z H E I hf st hg
  subst hP hw hK
  obtain⟨xs,x,hq,hx⟩:=hg
  obtain⟨its,rv,p,hz⟩:=I.tuple hq
  obtain⟨u,hu,ru⟩:=rv.get hx
  obtain⟨f0,f1,f2,f3,f4,f5⟩:=hf it (by simp)
  refine wpAny_pyNext_tuple_item st (show s.heap.IsTuple a its.toArray from p) (x:=u) (by simpa using hu) λh' st' sb=>?_
  have I1:Inv X pins Z H { s with heap:=h' }:=I.turned (t':=s.toks) (λb o hb e=>(sb.2 b hb).trans e) f0 f1 f3 f4 f5
  obtain⟨o,e,c,d⟩:=id st'
  exact⟨u,rfl,go_of (s:={ s with heap:=h' }) e c d (by decide) ⟨x,H,I1,ru,⟨rfl,λys hy=>by rw [I.tuple_inj hy hq]; exact hx⟩,st',λb hb=>(hf b hb).1⟩⟩
 done:=by
  intro X hP hw hK hc i pins s Z H E I hf st hg
  subst hP hw hK
  obtain⟨xs,hq,hx⟩:=hg
  obtain⟨its,rv,p,hz⟩:=I.tuple hq
  obtain⟨f0,f1,f2,f3,f4,f5⟩:=hf it (by simp)
  have hl:=rv.length
  exact wpAny_pyNext_tuple_end (I.ok.hd hc) st (show s.heap.IsTuple a its.toArray from p) (by simp; omega) λh' eb=>⟨rfl,I.turned (t':=s.toks) (λb o hb e=>eb b o hb e) f0 f1 f3 f4 f5⟩
 self:=λ_ _ _ _ _ st h=>wpAny_pyIter_tupleiter st h
def turn_range{tg:Expr}(it:Addr)(lo:Int)(n:Nat):Turn P w K tg (Itr lo n) [it] it (λi h=>IsRangeIter h it (lo + (i:Nat) * 1) ((n:Int) - (i:Nat)) 1) where
 mem:=by simp
 obj:=λi h st b hb=>by
  have e:b=it:=by simpa using hb
  subst e
  exact⟨_,st,λv z=>by
   have z':Data.fields _=Data.cell v:=z
   cases z'⟩
 keep:=λi h h' st k=>k it (by simp) _ st
 item:=by
  intro X hP hw hK hc i pins s Z H E I hf st hg
  subst hP hw hK
  obtain⟨f0,f1,f2,f3,f4,f5⟩:=hf it (by simp)
  have W:=Walks.range (prog:=X.prog) (w:=X.w) (I.ok.hd hc) it lo 1 n
  refine W.item i s _ _ hg st λv h' tk hv st' kk=>?_
  obtain⟨t,rfl⟩:=hv
  have I1:Inv X pins Z H { s with heap:=h',toks:=tk }:=I.turned (λb o hb e=>kk b o (by simpa using hb) e) f0 f1 f3 f4 f5
  refine⟨_,rfl,go_of (s:={ s with heap:=h',toks:=tk }) (n:="range_iterator") st' rfl rfl (by decide) ⟨.int (lo + i),H,I1,⟨t,?_⟩,⟨rfl,rfl⟩,st',λb hb=>(hf b hb).1⟩⟩
  rw [Int.mul_one]
 done:=by
  intro X hP hw hK hc i pins s Z H E I hf st hg
  subst hP hw hK
  obtain⟨f0,f1,f2,f3,f4,f5⟩:=hf it (by simp)
  exact wpAny_pyNext_range_end (I.ok.hd hc) st (by have:n<=i:=hg; omega) λh' eb=>⟨rfl,I.turned (t':=s.toks) (λb o hb e=>eb b o hb e) f0 f1 f3 f4 f5⟩
 self:=λ_ _ _ _ _ st h=>wpAny_pyIter_rangeiter st h
section
variable {X:Cx}{tg:Expr}
def iList(K:PySem.W.Frag)(tl:TE):TI:=λZ H R=>tl Z H λx H1=>∃ a,x=.ref a/\(∃ xs,SqL K H1 a xs)/\R (Itl K a) H1
def iTup(K:PySem.W.Frag)(tl:TE):TI:=λZ H R=>tl Z H λx H1=>∃ a,x=.ref a/\(∃ xs,SqT K H1 a xs)/\R (Itt K a) H1
def pi_list{l:Expr}{tl:TE}(hl:PE X l tl):PI X tg l (iList X.K tl):=by
 intro pins s Z H R I h
 refine thn (hl pins s Z H _ I h) λv s1 ⟨x,H1,I1,r1,q1⟩=>?_
 obtain⟨a,e,⟨xs,hq⟩,q⟩:=q1
 subst e
 cases r1
 obtain⟨its,rv,p,hz⟩:=I1.list hq
 refine wpAny_pyIter_list p.isList ?_
 refine⟨s1.heap.objs.size,[s1.heap.objs.size],_,_,H1,rfl,I1.kept (t':=s1.toks) λb o e=>Ym _ e,turn_list a _,⟨_,Yv _ rfl,rfl,rfl⟩,λb hb=>?_,q⟩
 have e:b=s1.heap.objs.size:=by simpa using hb
 subst e
 exact I1.fpOk (Ya _) (I1.hok.fresh (Ya _))
def pi_tup{l:Expr}{tl:TE}(hl:PE X l tl):PI X tg l (iTup X.K tl):=by
 intro pins s Z H R I h
 refine thn (hl pins s Z H _ I h) λv s1 ⟨x,H1,I1,r1,q1⟩=>?_
 obtain⟨a,e,⟨xs,hq⟩,q⟩:=q1
 subst e
 cases r1
 obtain⟨its,rv,p,hz⟩:=I1.tuple hq
 refine wpAny_pyIter_tuple (show s1.heap.IsTuple a its.toArray from p) ?_
 refine⟨s1.heap.objs.size,[s1.heap.objs.size],_,_,H1,rfl,I1.kept (t':=s1.toks) λb o e=>Ym _ e,turn_tuple a _,⟨_,Yv _ rfl,rfl,rfl⟩,λb hb=>?_,q⟩
 have e:b=s1.heap.objs.size:=by simpa using hb
 subst e
 exact I1.fpOk (Ya _) (I1.hok.fresh (Ya _))
theorem range_it{R:It->Hp->Prop}{lo hi:Int}{t u v:Tok}{tk:Nat}(I:Inv X pins Z H s)(h1:-(2 ^ 62)<=lo)(h2:lo < 2 ^ 62)(h3:-(2 ^ 62)<=hi)(h4:hi < 2 ^ 62)
  (q:R (Itr lo (hi - lo).toNat) H):wpAny (model X.prog X.w) X.A (pyIter (.ref s.heap.objs.size)) (PIE X pins Z tg R) E { s with heap:=s.heap.push { cls:=.type "range",data:=.fields #[.int lo t,.int hi u,.int 1 v] },toks:=tk }:=by
 refine wpAny_pyIter_range (IsRange.new ..) (small_one h1 h2 h3 h4) ?_
 have I1:Inv X pins Z H { s with heap:=s.heap.push { cls:=.type "range",data:=.fields #[.int lo t,.int hi u,.int 1 v] },toks:=tk }:=I.kept λb o e=>Ym _ e
 refine⟨(s.heap.push { cls:=.type "range",data:=.fields #[.int lo t,.int hi u,.int 1 v] }).objs.size,[(s.heap.push { cls:=.type "range",data:=.fields #[.int lo t,.int hi u,.int 1 v] }).objs.size],_,_,H,rfl,
  I1.kept (t':=tk) λb o e=>Ym _ e,turn_range _ lo (hi - lo).toNat,?_,λb hb=>?_,q⟩
 ·have e1:lo + ((0:Nat):Int) * 1=lo:=by simp
  have e2:(((hi - lo).toNat:Nat):Int) - ((0:Nat):Int)=Builtin.Range.rangeSize lo hi 1:=by rw [rangeSize_one]; split <;> omega
  show IsRangeIter _ _ (lo + ((0:Nat):Int) * 1) ((((hi - lo).toNat:Nat):Int) - ((0:Nat):Int)) 1
  rw [e1,e2]
  exact Yv _ rfl
 ·have e:b=(s.heap.push { cls:=.type "range",data:=.fields #[.int lo t,.int hi u,.int 1 v] }).objs.size:=by simpa using hb
  subst e
  exact I1.fpOk (Ya _) (I1.hok.fresh (Ya _))
def iRng1(ta:TA):TI:=λZ H R=>ta Z H λvs H1=>∃ j:Int,vs=[.int j]/\-(2 ^ 62)<=j/\j < 2 ^ 62/\R (Itr 0 j.toNat) H1
def pi_range1{a:Expr}{ta:TA}{p pos:Pos}(hg:Gl X "range")(hm:X.mg "range"=none)(ha:PA X [a] ta)(hs:starEach [a] X.env=[(false,eval a X.env)]:=by rfl):PI X tg (.Call (.Name "range" p) [a] [] pos) (iRng1 ta):=by
 intro pins s Z H R I h
 refine Call_ (ld_blt I hg hm boot_range (YW (thn (ha pos pins s Z H _ I h) λus s1 ⟨vs,H1,I1,r1,q1⟩=>?_) hs rfl))
 obtain⟨j,e,q1,q2,q⟩:=q1
 subst e
 cases r1 with
 | cons r rr =>
  cases rr
  obtain⟨t,rfl⟩:=r
  exact call_range_1 (range_it I1 (by omega) (by omega) q1 q2 (by simpa using q))
def tFor(wi:TI)(g:TG)(tb:TS):TS:=λD Z H=>wi Z H λJ H1=>∃ W:Nat->Nat->St->Hp->Prop,(∃ m,W 0 m Z H1)/\∀ i m Z H,W i m Z H ->
 (J.stop i H/\D.nx Z H)\/(J.go i H/\∃ N:St->Hp->Prop,(∀ Z' H',N Z' H'->∃ m',m' < m/\W (i + 1) m' Z' H')/\∀ x H',J.yld i H x H'->g x Z H' λZ2 H2=>tb { D with nx:=N,ct:=N,bk:=D.nx } Z2 H2)
def pinsAt(fp:List Addr)(h:Heap):List (Addr × Obj):=fp.filterMap λb=>(h.get? b).map λo=>(b,o)
def mem_pinsAt{fp:List Addr}{h:Heap}{b:Addr}{o:Obj}(hb:b∈fp)(e:h.get? b=some o):(b,o)∈pinsAt fp h:=List.mem_filterMap.mpr ⟨b,hb,by rw [e]; rfl⟩
def of_pinsAt{fp:List Addr}{h:Heap}{p:Addr × Obj}(hp:p∈pinsAt fp h):p.1∈fp/\h.get? p.1=some p.2:=by
 obtain⟨b,hb,e⟩:=List.mem_filterMap.mp hp
 cases q:h.get? b with
 | none=>rw [q] at e; cases e
 | some o =>
  rw [q] at e
  have e':(b,o)=p:=Yx e
  subst e'
  exact⟨hb,q⟩
def Inv.pinned{fp:List Addr}(I:Inv X pins Z H s)(hf:∀ b∈fp,FpOk X pins H b)(ho:∀ b∈fp,∃ o,s.heap.get? b=some o/\∀ v,o.data ≠ .cell v):Inv X (pins ++ pinsAt fp s.heap) Z H s :=
 I.pins_of λp hp=>(List.mem_append.mp hp).elim (λz=>I.pin p (Yo _ z)) λz=>by
  obtain⟨hb,e⟩:=of_pinsAt z
  obtain⟨f0,f1,f2,_⟩:=hf p.1 hb
  obtain⟨o,e',d⟩:=ho p.1 hb
  rw [e] at e'; cases e'
  exact⟨e,f0,f1,f2,d⟩
def Inv.unpinned{pins pl:List (Addr × Obj)}(I:Inv X (pins ++ pl) Z H s):Inv X pins Z H s:=I.pins_of λp hp=>I.pin p (Yo _ (List.mem_append_left _ hp))
def ps_for{iter:Expr}{body:List Stmt}{wi:TI}{g:TG}{tb:TS}{pos:Pos}(hp:PassesOwn (model X.prog X.w) X.A X.env X.xe)(hc:X.calm=true)(hi:PI X tg iter wi)(hg:PG X tg g)(hb:PSs X body tb)
  (hs:∀ x,foldedSetIterable iter X.env x=pure x:=by intro _; rfl):PS X (.For tg iter body [] pos) (tFor wi g tb):=by
 intro pins s Z H D I h
 refine wpAny_For (thn (hi pins s Z H _ I h) λv s1 h1=>thn h1 λitv s2 h2=>?_) hs
 obtain⟨it,fp,tn,J,H2,e,I2,T,st2,f2,W,⟨m0,w0⟩,turn⟩:=h2
 subst e
 -- what stays true of the iterator's objects through the loop
 have stat:∀ {H':Hp},(∀ b∈fp,H' b=none)->∀ b∈fp,FpOk X pins H' b:=λhn b hb=>⟨hn b hb,(f2 b hb).2⟩
 refine codeAny_forLoop_any (λn s'=>∃ i Z' H',Inv X pins Z' H' s'/\tn i s'.heap/\(∀ b∈fp,H' b=none)/\W i n Z' H') ?_ m0 ⟨0,Z,H2,I2,st2,λb hb=>(f2 b hb).1,w0⟩
 rintro n s3 ⟨i,Z3,H3,I3,st3,fr3,w3⟩
 rcases turn i n Z3 H3 w3 with ⟨stop,qn⟩ | ⟨go,N,hN,step⟩
 ·refine YJ hp (thn (T.done X rfl rfl rfl hc i pins s3 Z3 H3 X.xe I3 (stat fr3) st3 stop) λr s4 ⟨hr,I4⟩=>?_)
  subst hr
  exact wpAny_execs_nil ⟨Z3,H3,I4,qn⟩
 ·refine YJ hp (thn (T.item X rfl rfl rfl hc i pins s3 Z3 H3 X.xe I3 (stat fr3) st3 go) λr s4 ⟨u,hr,h4⟩=>?_)
  subst hr
  refine YJ hp (thn h4 λ_ s5 ⟨x,H5,I5,r5,y5,st5,fr5⟩=>?_)
  have I5':=I5.pinned (stat fr5) (T.obj _ _ st5)
  refine YJ hp (thn (hg _ s5 Z3 H5 x u _ I5' r5 (step x H5 y5)) λ_ s6 ⟨Z6,H6,I6,q6⟩=>?_)
  refine YJ hp (thn (hb _ s6 Z6 H6 _ I6 q6) λf s7 q7=>?_)
  have again:∀ {Z7:St}{H7:Hp},Inv X (pins ++ pinsAt fp s5.heap) Z7 H7 s7->N Z7 H7->∃ m,m < n/\∃ i Z' H',Inv X pins Z' H' s7/\tn i s7.heap/\(∀ b∈fp,H' b=none)/\W i m Z' H':=λ{Z7 H7} I7 n7=>by
   obtain⟨m',hm,w7⟩:=hN Z7 H7 n7
   refine⟨m',hm,i + 1,Z7,H7,I7.unpinned,T.keep _ _ _ st5 λb hb o e=>(I7.pin (b,o) (Yo _ (Yo _ (mem_pinsAt hb e)))).1,λb hb=>?_,w7⟩
   obtain⟨o,e,d⟩:=T.obj _ _ st5 b hb
   exact (I7.pin (b,o) (Yo _ (Yo _ (mem_pinsAt hb e)))).2.1
  cases f with
  | next=>obtain⟨Z7,H7,I7,n7⟩:=q7; exact again I7 n7
  | cont=>obtain⟨Z7,H7,I7,n7⟩:=q7; exact again I7 n7
  | brk=>obtain⟨Z7,H7,I7,q7⟩:=q7; exact⟨Z7,H7,I7.unpinned,q7⟩
  | ret v=>obtain⟨x7,Z7,H7,I7,r7,q7⟩:=q7; exact⟨x7,Z7,H7,I7.unpinned,r7,q7⟩
end
def for_list{a:Addr}{xs:List V}{g:TG}{tb:TS}{D:Ends}(Pv:Nat->St->Hp->Prop)(h0:Pv 0 Z H)(hl:∀ i Z H,i<=xs.length->Pv i Z H->SqL K H a xs)
  (hs:∀ i x Z H,xs[i]?=some x->Pv i Z H->g x Z H λZ2 H2=>tb { D with nx:=Pv (i + 1),ct:=Pv (i + 1),bk:=D.nx } Z2 H2) (hd:∀ Z H,Pv xs.length Z H->D.nx Z H) :
  ∃ W:Nat->Nat->St->Hp->Prop,(∃ m,W 0 m Z H)/\∀ i m Z H,W i m Z H ->
   ((Itl K a).stop i H/\D.nx Z H)\/((Itl K a).go i H/\∃ N:St->Hp->Prop,(∀ Z' H',N Z' H'->∃ m',m' < m/\W (i + 1) m' Z' H')/\∀ x H',(Itl K a).yld i H x H'->g x Z H' λZ2 H2=>tb { D with nx:=N,ct:=N,bk:=D.nx } Z2 H2):=by
 refine⟨λi m Z H=>m=xs.length - i/\i<=xs.length/\Pv i Z H,⟨xs.length,by simp,Nat.zero_le _,h0⟩,?_⟩
 rintro i m Z H ⟨rfl,hi,p⟩
 have q:=hl i Z H hi p
 by_cases hlt:i < xs.length
 ·refine .inr ⟨⟨xs,xs[i],q,by simp [hlt]⟩,Pv (i + 1),λZ' H' p'=>⟨xs.length - (i + 1),by omega,rfl,hlt,p'⟩,λx H' y=>?_⟩
  obtain⟨e,y⟩:=y
  subst e
  exact hs i x Z _ (y xs q) p
 ·have e:i=xs.length:=by omega
  subst e
  exact .inl ⟨⟨xs,q,Ya _⟩,hd Z H p⟩
abbrev R2:=V->V->Hp->VK->Prop
def OpR(X:Cx)(f:Value->Value->Sem Value)(r:R2):Prop :=
 ∀ (pins:List (Addr × Obj)) (s:Shared) (Z:St) (H:Hp) (x y:V) (v u:Value) (Q:VK),Inv X pins Z H s->RelV x v->RelV y u->r x y H Q ->
  wpAny (model X.prog X.w) X.A (f v u) (EP X pins Z Q) X.xe s
def UnR(X:Cx)(f:Value->Sem Value)(r:V->Hp->VK->Prop):Prop :=
 ∀ (pins:List (Addr × Obj)) (s:Shared) (Z:St) (H:Hp) (x:V) (v:Value) (Q:VK),Inv X pins Z H s->RelV x v->r x H Q ->
  wpAny (model X.prog X.w) X.A (f v) (EP X pins Z Q) X.xe s
def CallR(X:Cx)(f:Value)(r:List V->Hp->VK->Prop):Prop :=
 ∀ (pins:List (Addr × Obj)) (s:Shared) (Z:St) (H:Hp) (xs:List V) (us:List Value) (Q:VK),Inv X pins Z H s->Vals xs us->r xs H Q ->
  wpAny (model X.prog X.w) X.A (call f us) (EP X pins Z Q) X.xe s
def tOp(r:R2)(ta tb:TE):TE:=λZ H Q=>ta Z H λx H1=>tb Z H1 λy H2=>r x y H2 Q
def tUn(r:V->Hp->VK->Prop)(ta:TE):TE:=λZ H Q=>ta Z H λx H1=>r x H1 Q
def rI(C:Int->Int->Prop)(g:Int->Int->V):R2:=λx y H Q=>∃ i j,x=.int i/\y=.int j/\C i j/\Q (g i j) H
def rI0(g:Int->Int->V):R2:=λx y H Q=>∃ i j,x=.int i/\y=.int j/\Q (g i j) H
def rU(g:Int->V):V->Hp->VK->Prop:=λx H Q=>∃ i,x=.int i/\Q (g i) H
section
variable {X:Cx}{a b c:Expr}{ta tb tc:TE}{pos:Pos}
def binT(ha:PE X a ta)(hb:PE X b tb){pins:List (Addr × Obj)}{s:Shared}{Z:St}{H:Hp}{R:V->V->Hp->Prop}(I:Inv X pins Z H s)
  (h:ta Z H λx H1=>tb Z H1 λy H2=>R x y H2) {Q:VSP}{f:Value->Value->Sem Value}
  (hf:∀ v u s2 x y H2,Inv X pins Z H2 s2->RelV x v->RelV y u->R x y H2->wpAny (model X.prog X.w) X.A (f v u) Q X.xe s2) :
  wpAny (model X.prog X.w) X.A (eval a X.env) (λv s₁=>wpAny (model X.prog X.w) X.A (eval b X.env) (λu s₂=>wpAny (model X.prog X.w) X.A (f v u) Q X.xe s₂) X.xe s₁) X.xe s:=by
 refine thn (ha pins s Z H _ I h) λv s1 ⟨x,H1,I1,r1,q1⟩=>?_
 refine thn (hb pins s1 Z H1 _ I1 q1) λu s2 ⟨y,H2,I2,r2,q2⟩=>?_
 exact hf v u s2 x y H2 I2 r1 r2 q2
def pe_op{op:Operator}{r:R2}(ho:OpR X (binaryOp op) r)(ha:PE X a ta)(hb:PE X b tb):PE X (.BinOp a op b pos) (tOp r ta tb):=by
 intro pins s Z H Q I h
 exact wpAny_BinOp (binT ha hb I h λv u s2 x y H2 I2 rx ry q=>ho pins s2 Z H2 x y v u Q I2 rx ry q)
def pe_un{op:UnaryOp}{r:V->Hp->VK->Prop}(ho:UnR X (unaryOp op) r)(ha:PE X a ta):PE X (.UnaryOp op a pos) (tUn r ta):=by
 intro pins s Z H Q I h
 exact UnaryOp_ (thn (ha pins s Z H _ I h) λv s1 ⟨x,H1,I1,r1,q1⟩=>ho pins s1 Z H1 x v Q I1 r1 q1)
def opI{f:Value->Value->Sem Value}{C:Int->Int->Prop}{g:Int->Int->Int}
  (rule:∀ (i j:Int) (t u:Tok) (s:Shared) (Q:VSP) (E:VSP),C i j->Q (.int (g i j) s.toks) { s with toks:=s.toks + 1 }->wpAny (model X.prog X.w) X.A (f (.int i t) (.int j u)) Q E s) :
  OpR X f (rI C λi j=>.int (g i j)):=by
 intro pins s Z H x y v u Q I rx ry h
 obtain⟨i,j,rfl,rfl,hc,q⟩:=h
 obtain⟨t,rfl⟩:=rx
 obtain⟨t',rfl⟩:=ry
 exact rule i j t t' s _ _ hc ⟨.int (g i j),H,I.tok _,⟨_,rfl⟩,q⟩
def opI0{f:Value->Value->Sem Value}{g:Int->Int->Int}
  (rule:∀ (i j:Int) (t u:Tok) (s:Shared) (Q:VSP) (E:VSP),Q (.int (g i j) s.toks) { s with toks:=s.toks + 1 }->wpAny (model X.prog X.w) X.A (f (.int i t) (.int j u)) Q E s) :
  OpR X f (rI0 λi j=>.int (g i j)):=by
 intro pins s Z H x y v u Q I rx ry h
 obtain⟨i,j,rfl,rfl,q⟩:=h
 obtain⟨t,rfl⟩:=rx
 obtain⟨t',rfl⟩:=ry
 exact rule i j t t' s _ _ ⟨.int (g i j),H,I.tok _,⟨_,rfl⟩,q⟩
def opB0{f:Value->Value->Sem Value}{g:Int->Int->Bool}
  (rule:∀ (i j:Int) (t u:Tok) (s:Shared) (Q:VSP) (E:VSP),Q (.bool (g i j)) s->wpAny (model X.prog X.w) X.A (f (.int i t) (.int j u)) Q E s) :
  OpR X f (rI0 λi j=>.bl (g i j)):=by
 intro pins s Z H x y v u Q I rx ry h
 obtain⟨i,j,rfl,rfl,q⟩:=h
 obtain⟨t,rfl⟩:=rx
 obtain⟨t',rfl⟩:=ry
 exact rule i j t t' s _ _ ⟨.bl (g i j),H,I,rfl,q⟩
def CDiv(i j:Int):Prop:=0 < j/\j < 1073741824
def CPow(i j:Int):Prop:=0<=j/\j<=1000000/\i.natAbs < 2 ^ 64
def CMul(i j:Int):Prop:=(-(2 ^ 64) < i/\i < 2 ^ 64)\/(-(2 ^ 64) < j/\j < 2 ^ 64)
theorem CMul.ok{i j:Int}(h:CMul i j):IntMulOk i j:=by
 rcases h with ⟨h1,h2⟩ | ⟨h1,h2⟩
 ·exact .of_left (intBits_le_64 h1 h2)
 ·exact .of_right (intBits_le_64 h1 h2)
def op_add:OpR X (binaryOp .Add) (rI0 λi j=>.int (i + j)):=opI0 λ_ _ _ _ _ _ _ q=>add_int q
def op_sub:OpR X (binaryOp .Sub) (rI0 λi j=>.int (i - j)):=opI0 λ_ _ _ _ _ _ _ q=>sub_int q
def op_mul:OpR X (binaryOp .Mult) (rI CMul λi j=>.int (i * j)):=opI λ_ _ _ _ _ _ _ hc q=>mul_int q hc.ok
def op_fdiv:OpR X (binaryOp .FloorDiv) (rI CDiv λi j=>.int (i / j)):=opI λi j _ _ _ _ _ hc q=>by
 have h1:(0:Int) < j:=hc.1
 have h2:j < 1073741824:=hc.2
 exact floordiv_int (by omega) (by rw [YS i (by omega)]; exact q) (.inl (PyProof.noPylong_small (by omega)))
def op_mod:OpR X (binaryOp .Mod) (rI (λ_ j=>0 < j) λi j=>.int (i % j)):=opI λi j _ _ _ _ _ hc q=>by
 have h1:(0:Int) < j:=hc
 exact mod_int' (by omega) (by rw [Int.fmod_eq_emod_of_nonneg i (by omega)]; exact q)
def op_pow:OpR X (binaryOp .Pow) (rI CPow λi j=>.int (i ^ j.toNat)):=opI λ_ _ _ _ _ _ _ hc q=>pow_int_small hc.1 hc.2.1 hc.2.2 q
def unI{f:Value->Sem Value}{g:Int->Int}
  (rule:∀ (i:Int) (t:Tok) (s:Shared) (Q:VSP) (E:VSP),Q (.int (g i) s.toks) { s with toks:=s.toks + 1 }->wpAny (model X.prog X.w) X.A (f (.int i t)) Q E s) :
  UnR X f (rU λi=>.int (g i)):=by
 intro pins s Z H x v Q I rx h
 obtain⟨i,rfl,q⟩:=h
 obtain⟨t,rfl⟩:=rx
 exact rule i t s _ _ ⟨.int (g i),H,I.tok _,⟨_,rfl⟩,q⟩
def un_neg:UnR X (unaryOp .USub) (rU λi=>.int (-i)):=unI λ_ _ _ _ _ q=>neg_int q
end
def scal:V->V->Bool
 | .non,.non=>true | .non,.int _=>true | .int _,.non=>true | .non,.bl _=>true | .bl _,.non=>true | .non,.str _=>true | .str _,.non=>true
 | .int _,.int _=>true | .bl _,.bl _=>true | .str _,.str _=>true | .byt _,.byt _=>true
 | .int _,.str _=>true | .str _,.int _=>true | .bl _,.str _=>true | .str _,.bl _=>true
 | _,_=>false
def rEq:R2:=λx y H Q=>scal x y=true/\Q (.bl (decide (x=y))) H
def rNe:R2:=λx y H Q=>scal x y=true/\Q (.bl (!decide (x=y))) H
def dec_int{i j:Int}:decide (V.int i=V.int j)=(i == j):=by
 rw [YI]
 simp
def dec_bl{i j:Bool}:decide (V.bl i=V.bl j)=(i == j):=by
 rw [YI]
 simp
def dec_str{i j:Str}:decide (V.str i=V.str j)=(i == j):=by
 rw [YI]
 simp
def dec_byt{i j:Array UInt8}:decide (V.byt i=V.byt j)=(i.toList == j.toList):=by
 rw [YI]
 cases i
 cases j
 simp
section
variable {X:Cx}{a b c:Expr}{ta tb tc:TE}{pos:Pos}
theorem fin_bl{Q:VK}{k k':Bool}(I:Inv X pins Z H s)(q:Q (.bl k) H)(e:k=k'):EP X pins Z Q (.bool k') s:=by
 subst e
 exact⟨.bl k,H,I,rfl,q⟩
def op_eq:OpR X (compareOp .Eq) rEq:=by
 intro pins s Z H x y v u Q I rx ry h
 obtain⟨hs,q⟩:=h
 cases x with
 | non =>
  cases rx
  cases y with
  | non=>cases ry; exact PySem.EqNone.eq_none_none (fin_bl I q (by simp))
  | bl j=>cases ry; exact PySem.EqNone.eq_none_bool (fin_bl I q (by simp))
  | int j=>obtain⟨t',rfl⟩:=ry; exact PySem.EqNone.eq_none_int (fin_bl I q (by simp))
  | str j=>obtain⟨t',rfl⟩:=ry; exact PySem.EqNone.eq_none_str (fin_bl I q (by simp))
  | _=>exact absurd (show false=true from hs) Yi
 | bl i =>
  cases rx
  cases y with
  | non=>cases ry; exact PySem.EqNone.eq_bool_none (fin_bl I q (by simp))
  | bl j=>cases ry; exact eq_bool (fin_bl I q dec_bl)
  | str j=>obtain⟨t',rfl⟩:=ry; exact PySem.EqMixed.eq_bool_str (fin_bl I q (by simp))
  | _=>exact absurd (show false=true from hs) Yi
 | int i =>
  obtain⟨t,rfl⟩:=rx
  cases y with
  | non=>cases ry; exact PySem.EqNone.eq_int_none (fin_bl I q (by simp))
  | int j=>obtain⟨t',rfl⟩:=ry; exact eq_int (fin_bl I q dec_int)
  | str j=>obtain⟨t',rfl⟩:=ry; exact PySem.EqMixed.eq_int_str (fin_bl I q (by simp))
  | _=>exact absurd (show false=true from hs) Yi
 | str i =>
  obtain⟨t,rfl⟩:=rx
  cases y with
  | non=>cases ry; exact PySem.EqNone.eq_str_none (fin_bl I q (by simp))
  | bl j=>cases ry; exact PySem.EqMixed.eq_str_bool (fin_bl I q (by simp))
  | int j=>obtain⟨t',rfl⟩:=ry; exact PySem.EqMixed.eq_str_int (fin_bl I q (by simp))
  | str j=>obtain⟨t',rfl⟩:=ry; exact eq_str (fin_bl I q dec_str)
  | _=>exact absurd (show false=true from hs) Yi
 | byt i =>
  obtain⟨t,rfl⟩:=rx
  cases y with
  | byt j=>obtain⟨t',rfl⟩:=ry; exact PySem.W.eq_bytes (fin_bl I q dec_byt)
  | _=>exact absurd (show false=true from hs) Yi
 | _=>cases y <;> exact absurd (show false=true from hs) Yi
def op_ne:OpR X (compareOp .NotEq) rNe:=by
 intro pins s Z H x y v u Q I rx ry h
 obtain⟨hs,q⟩:=h
 cases x with
 | non =>
  cases rx
  cases y with
  | non=>cases ry; exact PySem.EqNone.ne_none_none (fin_bl I q (by simp))
  | bl j=>cases ry; exact PySem.EqNone.ne_none_bool (fin_bl I q (by simp))
  | int j=>obtain⟨t',rfl⟩:=ry; exact PySem.EqNone.ne_none_int (fin_bl I q (by simp))
  | str j=>obtain⟨t',rfl⟩:=ry; exact PySem.EqNone.ne_none_str (fin_bl I q (by simp))
  | _=>exact absurd (show false=true from hs) Yi
 | bl i =>
  cases rx
  cases y with
  | non=>cases ry; exact PySem.EqNone.ne_bool_none (fin_bl I q (by simp))
  | bl j=>cases ry; exact ne_bool (fin_bl I q (congrArg not dec_bl))
  | str j=>obtain⟨t',rfl⟩:=ry; exact PySem.EqMixed.ne_bool_str (fin_bl I q (by simp))
  | _=>exact absurd (show false=true from hs) Yi
 | int i =>
  obtain⟨t,rfl⟩:=rx
  cases y with
  | non=>cases ry; exact PySem.EqNone.ne_int_none (fin_bl I q (by simp))
  | int j=>obtain⟨t',rfl⟩:=ry; exact ne_int (fin_bl I q (congrArg not dec_int))
  | str j=>obtain⟨t',rfl⟩:=ry; exact PySem.EqMixed.ne_int_str (fin_bl I q (by simp))
  | _=>exact absurd (show false=true from hs) Yi
 | str i =>
  obtain⟨t,rfl⟩:=rx
  cases y with
  | non=>cases ry; exact PySem.EqNone.ne_str_none (fin_bl I q (by simp))
  | bl j=>cases ry; exact PySem.EqMixed.ne_str_bool (fin_bl I q (by simp))
  | int j=>obtain⟨t',rfl⟩:=ry; exact PySem.EqMixed.ne_str_int (fin_bl I q (by simp))
  | str j=>obtain⟨t',rfl⟩:=ry; exact ne_str (fin_bl I q (congrArg not dec_str))
  | _=>exact absurd (show false=true from hs) Yi
 | byt i =>
  obtain⟨t,rfl⟩:=rx
  cases y with
  | byt j=>obtain⟨t',rfl⟩:=ry; exact PySem.W.ne_bytes (fin_bl I q (congrArg not dec_byt))
  | _=>exact absurd (show false=true from hs) Yi
 | _=>cases y <;> exact absurd (show false=true from hs) Yi
def op_lt:OpR X (compareOp .Lt) (rI0 λi j=>.bl (decide (i < j))):=opB0 λ_ _ _ _ _ _ _ q=>lt_int q
def op_gt:OpR X (compareOp .Gt) (rI0 λi j=>.bl (decide (j < i))):=opB0 λ_ _ _ _ _ _ _ q=>gt_int q
def op_ge:OpR X (compareOp .GtE) (rI0 λi j=>.bl (decide (j<=i))):=opB0 λ_ _ _ _ _ _ _ q=>ge_int q
def op_isN:OpR X (compareOp .Is) (λx y H Q=>y=.non/\Q (.bl (decide (x=.non))) H):=by
 intro pins s Z H x y v u Q I rx ry h
 obtain⟨rfl,q⟩:=h
 cases ry
 refine is_none_gen (fin_bl I q ?_)
 cases x <;> first
  | (cases rx; rfl)
  | (obtain⟨t,rfl⟩:=rx; rfl)
def op_notN:OpR X (compareOp .IsNot) (λx y H Q=>y=.non/\Q (.bl (!decide (x=.non))) H):=by
 intro pins s Z H x y v u Q I rx ry h
 obtain⟨rfl,q⟩:=h
 cases ry
 refine isnot_none_gen (fin_bl I q ?_)
 cases x <;> first
  | (cases rx; rfl)
  | (obtain⟨t,rfl⟩:=rx; rfl)
def nomark(b:Expr){op:CmpOp}(h:op ≠ .In:=by decide)(h2:op ≠ .NotIn:=by decide):behindInMarks op b=false:=by
 have e1:(op == CmpOp.In)=false:=by cases op <;> first | rfl | exact absurd rfl h
 have e2:(op == CmpOp.NotIn)=false:=by cases op <;> first | rfl | exact absurd rfl h2
 cases b <;> simp [behindInMarks,e1,e2]
def pe_cmpR{op:CmpOp}{r:R2}(ho:OpR X (compareOp op) r)(ha:PE X a ta)(hb:PE X b tb)(hm:behindInMarks op b=false):PE X (.Compare a [op] [b] pos) (tOp r ta tb):=by
 intro pins s Z H Q I h
 exact wpAny_Compare1 (binT ha hb I h λv u s2 x y H2 I2 rx ry q=>ho pins s2 Z H2 x y v u Q I2 rx ry q) hm
def tTest(t:TE):TT:=λZ H Q=>t Z H λx H'=>∃ k,x=.bl k/\Q k H'
def pt_cmpR{op:CmpOp}{r:R2}(ho:OpR X (compareOp op) r)(ha:PE X a ta)(hb:PE X b tb)(hm:behindInMarks op b=false):PT X (.Compare a [op] [b] pos) (tTest (tOp r ta tb)):=by
 intro pins s Z H Q I h
 refine wpAny_isTrue_Compare1 (thn (ha pins s Z H _ I h) λv s1 ⟨x,H1,I1,r1,q1⟩=>thn (hb pins s1 Z H1 _ I1 q1) λu s2 ⟨y,H2,I2,r2,q2⟩ =>
  thn (ho pins s2 Z H2 x y v u _ I2 r1 r2 q2) λc s3 ⟨z,H3,I3,r3,k,e,q3⟩=>?_) hm
 subst e
 cases r3
 exact YO ⟨H3,I3,q3⟩
def tChain(r r':R2)(ta tb tc:TE):TE:=λZ H Q=>ta Z H λx H1=>tb Z H1 λy H2=>r x y H2 λz H3=>∃ k,z=.bl k /\
 (if k=true then tc Z H3 λw' H4=>r' y w' H4 Q else Q (.bl false) H3)
def line63:(sizeLine:Nat) < 2 ^ 63:=by rw [sizeLine_eq]; decide
def vals1{x:V}(r:Vals [x] us):∃ u,us=[u]/\RelV x u:=by
 cases r with
 | cons r1 r2=>cases r2; exact⟨_,rfl,r1⟩
def vals2{x y:V}(r:Vals [x,y] us):∃ u w',us=[u,w']/\RelV x u/\RelV y w':=by
 cases r with
 | cons r1 r2 =>
  cases r2 with
  | cons r3 r4=>cases r4; exact⟨_,_,rfl,r1,r3⟩
def call_abs:CallR X (.builtin "abs") (λxs H Q=>∃ i,xs=[.int i]/\Q (.int (if i < 0 then -i else i)) H):=by
 intro pins s Z H xs us Q I r h
 obtain⟨i,rfl,q⟩:=h
 obtain⟨u,rfl,t,rfl⟩:=vals1 r
 exact call_abs_int λu tk=>⟨.int (if i < 0 then -i else i),H,I.tok _,⟨_,rfl⟩,q⟩
def call_min2(hc:X.calm=true):CallR X (.builtin "min") (λxs H Q=>∃ i j,xs=[.int i,.int j]/\Q (.int (if j < i then j else i)) H):=by
 intro pins s Z H xs us Q I r h
 obtain⟨i,j,rfl,q⟩:=h
 obtain⟨u,w',rfl,⟨t,rfl⟩,⟨t',rfl⟩⟩:=vals2 r
 refine min_two_ints (I.ok.hd hc) λh' tk k=>⟨_,H,I.kept k,?_,q⟩
 by_cases hj:j < i
 ·rw [if_pos hj,if_pos hj]; exact⟨_,rfl⟩
 ·rw [if_neg hj,if_neg hj]; exact⟨_,rfl⟩
def call_int1:CallR X (.type "int") (λxs H Q=>(∃ i,xs=[.int i]/\Q (.int i) H)\/∃ k,xs=[.bl k]/\Q (.int (if k then 1 else 0)) H):=by
 intro pins s Z H xs us Q I r h
 rcases h with ⟨i,rfl,q⟩ | ⟨k,rfl,q⟩
 ·obtain⟨u,rfl,t,rfl⟩:=vals1 r
  exact call_int_int ⟨.int i,H,I,⟨_,rfl⟩,q⟩
 ·obtain⟨u,rfl,r1⟩:=vals1 r
  cases r1
  exact call_int_bool ⟨.int (if k then 1 else 0),H,I.tok _,⟨_,rfl⟩,q⟩
end
structure ObjM(h:Heap)(x dx C:Addr)(mA:Str->Option Value):Prop where
 obj:h.get? x=some (instObj C dx)
 ns:h.Ns1 dx mA
 ne:dx ≠ x
def lookIn_ns{h:Heap}{dx:Addr}{mA:Str->Option Value}(n:h.Ns1 dx mA):∃ od,h.get? dx=some od/\∀ name,lookIn name od=some (mA name):=by
 obtain⟨o,es,ep,ho,hd,hk,_,hm⟩:=n
 refine⟨o,ho,λname=>?_⟩
 have e:=hm name
 unfold nsFind findBy at e
 rw [<- Array.find?_toList] at e
 unfold lookIn
 rw [hd]
 dsimp only
 split
 ·rename_i y q
  rw [q] at e
  exact congrArg some e
 ·rename_i q
  rw [q] at e
  have a:es.toList.any (·.refKey)=false:=by
   rw [List.any_eq_false]
   intro y hy
   obtain⟨z,t,hkey⟩:=hk y (Array.mem_toList_iff.mp hy)
   simp [DictEntry.refKey,hkey]
  have a':¬ es.toList.any (·.refKey)=true:=by rw [a]; exact Yi
  rw [if_neg a']
  exact congrArg some e
def ObjM.look{h:Heap}{x dx C:Addr}{mA:Str->Option Value}(I:ObjM h x dx C mA):∃ od,PySem.W.InstAt h x (instObj C dx) C (some od)/\∀ name,lookIn name od=some (mA name) :=
 let ⟨od,ho,hl⟩:=lookIn_ns I.ns
 ⟨od,⟨I.obj,rfl,rfl,ho⟩,hl⟩
section
variable {prog:Program}{w:World}{A:Around}{E:VSP}{s:Shared}{K:PySem.W.Frag}{x dx C f:Addr}{mA:Str->Option Value}{name:Str}{v:Value}
def get_map{expr:Bool}{Q:VSP}(X:K.In s.heap)(I:ObjM s.heap x dx C mA)(hg:plainGet K C name=true)(hh:hasDictIn K C=true)
  (ha:PySem.W.findIn K (.ref C) name=some none) (hv:mA name=some v) (hv':handedIn v=true) (h:Q v { s with toks:=s.toks + 1 }) :
  wpAny (model prog w) A (getAttr (.ref x) name expr) Q E s:=by
 obtain⟨od,J,hl⟩:=I.look
 exact PySem.W.get_value X J (plainGet_of hg).1 (PySem.W.findObj_own hh ha rfl (by rw [hl,hv])) hv' h
def get_meth{pl:Sem Bool}{Q:Value × List Value->Shared->Prop}(X:K.In s.heap)(I:ObjM s.heap x dx C mA)(hg:plainGet K C name=true)
  (hf:PySem.W.findIn K (.ref C) name=some (some (.ref f))) (ht:isFn K (.ref f)=true) (hv:mA name=none) (h:Q (.ref f,[.ref x]) s) :
  wpAny (model prog w) A (getMethod (.ref x) name pl) Q E s:=by
 obtain⟨od,J,hl⟩:=I.look
 exact PySem.W.method_fn X J (plainGet_of hg).1 (plainGet_of hg).2 hf (beq_iff_eq.mp ht) (by show (lookIn name od).map (·.isSome)=some false; rw [hl,hv]; rfl) h
def set_map{ns:List Str}(X:K.In s.heap)(I:ObjM s.heap x dx C mA)
  (hs:PySem.W.findIn K (.ref C) "__setattr__"=some (some (.builtin "object.__setattr__"))) (hp:plainOver K C=true) (ht:takerIn K C name=some none) (hh:hasDictIn K C=true)
  (hw:PySem.Within mA ns) (hsz:ns.length<=sizeLine)
  (h:∀ h',ObjM h' x dx C (λy=>if y=name then some v else mA y)->Heap.SameBut dx s.heap h'->Q () { s with heap:=h',toks:=s.toks + 2 }) :
  wpAny (model prog w) A (setAttr (.ref x) name v) Q E s:=by
 obtain⟨od,J,hl⟩:=I.look
 refine PySem.W.set_plain X J hs (PySem.W.osa_open (s:={ s with toks:=s.toks + 1 }) (r:=none) X J hp ht λb=>?_)
 obtain⟨cd,hc,hd'⟩:=PySem.W.any_some hh
 have hx:s.heap.get? x=some ⟨.ref C,some dx,.plain,#[]⟩:=I.obj
 refine Yc (Yg (Yc (Yc (wpAny_loadPart hx (Yc (PySem.W.Looks.here (s:={ s with toks:=s.toks + 1 }) (PySem.W.looks_clsIn X hc) ?_))))))
 rw [hd']
 refine Yg (a:=some dx) (Yc (Yg (Yc ?_)))
 refine wpAny_nsSet1 (s:={ s with toks:=s.toks + 1 }) I.ns λh' hn2 hs2=>?_
 obtain⟨oD,esD,epD,hoD,hdD,hcD⟩:=hn2.count (PySem.Within.cons name v hw)
 refine Yc (wpAny_lookBehind hoD (by rw [hdD]; exact pastItsLine_dict (Yh hcD (by rw [YN]; omega))) ?_)
 exact Yg (h _ ⟨(hs2.2 _ (Ne.symm I.ne)).trans I.obj,hn2,I.ne⟩ hs2)
def make_map{R:Result->Shared->Prop}{vs:List Value}{kw:List (Str × Value)}(X:K.In s.heap)(hm:makesIn K C=true)
  (hi:PySem.W.findIn K (.ref C) "__init__"=some (some (.ref f))) (hf:PySem.W.typeIn K (.ref f)=some (.type "function"))
  (h:codeAny (model prog w) (A.under (.builtin "type.__call__" ⟨.ref C :: vs,kw⟩)) (.call (.ref f) ⟨.ref (s.heap.objs.size + 1) :: vs,kw⟩) (PySem.W.InitBack (s.heap.objs.size + 1) R)
   { s with heap:=(s.heap.push emptyDict).push (instObj C s.heap.objs.size) }) :
  codeAny (model prog w) A (.call (.ref C) ⟨vs,kw⟩) R s:=by
 obtain⟨hh,g,d,t,os⟩:=s
 exact PySem.W.make_core (PySem.W.makes_of X hm) (PySem.W.looks_findIn X hi) (λself=>PySem.W.bind_fn X self hf) (.inl rfl) h
end
def putF(f:Str)(v:V):List (Str × V)->List (Str × V)
 | []=>[(f,v)]
 | (g,x) :: r=>if g=f then (g,v) :: r else (g,x) :: putF f v r
def lookup_putF(f g:Str)(v:V):∀ fs:List (Str × V),(putF f v fs).lookup g=if g=f then some v else fs.lookup g
 | []=>by
  show List.lookup g [(f,v)]=_
  by_cases h:g=f
  ·have hb:(g == f)=true:=beq_iff_eq.mpr h
   simp only [List.lookup,hb,if_pos h]
  ·have hb:(g == f)=false:=YZ.mpr h
   simp only [List.lookup,hb,if_neg h]
 | (k,x) :: r=>by
  have ih:=lookup_putF f g v r
  rw [show putF f v ((k,x) :: r)=(if k=f then (k,v) :: r else (k,x) :: putF f v r) from rfl]
  by_cases hk:k=f
  ·rw [if_pos hk]
   by_cases h:g=k
   ·have hb:(g == k)=true:=beq_iff_eq.mpr h
    simp only [List.lookup,hb,if_pos (h.trans hk)]
   ·have hb:(g == k)=false:=YZ.mpr h
    simp only [List.lookup,hb,if_neg (λe:g=f=>h (e.trans hk.symm))]
  ·rw [if_neg hk]
   by_cases h:g=k
   ·have hb:(g == k)=true:=beq_iff_eq.mpr h
    simp only [List.lookup,hb,if_neg (λe:g=f=>hk (h.symm.trans e))]
   ·have hb:(g == k)=false:=YZ.mpr h
    simp only [List.lookup,hb]
    exact ih
def keys_putF(f:Str)(v:V):∀ fs:List (Str × V),f∈(putF f v fs).map (·.1)/\∀ g,g∈fs.map (·.1)->g∈(putF f v fs).map (·.1)
 | []=>⟨by simp [putF],λg h=>by simp at h⟩
 | (k,x) :: r=>by
  obtain⟨i1,i2⟩:=keys_putF f v r
  rw [show putF f v ((k,x) :: r)=(if k=f then (k,v) :: r else (k,x) :: putF f v r) from rfl]
  by_cases hk:k=f
  ·rw [if_pos hk]
   subst hk
   exact⟨by simp,λg h=>by simpa using h⟩
  ·rw [if_neg hk]
   refine⟨?_,λg h=>?_⟩
   ·rw [Yr]
    exact YM _ i1
   ·rw [Yr] at h ⊢
    rcases Yq.mp h with e | e
    ·exact Yq.mpr (.inl e)
    ·exact YM _ (i2 g e)
def length_putF(f:Str)(v:V):∀ fs:List (Str × V),(putF f v fs).length<=fs.length + 1
 | []=>by simp [putF]
 | (k,x) :: r=>by
  have ih:=length_putF f v r
  rw [show putF f v ((k,x) :: r)=(if k=f then (k,v) :: r else (k,x) :: putF f v r) from rfl]
  by_cases hk:k=f
  ·rw [if_pos hk,YN,YN]; omega
  ·rw [if_neg hk,YN,YN]; omega
def RelO.some_of{v:V}{o:Option Value}(r:RelO (some v) o):∃ u,o=some u/\RelV v u:=by
 cases o with
 | none=>exact (show False from r).elim
 | some u=>exact⟨u,rfl,r⟩
def RelO.none_of{o:Option Value}(r:RelO none o):o=none:=by
 cases o with
 | none=>rfl
 | some u=>exact (show False from r).elim
def handed_of{v:V}(r:RelV v u):handedIn u=true:=by
 cases v with
 | non=>cases (show u=Value.none from r); rfl
 | bl b=>cases (show u=Value.bool b from r); rfl
 | int i=>obtain⟨t,e⟩:=(show ∃ t,u=Value.int i t from r); cases e; rfl
 | str x=>obtain⟨t,e⟩:=(show ∃ t,u=Value.str x t from r); cases e; rfl
 | byt b=>obtain⟨t,e⟩:=(show ∃ t,u=Value.bytes b t from r); cases e; rfl
 | flt b=>obtain⟨t,e⟩:=(show ∃ t,u=Value.float b t from r); cases e; rfl
 | ref a=>cases (show u=Value.ref a from r); rfl
 | ty n=>cases (show u=Value.type n from r); rfl
section
variable {P:Program}{w:World}{H H':Hp}{h h':Heap}{a C dx:Addr}{fs fs':List (Str × V)}
def ins_get(hok:HOk P w H h)(e:H a=some (.ins C dx fs)):∃ mA,ObjM h a dx C mA/\(∀ f,RelO (fs.lookup f) (mA f))/\PySem.Within mA (fs.map (·.1))/\fs.length<=1000/\H dx=some (.own a):=by
 obtain⟨d,z,ne,ob,mA,n,r,q⟩:=(show ObjOk P w H h a (.ins C dx fs) from hok a _ e)
 exact⟨mA,⟨ob,n,ne⟩,r,q,z,d⟩
end
structure Cls(K:PySem.W.Frag)(C:Addr):Prop where
 pg:plainGet K C Str.empty=true
 hd:hasDictIn K C=true
 po:plainOver K C=true
 sa:PySem.W.findIn K (.ref C) "__setattr__"=some (some (.builtin "object.__setattr__"))
theorem Cls.get{C:Addr}(c:Cls K C)(f:Str):plainGet K C f=true:=c.pg
def NoAttr(K:PySem.W.Frag)(C:Addr)(f:Str):Prop:=PySem.W.findIn K (.ref C) f=some none
def NoAttr.taker{C:Addr}{f:Str}(n:NoAttr K C f):takerIn K C f=some none:=by
 unfold takerIn
 rw [show PySem.W.findIn K (.ref C) f=some none from n]
 rfl
structure Con(K:PySem.W.Frag)(C:Addr)(f:Str)(v:V)(u:Value):Prop where
 at_:PySem.W.findIn K (.ref C) f=some (some u)
 rel:RelV v u
 get:PySem.W.specialIn K u "__get__"=some none
 cp:PySem.W.copiedNames.contains f=false
structure Meth(K:PySem.W.Frag)(C:Addr)(m:Str)(f:Addr):Prop where
 at_:PySem.W.findIn K (.ref C) m=some (some (.ref f))
 fn:isFn K (.ref f)=true
 kp:keepIn K (.ref f)=true
section
variable {X:Cx}{pins:List (Addr × Obj)}{Z:St}{H:Hp}{s:Shared}{a C dx:Addr}{fs:List (Str × V)}{f:Str}{v:V}{A:Around}{E:VSP}
def getattr_ok{b:Bool}{Q:VSP}(I:Inv X pins Z H s)(e:H a=some (.ins C dx fs))(c:Cls X.K C)(n:NoAttr X.K C f)(l:fs.lookup f=some v)
  (h:∀ u s',Inv X pins Z H s'->RelV v u->Q u s'):wpAny (model X.prog X.w) A (getAttr (.ref a) f b) Q E s:=by
 obtain⟨mA,O,r,_,_,_⟩:=ins_get I.hok e
 obtain⟨u,hu,ru⟩:=RelO.some_of (v:=v) (o:=mA f) (by rw [<- l]; exact r f)
 exact get_map I.kIn O (c.get f) c.hd n hu (handed_of ru) (h u _ (I.tok _) ru)
def getmeth_ok{m:Str}{g:Addr}{pl:Sem Bool}{Q:Value × List Value->Shared->Prop}(I:Inv X pins Z H s)(e:H a=some (.ins C dx fs))(c:Cls X.K C)(k:Meth X.K C m g)(l:fs.lookup m=none)
  (h:Q (.ref g,[.ref a]) s):wpAny (model X.prog X.w) A (getMethod (.ref a) m pl) Q E s:=by
 obtain⟨mA,O,r,_,_,_⟩:=ins_get I.hok e
 have hn:mA m=none:=RelO.none_of (by rw [<- l]; exact r m)
 exact get_meth I.kIn O (c.get m) k.at_ k.fn hn h
def setattr_ok{y:V}(I:Inv X pins Z H s)(e:H a=some (.ins C dx fs))(c:Cls X.K C)(n:NoAttr X.K C f)(hl:fs.length < 1000)(ry:RelV y u)
  (h:∀ s',Inv X pins Z (upd H a (.ins C dx (putF f y fs))) s'->Q () s'):wpAny (model X.prog X.w) A (setAttr (.ref a) f u) Q E s:=by
 obtain⟨mA,O,r,wi,_,ho⟩:=ins_get I.hok e
 have hz:(fs.map (·.1)).length<=sizeLine:=by rw [Yy,sizeLine_eq]; omega
 refine set_map I.kIn O c.sa c.po n.taker c.hd wi hz λh' O' sb=>h _ ?_
 have hd:∃ o,h'.get? dx=some o:=let ⟨o,_,_,e',_⟩:=O'.ns; ⟨o,e'⟩
 refine I.write (x:=a) (e:=dx) (by rw [e]; exact True.intro) (.inr ho) (λb q hb z=>(sb.2 b hb).trans z) hd ?_
 refine⟨by rw [upd_ne O.ne]; exact ho,?_,O.ne,O'.obj,_,O'.ns,λg=>?_,λg hg=>?_⟩
 ·have:=length_putF f y fs; omega
 ·show RelO ((putF f y fs).lookup g) (if g=f then some u else mA g)
  rw [lookup_putF]
  by_cases q:g=f
  ·rw [if_pos q,if_pos q]; exact ry
  ·rw [if_neg q,if_neg q]; exact r g
 ·by_cases q:g=f
  ·rw [q]; exact (keys_putF f y fs).1
  ·refine (keys_putF f y fs).2 g (wi g λz=>hg ?_)
   show (if g=f then some u else mA g)=none
   rw [if_neg q]; exact z
def Inv.made(I:Inv X pins Z H s):Inv X pins Z (upd (upd H s.heap.objs.size (.own (s.heap.objs.size + 1))) (s.heap.objs.size + 1) (.ins C s.heap.objs.size []))
  { s with heap:=(s.heap.push emptyDict).push (instObj C s.heap.objs.size) }:=by
 have e1:(s.heap.push emptyDict).get? s.heap.objs.size=some emptyDict:=Yv s.heap rfl
 have e2:((s.heap.push emptyDict).push (instObj C s.heap.objs.size)).get? (s.heap.objs.size + 1)=some (instObj C s.heap.objs.size):=by
  have:=Yv (s.heap.push emptyDict) (o:=instObj C s.heap.objs.size) rfl
  rwa [Heap.size_push] at this
 have e3:(s.heap.push emptyDict).Ns s.heap.objs.size (λ_=>none):=⟨emptyDict,#[],_,e1,rfl,(λe he=>absurd he (by simp)),λ_=>rfl⟩
 have I1:=I.laid (a:=s.heap.objs.size) (o:=.own (s.heap.objs.size + 1)) (h':=s.heap.push emptyDict) (t':=s.toks) (λb u q=>Ym _ q) (Ya _) ⟨_,e1⟩
 refine I1.laid (a:=s.heap.objs.size + 1) (o:=.ins C s.heap.objs.size []) (t':=s.toks) (λb u q=>Ym _ q) (Nat.le_of_eq (Heap.size_push _ _)) ?_
 have ne:s.heap.objs.size ≠ s.heap.objs.size + 1:=Yl (Nat.lt_succ_self _)
 refine⟨by rw [upd_ne ne,upd_same],Ys _,ne,e2,λ_=>none,(Heap.Ns1.of_empty e3).at λo q=>Ym _ q,λ_=>True.intro,λy hy=>absurd rfl hy⟩
def attr_of{prog:Program}{env:Env}{e:Expr}{f:Str}{pos:Pos}{Q:VSP}(hb:attributeBase e f env (eval e env)=eval e env)
  (h:wpAny (model prog w) A (eval e env) (λo s₁=>wpAny (model prog w) A (getAttr o f true) Q E s₁) E s):wpAny (model prog w) A (eval (.Attribute e f pos) env) Q E s :=
 Attribute_any_ h (by rw [arm_eval_Attribute,hb])
end
def tFld(K:PySem.W.Frag)(ta:TE)(f:Str):TE:=λZ H Q=>ta Z H λx H1=>∃ a C dx fs v,x=.ref a/\H1 a=some (.ins C dx fs)/\Cls K C/\NoAttr K C f/\fs.lookup f=some v/\Q v H1
def sFld(K:PySem.W.Frag)(ta tv:TE)(f:Str):TS:=λD Z H=>tv Z H λy H1=>ta Z H1 λx H2=>∃ a C dx fs,x=.ref a/\H2 a=some (.ins C dx fs)/\Cls K C/\NoAttr K C f/\fs.length < 1000 /\
 D.nx Z (upd H2 a (.ins C dx (putF f y fs)))
section
variable {X:Cx}{o e value:Expr}{f:Str}{pos pos' tpos:Pos}{ta tv:TE}
def pe_fld(he:PE X e ta)(hb:attributeBase e f X.env (eval e X.env)=eval e X.env):PE X (.Attribute e f pos) (tFld X.K ta f):=by
 intro pins s Z H Q I h
 refine attr_of hb (thn (he pins s Z H _ I h) λu s1 ⟨x,H1,I1,rx,a,C,dx,fs,v,ex,ea,c,n,l,q⟩=>?_)
 subst ex
 obtain rfl:u=Value.ref a:=rx
 exact getattr_ok I1 ea c n l λu' s2 I2 ru=>⟨v,H1,I2,ru,q⟩
def ps_fld(ha:PE X o ta)(hv:PE X value tv)(hs:swapsWith value (some (.Attribute o f pos')) pos.line X.env=pure false):PS X (.Assign [.Attribute o f pos'] value pos) (sFld X.K ta tv f):=by
 intro pins s Z H D I h
 refine plainObj_wpAny_Assign_Attribute (thn (hv pins s Z H _ I h) λu s1 ⟨y,H1,I1,ry,q⟩=>thn (ha pins s1 Z H1 _ I1 q) λov s2 ⟨x,H2,I2,rx,a,C,dx,fs,ex,ea,c,n,l,q2⟩=>?_) hs
 subst ex
 obtain rfl:ov=Value.ref a:=rx
 exact setattr_ok I2 ea c n l ry λs3 I3=>⟨Z,_,I3,q2⟩
end
section
variable {X:Cx}{pins:List (Addr × Obj)}{Z:St}{H:Hp}{s:Shared}{A:Around}{E:VSP}{Q:VSP}{c:Value}{b:Bool}
inductive TyOf (K:PySem.W.Frag) (H:Hp):V->Value->Prop where
 | non:TyOf K H .non (.type "NoneType")
 | bl (x:Bool):TyOf K H (.bl x) (.type "bool")
 | int (i:Int):TyOf K H (.int i) (.type "int")
 | str (x:Str):TyOf K H (.str x) (.type "str")
 | flt (x:UInt64):TyOf K H (.flt x) (.type "float")
 | lst {a:Addr}{xs:List V}(e:H a=some (.lst xs)):TyOf K H (.ref a) (.type "list")
 | frz {a:Addr}{o:Obj}{xs:List V}(e:H a=some (.frz o (.lst xs))):TyOf K H (.ref a) (.type "list")
 | tup {a:Addr}{xs:List V}(e:H a=some (.tup xs)):TyOf K H (.ref a) (.type "tuple")
 | dK {a:Addr}{kvs:List (Key × V)}(e:H a=some (.dK kvs)):TyOf K H (.ref a) (.type "dict")
 | dT {a:Addr}{kvs:List (List Key × V)}(e:H a=some (.dT kvs)):TyOf K H (.ref a) (.type "dict")
 | ins {a C dx:Addr}{fs:List (Str × V)}(e:H a=some (.ins C dx fs)) (cl:Cls K C) (ha:PySem.W.findIn K (.ref C) "__class__"=some (some (.builtin "object.__class__")))
   (hn:PySem.W.specialIn K (.builtin "object.__class__") "__get__"=some (some (.builtin "getset_descriptor.__get__"))) (htk:PySem.W.takesIn K (.builtin "object.__class__")=some true)
   (hm:PySem.W.mroIn K C (.type "object")=some true):TyOf K H (.ref a) (.ref C)
def isinst_ok{x:V}{u t:Value}(I:Inv X pins Z H s)(rx:RelV x u)(ty:TyOf X.K H x t)(e:kitOne X.K t c=some b)(h:∀ tk,Q (.bool b) { s with toks:=tk }) :
  wpAny (model X.prog X.w) A (call (.builtin "isinstance") [u,c]) Q E s:=by
 cases ty with
 | non=>cases (show u=Value.none from rx); exact kia_one PySem.W.kitx_none I.kIn True.intro e (λz=>nomatch z) h
 | bl y=>cases (show u=Value.bool y from rx); exact kia_one PySem.W.kitx_bool I.kIn True.intro e (λz=>nomatch z) h
 | int i=>obtain⟨t,q⟩:=(show ∃ t,u=Value.int i t from rx); cases q; exact kia_one PySem.W.kitx_int I.kIn True.intro e (λz=>nomatch z) h
 | str y=>obtain⟨t,q⟩:=(show ∃ t,u=Value.str y t from rx); cases q; exact kia_one PySem.W.kitx_str I.kIn True.intro e (λz=>nomatch z) h
 | flt y=>obtain⟨t,q⟩:=(show ∃ t,u=Value.float y t from rx); cases q; exact kia_one PySem.W.kitx_float I.kIn True.intro e (λz=>nomatch z) h
 | @lst a xs ea =>
  cases (show u=Value.ref a from rx)
  obtain⟨_,_,n,_,h1⟩:=(show ObjOk X.prog X.w H s.heap a (.lst xs) from I.hok a _ ea)
  exact kia_one kitx_list I.kIn ⟨_,h1,rfl⟩ e (λz=>nomatch z) h
 | @frz a ob xs ea =>
  cases (show u=Value.ref a from rx)
  obtain⟨_,_,_,n,_,h1⟩:=(show ObjOk X.prog X.w H s.heap a (.frz ob (.lst xs)) from I.hok a _ ea)
  exact kia_one kitx_list I.kIn ⟨_,h1,rfl⟩ e (λz=>nomatch z) h
 | @tup a xs ea =>
  cases (show u=Value.ref a from rx)
  obtain⟨_,_,_,p⟩:=(show ObjOk X.prog X.w H s.heap a (.tup xs) from I.hok a _ ea)
  obtain⟨o,h1,h2,_⟩:=p
  exact kia_one PySem.W.kitx_tuple I.kIn ⟨o,h1,h2⟩ e (λz=>nomatch z) h
 | @dK a kvs ea =>
  cases (show u=Value.ref a from rx)
  obtain⟨_,_,vs,_,p⟩:=(show ObjOk X.prog X.w H s.heap a (.dK kvs) from I.hok a _ ea)
  obtain⟨o,es,ep,h1,h2,_⟩:=p
  exact kia_one kitx_dict I.kIn ⟨o,h1,h2.1⟩ e (λz=>nomatch z) h
 | @dT a kvs ea =>
  cases (show u=Value.ref a from rx)
  obtain⟨_,_,xs,_,o,es,ep,h1,h2,_⟩:=(show ObjOk X.prog X.w H s.heap a (.dT kvs) from I.hok a _ ea)
  exact kia_one kitx_dict I.kIn ⟨o,h1,h2.1⟩ e (λz=>nomatch z) h
 | @ins a C dx fs ea cl ha hn htk hm =>
  cases (show u=Value.ref a from rx)
  obtain⟨mA,O,_⟩:=ins_get I.hok ea
  obtain⟨od,J,_⟩:=O.look
  exact kia_one (PySem.W.kitx_own (cl.get _) cl.hd ha hn htk hm) I.kIn J e (λz=>nomatch z) h
end
structure Room(k:Nat)(A:Around):Prop where
 hd:A.handled=none
 dp:A.depth + 3 * k + 5 < recursionLimit
 un:A.units + 16 * k + 200 < cLine
def Room.mono{j k:Nat}(r:Room k A)(h:j<=k):Room j A:=⟨r.hd,by have:=r.dp; omega,by have:=r.un; omega⟩
variable {k:Nat}
def Room.deeper(r:Room (k + 1) A)(env:Env):Room k (A.deeper env) :=
 ⟨r.hd,by have:=r.dp; show A.depth + 1 + 3 * k + 5 < _; omega,by have:=r.un; show A.units + 3 + 16 * k + 200 < _; omega⟩
def Room.in1(r:Room (k + 1) A):Room k A.in1 :=
 ⟨r.hd,by have:=r.dp; show A.depth + 3 * k + 5 < _; omega,by have:=r.un; show A.units + 1 + 16 * k + 200 < _; omega⟩
def make_depth{C:Addr}{kw:List (Str × Value)}:(A.under (.builtin "type.__call__" ⟨.ref C :: us,kw⟩)).depth=A.depth + 1:=by
 first | rfl | simp [Around.under,Code.weight,Code.isCreation,Code.isGuard,Code.isCaller,Code.frames,Code.isFrame,guardIds]
def make_units{C:Addr}{kw:List (Str × Value)}:(A.under (.builtin "type.__call__" ⟨.ref C :: us,kw⟩)).units=A.units + 1:=by
 first | rfl | simp [Around.under,Code.cUnits,Code.frames,Code.isFrame]
def Room.make(r:Room (k + 1) A)(C:Addr)(us:List Value)(kw:List (Str × Value)):Room k (A.under (.builtin "type.__call__" ⟨.ref C :: us,kw⟩)) :=
 ⟨r.hd,by have:=r.dp; rw [make_depth]; omega,by have:=r.un; rw [make_units]; omega⟩
def Room.depth(r:Room k A):A.depth < recursionLimit:=by have:=r.dp; omega
theorem Room.units(r:Room k A):A.units + 64 < cLine:=by have:=r.un; omega
def tNil:TA:=λ_ H Q=>Q [] H
def tCons(ta:TE)(tr:TA):TA:=λZ H Q=>ta Z H λx H1=>tr Z H1 λxs H2=>Q (x :: xs) H2
section
variable {X:Cx}{e:Expr}{es:List Expr}{te:TE}{t:TA}{pos:Pos}
def pa_nil:PA X [] tNil:=λ_ _ _ _ H Q I h=>Calls.spliced_nil ⟨[],H,I,.nil,h⟩
def pa_cons(ha:PE X e te)(hr:PA X es t)(hs:starEach (e :: es) X.env=(false,eval e X.env) :: starEach es X.env:=by rfl):PA X (e :: es) (tCons te t):=by
 intro pos pins s Z H Q I h
 rw [hs]
 show wpAny _ _ (spliced ((false,eval e X.env) :: backTo pos (starEach es X.env))) _ _ s
 refine Calls.spliced_cons (thn (ha pins s Z H _ I h) λu s1 ⟨x,H1,I1,r1,q1⟩=>?_)
 exact thn (hr pos pins s1 Z H1 _ I1 q1) λus s2 ⟨xs,H2,I2,r2,q2⟩=>⟨x :: xs,H2,I2,.cons r1 r2,q2⟩
end
abbrev Sp:=List V->Hp->VK->XK->Prop
abbrev CXT:=List Env->Hp->Shared->XK->Value->Shared->Prop
structure Env0(P:Program)(w:World)(K:PySem.W.Frag)(mg:Str->Option Value)(base:Heap)(A:Around)(outer:List Env)(s:Shared)(H:Hp):Prop where
 frames:A.frames=some outer
 mod:Mod K mg base
 bs:∀ b o,base.get? b=some o->s.heap.get? b=some o/\H b=none
 bsz:base.objs.size<=s.heap.objs.size
 funs:s.heap.FunFrames base outer
 frf:∀ b∈frs outer,H b=none
 hok:HOk P w H s.heap
 bare:AllBare s.gens
def CE(outer:List Env)(P:Program)(w:World)(H:Hp)(s:Shared)(Q:VK)(u:Value)(s':Shared):Prop :=
 ∃ v H',s'.os=s.os/\AllBare s'.gens/\Un (frs outer) [] H H' s.heap s'.heap/\HOk P w H' s'.heap/\RelV v u/\Q v H'
def CR(CX:CXT)(outer:List Env)(P:Program)(w:World)(H:Hp)(s:Shared)(Q:VK)(E:XK)(r:Result)(s':Shared):Prop :=
 match r with
 | .ok (.ret u)=>CE outer P w H s Q u s'
 | .ok _=>False
 | .error e=>CX outer H s E e s'
structure FnOk(P:Program)(w:World)(K:PySem.W.Frag)(mg:Str->Option Value)(base:Heap)(CX:CXT)(k:Nat)(f:Addr)(fd:FuncData)(ps:List Str)(sp:Sp):Prop where
 len:∀ vs H Q E,sp vs H Q E->vs.length=ps.length
 run:∀ (A:Around) (outer:List Env) (s:Shared) (H:Hp) (args:Args) (us:List Value) (vs:List V) (Q:VK) (E:XK),Room k A->Env0 P w K mg base A outer s H->BindsTo s fd args (ps.zip us)->Vals vs us->sp vs H Q E ->
  codeAny (model P w) A (.call (.ref f) args) (CR CX outer P w H s Q E) s
variable {mg:Str->Option Value}
def FnOk.mono{base:Heap}{CX:CXT}{j k:Nat}{f:Addr}{fd:FuncData}{ps:List Str}{sp:Sp}(F:FnOk P w K mg base CX j f fd ps sp)(h:j<=k) :
  FnOk P w K mg base CX k f fd ps sp:=⟨F.len,λA outer s H args us vs Q E hr=>F.run A outer s H args us vs Q E (hr.mono h)⟩
theorem FnOk.imp{base:Heap}{CX:CXT}{f:Addr}{fd:FuncData}{ps:List Str}{sp sp':Sp}(F:FnOk P w K mg base CX k f fd ps sp)
  (h:∀ vs H Q E,sp' vs H Q E->sp vs H Q E):FnOk P w K mg base CX k f fd ps sp' :=
 ⟨λvs H Q E q=>F.len vs H Q E (h _ _ _ _ q),λA outer s H args us vs Q E hr he hb hv hs=>F.run A outer s H args us vs Q E hr he hb hv (h _ _ _ _ hs)⟩
def Env0.make{base:Heap}{outer:List Env}(e:Env0 P w K mg base A outer s H)(C:Addr)(us:List Value)(kw:List (Str × Value)) :
  Env0 P w K mg base (A.under (.builtin "type.__call__" ⟨.ref C :: us,kw⟩)) outer s H:=⟨by first | exact e.frames | (simpa [Around.under,Code.envs,Code.isFrame,pushEnvs] using e.frames),e.mod,e.bs,e.bsz,e.funs,e.frf,e.hok,e.bare⟩
def Env0.in1{base:Heap}{outer:List Env}(e:Env0 P w K mg base A outer s H) :
  Env0 P w K mg base A.in1 outer s H:=⟨e.frames,e.mod,e.bs,e.bsz,e.funs,e.frf,e.hok,e.bare⟩
section
variable {X:Cx}{pins:List (Addr × Obj)}{Z:St}{H:Hp}{s s':Shared}
def Inv.env0(I:Inv X pins Z H s):Env0 X.prog X.w X.K X.mg X.base X.A X.stack s H :=
 ⟨I.ok.frames,I.ok.mod,I.bs,Yh I.ok.bsz I.sz,I.stack,I.stkFree,I.hok,I.bare⟩
def Inv.after{Q:VK}(I:Inv X pins Z H s)(h:CE X.stack X.prog X.w H s Q u s'):EP X pins Z Q u s':=by
 obtain⟨v,H',os,bare,un,hok,r,q⟩:=h
 obtain⟨hh,g,d,t,os'⟩:=s'
 obtain rfl:os'=s.os:=os
 exact⟨v,H',I.call (h':=hh) (g':=g) (d':=d) (t':=t) (ch:=[]) un hok bare (λb z=>absurd z (by simp)),r,q⟩
end
def tCall(sp:Sp)(dvs:List V)(E:XK)(t:TA):TE:=λZ H Q=>t Z H λvs H1=>sp (vs ++ dvs) H1 Q E
def tMeth(C:Addr)(m:Str)(sp:Sp)(dvs:List V)(E:XK)(ta:TE)(t:TA):TE:=λZ H Q=>ta Z H λx H1=>∃ a dx fs,x=.ref a/\H1 a=some (.ins C dx fs)/\fs.lookup m=none /\
 t Z H1 λvs H2=>sp (x :: (vs ++ dvs)) H2 Q E
def tMake(C:Addr)(sp:Sp)(dvs:List V)(E:XK)(t:TA):TE:=λZ H Q=>t Z H λvs H1=>∀ x dx,H1 x=none->H1 dx=none->dx ≠ x ->
 sp (.ref x :: (vs ++ dvs)) (upd (upd H1 dx (.own x)) x (.ins C dx [])) (λv H2=>v=.non/\Q (.ref x) H2) E
def Binds(K:PySem.W.Frag)(fd:FuncData)(ps:List Str)(ds:List Value):Prop :=
 ∀ (s:Shared) (us:List Value),K.In s.heap->(us ++ ds).length=ps.length->BindsTo s fd ⟨us,[]⟩ (ps.zip (us ++ ds))
theorem Binds.all{fd:FuncData}{ps:List Str}(h:∀ us:List Value,us.length=ps.length->bindArgs fd ⟨us,[]⟩=pure (ps.zip us)):Binds K fd ps []:=λs us _ hl=>by
 rw [List.append_nil] at hl ⊢
 exact .of_eq (h us hl)
def Passes(CX:CXT)(X:Cx)(E:XK):Prop:=∀ (pins:List (Addr × Obj)) (Z:St) (H:Hp) (s:Shared) (e:Value) (s':Shared),Inv X pins Z H s->CX X.stack H s E e s'->X.xe e s'
section
variable {X:Cx}{CX:CXT}{k:Nat}{f C:Addr}{fd:FuncData}{ps:List Str}{sp:Sp}{dvs:List V}{ds:List Value}{E:XK}{x m:Str}{p pos apos:Pos}{e o:Expr}{es:List Expr}{ta:TE}{t:TA}
def run_fn{Q:VK}{vs:List V}(F:FnOk X.prog X.w X.K X.mg X.base CX k f fd ps sp)(hr:Room k X.A)(hb:Binds X.K fd ps ds)(hd:Vals dvs ds)(hx:Passes CX X E)
  (I:Inv X pins Z H s) (r:Vals vs us) (h:sp (vs ++ dvs) H Q E):wpAny (model X.prog X.w) X.A (call (.ref f) us) (EP X pins Z Q) X.xe s:=by
 have r2:Vals (vs ++ dvs) (us ++ ds):=r.append hd
 have hl:(us ++ ds).length=ps.length:=by rw [<- r2.length]; exact F.len _ _ _ _ h
 refine wpAny_call (YR (F.run X.A X.stack s H ⟨us,[]⟩ (us ++ ds) (vs ++ dvs) Q E hr I.env0 (hb s us I.kIn hl) r2 h) λr s' hq=>?_)
 cases r with
 | error e=>exact hx pins Z H s e s' I hq
 | ok fl =>
  cases fl with
  | ret u=>exact I.after hq
  | next=>exact False.elim hq
  | brk=>exact False.elim hq
  | cont=>exact False.elim hq
def pe_call(F:FnOk X.prog X.w X.K X.mg X.base CX k f fd ps sp)(hr:Room k X.A)(hg:Gl X x)(hm:X.mg x=some (.ref f))(hk:keepIn X.K (.ref f)=true)(hb:Binds X.K fd ps ds)(hd:Vals dvs ds)(hx:Passes CX X E)
  (ha:PA X (e :: es) t) (hdb:(x == ("__debug__":Str))=false:=by decide) (he:starEach (e :: es) X.env=(false,eval e X.env) :: starEach es X.env:=by rfl) (hpl:(backTo pos (starEach es X.env)).any (·.1)=false:=by rfl) :
  PE X (.Call (.Name x p) (e :: es) [] pos) (tCall sp dvs E t):=by
 intro pins s Z H Q I h
 refine Y2 (ld_glob I hg hm ?_ hdb)
 refine callWith_K (h₀:=X.base) I.ok.mod.kin hk (thn (ha pos pins s Z H _ I h) λus s1 ⟨vs,H1,I1,r,q⟩=>⟨I1.kIn,?_⟩) he hpl
 exact run_fn F hr hb hd hx I1 r q
def pe_meth{pl:Sem Bool}(he:PE X o ta)(c:Cls X.K C)(hm:Meth X.K C m f)(F:FnOk X.prog X.w X.K X.mg X.base CX k f fd ps sp)(hr:Room k X.A)(hb:Binds X.K fd ps ds)(hd:Vals dvs ds)(hx:Passes CX X E)(ha:PA X (e :: es) t)
  (hst:starEach (e :: es) X.env=(false,eval e X.env) :: starEach es X.env:=by rfl) (hpl:(backTo pos (starEach es X.env)).any (·.1)=false:=by rfl)
  (ht:eval (.Call (.Attribute o m apos) (e :: es) [] pos) X.env=(do
   let ov <- eval o X.env
   standAt apos.atName
   let (f,first) <- holding [ov] (getMethod ov m pl)
   callWith pos f first (backTo pos (starEach (e :: es) X.env)) (backToKw pos (keywordEach [] X.env))):=by rfl) :
  PE X (.Call (.Attribute o m apos) (e :: es) [] pos) (tMeth C m sp dvs E ta t):=by
 intro pins s Z H Q I h
 refine methodCall_KW (pl:=pl) (thn (he pins s Z H _ I h) λu s1 ⟨x,H1,I1,rx,a,dx,fs,ex,ea,l,q⟩=>?_) ht
 subst ex
 obtain rfl:u=Value.ref a:=rx
 refine getmeth_ok I1 ea c hm l ?_
 refine callWith_K (first:=[.ref a]) (h₀:=X.base) I.ok.mod.kin hm.kp (thn (ha pos pins s1 Z H1 _ I1 q) λus s2 ⟨vs,H2,I2,r,q2⟩=>⟨I2.kIn,?_⟩) hst hpl
 exact run_fn (us:=.ref a :: us) (vs:=.ref a :: vs) F hr hb hd hx I2 (.cons rfl r) q2
def pe_meth0{pl:Sem Bool}(he:PE X o ta)(c:Cls X.K C)(hm:Meth X.K C m f)(F:FnOk X.prog X.w X.K X.mg X.base CX k f fd ps sp)(hr:Room k X.A)(hb:Binds X.K fd ps ds)(hd:Vals dvs ds)(hx:Passes CX X E)
  (ht:eval (.Call (.Attribute o m apos) [] [] pos) X.env=(do
   let ov <- eval o X.env
   standAt apos.atName
   let (f,first) <- holding [ov] (getMethod ov m pl)
   callWith pos f first (backTo pos (starEach [] X.env)) (backToKw pos (keywordEach [] X.env))):=by rfl) :
  PE X (.Call (.Attribute o m apos) [] [] pos) (tMeth C m sp dvs E ta tNil):=by
 intro pins s Z H Q I h
 refine methodCall_KW (pl:=pl) (thn (he pins s Z H _ I h) λu s1 ⟨x,H1,I1,rx,a,dx,fs,ex,ea,l,q⟩=>?_) ht
 subst ex
 obtain rfl:u=Value.ref a:=rx
 refine getmeth_ok I1 ea c hm l ?_
 exact PySem.W.callWith_K0 (first:=[.ref a]) I1.kIn hm.kp (run_fn (us:=[.ref a]) (vs:=[.ref a]) F hr hb hd hx I1 (.cons rfl .nil) q)
structure Mk(K:PySem.W.Frag)(C f:Addr):Prop where
 makes:makesIn K C=true
 init:PySem.W.findIn K (.ref C) "__init__"=some (some (.ref f))
 fn:isFn K (.ref f)=true
 kp:keepIn K (.ref C)=true
def run_make{Q:VK}{vs:List V}(M:Mk X.K C f)(F:FnOk X.prog X.w X.K X.mg X.base CX k f fd ps sp)(hr:Room (k + 1) X.A)(hb:Binds X.K fd ps ds)(hd:Vals dvs ds)
  (hx:Passes CX X E) (I:Inv X pins Z H s) (r:Vals vs us)
  (h:∀ x dx,H x=none->H dx=none->dx ≠ x->sp (.ref x :: (vs ++ dvs)) (upd (upd H dx (.own x)) x (.ins C dx [])) (λv H2=>v=.non/\Q (.ref x) H2) E) :
  wpAny (model X.prog X.w) X.A (call (.ref C) us) (EP X pins Z Q) X.xe s:=by
 have hq:=h (s.heap.objs.size + 1) s.heap.objs.size (I.hok.fresh (Nat.le_succ _)) (I.hok.fresh (Ya _)) (Yl (Nat.lt_succ_self _))
 have I2:=Inv.made (C:=C) I
 have r2:Vals (V.ref (s.heap.objs.size + 1) :: (vs ++ dvs)) (Value.ref (s.heap.objs.size + 1) :: (us ++ ds)):=.cons rfl (r.append hd)
 have hl:(Value.ref (s.heap.objs.size + 1) :: us ++ ds).length=ps.length:=by
  have e:=r2.length
  rw [F.len _ _ _ _ hq] at e
  exact e.symm
 refine wpAny_call (make_map (f:=f) I.kIn M.makes M.init (beq_iff_eq.mp M.fn) (YR (F.run _ X.stack _ _ ⟨Value.ref (s.heap.objs.size + 1) :: us,[]⟩ (Value.ref (s.heap.objs.size + 1) :: (us ++ ds)) _ _ E (hr.make C us [])
  (I2.env0.make C us []) (hb _ (Value.ref (s.heap.objs.size + 1) :: us) I2.kIn hl) r2 hq) λr s' hq'=>?_))
 cases r with
 | error e=>exact hx pins Z _ _ e s' I2 hq'
 | ok fl =>
  cases fl with
  | ret u =>
   obtain⟨v,H',I3,rv,ev,q3⟩:=I2.after hq'
   subst ev
   exact⟨rv,⟨V.ref (s.heap.objs.size + 1),H',I3,rfl,q3⟩⟩
  | next=>exact False.elim hq'
  | brk=>exact False.elim hq'
  | cont=>exact False.elim hq'
def pe_make(M:Mk X.K C f)(F:FnOk X.prog X.w X.K X.mg X.base CX k f fd ps sp)(hr:Room (k + 1) X.A)(hg:Gl X x)(hm:X.mg x=some (.ref C))(hb:Binds X.K fd ps ds)(hd:Vals dvs ds)(hx:Passes CX X E)
  (ha:PA X (e :: es) t) (hdb:(x == ("__debug__":Str))=false:=by decide) (he:starEach (e :: es) X.env=(false,eval e X.env) :: starEach es X.env:=by rfl) (hpl:(backTo pos (starEach es X.env)).any (·.1)=false:=by rfl) :
  PE X (.Call (.Name x p) (e :: es) [] pos) (tMake C sp dvs E t):=by
 intro pins s Z H Q I h
 refine Y2 (ld_glob I hg hm ?_ hdb)
 refine callWith_K (h₀:=X.base) I.ok.mod.kin M.kp (thn (ha pos pins s Z H _ I h) λus s1 ⟨vs,H1,I1,r,q⟩=>⟨I1.kIn,?_⟩) he hpl
 exact run_make M F hr hb hd hx I1 r q
end
section
variable {X:Cx}{CX:CXT}{k:Nat}{f C:Addr}{fd:FuncData}{ps ks:List Str}{sp:Sp}{E:XK}{x m:Str}{p pos apos kpos:Pos}{e o:Expr}{es:List Expr}{kws:List Keyword}{te ta:TE}{t tk:TA}{nm:Option Str}
structure KBinds(K:PySem.W.Frag)(fd:FuncData)(ps ks:List Str)(g:List Value->List Value->List Value)(gV:List V->List V->List V):Prop where
 to:∀ (s:Shared) (us ws:List Value),K.In s.heap->(g us ws).length=ps.length->BindsTo s fd ⟨us,ks.zip ws⟩ (ps.zip (g us ws))
 rel:∀ {vs:List V}{us:List Value}{zs:List V}{ws:List Value},Vals vs us->Vals zs ws->Vals (gV vs zs) (g us ws)
variable {g:List Value->List Value->List Value}{gV:List V->List V->List V}
end
structure FnScope(N P:List Str)(sc:Scope):Prop where
 kind:sc.kind=.function
 co:sc.isCoroutine=false
 gen:sc.isGenerator=false
 nd:N.Nodup
 pre:N.take P.length=P
 par:∀ x∈P,sc.names.lookup x=some .local\/sc.names.lookup x=some .cell
 nofree:∀ y∈sc.names,y.2 ≠ .free
variable {kindOf:Str->Option NameKind}{x:Str}
def bindL_out:∀ {binds:List (Str × Value)}{m:Str->Option Value},(∀ v,(x,v) ∉ binds)->bindL kindOf binds m x=m x
 | [],_,_=>rfl
 | (n,v) :: r,m,h=>by
  unfold bindL
  rw [bindL_out λw hw=>h w (YM _ hw)]
  split
  ·have:x ≠ n:=by rintro rfl; exact h v List.mem_cons_self
   simp [this]
  ·rfl
def bindC_out:∀ {binds:List (Str × Value)}{m:Str->Option Value},(∀ v,(x,v) ∉ binds)->bindC kindOf binds m x=m x
 | [],_,_=>rfl
 | (n,v) :: r,m,h=>by
  unfold bindC
  rw [bindC_out λw hw=>h w (YM _ hw)]
  split
  ·rfl
  ·have:x ≠ n:=by rintro rfl; exact h v List.mem_cons_self
   simp [this]
theorem bindL_get{v:Value}:∀ {P:List Str}{vs:List Value}{i:Nat}{m:Str->Option Value},P.Nodup->P[i]?=some x->vs[i]?=some v->kindOf x=some .local ->
  bindL kindOf (P.zip vs) m x=some v
 | [],_,_,_,_,h,_,_=>by simp at h
 | _ :: _,[],_,_,_,_,h,_=>by simp at h
 | p :: P,w :: vs,0,m,nd,h1,h2,hk=>by
  simp at h1 h2; subst h1; subst h2
  show bindL kindOf ((p,w) :: P.zip vs) m p=_
  unfold bindL
  rw [bindL_out λv hv=>(List.nodup_cons.mp nd).1 (List.of_mem_zip hv).1,if_pos hk]
  simp
 | p :: P,w :: vs,i + 1,m,nd,h1,h2,hk=>by
  show bindL kindOf ((p,w) :: P.zip vs) m x=_
  unfold bindL
  exact bindL_get (i:=i) (List.nodup_cons.mp nd).2 (by simpa using h1) (by simpa using h2) hk
theorem bindC_get{v:Value}:∀ {P:List Str}{vs:List Value}{i:Nat}{m:Str->Option Value},P.Nodup->P[i]?=some x->vs[i]?=some v->kindOf x ≠ some .local ->
  bindC kindOf (P.zip vs) m x=some v
 | [],_,_,_,_,h,_,_=>by simp at h
 | _ :: _,[],_,_,_,_,h,_=>by simp at h
 | p :: P,w :: vs,0,m,nd,h1,h2,hk=>by
  simp at h1 h2; subst h1; subst h2
  show bindC kindOf ((p,w) :: P.zip vs) m p=_
  unfold bindC
  rw [bindC_out λv hv=>(List.nodup_cons.mp nd).1 (List.of_mem_zip hv).1,if_neg hk]
  simp
 | p :: P,w :: vs,i + 1,m,nd,h1,h2,hk=>by
  show bindC kindOf ((p,w) :: P.zip vs) m x=_
  unfold bindC
  exact bindC_get (i:=i) (List.nodup_cons.mp nd).2 (by simpa using h1) (by simpa using h2) hk
def start(N:List Str)(vs:List V):St:=vs.map some ++ List.replicate (N.length - vs.length) none
def cxOf(CX:CXT)(P:Program)(w:World)(K:PySem.W.Frag)(mg:Str->Option Value)(base:Heap)(N:List Str)(qual:Str)(scope:Scope)(f:Addr)(cd:Value)(A:Around)(outer:List Env)(s:Shared)(H:Hp)(E:XK):Cx where
 prog:=P
 w:=w
 K:=K
 mg:=mg
 base:=base
 A:=A.deeper (envOfC qual scope s.heap.objs.size f cd)
 N:=N
 s₀:=s
 H₀:=H
 env:=envOfC qual scope s.heap.objs.size f cd
 outer:=outer
 stack:=envOfC qual scope s.heap.objs.size f cd :: outer
 ex:=[]
 calm:=true
 fn:=λ_=>true
 pn:=[]
 xe:=λe s'=>wpAny (model P w) (A.deeper (envOfC qual scope s.heap.objs.size f cd)) (leaving (envOfC qual scope s.heap.objs.size f cd) e) (λ_ s''=>CX outer H s E e s'') (λe' s''=>CX outer H s E e' s'') s'
def cell_has{sc:Scope}{n:Nat}(h:sc.names.lookup x=some .cell):∃ c,(cellsFrom n sc.names []).lookup x=some c:=by
 have q:=cellsFrom_some sc.names n [] (.inl h)
 exact Option.isSome_iff_exists.mp q
def inv_start{CX:CXT}{base:Heap}{N ps:List Str}{qual:Str}{scope:Scope}{f:Addr}{cd:Value}{outer:List Env}{s s1:Shared}{E:XK}{vs:List V}
  (S:FnScope N ps scope) (hd:A.handled=none) (e0:Env0 P w K mg base A outer s H) (hl:vs.length=ps.length) (r:Vals vs us)
  (x:InCallC s s.heap.objs.size (bindL (envOfC qual scope s.heap.objs.size f cd).kindOf (ps.zip us) λ_=>none) (cellsFrom (s.heap.objs.size + 1) scope.names []) (bindC (envOfC qual scope s.heap.objs.size f cd).kindOf (ps.zip us) λ_=>none) s1) :
  Inv (cxOf CX P w K mg base N qual scope f cd A outer s H E) [] (start N vs) H s1:=by
 have hpl:ps.length<=N.length:=by have:=congrArg List.length S.pre; rw [YD] at this; omega
 obtain⟨h1,tk,rfl,hk⟩:=x.done
 have noA:∀ b:Addr,b ∉ (cxOf CX P w K mg base N qual scope f cd A outer s H E).ex:=λb z=>absurd (show b∈([]:List Addr) from z) (by simp)
 refine⟨⟨e0.mod,S.kind,rfl,rfl,Ya _,λy z c h1 h2=>?_,λy hy=>?_,λy c _ h=>?_,λ_=>hd,Around.frames_deeper e0.frames,.inr ⟨rfl,rfl⟩,λb z=>absurd z (noA b),e0.bs,e0.bsz,λb _ _=>noA b,λb z=>absurd z (noA b),e0.funs,e0.frf⟩,
  rfl,e0.bare,Un.kept hk,⟨_,x.toInCall.ns,λi y v h1 h2 h3=>?_⟩,λy c h=>⟨_,x.cell y c h⟩,e0.hok.fresh (Nat.le_refl _),λy c h=>?_,λp hp=>absurd (show p∈([]:List (Addr × Obj)) from hp) (by simp),e0.hok.kept hk,?_⟩
 ·exact name_of_addr x.apart (YB h1) (YB h2)
 ·have hy:scope.names.lookup y=some .cell\/scope.names.lookup y=some .free:=hy
  rcases hy with hy | hy
  ·exact cell_has hy
  ·exact absurd rfl (S.nofree _ (YB hy))
 ·exact YA (x.above y c (YB h))
 ·have hi:i < vs.length:=by
   unfold start at h2
   by_cases hi:i < vs.length
   ·exact hi
   ·rw [List.getElem?_append_right (by simpa using hi)] at h2
    rw [List.getElem?_replicate] at h2
    split at h2 <;> cases h2
  have ha:vs[i]?=some v:=by
   unfold start at h2
   rw [List.getElem?_append_left (by simpa using hi),List.getElem?_map] at h2
   cases e:vs[i]? with
   | none=>rw [e] at h2; cases h2
   | some a=>rw [e] at h2; cases h2; rfl
  obtain⟨u,hu,rv⟩:=r.get ha
  have hp:ps[i]?=some y:=by
   rw [<- S.pre,List.getElem?_take_of_lt (by omega)]; exact h1
  have ndP:ps.Nodup:=by rw [<- S.pre]; exact S.nd.sublist (List.take_sublist _ _)
  refine⟨u,rv,?_⟩
  rcases S.par y (YY hp) with k | k
  ·exact .inl ⟨k,bindL_get ndP hp hu k⟩
  ·obtain⟨c,e⟩:=cell_has (n:=s.heap.objs.size + 1) k
   refine .inr ⟨.inl k,c,e,?_⟩
   have q:=x.cell y c e
   rw [bindC_get ndP hp hu (by show scope.names.lookup y ≠ _; rw [k]; decide)] at q
   exact q
 ·exact e0.hok.fresh (YA (x.above y c (YB h)))
 ·unfold start
  show _=N.length
  rw [YG,Yy,List.length_replicate]
  omega
def fn_of{CX:CXT}{base:Heap}{f:Addr}{name qual:Str}{params:Arguments}{body:List Stmt}{scope:Scope}{dV kV doc pm cdv ct oc:Value}{an od:Option Addr}
  {osl:Array (Option Value)}{N ps:List Str}{sp:Sp}(lk:K.lookup f=some ⟨oc,od,.func (fnOf name qual params body scope dV kV doc pm an cdv ct),osl⟩) (hcd:codeIn K cdv qual=true) (S:FnScope N ps scope)
  (len:∀ vs H Q E,sp vs H Q E->vs.length=ps.length)
  (hbody:∀ (A:Around) (outer:List Env) (s:Shared) (H:Hp) (vs:List V) (Q:VK) (E:XK),Room k (A.deeper (envOfC qual scope s.heap.objs.size f cdv))->sp vs H Q E ->
   ∃ t,PSs (cxOf CX P w K mg base N qual scope f cdv A outer s H E) body t/\t { nx:=λ_ H'=>Q .non H',rt:=Q } (start N vs) H) :
  FnOk P w K mg base CX (k + 1) f (fnOf name qual params body scope dV kV doc pm an cdv ct) ps sp:=by
 refine⟨len,λA outer s H args us vs Q E hr e0 hb r hsp=>?_⟩
 have hl:=len _ _ _ _ hsp
 have KX:K.In s.heap:=e0.mod.kin.keeps λb o e=>(e0.bs b o e).1
 have lim:s.heap.NoLimit:=e0.mod.nolimit.keeps λb o e=>(e0.bs b o e).1
 have hkind:∀ y∈ps.zip us,scope.names.lookup y.1=some .local\/(scope.names.lookup y.1=some .cell/\((cellsFrom (s.heap.objs.size + 1) scope.names []).lookup y.1).isSome=true):=λ⟨n,v⟩ hy=>by
  rcases S.par n (List.of_mem_zip hy).1 with q | q
  ·exact .inl q
  ·exact .inr ⟨q,cellsFrom_some _ _ _ (.inl q)⟩
 refine codeAny_call_function hr.depth (KX _ _ lk) rfl S.co S.gen rfl (PySem.W.codeRec_of KX hcd) (hb _ _ _ _ ?_)
 refine wpAny_newFunctionEnv_cells S.kind hkind λenv he s1 x=>?_
 subst he
 refine⟨lim.keeps x.toInCall.keep,codeAny_func ?_⟩
 obtain⟨t,ht,hq⟩:=hbody A outer s H vs Q E (hr.deeper _) hsp
 have I:Inv (cxOf CX P w K mg base N qual scope f cdv A outer s H E) [] (start N vs) H s1:=inv_start S hr.hd e0 hl r x
 refine Yn (ht [] s1 (start N vs) H _ I hq) (λfl s' hs=>?_) λe s' hs=>hs
 have fin:∀ {Z':St}{H':Hp}{v:V}{u:Value},Inv (cxOf CX P w K mg base N qual scope f cdv A outer s H E) [] Z' H' s'->RelV v u->Q v H'->CE outer P w H s Q u s' :=
  λ{Z' H' v u} J rv q=>⟨v,H',J.os,J.bare,J.base,J.hok,rv,q⟩
 cases fl with
 | ret u =>
  obtain⟨v,Z',H',J,rv,q⟩:=hs
  exact fin J rv q
 | next =>
  obtain⟨Z',H',J,q⟩:=hs
  exact fin (v:=V.non) (u:=Value.none) J rfl q
 | brk =>
  obtain⟨_,_,_,q⟩:=hs
  exact False.elim q
 | cont =>
  obtain⟨_,_,_,q⟩:=hs
  exact False.elim q
section
variable {X:Cx}{x:Str}{p pos:Pos}{e:Expr}{es:List Expr}{t:TA}{id T:String}{r:List V->Hp->VK->Prop}
def tCB(r:List V->Hp->VK->Prop)(t:TA):TE:=λZ H Q=>t Z H λvs H1=>r vs H1 Q
def pe_callB(hc:CallR X (.builtin id) r)(hg:Gl X x)(hm:X.mg x=none)(hv:bootBuiltins x=some (.builtin id))(ha:PA X (e :: es) t)(hn:x ≠ "__name__":=by decide)(hdb:(x == ("__debug__":Str))=false:=by decide)
  (he:starEach (e :: es) X.env=(false,eval e X.env) :: starEach es X.env:=by rfl) (hpl:(backTo pos (starEach es X.env)).any (·.1)=false:=by rfl):PE X (.Call (.Name x p) (e :: es) [] pos) (tCB r t):=by
 intro pins s Z H Q I h
 refine Y2 (ld_blt I hg hm hv ?_ hn hdb)
 exact PyProof.Rows.callWith_builtin1 (thn (ha pos pins s Z H _ I h) λus s1 ⟨vs,H1,I1,r1,q1⟩=>hc pins s1 Z H1 vs us Q I1 r1 q1) he hpl
def pe_callTy(hc:CallR X (.type T) r)(hg:Gl X x)(hm:X.mg x=none)(hv:bootBuiltins x=some (.type T))(ha:PA X (e :: es) t)(hn:x ≠ "__name__":=by decide)(hdb:(x == ("__debug__":Str))=false:=by decide)
  (he:starEach (e :: es) X.env=(false,eval e X.env) :: starEach es X.env:=by rfl) (hpl:(backTo pos (starEach es X.env)).any (·.1)=false:=by rfl):PE X (.Call (.Name x p) (e :: es) [] pos) (tCB r t):=by
 intro pins s Z H Q I h
 refine Y2 (ld_blt I hg hm hv ?_ hn hdb)
 exact YW (thn (ha pos pins s Z H _ I h) λus s1 ⟨vs,H1,I1,r1,q1⟩=>hc pins s1 Z H1 vs us Q I1 r1 q1) he hpl
end
end L2
namespace HT
open PySem PyProof.Rows
section
open PySem.SeqAt
open PySem.AutoSeq1 (wpAny_loadPart')
open PySem.MeetsSeq PySem.MeetsSeq2 PySem.MeetsSeq3
end
section
variable {prog:Program}{w:World}{A:Around}{E:VSP}{s:Shared}
def sIx(n d:Nat):Option Int->Nat
 | none=>d
 | some v=>if v < 0 then (v + (n:Int)).toNat else min v.toNat n
end
end HT
namespace L2
open PySem PySem.Spec PyProof.Rows
abbrev TO:=St->Hp->(Option Int->Hp->Prop)->Prop
def PO(X:Cx)(e:Option Expr)(t:TO):Prop :=
 ∀ (pins:List (Addr × Obj)) (s:Shared) (Z:St) (H:Hp) (Q:Option Int->Hp->Prop),Inv X pins Z H s->t Z H Q ->
  wpAny (model X.prog X.w) X.A (evalPart e X.env) (λu s'=>∃ o H',Inv X pins Z H' s'/\IsPart u o/\Q o H') X.xe s
def tNoPart:TO:=λ_ H Q=>Q none H
def tPart(t:TE):TO:=λZ H Q=>t Z H λx H1=>∃ i,x=.int i/\Q (some i) H1
section
variable {X:Cx}{e:Expr}{te:TE}{lo hi:Option Expr}{tl th:TO}{pos p2:Pos}
def po_none:PO X none tNoPart:=by
 intro pins s Z H Q I h
 rw [evalPart_none]
 exact Yg ⟨none,H,I,.none,h⟩
def po_some(h:PE X e te):PO X (some e) (tPart te):=by
 intro pins s Z H Q I hw
 rw [evalPart_some]
 refine thn (h pins s Z H _ I hw) λu s1 ⟨x,H1,I1,r1,q1⟩=>?_
 obtain⟨i,rfl,q⟩:=q1
 obtain⟨t,rfl⟩:=r1
 exact⟨some i,H1,I1,.int i t,q⟩
def SlR(X:Cx)(r:V->Option Int->Option Int->Hp->VK->Prop):Prop :=
 ∀ (pins:List (Addr × Obj)) (s:Shared) (Z:St) (H:Hp) (x:V) (v vl vu:Value) (lo hi:Option Int) (sl:Addr) (Q:VK),Inv X pins Z H s->RelV x v->s.heap.IsSliceOf sl vl vu .none->IsPart vl lo->IsPart vu hi->r x lo hi H Q ->
  ∃ T id,typeLookup (.type T) "__getitem__"=pure (some (.builtin id))/\s.TypeIs v T/\wpAny (model X.prog X.w) X.A (getItem v (.ref sl)) (EP X pins Z Q) X.xe s
def tSl(r:V->Option Int->Option Int->Hp->VK->Prop)(te:TE)(tl th:TO):TE:=λZ H Q=>te Z H λx H1=>tl Z H1 λl H2=>th Z H2 λu H3=>r x l u H3 Q
def pe_slice{r:V->Option Int->Option Int->Hp->VK->Prop}(hr:SlR X r)(he:PE X e te)(hl:PO X lo tl)(hu:PO X hi th):PE X (.Subscript e (.Slice lo hi none p2) pos) (tSl r te tl th):=by
 intro pins s Z H Q I h
 refine Subscript_ (thn (he pins s Z H _ I h) λv s1 ⟨x,H1,I1,r1,q1⟩=>?_)
 refine wpAny_Slice (thn (hl pins s1 Z H1 _ I1 q1) λvl s2 ⟨l,H2,I2,pl,q2⟩=>thn (hu pins s2 Z H2 _ I2 q2) λvu s3 ⟨u,H3,I3,pu,q3⟩=>?_)
 rw [evalPart_none]
 refine Yg ?_
 have I4:Inv X pins Z H3 { s3 with heap:=s3.heap.push { cls:=.type "slice",data:=.fields #[vl,vu,.none] } }:=I3.kept (t':=s3.toks) λb ob q=>Ym _ q
 obtain⟨T,id,hT,ht,hg⟩:=hr pins { s3 with heap:=s3.heap.push { cls:=.type "slice",data:=.fields #[vl,vu,.none] } } Z H3 x v vl vu l u s3.heap.objs.size Q I4 r1 (Heap.IsSliceOf.new ..) pl pu q3
 show wpAny (model X.prog X.w) X.A (subscriptTail e (.Slice lo hi none p2) v (.ref s3.heap.objs.size)) (EP X pins Z Q) X.xe { s3 with heap:=s3.heap.push { cls:=.type "slice",data:=.fields #[vl,vu,.none] } }
 exact tail_any (ops:=[.ref s3.heap.objs.size,v]) ht hT hg (by with_unfolding_all rfl)
def cutV(xs:List V)(lo hi:Option Int):List V:=(xs.drop (HT.sIx xs.length 0 lo)).take (HT.sIx xs.length xs.length hi - HT.sIx xs.length 0 lo)
def cutV_length(xs:List V)(lo hi:Option Int):(cutV xs lo hi).length<=xs.length:=by
 unfold cutV
 rw [YD,List.length_drop]
 omega
end
def ixN(n:Nat)(i:Int):Option Nat:=if 0<=i then (if i < n then some i.toNat else none) else if -(n:Int)<=i then some (i + n).toNat else none
def atI{α:Type}(xs:List α)(i:Int):Option α:=(ixN xs.length i).bind λj=>xs[j]?
def ixN_seq{n:Nat}{i:Int}{j:Nat}(h:ixN n i=some j):seqIndex? i n=some j/\j < n/\-(n:Int)<=i/\i < n:=by
 unfold ixN at h
 by_cases h0:0<=i
 ·rw [if_pos h0] at h
  by_cases h1:i < n
  ·rw [if_pos h1] at h
   have e:i.toNat=j:=Yx h
   exact⟨by rw [seqIndex_of h0 h1,e],by omega,by omega,h1⟩
  ·rw [if_neg h1] at h; cases h
 ·rw [if_neg h0] at h
  by_cases h1:-(n:Int)<=i
  ·rw [if_pos h1] at h
   have e:(i + n).toNat=j:=Yx h
   exact⟨by rw [seqIndex_neg (by omega) h1,e],by omega,h1,by omega⟩
  ·rw [if_neg h1] at h; cases h
def atI_get{α:Type}{xs:List α}{i:Int}{v:α}(h:atI xs i=some v):∃ j,seqIndex? i xs.length=some j/\xs[j]?=some v/\j < xs.length/\-(xs.length:Int)<=i/\i < xs.length:=by
 unfold atI at h
 cases e:ixN xs.length i with
 | none=>rw [e] at h; cases h
 | some j =>
  rw [e] at h
  obtain⟨h1,h2,h3,h4⟩:=ixN_seq e
  exact⟨j,h1,h,h2,h3,h4⟩
def atI_nat{α:Type}{xs:List α}{j:Nat}{v:α}(h:xs[j]?=some v):atI xs (j:Int)=some v:=by
 have hj:j < xs.length:=(Yf.mp h).1
 have e:ixN xs.length (j:Int)=some j:=by
  unfold ixN
  rw [if_pos (by omega),if_pos (by omega)]; simp
 unfold atI; rw [e]; exact h
def PlainIx(b:Expr):Prop:=∀ o i,subscripted b false o i=operate [o,i] (getItem o i)
def IxR(X:Cx)(r:R2):Prop :=
 ∀ (value slice:Expr) (pins:List (Addr × Obj)) (s:Shared) (Z:St) (H:Hp) (x y:V) (v u:Value) (Q:VK),Inv X pins Z H s->RelV x v->RelV y u->r x y H Q ->
  subscripted slice false v u=operate [v,u] (getItem v u)->wpAny (model X.prog X.w) X.A (subscriptTail value slice v u) (EP X pins Z Q) X.xe s
section
variable {X:Cx}{a b:Expr}{ta tb:TE}{pos:Pos}
def pe_ix{r:R2}(hr:IxR X r)(ha:PE X a ta)(hb:PE X b tb)(hs:PlainIx b):PE X (.Subscript a b pos) (tOp r ta tb):=by
 intro pins s Z H Q I h
 exact Subscript_ (binT ha hb I h λv u s2 x y H2 I2 rx ry q=>hr a b pins s2 Z H2 x y v u Q I2 rx ry q (hs _ _))
def rIxL(K:PySem.W.Frag):R2:=λx y H Q=>∃ p xs i v,x=.ref p/\y=.int i/\SqL K H p xs/\atI xs i=some v/\Q v H
def rIxT(K:PySem.W.Frag):R2:=λx y H Q=>∃ p xs i v,x=.ref p/\y=.int i/\SqT K H p xs/\atI xs i=some v/\Q v H
def rIxS:R2:=λx y H Q=>∃ z i c,x=.str z/\y=.int i/\z.length<=sizeLine/\atI z.cps.toList i=some c/\Q (.str ⟨#[c]⟩) H
def ix_list:IxR X (rIxL X.K):=by
 intro value slice pins s Z H x y v u Q I rx ry h hs
 obtain⟨p,xs,i,z,rfl,rfl,hq,he,q⟩:=h
 cases rx
 obtain⟨t,rfl⟩:=ry
 obtain⟨its,r,pl,hz⟩:=I.list hq
 obtain⟨j,h1,h2,h3,h4,h5⟩:=atI_get he
 obtain⟨w,ew,rw'⟩:=r.get h2
 have hl:=r.length
 have hn:=line63
 have fin:EP X pins Z Q w s:=⟨z,H,I,rw',q⟩
 by_cases h0:0<=i
 ·have hj:i.toNat=j:=by
   rw [seqIndex_of h0 h5] at h1
   exact Yx h1
  exact item_listR pl.isList h0 (by omega) (by rw [hj]; simpa using ew) fin hs
 ·have hj:(i + (its.toArray.size:Int)).toNat=j:=by
   rw [seqIndex_neg (by omega) h4] at h1
   rw [YC,<- hl]
   exact Yx h1
  exact subscriptTail_builtinR (x:=w) pl.isList.typeIs slot_list_getitem.lookup
   (wpAny_getItem_list_neg (Q:=λr s'=>r=w/\EP X pins Z Q r s') pl.isList (by omega) (by rw [List.size_toArray] <;> omega) (by omega) (by rw [hj]; simpa using ew) ⟨rfl,fin⟩) hs
def ix_tup:IxR X (rIxT X.K):=by
 intro value slice pins s Z H x y v u Q I rx ry h hs
 obtain⟨p,xs,i,z,rfl,rfl,hq,he,q⟩:=h
 cases rx
 obtain⟨t,rfl⟩:=ry
 obtain⟨its,r,pl,hz⟩:=I.tuple hq
 obtain⟨j,h1,h2,h3,h4,h5⟩:=atI_get he
 obtain⟨w,ew,rw'⟩:=r.get h2
 have hl:=r.length
 have hn:=line63
 have fin:EP X pins Z Q w s:=⟨z,H,I,rw',q⟩
 exact subscriptTail_builtinR (x:=w) pl.typeIs slot_tuple_getitem.lookup
  (getItem_tuple (j:=j) (Q:=λr s'=>r=w/\EP X pins Z Q r s') pl (by omega) (by omega) (by rw [List.size_toArray,<- hl]; exact h1) (by simpa using ew) ⟨rfl,fin⟩) hs
def mapSeq_set(its:List Value)(n j:Nat)(u:Value):Obj.mapSeq (·.setIfInBounds j u) { cls:=.type "list",data:=.seq its.toArray n }={ cls:=.type "list",data:=.seq (its.set j u).toArray n }:=by
 simp [Obj.mapSeq]
theorem Inv.lst{pins:List (Addr × Obj)}{Z:St}{H:Hp}{s:Shared}{p:Addr}{xs:List V}(I:Inv X pins Z H s)(h:H p=some (.lst xs)) :
  ∃ (its:List Value) (n:Nat),Vals xs its/\s.heap.get? p=some { cls:=.type "list",data:=.seq its.toArray n }/\xs.length<=sizeLine:=by
 obtain⟨z,its,n,r,e⟩:=I.hok p _ h
 exact⟨its,n,r,e,z⟩
def Inv.lstUpd{pins:List (Addr × Obj)}{Z:St}{H:Hp}{s:Shared}{p:Addr}{xs ys:List V}{its its':List Value}{n n':Nat}{f:Obj->Obj}(I:Inv X pins Z H s)(h:H p=some (.lst xs))
  (ho:s.heap.get? p=some { cls:=.type "list",data:=.seq its.toArray n }) (hf:f { cls:=.type "list",data:=.seq its.toArray n }={ cls:=.type "list",data:=.seq its'.toArray n' }) (r:Vals ys its') (hz:ys.length<=sizeLine) (t:Nat) :
  Inv X pins Z (upd H p (.lst ys)) { s with heap:=s.heap.update p f,toks:=t }:=by
 have e:(s.heap.update p f).get? p=some { cls:=.type "list",data:=.seq its'.toArray n' }:=by
  rw [Heap.get?_update_self f ho (by rw [hf] <;> rfl),hf]
 refine I.write (x:=p) (e:=p) (by rw [h]; trivial) (.inl rfl) (λb u hb q=>(Heap.get?_update_other _ _ (Ne.symm hb)).trans q) ⟨_,e⟩ ?_
 exact⟨hz,its',n',r,e⟩
def rSetL:V->V->V->Hp->(Hp->Prop)->Prop:=λo i v H Q=>∃ p xs k j,o=.ref p/\i=.int k/\H p=some (.lst xs)/\ixN xs.length k=some j/\Q (upd H p (.lst (xs.set j v)))
def set_list:PSet X rSetL:=by
 intro pins s Z H o i v ov iv u Q I ro ri rv h
 obtain⟨p,xs,k,j,rfl,rfl,hp,hj,q⟩:=h
 cases ro
 obtain⟨t,rfl⟩:=ri
 obtain⟨its,n,r,ho,hz⟩:=I.lst hp
 obtain⟨h1,h2,h3,h4⟩:=ixN_seq hj
 have hl:=r.length
 have hn:=line63
 have I':Inv X pins Z (upd H p (.lst (xs.set j v))) { s with heap:=s.heap.update p (Obj.mapSeq (·.setIfInBounds j u)) } :=
  I.lstUpd hp ho (mapSeq_set its n j u) (r.set rv j) (by rw [List.length_set]; exact hz) s.toks
 by_cases h0:0<=k
 ·have hk:k.toNat=j:=by
   rw [seqIndex_of h0 h4] at h1
   exact Yx h1
  exact PySem.W.ki_setAt ho h0 (by omega) (by rw [YC,<- hl]; exact h4) (by rw [hk]; exact⟨_,I',q⟩)
 ·have hk:(k + (its.toArray.size:Int)).toNat=j:=by
   rw [seqIndex_neg (by omega) h3] at h1
   rw [YC,<- hl]
   exact Yx h1
  exact PySem.W.ki_setBack ho (by omega) (by rw [YC,<- hl]; exact h3) (by omega) (by rw [hk]; exact⟨_,I',q⟩)
def slice_bounds(lo hi:Option Int)(n:Nat):(sliceBounds lo hi none n).1=((HT.sIx n 0 lo:Nat):Int)/\(sliceBounds lo hi none n).2.1=((HT.sIx n n hi:Nat):Int)/\(sliceBounds lo hi none n).2.2=1:=by
 refine⟨?_,?_,rfl⟩
 ·cases lo with
  | none=>simp [sliceBounds,HT.sIx]
  | some i =>
   simp only [sliceBounds,HT.sIx,Option.getD_none,show (1:Int) > 0 by decide,if_true]
   by_cases h:i < 0
   ·simp only [h,if_true] <;> omega
   ·simp only [h,if_false] <;> omega
 ·cases hi with
  | none=>simp [sliceBounds,HT.sIx]
  | some i =>
   simp only [sliceBounds,HT.sIx,Option.getD_none,show (1:Int) > 0 by decide,if_true]
   by_cases h:i < 0
   ·simp only [h,if_true] <;> omega
   ·simp only [h,if_false] <;> omega
def slicePick_cut(its:List Value)(lo hi:Option Int):slicePick its.toArray lo hi none=((its.drop (HT.sIx its.length 0 lo)).take (HT.sIx its.length its.length hi - HT.sIx its.length 0 lo)).toArray:=by
 obtain⟨h1,h2,h3⟩:=slice_bounds lo hi its.toArray.size
 unfold slicePick
 rw [h1,h2,h3]
 simp only [sliceRange_one,pick_run,List.size_toArray] <;> rfl
def rSlL(K:PySem.W.Frag):V->Option Int->Option Int->Hp->VK->Prop:=λx lo hi H Q=>∃ a xs,x=.ref a/\SqL K H a xs/\∀ p,H p=none->Q (.ref p) (upd H p (.lst (cutV xs lo hi)))
def sl_list:SlR X (rSlL X.K):=by
 intro pins s Z H x v vl vu lo hi sl Q I rx hs pl pu h
 obtain⟨a,xs,rfl,hx,q⟩:=h
 cases rx
 obtain⟨its,r,ht,hz⟩:=I.list hx
 have hlen:=r.length
 refine⟨"list",_,slot_list_getitem.lookup,ht.isList.typeIs,?_⟩
 refine wpAny_getItem_list_slice ht.isList hs pl pu .none (by simp) ?_ (by rw [List.size_toArray] <;> omega)
 rw [slicePick_cut,<- hlen]
 refine⟨.ref s.heap.objs.size,_,I.laid (t':=s.toks) (o:=.lst (cutV xs lo hi)) (λb ob q=>Ym _ q) (Ya _) ?_,rfl,q _ (I.hok.fresh (Ya _))⟩
 exact⟨Yh (cutV_length xs lo hi) hz,_,0,(r.drop (HT.sIx xs.length 0 lo)).take (HT.sIx xs.length xs.length hi - HT.sIx xs.length 0 lo),Yv _ rfl⟩
def flatV:V->Bool
 | .non=>true
 | .bl _=>true
 | .int _=>true
 | .str _=>true
 | _=>false
def eqV:V->V->Bool
 | .non,.non=>true
 | .bl a,.bl b=>a == b
 | .bl a,.int b=>(if a then 1 else 0) == b
 | .int a,.bl b=>a == (if b then 1 else 0)
 | .int a,.int b=>a == b
 | .str a,.str b=>a == b
 | _,_=>false
def eqAt_V{A:Around}{s:Shared}{y x:V}{u v:Value}(ry:RelV y u)(rx:RelV x v)(fy:flatV y=true)(fx:flatV x=true):SeqAt.EqAt A s u v (eqV y x):=by
 cases y with
 | non =>
  cases ry
  cases x with
  | non=>cases rx; exact SeqAt.EqAt.same _
  | bl b=>cases rx; exact SeqAt.EqAt.none_bool b
  | int b=>obtain⟨t,rfl⟩:=rx; exact SeqAt.EqAt.none_int b t
  | str b=>obtain⟨t,rfl⟩:=rx; exact SeqAt.EqAt.none_str b t
  | _=>exact absurd (show false=true from fx) Yi
 | bl a =>
  cases ry
  cases x with
  | non=>cases rx; exact SeqAt.EqAt.bool_none a
  | bl b=>cases rx; exact SeqAt.EqAt.bool_bool a b
  | int b=>obtain⟨t,rfl⟩:=rx; exact SeqAt.EqAt.bool_int a b t
  | str b=>obtain⟨t,rfl⟩:=rx; exact SeqAt.EqAt.bool_str a b t
  | _=>exact absurd (show false=true from fx) Yi
 | int a =>
  obtain⟨t',rfl⟩:=ry
  cases x with
  | non=>cases rx; exact SeqAt.EqAt.int_none a t'
  | bl b=>cases rx; exact SeqAt.EqAt.int_bool a t' b
  | int b=>obtain⟨t,rfl⟩:=rx; exact SeqAt.EqAt.int_int a t' b t
  | str b=>obtain⟨t,rfl⟩:=rx; exact SeqAt.EqAt.int_str a t' b t
  | _=>exact absurd (show false=true from fx) Yi
 | str a =>
  obtain⟨t',rfl⟩:=ry
  cases x with
  | non=>cases rx; exact SeqAt.EqAt.str_none a t'
  | bl b=>cases rx; exact SeqAt.EqAt.str_bool a t' b
  | int b=>obtain⟨t,rfl⟩:=rx; exact SeqAt.EqAt.str_int a t' b t
  | str b=>obtain⟨t,rfl⟩:=rx; exact SeqAt.EqAt.str_str a t' b t
  | _=>exact absurd (show false=true from fx) Yi
 | _=>exact absurd (show false=true from fy) Yi
def call_len_seq:CallR X (.builtin "len") (λxs H Q=>∃ p ys,xs=[.ref p]/\(SqL X.K H p ys\/SqT X.K H p ys)/\Q (.int ys.length) H):=by
 intro pins s Z H xs us Q I r h
 obtain⟨p,ys,rfl,hq,q⟩:=h
 obtain⟨u,rfl,rx⟩:=vals1 r
 cases rx
 have hn:=line63
 rcases hq with hq | hq
 ·obtain⟨its,r',pl,hz⟩:=I.list hq
  have hlen:=r'.length
  exact Calls.call_len_list pl.isList (by simp only [List.size_toArray] <;> omega) ⟨.int ys.length,H,I.tok _,⟨s.toks + 1,by rw [List.size_toArray,hlen]⟩,q⟩
 ·obtain⟨its,r',pl,hz⟩:=I.tuple hq
  have hlen:=r'.length
  exact len_tuple pl (by simp only [List.size_toArray] <;> omega) ⟨.int ys.length,H,I.tok _,⟨s.toks + 1,by rw [List.size_toArray,hlen]⟩,q⟩
def call_list_of:CallR X (.type "list") (λxs H Q=>∃ p ys,xs=[.ref p]/\(SqL X.K H p ys\/SqT X.K H p ys)/\∀ l,H l=none->Q (.ref l) (upd H l (.lst ys))):=by
 intro pins s Z H xs us Q I r h
 obtain⟨p,ys,rfl,hq,q⟩:=h
 obtain⟨u,rfl,rx⟩:=vals1 r
 cases rx
 have fin:∀ (its:List Value),Vals ys its->ys.length<=sizeLine->∀ (h':Heap) (c':Nat),(∀ b o',s.heap.get? b=some o'->h'.get? b=some o') ->
   h'.get? s.heap.objs.size=some { cls:=.type "list",dict:=none,data:=.seq its.toArray c',slots:=#[] }->EP X pins Z Q (.ref s.heap.objs.size) { s with heap:=h' }:=λits r' hz h' c' kp e =>
  ⟨.ref s.heap.objs.size,_,I.laid (t':=s.toks) kp (Ya _) (show ObjOk X.prog X.w _ h' _ (.lst ys) from ⟨hz,its,c',r',e⟩),rfl,q _ (I.hok.fresh (Ya _))⟩
 rcases hq with hq | hq
 ·obtain⟨its,r',pl,hz⟩:=I.list hq
  have hlen:=r'.length
  obtain⟨o,ho,hc,n,hd⟩:=pl.isList
  exact call_list_seq p (.inl rfl) ho hc hd (λh' c' kp e=>fin its r' hz h' c' kp e) (by simp only [List.size_toArray] <;> omega)
 ·obtain⟨its,r',pl,hz⟩:=I.tuple hq
  have hlen:=r'.length
  obtain⟨o,ho,hc,n,hd⟩:=pl
  exact call_list_seq p (.inr rfl) ho hc hd (λh' c' kp e=>fin its r' hz h' c' kp e) (by simp only [List.size_toArray] <;> omega)
def tyV(K:PySem.W.Frag)(T:String)(x:V)(H:Hp):Prop:=match x with
 | .str _=>T="str"
 | .int _=>T="int"
 | .ref p=>(T="list"/\∃ xs,SqL K H p xs)\/(T="tuple"/\∃ o,K.lookup p=some o/\o.cls=.type "tuple"/\o.dict=none) \/
   (T="dict"/\((∃ kvs,H p=some (.dK kvs))\/∃ kvs,H p=some (.dT kvs)))\/(T="set"/\∃ S n,H p=some (.set S n))
 | _=>False
def tyV_is{pins:List (Addr × Obj)}{Z:St}{H:Hp}{s:Shared}{T:String}{x:V}{v:Value}(I:Inv X pins Z H s)(r:RelV x v)(ty:tyV X.K T x H) :
  s.TypeIs v T/\∀ a,v=.ref a->∃ ob,s.heap.get? a=some ob/\ob.dict=none:=by
 cases x with
 | str z =>
  obtain⟨t,rfl⟩:=r
  cases (show T="str" from ty)
  exact⟨typeIs_str s z t,λ_ e=>nomatch e⟩
 | int i =>
  obtain⟨t,rfl⟩:=r
  cases (show T="int" from ty)
  exact⟨typeIs_int s i t,λ_ e=>nomatch e⟩
 | ref p =>
  cases r
  rcases ty with ⟨rfl,xs,hq⟩ | ⟨rfl,o,hk,hc,hd⟩ | ⟨rfl,hk⟩ | ⟨rfl,S,n,hk⟩
  ·obtain⟨its,_,pl,_⟩:=I.list hq
   refine⟨pl.isList.typeIs,λa e=>?_⟩
   cases e
   obtain⟨o,n,e,c,hd,_⟩:=pl
   exact⟨o,e,hd⟩
  ·refine⟨⟨o,I.kIn p o hk,hc⟩,λa e=>?_⟩
   cases e
   exact⟨o,I.kIn _ o hk,hd⟩
  ·have z:∃ o,s.heap.get? p=some o/\o.ExactDict:=by
    rcases hk with ⟨kvs,hk⟩ | ⟨kvs,hk⟩
    ·obtain⟨_,_,_,_,o,_,_,e,ex,_⟩:=I.hok p _ hk
     exact⟨o,e,ex⟩
    ·obtain⟨_,_,_,_,o,_,_,e,ex,_⟩:=I.hok p _ hk
     exact⟨o,e,ex⟩
   obtain⟨o,e,ex⟩:=z
   refine⟨⟨o,e,ex.1⟩,λa e2=>?_⟩
   cases e2
   exact⟨o,e,ex.2.1⟩
  ·obtain⟨o,_,_,_,e,ex,_⟩:=I.hok p _ hk
   refine⟨⟨o,e,ex.1⟩,λa e2=>?_⟩
   cases e2
   exact⟨o,e,ex.2.1⟩
 | _=>exact False.elim ty
def tBM(K:PySem.W.Frag)(T:String)(r:V->List V->Hp->VK->Prop)(to:TE)(t:TA):TE:=λZ H Q=>to Z H λx H1=>tyV K T x H1/\t Z H1 λxs H2=>r x xs H2 Q
variable {o e:Expr}{es:List Expr}{to:TE}{t:TA}{name:Str}{apos cpos:Pos}{T id:String}{r:V->List V->Hp->VK->Prop}
end
def MtM(X:Cx)(id:String)(r:V->List V->Hp->VK->Prop):Prop :=
 ∀ (pins:List (Addr × Obj)) (s:Shared) (Z:St) (H:Hp) (x:V) (xs:List V) (v:Value) (us:List Value) (Q:VK),Inv X pins Z H s->RelV x v->Vals xs us->r x xs H Q ->
  wpAny (model X.prog X.w) X.A (call (.builtin id) (v :: us)) (EP X pins Z Q) X.xe s
def Vals.one:∀ {x:V}{us:List Value},Vals [x] us->∃ u,us=[u]/\RelV x u
 | _,_,.cons r .nil=>⟨_,rfl,r⟩
theorem Vals.zero:∀ {us:List Value},Vals [] us->us=[]
 | _,.nil=>rfl
def Vals.dropLast{xs:List V}{us:List Value}(h:Vals xs us):Vals xs.dropLast us.dropLast:=by
 induction h with
 | nil=>exact .nil
 | cons r t ih =>
  cases t with
  | nil=>exact .nil
  | cons q t'=>exact .cons r ih
def Vals.eraseIdx:∀ {xs:List V}{us:List Value}(i:Nat),Vals xs us->Vals (xs.eraseIdx i) (us.eraseIdx i)
 | _,_,_,.nil=>.nil
 | _,_,0,.cons _ t=>t
 | _,_,i + 1,.cons r t=>.cons r (Vals.eraseIdx i t)
def Vals.reverse{xs:List V}{us:List Value}(h:Vals xs us):Vals xs.reverse us.reverse:=by
 induction h with
 | nil=>exact .nil
 | cons r t ih=>rw [List.reverse_cons,List.reverse_cons]; exact Vals.append ih (.cons r .nil)
def Vals.rep{xs:List V}{us:List Value}(h:Vals xs us):∀ k:Nat,Vals (List.replicate k xs).flatten (List.replicate k us).flatten
 | 0=>.nil
 | k + 1=>by
  rw [List.replicate_succ,List.replicate_succ,List.flatten_cons,List.flatten_cons]
  exact Vals.append h (Vals.rep h k)
def foldl_rep(its:List Value):∀ (k:Nat) (acc:List Value),
  List.foldl (λx1 x2=>x1 ++ x2) acc.toArray (List.replicate k its.toArray)=(acc ++ (List.replicate k its).flatten).toArray
 | 0,acc=>by simp
 | k + 1,acc=>by
  have e:acc.toArray ++ its.toArray=(acc ++ its).toArray:=by simp
  have e2:(acc ++ its) ++ (List.replicate k its).flatten=acc ++ (List.replicate (k + 1) its).flatten:=by
   rw [List.replicate_succ,List.flatten_cons,List.append_assoc]
  rw [<- e2,<- foldl_rep its k (acc ++ its),<- e,List.replicate_succ,List.foldl_cons]
section
variable {X:Cx}{pins:List (Addr × Obj)}{Z:St}{H:Hp}{s:Shared}{l b:Addr}{xs ys zs:List V}
theorem Inv.lset{its its':List Value}{n:Nat}{f:Array Value->Array Value}{t':Nat}(I:Inv X pins Z H s)(hH:H l=some (.lst xs))
  (e:s.heap.get? l=some { cls:=.type "list",data:=.seq its.toArray n }) (hf:f its.toArray=its'.toArray) (hv:Vals ys its') (hz:ys.length<=sizeLine) :
  Inv X pins Z (upd H l (.lst ys)) { s with heap:=s.heap.update l (Obj.mapSeq f),toks:=t' }:=by
 have q:=PySem.IsL.update e f
 rw [hf] at q
 refine I.write (x:=l) (e:=l) (by rw [hH]; exact trivial) (.inl rfl) (λb' u hb hu=>(Heap.get?_update_other s.heap (Obj.mapSeq f) (Ne.symm hb)).trans hu) ⟨_,q⟩ ?_
 exact⟨hz,its',_,hv,q⟩
def Inv.lnew{its:List Value}{t':Nat}(I:Inv X pins Z H s)(hv:Vals ys its)(hz:ys.length<=sizeLine) :
  Inv X pins Z (upd H s.heap.objs.size (.lst ys)) { s with heap:=s.heap.push { cls:=.type "list",data:=.seq its.toArray },toks:=t' } :=
 I.laid (λ_ _ q=>Ym _ q) (Ya _) ⟨hz,its,0,hv,Yv _ rfl⟩
theorem Inv.fresh(I:Inv X pins Z H s):H s.heap.objs.size=none:=I.hok.fresh (Ya _)
def Inv.lstM(I:Inv X pins Z H s)(hH:H l=some (.lst xs)):xs.length<=sizeLine/\∃ (its:List Value) (n:Nat),Vals xs its/\xs.length=its.length/\s.heap.get? l=some { cls:=.type "list",data:=.seq its.toArray n }:=by
 obtain⟨z,its,n,r,e⟩:=I.hok l _ hH
 exact⟨z,its,n,r,r.length,e⟩
def notLongL{n:Nat}(h:n<=sizeLine):Builtin.List.listTooLong n=false:=by
 unfold Builtin.List.listTooLong
 exact YE (by omega)
end
section
variable {X:Cx}
def rAppend:V->List V->Hp->VK->Prop:=λx vs H Q=>∃ l xs y,x=.ref l/\vs=[y]/\H l=some (.lst xs)/\xs.length < sizeLine/\Q .non (upd H l (.lst (xs ++ [y])))
def mt_append:MtM X "list.append" rAppend:=by
 intro pins s Z H x vs v us Q I rx rv h
 obtain⟨l,xs,y,rfl,rfl,hH,hz,q⟩:=h
 cases rx
 obtain⟨u,rfl,ru⟩:=rv.one
 obtain⟨z,its,n,r,hl,e⟩:=I.lstM hH
 refine call_meets F.slot_list_append ⟨_,e,rfl⟩ F.entry_list_append (F.args_list_append_2 _ _) (PySem.list_append l its.toArray n u (by rw [YC]; omega)) ⟨e,?_⟩
 refine⟨.non,_,I.lset (its':=its ++ [u]) hH e (by simp) (r.append (.cons ru .nil)) ?_,rfl,q⟩
 rw [YG,List.length_singleton]
 omega
def rExtend:V->List V->Hp->VK->Prop:=λx vs H Q=>∃ l b xs zs,x=.ref l/\vs=[.ref b]/\H l=some (.lst xs)/\H b=some (.lst zs)/\xs.length + zs.length<=sizeLine/\Q .non (upd H l (.lst (xs ++ zs)))
def rPop:V->List V->Hp->VK->Prop:=λx vs H Q=>∃ l xs y,x=.ref l/\vs=[]/\H l=some (.lst xs)/\xs[xs.length - 1]?=some y/\Q y (upd H l (.lst xs.dropLast))
def rReverse:V->List V->Hp->VK->Prop:=λx vs H Q=>∃ l xs,x=.ref l/\vs=[]/\H l=some (.lst xs)/\Q .non (upd H l (.lst xs.reverse))
def rClear:V->List V->Hp->VK->Prop:=λx vs H Q=>∃ l xs,x=.ref l/\vs=[]/\H l=some (.lst xs)/\Q .non (upd H l (.lst []))
def rCat:R2:=λx y H Q=>∃ l b xs zs,x=.ref l/\y=.ref b/\H l=some (.lst xs)/\H b=some (.lst zs)/\xs.length + zs.length<=sizeLine/\∀ p,H p=none->Q (.ref p) (upd H p (.lst (xs ++ zs)))
def op_cat:OpR X (binaryOp .Add) rCat:=by
 intro pins s Z H x y v u Q I rx ry h
 obtain⟨l,b,xs,zs,rfl,rfl,hH,hB,hz,q⟩:=h
 cases rx
 cases ry
 obtain⟨z,its,n,r,hl,e⟩:=I.lstM hH
 obtain⟨z2,its2,n2,r2,hl2,e2⟩:=I.lstM hB
 refine PySem.P.add_list e e2 ?_ (by rw [YC,YC]; omega)
 have ea:its.toArray ++ its2.toArray=(its ++ its2).toArray:=by simp
 rw [ea]
 exact⟨.ref _,_,I.lnew (t':=s.toks) (r.append r2) (by rw [YG]; omega),rfl,q _ I.fresh⟩
def rRep:R2:=λx y H Q=>∃ l k xs,x=.ref l/\y=.int k/\H l=some (.lst xs)/\-(2 ^ 63)<=k/\k < 2 ^ 63/\xs.length * k.toNat<=sizeLine /\
 ∀ p,H p=none->Q (.ref p) (upd H p (.lst (List.replicate k.toNat xs).flatten))
def len_rep{α:Type}(xs:List α)(k:Nat):(List.replicate k xs).flatten.length=k * xs.length:=by
 induction k with
 | zero=>simp
 | succ k ih=>rw [List.replicate_succ,List.flatten_cons,YG,ih,Nat.succ_mul,Nat.add_comm]
def op_rep:OpR X (binaryOp .Mult) rRep:=by
 intro pins s Z H x y v u Q I rx ry h
 obtain⟨l,k,xs,rfl,rfl,hH,h1,h2,hz,q⟩:=h
 cases rx
 obtain⟨t,rfl⟩:=ry
 obtain⟨z,its,n,r,hl,e⟩:=I.lstM hH
 have hlen:its.toArray.size * k.toNat<=sizeLine:=by rw [YC,<- hl]; exact hz
 have hcap:¬ its.toArray.size * k.toNat > (2 ^ 63 - 1) / 8:=by
  have:(sizeLine:Nat)<=(2 ^ 63 - 1) / 8:=by decide
  omega
 have hfit:¬ (!Builtin.List.listFitsIndex k)=true:=by
  rw [fitsIndex_both h1 h2]
  exact Yi
 have hlong:¬ Builtin.List.listTooLong (its.toArray.size * k.toNat)=true:=by
  rw [notLongL hlen]
  exact Yi
 have hnew:List.foldl (λx1 x2=>x1 ++ x2) #[] (List.replicate (if its.toArray.isEmpty=true then 0 else k.toNat) its.toArray)=(List.replicate k.toNat its).flatten.toArray:=by
  have f0:∀ m:Nat,List.foldl (λx1 x2=>x1 ++ x2) #[] (List.replicate m its.toArray)=(List.replicate m its).flatten.toArray:=λm=>by
   have:=foldl_rep its m []
   rw [List.nil_append] at this
   exact this
  rw [f0]
  cases its with
  | nil=>simp
  | cons a r'=>rw [if_neg (by simp)]
 refine wpAny_binaryOp_repeat_ref (T:="list") (U:="int") (by decide) ⟨_,e,rfl⟩ (λs'=>typeIs_int s' k t) noFill_list_mul F.fills_int_mul F.slot_int_rmul repeat_list F.slot_int_index.lookup
  (call_meets F.slot_int_rmul (typeIs_int s k t) F.entry_int_rmul (F.args_int_rmul_2 _ _) (int___rmul___int_list k t l its.toArray n)
   ⟨e,rfl,⟨_,e,rfl⟩,call_meets F.slot_list_mul ⟨_,e,rfl⟩ F.entry_list_mul (F.args_list_mul_2 _ _) (AutoListH.list___mul___list_int_3 l its.toArray n k t hfit hcap hlong) ⟨e,?_⟩⟩)
 rw [hnew]
 exact⟨.ref _,_,I.lnew (t':=s.toks) (r.rep k.toNat) (by rw [len_rep,Nat.mul_comm]; exact hz),rfl,q _ I.fresh⟩
end
section
variable {prog:Program}{w:World}{A:Around}{E:VSP}{s:Shared}
end
section
variable {X:Cx}
end
end L2
namespace Att
open PySem PySem.W PySem.Calls PyProof.Rows
def ints_of_wellAll{P:Params}{h:Heap}:∀ (ns:List Int) (vs:List Value),WellAll P h vs (ns.map WData.int)->IntsAre vs ns:=by
 intro ns
 induction ns with
 | nil =>
  intro vs w
  rw [List.map_nil] at w
  cases w
  exact .nil
 | cons n ns ih =>
  intro vs w
  rw [Yr] at w
  cases w with
  | cons a b =>
   cases a
   exact .cons _ _ (ih _ b)
def script_of{l:OpenLaw}{n:Nat}(hn:l.most=some n){P:Params}{h:Heap}{args:List WData}{vals:List Value}
  (hpre:l.row.toRowW.claim.pre args=true) (hwl:WellAll P h vals args) :
  ∃ a vs ns,vals=[Value.ref a]/\args=[WData.list (ns.map WData.int)]/\h.get? a=some { cls:=.type "list",data:=.seq vs.toArray }/\IntsAre vs ns/\ns.length<=n:=by
 have hsh:WShape.hasAll [] args [.list .int]=true:=(pre_splitW hpre).1
 have hc:l.pre.holds [] { args:=args }=true:=(pre_splitW hpre).2
 obtain⟨d,r,rfl,h1,h2⟩:=hasAllW_cons hsh
 obtain rfl:=hasAllW_nil h2
 obtain⟨xs,rfl,h3⟩:=hasW_list h1
 obtain⟨ns,rfl⟩:=items_int h3
 have hlen:ns.length<=n:=by
  unfold OpenLaw.pre at hc
  have h4:(WTm.not (.lt (.lit (.int (n:Int))) (.len (.arg 0)))).holds [] { args:=[.list (ns.map .int)] }=true:=by
   have h4:=(holds_andW hc).1
   rw [hn] at h4
   exact h4
  have h5:=condW_of h4 (w_not (w_lt w_lit (w_len_list (w_arg rfl))))
  rw [Yy] at h5
  refine Nat.le_of_not_lt λq=>?_
  have q':(n:Int) < ((ns.length:Nat):Int):=by omega
  first
   | (rw [Yz q'] at h5; exact absurd h5 (by decide))
   | (simp at h5; omega)
 cases hwl with
 | cons w1 w2 =>
  cases w2
  cases w1 with
  | list ho hall=>exact⟨_,_,ns,rfl,rfl,ho,ints_of_wellAll ns _ hall,hlen⟩
def post_true(l:OpenLaw)(args:List WData):l.row.toRowW.claim.post args (.bool true) args=true :=
 postW_of (r:=l.row.toRowW) (X:=(true == true))
  (show WShape.has [] (.bool true) .bool=true by first | rfl | decide | simp [WShape.has,WShape.arms,WShape.armsAll])
  (show (WTm.eq .res (.lit (.bool true))).value [] { args:=args,res:=some (.bool true),after:=args }=some (.bool (true == true)) from w_eq_bool (w_res rfl) w_lit) rfl
def attach_call{l:OpenLaw}{n:Nat}{q:Program}{loose:List Str}{XP:(Str->Option Value)->Heap->Prop}{YP:World->Heap->Prop}{d:DefRec}
  (hn:l.most=some n) (hdf:d.params.defaults=[])
  (call:∀ (w:World) (s₀ s₁:Shared) (mg mb:Str->Option Value) (fa:Addr) (o:Obj) (pm cd doc:Value) (a:Addr) (vs:List Value) (ns:List Int),
   Ground q loose [] XP w s₀ mg mb s₁.heap->YP w s₁.heap ->
   s₁.heap.get? fa=some o->o.data=.func (docDef d.name d.params d.body d.scope pm cd doc)->s₁.heap.CodeRec cd d.name->mg d.name=some (.ref fa) ->
   s₁.heap.get? a=some { cls:=.type "list",data:=.seq vs.toArray }->IntsAre vs ns->ns.length<=n->s₁.gens=#[] ->
   codeAny (model l.prog w) callerA (.call (.ref fa) ⟨[.ref a],[]⟩) (λr s'=>r=.ok (.ret (.bool true))/\OldK s₁.heap s'.heap/\s'.os=s₁.os/\AllBare s'.gens) s₁) :
  WalkO q loose XP YP l.row.toRowW d [] (λf vs=>PySem.call f vs):=by
 intro w s₀ s₁ mg mb G Y fa o pm cd doc dV kV ho hd hcd hD hmg hg args vals as hpre hlay hrd hwl hlo
 obtain rfl:dV=.none:=Dflts.none hD hdf
 obtain rfl:kV=.none:=Dflts.noKw hD
 obtain⟨a,vs,ns,rfl,rfl,hobj,hints,hlen⟩:=script_of hn hpre hwl
 refine enter_call (YR (call w s₀ s₁ mg mb fa o pm cd doc a vs ns G Y ho (fd_plain hd) hcd hmg hobj hints hlen hg) λr s' hq=>?_)
 obtain⟨rfl,h2,h3,h4⟩:=hq
 exact⟨.inl ⟨.bool true,.bool true,[],rfl,λ_=>rfl,.bool true,post_true l _,λ_=>⟨List.Pairwise.nil,λ_ hm=>(nomatch hm)⟩⟩,h2,h3,h4⟩
section
variable {prog:Program}{w:World}{A:Around}{E:VSP}{s:Shared}{K:Frag}
end
end Att
namespace L2
open PySem PySem.Spec PyProof.Rows
def vals_ints:∀ {vs:List Value}{ns:List Int},IntsAre vs ns->Vals (ns.map V.int) vs
 | _,_,.nil=>.nil
 | _,_,.cons n t h=>.cons ⟨t,rfl⟩ (vals_ints h)
def Only(H:Hp):Prop:=∀ b,H b=none\/∃ o xs,H b=some (.frz o (.lst xs))
def law_call{P:Program}{w:World}{K:PySem.W.Frag}{mg mb:Str->Option Value}{CX:CXT}{k:Nat}{fa a:Addr}{fd:FuncData}{x:Str}{sp:Sp}{s₁:Shared}{vs:List Value}{ns:List Int}
  (KX:K.In s₁.heap) (hns:s₁.heap.Ns mainGlobals mg) (hb:s₁.heap.Ns builtinsNs mb) (hbb:∀ x:Str,x ≠ "__name__"->mb x=bootBuiltins x) (hlim:s₁.heap.NoLimit) (hg:s₁.gens=#[])
  (ha:s₁.heap.get? a=some { cls:=.type "list",data:=.seq vs.toArray }) (hi:IntsAre vs ns) (hl:ns.length<=sizeLine) (hr:Room k callerA)
  (F:∀ base:Heap,K.In base->base.Ns mainGlobals mg->FnOk P w K mg base CX k fa fd [x] sp) (hbind:∀ (s:Shared) (u:Value),BindsTo s fd ⟨[u],[]⟩ [(x,u)])
  (hsp:∀ H:Hp,Only H->SqL K H a (ns.map V.int)->sp [.ref a] H (λv _=>v=.bl true) λ_ _ _=>False)
  (hCX:∀ H e s',CX [] H s₁ (λ_ _ _=>False) e s'->False) :
  codeAny (model P w) callerA (.call (.ref fa) ⟨[.ref a],[]⟩) (λr s'=>r=.ok (.ret (.bool true))/\OldK s₁.heap s'.heap/\s'.os=s₁.os/\AllBare s'.gens) s₁:=by
 have rv:=vals_ints hi
 have lenV:=hi.length
 -- from an abstract heap in which nothing but the script may be tracked
 have core:∀ H:Hp,Only H->SqL K H a (ns.map V.int)->HOk P w H s₁.heap->(∀ b,H b ≠ none->b=a)->(H a ≠ none->K.lookup a=none) ->
   codeAny (model P w) callerA (.call (.ref fa) ⟨[.ref a],[]⟩) (λr s'=>r=.ok (.ret (.bool true))/\OldK s₁.heap s'.heap/\s'.os=s₁.os/\AllBare s'.gens) s₁:=by
  intro H hO hS hok hA hK
  have base_of:∀ {b:Addr}{o:Obj},s₁.heap.get? b=some o->H b=none->(hidT s₁.heap H).get? b=some o:=λe n=>hidT_get e n
  have noA:∀ {b:Addr}{o:Obj}{es:Array DictEntry}{ep:Nat},s₁.heap.get? b=some o->o.data=.dict es ep->H b=none:=λ{b o es ep} e d=>by
   cases q:H b with
   | none=>rfl
   | some u =>
    have e':b=a:=hA b (by rw [q]; simp)
    subst e'
    rw [ha] at e; cases e
    have d':Data.seq vs.toArray _=Data.dict es ep:=d
    cases d'
  have nsK:∀ {b:Addr}{m:Str->Option Value},s₁.heap.Ns b m->(hidT s₁.heap H).Ns b m:=λ{b m} ⟨o,es,ep,e,d,r⟩=>⟨o,es,ep,base_of e (noA e d),d,r⟩
  have hKb:K.In (hidT s₁.heap H):=λb o e=>base_of (KX b o e) (by
   cases q:H b with
   | none=>rfl
   | some u =>
    have e':b=a:=hA b (by rw [q]; simp)
    subst e'
    rw [hK (by rw [q]; simp)] at e; cases e)
  have hM:Mod K mg (hidT s₁.heap H):=⟨hKb,nsK hns,⟨mb,nsK hb,hbb⟩,let ⟨mc,h1,h2⟩:=hlim; ⟨mc,nsK h1,h2⟩⟩
  have e0:Env0 P w K mg (hidT s₁.heap H) callerA [] s₁ H:=⟨rfl,hM,λb o e=>of_hidT e,Nat.le_of_eq (hidT_size _ _),trivial,λb hb=>absurd (show b∈([]:List Addr) from hb) (by simp),hok,.of_eq hg⟩
  refine YR ((F _ hKb (nsK hns)).run callerA [] s₁ H ⟨[.ref a],[]⟩ [.ref a] [.ref a] _ _ hr e0 (hbind s₁ (.ref a)) (.cons rfl .nil) (hsp H hO hS)) λr s' h=>?_
  cases r with
  | error e=>exact (hCX H e s' h).elim
  | ok fl =>
   cases fl with
   | next=>exact False.elim h
   | brk=>exact False.elim h
   | cont=>exact False.elim h
   | ret u =>
    obtain⟨v,H',os,bare,un,hok',r',q⟩:=h
    have q':v=.bl true:=q
    subst q'
    obtain rfl:u=Value.bool true:=r'
    refine⟨rfl,OldK.of_keep λb o e=>?_,os,bare⟩
    cases q:H b with
    | none=>exact un.keep b o e q (by intro z; exact absurd (show b∈([]:List Addr) from z) (by simp)) (by simp)
    | some u =>
     rcases hO b with z | ⟨ob,xs,z⟩
     ·rw [q] at z; cases z
     ·have z2:=un.frzs b ob _ z
      obtain⟨e1,_⟩:=hok b _ z
      obtain⟨e2,_⟩:=hok' b _ z2
      rw [e] at e1; cases e1
      exact e2
 cases hk:K.lookup a with
 | some o =>
  -- the script is one of the module's own objects
  have e:=KX a o hk
  rw [ha] at e
  cases e
  refine core (λ_=>none) (λ_=>.inl rfl) (.inr ⟨_,vs.toArray,_,hk,rfl,rfl,rfl,by rw [List.size_toArray,lenV]; exact hl,by simpa using rv⟩) (λb u z=>by have z':(none:Option HO)=some u:=z; cases z') (λb z=>absurd rfl z) λz=>absurd rfl z
 | none =>
  refine core (λb=>if b=a then some (.frz { cls:=.type "list",data:=.seq vs.toArray } (.lst (ns.map V.int))) else none) (λb=>?_) (.inl (.inr ⟨{ cls:=.type "list",data:=.seq vs.toArray },if_pos rfl⟩)) (λb u z=>?_) (λb z=>?_) λ_=>hk
  ·by_cases hb:b=a
   ·exact .inr ⟨_,_,if_pos hb⟩
   ·exact .inl (if_neg hb)
  ·by_cases hb:b=a
   ·have z':=(if_pos hb).symm.trans z
    cases z'
    subst hb
    exact⟨ha,by rw [Yy]; exact hl,vs,_,rv,ha⟩
   ·have z':=(if_neg hb).symm.trans z
    cases z'
  ·by_cases hb:b=a
   ·exact hb
   ·exact absurd (if_neg hb) z
def walk_of{l:PySem.W.OpenLaw}{n k:Nat}{q:Program}{loose:List Str}{XP:(Str->Option Value)->Heap->Prop}{YP:World->Heap->Prop}{d:DefRec}{K:Params->PySem.W.Frag}{CX:World->CXT}{sp:World->Sp}{x:Str}
  (hn:l.most=some n) (hn2:n<=sizeLine) (hdf:d.params.defaults=[]) (hr:Room k callerA)
  (hY:∀ (w:World) (h:Heap),YP w h->(K w.params).In h)
  (F:∀ (w:World) (mg:Str->Option Value) (fa:Addr) (h:Heap),(K w.params).In h->h.Ns mainGlobals mg->mg d.name=some (.ref fa) ->
   ∃ fd:FuncData,(∀ (s:Shared) (u:Value),BindsTo s fd ⟨[u],[]⟩ [(x,u)]) /\
    ∀ base:Heap,(K w.params).In base->base.Ns mainGlobals mg->FnOk l.prog w (K w.params) mg base (CX w) k fa fd [x] (sp w))
  (hsp:∀ (w:World) (H:Hp) (a:Addr) (ns:List Int),ns.length<=n->Only H->SqL (K w.params) H a (ns.map V.int)->sp w [.ref a] H (λv _=>v=.bl true) λ_ _ _=>False)
  (hCX:∀ (w:World) (H:Hp) (s:Shared) (e:Value) (s':Shared),CX w [] H s (λ_ _ _=>False) e s'->False) :
  PySem.W.WalkO q loose XP YP l.row.toRowW d [] (λf vs=>PySem.call f vs):=by
 refine Att.attach_call hn hdf λw s₀ s₁ mg mb fa o pm cd doc a vs ns G Y ho hd hcd hmg hobj hints hlen hg=>?_
 have KX:=hY w _ Y
 obtain⟨fd,hb,hF⟩:=F w mg fa _ KX G.T.g hmg
 exact law_call KX G.T.g G.T.b G.T.builtins G.T.nolimit hg hobj hints (Yh hlen hn2) hr hF hb (λH hO hS=>hsp w H a ns hlen hO hS) λH e s'=>hCX w H s₁ e s'
def walk_ofK{l:PySem.W.OpenLaw}{n k:Nat}{q:Program}{loose:List Str}{XP:(Str->Option Value)->Heap->Prop}{YP:World->Heap->Prop}{d:DefRec}{K:Params->PySem.W.Frag}{CX:CXT}{sp:PySem.W.Frag->Sp}{x:Str}
  (hn:l.most=some n) (hn2:n<=sizeLine) (hdf:d.params.defaults=[]) (hr:Room k callerA)
  (hY:∀ (w:World) (h:Heap),YP w h->(K w.params).In h)
  (F:∀ (w:World) (mg:Str->Option Value) (fa:Addr) (h:Heap),(K w.params).In h->h.Ns mainGlobals mg->mg d.name=some (.ref fa) ->
   ∃ fd:FuncData,(∀ (s:Shared) (u:Value),BindsTo s fd ⟨[u],[]⟩ [(x,u)]) /\
    ∀ base:Heap,(K w.params).In base->base.Ns mainGlobals mg->FnOk l.prog w (K w.params) mg base CX k fa fd [x] (sp (K w.params)))
  (hsp:∀ (K:PySem.W.Frag) (H:Hp) (a:Addr) (ns:List Int),ns.length<=n->Only H->SqL K H a (ns.map V.int)->sp K [.ref a] H (λv _=>v=.bl true) λ_ _ _=>False)
  (hCX:∀ (H:Hp) (s:Shared) (e:Value) (s':Shared),CX [] H s (λ_ _ _=>False) e s'->False) :
  PySem.W.WalkO q loose XP YP l.row.toRowW d [] (λf vs=>PySem.call f vs) :=
 walk_of (K:=K) (CX:=λ_=>CX) (sp:=λw=>sp (K w.params)) hn hn2 hdf hr hY F (λw H a ns h1 h2 h3=>hsp (K w.params) H a ns h1 h2 h3) λ_ H s e s'=>hCX H s e s'
def inClass(s:Stmt)(j:Nat):Stmt:=match s with
 | .ClassDef _ _ _ body _ _ _ _ _ _ _=>body.getD j (.Pass ⟨0,0,0,0⟩)
 | _=>.Pass ⟨0,0,0,0⟩
def defArgs(s:Stmt):Arguments:=match s with
 | .FunctionDef _ a _ _ _ _ _ _ _ _=>a
 | _=>{ posonlyargs:=[],args:=[],vararg:=none,kwonlyargs:=[],kw_defaults:=[],kwarg:=none,defaults:=[] }
def defBody(s:Stmt):List Stmt:=match s with
 | .FunctionDef _ _ b _ _ _ _ _ _ _=>b
 | _=>[]
def defScope(s:Stmt):Scope:=match s with
 | .FunctionDef _ _ _ _ _ _ sc _ _ _=>sc
 | _=>{ kind:=.function,names:=[],isGenerator:=false,isCoroutine:=false }
abbrev CX0:CXT:=λ_ _ _ _ _ _=>False
abbrev E0:XK:=λ_ _ _=>False
def pass0{X:Cx}:Passes CX0 X E0:=λ_ _ _ _ _ _ _ h=>h.elim
structure Fun(K:PySem.W.Frag)(x qual:Str)(st:Stmt)(f:Addr)(fd:FuncData):Prop where
 ex:∃ (oc:Value) (od:Option Addr) (kV doc pm:Value) (an:Option Addr) (cdv ct:Value) (osl:Array (Option Value)),
  fd=fnOf x qual (defArgs st) (defBody st) (defScope st) .none kV doc pm an cdv ct/\K.lookup f=some ⟨oc,od,.func fd,osl⟩/\codeIn K cdv qual=true
 kp:keepIn K (.ref f)=true
section
variable {P:Program}{w:World}{K:PySem.W.Frag}{mg:Str->Option Value}{base:Heap}
theorem Fun.ok{x qual:Str}{st:Stmt}{f:Addr}{fd:FuncData}{N ps:List Str}{k:Nat}{sp:Sp}(F:Fun K x qual st f fd)(S:FnScope N ps (defScope st))(len:∀ vs H Q E,sp vs H Q E->vs.length=ps.length)
  (hbody:∀ (cdv:Value) (A:Around) (outer:List Env) (s:Shared) (H:Hp) (vs:List V) (Q:VK) (E:XK),Room k (A.deeper (envOfC qual (defScope st) s.heap.objs.size f cdv))->sp vs H Q E ->
   ∃ t,PSs (cxOf CX0 P w K mg base N qual (defScope st) f cdv A outer s H E).nox (defBody st) t/\t { nx:=λ_ H'=>Q .non H',rt:=Q } (start N vs) H):FnOk P w K mg base CX0 (k + 1) f fd ps sp:=by
 obtain⟨oc,od,kV,doc,pm,an,cdv,ct,osl,rfl,lk,hcd⟩:=F.ex
 refine fn_of lk hcd S len λA outer s H vs Q E hr hsp=>?_
 obtain⟨t,h,q⟩:=hbody cdv A outer s H vs Q E hr hsp
 exact⟨t,h.nox,q⟩
def Fun.binds{x qual:Str}{st:Stmt}{f:Addr}{fd:FuncData}{ps:List Str}(F:Fun K x qual st f fd)
  (h:∀ (kV doc pm:Value) (an:Option Addr) (cdv ct:Value) (us:List Value),us.length=ps.length->bindArgs (fnOf x qual (defArgs st) (defBody st) (defScope st) .none kV doc pm an cdv ct) ⟨us,[]⟩=pure (ps.zip us)):Binds K fd ps []:=by
 obtain⟨oc,od,kV,doc,pm,an,cdv,ct,osl,rfl,lk,hcd⟩:=F.ex
 exact .all (h kV doc pm an cdv ct)
def fun_mk{x qual:Str}{st:Stmt}{f:Addr}{oc:Value}{od an:Option Addr}{osl:Array (Option Value)}{kV doc pm cdv ct:Value}(l:K.lookup f=some ⟨oc,od,.func (fnOf x qual (defArgs st) (defBody st) (defScope st) .none kV doc pm an cdv ct),osl⟩)
  (c:codeIn K cdv qual=true) (k:keepIn K (.ref f)=true):Fun K x qual st f (fnOf x qual (defArgs st) (defBody st) (defScope st) .none kV doc pm an cdv ct):=⟨⟨oc,od,kV,doc,pm,an,cdv,ct,osl,rfl,l,c⟩,k⟩
end
def small1000{n:Nat}(h:n<=1000):n < sizeLine:=Ye h (by decide)
section
variable {X:Cx}
theorem pv(i:Nat){x:Str}{pos:Pos}(hN:X.N[i]?=some x:=by rfl)(hv:Vis X.env.scope x:=by first | exact Or.inl rfl | exact Or.inr (Or.inl rfl) | exact Or.inr (Or.inr rfl))(hd:(x == ("__debug__":Str))=false:=by decide)
  (hcd:(x == ("__classdict__":Str))=false:=by decide):PE X (.Name x pos) (tVar i):=pe_var hN hv hd hcd
end
def ite2{c A B:Prop}[Decidable c](h1:c->A)(h2:¬ c->B):if c then A else B:=by
 by_cases h:c
 ·rw [if_pos h]
  exact h1 h
 ·rw [if_neg h]
  exact h2 h
def Same(H H':Hp):Prop:=∀ b o,H b=some o->H' b=some o
def Same.refl(H:Hp):Same H H:=λ_ _ h=>h
theorem Same.trans{H H1 H2:Hp}(a:Same H H1)(b:Same H1 H2):Same H H2:=λc o h=>b c o (a c o h)
theorem Same.free{H H':Hp}(e:Same H H'){l:Addr}(h:H' l=Option.none):H l=Option.none:=by
 cases q:H l with
 | none=>rfl
 | some o =>
  rw [e l o q] at h
  cases h
def Same.seq{K:PySem.W.Frag}{H H':Hp}{a:Addr}{xs:List V}(e:Same H H')(h:SqL K H a xs):SqL K H' a xs:=by
 rcases h with (h | ⟨o,h⟩) | h
 ·exact .inl (.inl (e _ _ h))
 ·exact .inl (.inr ⟨o,e _ _ h⟩)
 ·exact .inr h
section
variable {κ:Type}[DecidableEq κ]
def valV(kvs:List (κ × V))(k:κ):Option V:=(kvs.find? λkv=>decide (kv.1=k)).map (·.2)
def putK(kvs:List (κ × V))(k:κ)(v:V):List (κ × V) :=
 if (kvs.any λkv=>decide (kv.1=k))=true then kvs.map (λkv=>if kv.1=k then (kv.1,v) else kv) else kvs ++ [(k,v)]
def dropK(kvs:List (κ × V))(k:κ):List (κ × V):=kvs.filter λkv=>decide (kv.1 ≠ k)
theorem valV_pos{p:κ × V}{r:List (κ × V)}{k:κ}(e:p.1=k):valV (p :: r) k=some p.2:=by simp [valV,List.find?_cons,e]
theorem valV_neg{p:κ × V}{r:List (κ × V)}{k:κ}(e:¬ p.1=k):valV (p :: r) k=valV r k:=by simp [valV,List.find?_cons,e]
def valV_any(k:κ):∀ kvs:List (κ × V),(kvs.any λkv=>decide (kv.1=k))=(valV kvs k).isSome
 | []=>rfl
 | p :: r=>by
  rw [List.any_cons]
  by_cases e:p.1=k
  ·simp only [valV_pos e,decide_eq_true e,Bool.true_or,Option.isSome_some]
  ·rw [valV_neg e,YE e,Bool.false_or]; exact valV_any k r
def RelO.isSome_eq{o:Option V}{u:Option Value}(r:RelO o u):o.isSome=u.isSome:=by
 cases o with
 | none=>cases u with
  | none=>rfl
  | some _=>exact (show False from r).elim
 | some _=>cases u with
  | none=>exact (show False from r).elim
  | some _=>rfl
theorem RelO.getD{o:Option V}{u:Option Value}{d:V}{d':Value}(r:RelO o u)(rd:RelV d d'):RelV (o.getD d) (u.getD d'):=by
 cases o with
 | none=>cases u with
  | none=>exact rd
  | some _=>exact (show False from r).elim
 | some _=>cases u with
  | none=>exact (show False from r).elim
  | some _=>exact r
def KV.val{kvs:List (κ × V)}{vs:List (κ × Value)}(r:KV kvs vs)(k:κ):RelO (valV kvs k) (valueAt vs k):=by
 unfold KV at r
 induction r with
 | nil=>exact True.intro
 | @cons p q ps qs h t ih =>
  obtain⟨h1,h2⟩:=h
  by_cases e:p.1=k
  ·have e':q.1=k:=h1.symm.trans e
   have b:valueAt (q :: qs) k=some q.2:=by simp [valueAt,List.find?_cons,e']
   rw [valV_pos e,b]; exact h2
  ·have e':¬ q.1=k:=λz=>e (h1.trans z)
   have b:valueAt (q :: qs) k=valueAt qs k:=by simp [valueAt,List.find?_cons,e']
   rw [valV_neg e,b]; exact ih
theorem KV.any{kvs:List (κ × V)}{vs:List (κ × Value)}(r:KV kvs vs)(k:κ):(kvs.any λkv=>decide (kv.1=k))=vs.any λkv=>decide (kv.1=k):=by
 unfold KV at r
 induction r with
 | nil=>rfl
 | cons h t ih=>rw [List.any_cons,List.any_cons,ih,h.1]
def KV.repl{kvs:List (κ × V)}{vs:List (κ × Value)}(r:KV kvs vs)(k:κ){y:V}{u:Value}(ry:RelV y u) :
  KV (kvs.map λkv=>if kv.1=k then (kv.1,y) else kv) (vs.map λkv=>if kv.1=k then (kv.1,u) else kv):=by
 unfold KV at r ⊢
 induction r with
 | nil=>exact .nil
 | @cons p q ps qs h t ih =>
  rw [Yr,Yr]
  refine .cons ?_ ih
  obtain⟨h1,h2⟩:=h
  by_cases e:p.1=k
  ·rw [if_pos e,if_pos (h1.symm.trans e)]; exact⟨h1,ry⟩
  ·rw [if_neg e,if_neg (λz=>e (h1.trans z))]; exact⟨h1,h2⟩
def KV.put{kvs:List (κ × V)}{vs:List (κ × Value)}(r:KV kvs vs)(k:κ){y:V}{u:Value}(ry:RelV y u):KV (putK kvs k y) (stored vs k u):=by
 unfold putK stored
 rw [r.any k]
 by_cases e:(vs.any λkv=>decide (kv.1=k))=true
 ·rw [if_pos e,if_pos e]; exact r.repl k ry
 ·rw [if_neg e,if_neg e]; exact Paired.snoc r ⟨rfl,ry⟩
def KV.drop{kvs:List (κ × V)}{vs:List (κ × Value)}(r:KV kvs vs)(k:κ):KV (dropK kvs k) (without vs k):=by
 unfold KV at r ⊢
 unfold dropK without
 induction r with
 | nil=>exact .nil
 | @cons p q ps qs h t ih =>
  obtain⟨h1,h2⟩:=h
  rw [List.filter_cons,List.filter_cons]
  by_cases e:p.1=k
  ·have a:¬ decide (p.1 ≠ k)=true:=by simp [e]
   have b:¬ decide (q.1 ≠ k)=true:=by simp [h1.symm.trans e]
   rw [if_neg a,if_neg b]; exact ih
  ·have e':¬ q.1=k:=λz=>e (h1.trans z)
   have a:decide (p.1 ≠ k)=true:=by simp [e]
   have b:decide (q.1 ≠ k)=true:=by simp [e']
   rw [if_pos a,if_pos b]; exact .cons ⟨h1,h2⟩ ih
def KV.keys{kvs:List (κ × V)}{vs:List (κ × Value)}(r:KV kvs vs):kvs.map (·.1)=vs.map (·.1):=by
 unfold KV at r
 induction r with
 | nil=>rfl
 | cons h t ih=>rw [Yr,Yr,ih,h.1]
theorem KV.length{kvs:List (κ × V)}{vs:List (κ × Value)}(r:KV kvs vs):kvs.length=vs.length:=Paired.length r
end
abbrev KT(H:Hp):List (List Key × V)->List (List Key × Addr × Value)->Prop:=Paired λp q=>p.1=q.1/\H q.2.1=some (.tup (p.1.map kV))/\RelV p.2 q.2.2
variable {xs:List (List Key × Addr × Value)}
def KT.val{H:Hp}{kvs:List (List Key × V)}(r:KT H kvs xs)(k:List Key):RelO (valV kvs k) ((atKey xs k).map (·.2)):=by
 induction r with
 | nil=>exact True.intro
 | @cons p q ps qs h t ih =>
  obtain⟨h1,_,h2⟩:=h
  by_cases e:p.1=k
  ·have e':q.1=k:=h1.symm.trans e
   have b:atKey (q :: qs) k=some q.2:=by simp [atKey,List.find?_cons,e']
   rw [valV_pos e,b]; exact h2
  ·have e':¬ q.1=k:=λz=>e (h1.trans z)
   have b:atKey (q :: qs) k=atKey qs k:=by simp [atKey,List.find?_cons,e']
   rw [valV_neg e,b]; exact ih
def KT.repl{H:Hp}{kvs:List (List Key × V)}(r:KT H kvs xs)(k:List Key){y:V}{u:Value}(ry:RelV y u) :
  KT H (kvs.map λkv=>if kv.1=k then (kv.1,y) else kv) (xs.map (putAt k u)):=by
 induction r with
 | nil=>exact .nil
 | @cons p q ps qs h t ih =>
  rw [Yr,Yr]
  refine .cons ?_ ih
  obtain⟨h1,h2,h3⟩:=h
  unfold putAt
  by_cases e:p.1=k
  ·rw [if_pos e,if_pos (h1.symm.trans e)]; exact⟨h1,h2,ry⟩
  ·rw [if_neg e,if_neg (λz=>e (h1.trans z))]; exact⟨h1,h2,h3⟩
def KT.put{H:Hp}{kvs:List (List Key × V)}(r:KT H kvs xs)(k:List Key){b:Addr}{y:V}{u:Value}(hb:H b=some (.tup (k.map kV)))(ry:RelV y u) :
  KT H (putK kvs k y) (storedH xs k b u):=by
 have e:(kvs.any λkv=>decide (kv.1=k))=(atKey xs k).isSome:=by
  rw [valV_any,(r.val k).isSome_eq,Option.isSome_map]
 unfold putK storedH
 rw [e]
 by_cases q:(atKey xs k).isSome=true
 ·rw [if_pos q,if_pos q]; exact r.repl k ry
 ·rw [if_neg q,if_neg q]; exact Paired.snoc r ⟨rfl,hb,ry⟩
def KT.keeps{H H':Hp}{kvs:List (List Key × V)}(r:KT H kvs xs)(ht:∀ b ys,H b=some (.tup ys)->H' b=some (.tup ys)):KT H' kvs xs :=
 Paired.mapP r λ_ _ z=>⟨z.1,ht _ _ z.2.1,z.2.2⟩
section
variable {P:Program}{w:World}{H:Hp}{h:Heap}{a:Addr}
def rd_of{u:HO}(ok:HOk P w H h)(e:Rd H a u):ObjOk P w H h a u:=e.ok ok
def dk_rd{kvs:List (Key × V)}(ok:HOk P w H h)(e:Rd H a (.dK kvs)):kvs.length<=sizeLine/\(a == sysModules)=false/\∃ vs,KV kvs vs/\h.DictOf (mixKind P w) a vs :=
 show ObjOk P w H h a (.dK kvs) from rd_of ok e
end
def DGet(H:Hp)(a:Addr)(y:V)(r:Option V):Prop :=
 (∃ kvs k,Rd H a (.dK kvs)/\y=kV k/\r=valV kvs k)\/∃ kvs k b,Rd H a (.dT kvs)/\y=.ref b/\H b=some (.tup (k.map kV))/\r=valV kvs k
def DPut(H:Hp)(a:Addr)(y v:V)(H':Hp):Prop :=
 (∃ kvs k,H a=some (.dK kvs)/\y=kV k/\kvs.length < sizeLine/\H'=upd H a (.dK (putK kvs k v))) \/
 ∃ kvs k b,H a=some (.dT kvs)/\y=.ref b/\H b=some (.tup (k.map kV))/\kvs.length < sizeLine/\H'=upd H a (.dT (putK kvs k v))
theorem DGet.k{H:Hp}{a:Addr}{kvs:List (Key × V)}{k:Key}(e:H a=some (.dK kvs)):DGet H a (kV k) (valV kvs k):=.inl ⟨kvs,k,.inl e,rfl,rfl⟩
theorem DGet.t{H:Hp}{a b:Addr}{kvs:List (List Key × V)}{k:List Key}(e:H a=some (.dT kvs))(eb:H b=some (.tup (k.map kV))):DGet H a (.ref b) (valV kvs k):=.inr ⟨kvs,k,b,.inl e,rfl,eb,rfl⟩
theorem DPut.k{H:Hp}{a:Addr}{kvs:List (Key × V)}{k:Key}{v:V}(e:H a=some (.dK kvs))(hl:kvs.length < sizeLine):DPut H a (kV k) v (upd H a (.dK (putK kvs k v))):=.inl ⟨kvs,k,e,rfl,hl,rfl⟩
theorem DPut.t{H:Hp}{a b:Addr}{kvs:List (List Key × V)}{k:List Key}{v:V}(e:H a=some (.dT kvs))(eb:H b=some (.tup (k.map kV)))(hl:kvs.length < sizeLine) :
  DPut H a (.ref b) v (upd H a (.dT (putK kvs k v))):=.inr ⟨kvs,k,b,e,rfl,eb,hl,rfl⟩
section
variable {X:Cx}{pins:List (Addr × Obj)}{Z:St}{H:Hp}{s:Shared}{a:Addr}{y v:V}{u r:Value}{o:Option V}{A:Around}{E:VSP}
end
section
variable {X:Cx}{pins:List (Addr × Obj)}{Z:St}{H:Hp}{s:Shared}{a:Addr}{kvs:List (Key × V)}{k:Key}{u:Value}{A:Around}{E:VSP}
end
section
variable {X:Cx}{o i e value:Expr}{pos pos' tpos:Pos}{td ty tv:TE}
end
section
variable {X:Cx}{pos:Pos}
end
structure M1(X:Cx)(o:Expr)(m:Str)(apos:Pos)(e:Expr)(cpos:Pos):Prop where
 base:attributeBase o m X.env (eval o X.env)=eval o X.env
 few:((backTo cpos (starEach [e] X.env)).all (λx=>!x.1) && (backToKw cpos (keywordEach [] X.env)).all (λx=>x.1.isSome)
  && decide (([e]:List Expr).length + ([]:List Keyword).length + (if ([]:List Keyword).isEmpty then 0 else 1) < 30))=true
 line:(apos.endLine == cpos.line)=true
 trees:backTo cpos (starEach [e] X.env)=[(false,eval e X.env)]
structure M2(X:Cx)(o:Expr)(m:Str)(apos:Pos)(e f:Expr)(cpos:Pos):Prop where
 base:attributeBase o m X.env (eval o X.env)=eval o X.env
 few:((backTo cpos (starEach [e,f] X.env)).all (λx=>!x.1) && (backToKw cpos (keywordEach [] X.env)).all (λx=>x.1.isSome)
  && decide (([e,f]:List Expr).length + ([]:List Keyword).length + (if ([]:List Keyword).isEmpty then 0 else 1) < 30))=true
 line:(apos.endLine == cpos.line)=true
 trees:backTo cpos (starEach [e,f] X.env)=[(false,eval e X.env),(false,eval f X.env)]
def IsD(H:Hp)(a:Addr):Prop:=(∃ kvs,Rd H a (.dK kvs))\/∃ kvs,Rd H a (.dT kvs)
section
variable {X:Cx}{pins:List (Addr × Obj)}{Z:St}{H:Hp}{s:Shared}{a:Addr}{y d:V}{u r:Value}{o:Option V}{A:Around}{E:VSP}
end
def tDGet2(td ty tx:TE):TE:=λZ H Q=>td Z H λx H1=>∃ a,x=.ref a/\IsD H1 a/\ty Z H1 λy H2=>tx Z H2 λz H3=>∃ o,DGet H3 a y o/\Q (o.getD z) H3
section
variable {X:Cx}{o e f:Expr}{apos cpos:Pos}{td ty tx:TE}
end
section
variable {X:Cx}{pins:List (Addr × Obj)}{Z:St}{H:Hp}{s:Shared}{a:Addr}{kvs:List (Key × V)}{A:Around}{E:VSP}
end
section
variable {X:Cx}{pins:List (Addr × Obj)}{Z:St}{H:Hp}{s:Shared}{a:Addr}{y:V}{u:Value}{A:Around}{E:VSP}
end
end L2
namespace My
def gcd_turn{a b:Int}:Int.gcd b (a % b)=Int.gcd a b:=by
 rw [Int.emod_def,Int.gcd_comm a b]
 exact Int.gcd_sub_mul_left_right b a (a / b)
def emod_lt_nat{a b:Int}(hb:0 < b):(a % b).toNat < b.toNat:=by
 have h1:=YU a (Int.ne_of_gt hb)
 have h2:=Int.emod_lt_of_pos a hb
 omega
theorem abs_ite(i:Int):(if i < 0 then -i else i)=(i.natAbs:Int):=by
 split <;> omega
def gcd_abs(a b:Int):Int.gcd (a.natAbs:Int) (b.natAbs:Int)=Int.gcd a b:=by
 simp [Int.gcd]
def sgcd(t b:Int):Int:=if b < 0 then -(Int.gcd t b:Int) else (Int.gcd t b:Int)
def sgcd_ne{t b:Int}(hb:b ≠ 0):sgcd t b ≠ 0:=by
 have h:=Y5 t hb
 unfold sgcd
 split <;> omega
def sgcd_dvd_left(t b:Int):sgcd t b ∣ t:=by
 unfold sgcd
 split
 ·exact Int.neg_dvd.mpr (Int.gcd_dvd_left t b)
 ·exact Int.gcd_dvd_left t b
def sgcd_dvd_right(t b:Int):sgcd t b ∣ b:=by
 unfold sgcd
 split
 ·exact Int.neg_dvd.mpr (Int.gcd_dvd_right t b)
 ·exact Int.gcd_dvd_right t b
def sgcd_abs(t b:Int):(sgcd t b).natAbs=Int.gcd t b:=by
 unfold sgcd
 split <;> simp
def fdiv_of_dvd{a d:Int}(h:d ∣ a):a.fdiv d=a / d:=by
 rw [Int.fdiv_eq_ediv_of_dvd h]
def sden_pos{t b:Int}(hb:b ≠ 0):0 < b / sgcd t b:=by
 have hg:=Y5 t hb
 obtain⟨k,hk⟩:=sgcd_dvd_right t b
 have e:b / sgcd t b=k:=Int.ediv_eq_of_eq_mul_right (sgcd_ne hb) hk
 rw [e]
 unfold sgcd at hk
 generalize hG:(Int.gcd t b:Int)=g at hk
 have hg':0 < g:=by omega
 by_cases h:0 < k
 ·exact h
 ·exfalso
  have h2:0<=g * (-k):=Int.mul_nonneg (by omega) (by omega)
  have h3:g * (-k)=-(g * k):=Int.mul_neg g k
  split at hk
  ·have h4:-g * k=-(g * k):=Int.neg_mul g k
   omega
  ·omega
def scop{t b:Int}(hb:b ≠ 0):Int.gcd (t / sgcd t b) (b / sgcd t b)=1:=by
 rw [Int.gcd_ediv (sgcd_dvd_left t b) (sgcd_dvd_right t b),sgcd_abs]
 exact Nat.div_self (Y5 t hb)
def ratio_parts{t b:Int}(hb:b ≠ 0):t / sgcd t b=(Rat.divInt t b).num/\b / sgcd t b=((Rat.divInt t b).den:Int):=by
 have hp:=sden_pos (t:=t) hb
 have hc:=scop (t:=t) hb
 have hn:=sgcd_ne (t:=t) hb
 have e1:t=sgcd t b * (t / sgcd t b):=(Int.mul_ediv_cancel' (sgcd_dvd_left t b)).symm
 have e2:b=sgcd t b * (b / sgcd t b):=(Int.mul_ediv_cancel' (sgcd_dvd_right t b)).symm
 have hden:(b / sgcd t b).toNat ≠ 0:=by omega
 have hcop:(t / sgcd t b).natAbs.Coprime (b / sgcd t b).toNat:=by
  have:(b / sgcd t b).natAbs=(b / sgcd t b).toNat:=by omega
  rw [<- this]; exact hc
 have key:Rat.divInt t b=⟨t / sgcd t b,(b / sgcd t b).toNat,hden,hcop⟩:=by
  have:Rat.divInt (t / sgcd t b) (((b / sgcd t b).toNat:Nat):Int)=⟨t / sgcd t b,(b / sgcd t b).toNat,hden,hcop⟩:=by
   rw [Rat.divInt_ofNat]
   exact Rat.mkRat_self ⟨t / sgcd t b,(b / sgcd t b).toNat,hden,hcop⟩
  rw [<- this]
  rw [Rat.divInt_eq_divInt_iff hb (by omega)]
  have e3:(((b / sgcd t b).toNat:Nat):Int)=b / sgcd t b:=by omega
  rw [e3]
  conv=>lhs; rw [e1]
  conv=>rhs; rw [e2]
  grind
 constructor
 ·rw [key]
 ·rw [key]; show b / sgcd t b=(((b / sgcd t b).toNat:Nat):Int); omega
def num_cross{t b:Int}(hb:b ≠ 0):(Rat.divInt t b).num * b=t * ((Rat.divInt t b).den:Int):=by
 obtain⟨h1,h2⟩:=ratio_parts (t:=t) hb
 have e1:t=sgcd t b * (t / sgcd t b):=(Int.mul_ediv_cancel' (sgcd_dvd_left t b)).symm
 have e2:b=sgcd t b * (b / sgcd t b):=(Int.mul_ediv_cancel' (sgcd_dvd_right t b)).symm
 rw [h1] at e1; rw [h2] at e2
 grind
theorem mul_lt_pow{x y:Int}{a b:Nat}(hx:x.natAbs < 2 ^ a)(hy:y.natAbs < 2 ^ b):(x * y).natAbs < 2 ^ (a + b):=by
 rw [Int.natAbs_mul,YK]
 exact Nat.mul_lt_mul'' hx hy
theorem pow_mono{a c n:Nat}(h:n < 2 ^ a)(hac:a<=c):n < 2 ^ c:=Yk h (YX (by decide) hac)
def add_lt_pow{x y:Int}{a b c:Nat}(hx:x.natAbs < 2 ^ a)(hy:y.natAbs < 2 ^ b)(ha:a<=c)(hb:b<=c):(x + y).natAbs < 2 ^ (c + 1):=by
 have h1:=pow_mono hx ha
 have h2:=pow_mono hy hb
 rw [Nat.pow_succ]
 omega
def sub_lt_pow{x y:Int}{a b c:Nat}(hx:x.natAbs < 2 ^ a)(hy:y.natAbs < 2 ^ b)(ha:a<=c)(hb:b<=c):(x - y).natAbs < 2 ^ (c + 1):=by
 have h1:=pow_mono hx ha
 have h2:=pow_mono hy hb
 rw [Nat.pow_succ]
 omega
theorem divInt_num_le{t b:Int}(hb:b ≠ 0):(Rat.divInt t b).num.natAbs<=t.natAbs:=by
 rw [<- (ratio_parts hb).1]
 exact Int.natAbs_ediv_le_natAbs _ _
theorem divInt_den_le{t b:Int}(hb:b ≠ 0):(Rat.divInt t b).den<=b.natAbs:=by
 have h:((Rat.divInt t b).den:Int).natAbs<=b.natAbs:=by
  rw [<- (ratio_parts (t:=t) hb).2]
  exact Int.natAbs_ediv_le_natAbs _ _
 simpa using h
theorem log2_lt_of{n k:Nat}(h:n < 2 ^ k)(hk:0 < k):n.log2 < k:=by
 by_cases h0:n=0
 ·rw [h0]; simpa using hk
 ·exact (Nat.log2_lt h0).mpr h
def gcd_le_abs{t b:Int}(hb:b ≠ 0):Int.gcd t b<=b.natAbs:=Nat.le_of_dvd (by omega) (Nat.gcd_dvd_right _ _)
def SzQ(n:Nat)(q:Rat):Prop:=q.num.natAbs < 2 ^ n/\q.den < 2 ^ n
def SzQ.mono{n m:Nat}{q:Rat}(h:SzQ n q)(hm:n<=m):SzQ m q:=⟨pow_mono h.1 hm,pow_mono h.2 hm⟩
theorem SzQ.of{n:Nat}{t b:Int}(hb:b ≠ 0)(ht:t.natAbs < 2 ^ n)(hb2:b.natAbs < 2 ^ n):SzQ n (Rat.divInt t b) :=
 ⟨Ye (divInt_num_le hb) ht,Ye (divInt_den_le hb) hb2⟩
def rat_den_ne(q:Rat):(q.den:Int) ≠ 0:=by have:=q.den_pos; omega
def add_divInt(p q:Rat):p + q=Rat.divInt (p.num * q.den + q.num * p.den) (p.den * q.den):=by
 conv=>lhs; rw [<- Yw p,<- Yw q]
 exact Rat.divInt_add_divInt _ _ (rat_den_ne p) (rat_den_ne q)
def sub_divInt(p q:Rat):p - q=Rat.divInt (p.num * q.den - q.num * p.den) (p.den * q.den):=by
 conv=>lhs; rw [<- Yw p,<- Yw q]
 exact Rat.divInt_sub_divInt _ _ (rat_den_ne p) (rat_den_ne q)
def mul_divInt(p q:Rat):p * q=Rat.divInt (p.num * q.num) (p.den * q.den):=by
 conv=>lhs; rw [<- Yw p,<- Yw q]
 exact Rat.divInt_mul_divInt _ _
theorem den_mul_ne(p q:Rat):(p.den:Int) * q.den ≠ 0:=Int.mul_ne_zero (rat_den_ne p) (rat_den_ne q)
end My
set_option Elab.async false
set_option maxRecDepth 100000
namespace My
open PySem PySem.Spec L2
open PyProof.Rows hiding St
def plainE:Expr->Bool
 | .Starred ..=>false
 | _=>true
def se_cons{e:Expr}{es:List Expr}{env:Env}(h:plainE e=true):starEach (e :: es) env=(false,eval e env) :: starEach es env:=by
 cases e <;> first | rfl | cases h
def se_any{env:Env}{pos:Pos}:∀ {es:List Expr},es.all plainE=true->(backTo pos (starEach es env)).any (·.1)=false
 | [],_=>rfl
 | e :: es,h=>by
  rw [List.all_cons,Bool.and_eq_true] at h
  rw [se_cons h.1]
  have:=se_any (env:=env) (pos:=pos) h.2
  unfold backTo at this ⊢
  simpa using this
section
variable {X:Cx}{e:Expr}{es:List Expr}{te:TE}{t:TA}{pos p:Pos}{x:Str}{id T:String}{r:List V->Hp->VK->Prop}
def pa_c(ha:PE X e te)(hr:PA X es t)(hp:plainE e=true:=by rfl):PA X (e :: es) (tCons te t):=pa_cons ha hr (se_cons hp)
def hd_plain{e:Expr}{es:List Expr}(h:(e :: es).all plainE=true):plainE e=true/\es.all plainE=true:=by
 rw [List.all_cons,Bool.and_eq_true] at h
 exact h
def pe_cB(hc:CallR X (.builtin id) r)(hg:Gl X x)(hm:X.mg x=none)(hv:bootBuiltins x=some (.builtin id))(ha:PA X (e :: es) t)(hp:(e :: es).all plainE=true:=by rfl)(hn:x ≠ "__name__":=by decide)(hdb:(x == ("__debug__":Str))=false:=by decide) :
  PE X (.Call (.Name x p) (e :: es) [] pos) (tCB r t):=pe_callB hc hg hm hv ha hn hdb (se_cons (hd_plain hp).1) (se_any (hd_plain hp).2)
def pe_cTy(hc:CallR X (.type T) r)(hg:Gl X x)(hm:X.mg x=none)(hv:bootBuiltins x=some (.type T))(ha:PA X (e :: es) t)(hp:(e :: es).all plainE=true:=by rfl)(hn:x ≠ "__name__":=by decide)(hdb:(x == ("__debug__":Str))=false:=by decide) :
  PE X (.Call (.Name x p) (e :: es) [] pos) (tCB r t):=pe_callTy hc hg hm hv ha hn hdb (se_cons (hd_plain hp).1) (se_any (hd_plain hp).2)
end
structure Fn(P:Program)(w:World)(K:PySem.W.Frag)(mg:Str->Option Value)(base:Heap)(CX:CXT)(k:Nat)(x:Str)(ps:List Str)(sp:Sp):Prop where
 ex:∃ (f:Addr) (fd:FuncData),FnOk P w K mg base CX k f fd ps sp/\Binds K fd ps []/\keepIn K (.ref f)=true/\mg x=some (.ref f)
section
variable {X:Cx}{CX:CXT}{j k:Nat}{x:Str}{ps:List Str}{sp:Sp}{p pos:Pos}{e:Expr}{es:List Expr}{t:TA}
def pe_fn(F:Fn X.prog X.w X.K X.mg X.base CX0 j x ps sp)(hr:Room k X.A)(hj:j<=k)(hg:Gl X x)(ha:PA X (e :: es) t)(hp:(e :: es).all plainE=true:=by rfl)(hdb:(x == ("__debug__":Str))=false:=by decide) :
  PE X (.Call (.Name x p) (e :: es) [] pos) (tCall sp [] E0 t):=by
 obtain⟨f,fd,G,b,kp,m⟩:=F.ex
 exact pe_call G (hr.mono hj) hg m kp b .nil pass0 ha hdb (se_cons (hd_plain hp).1) (se_any (hd_plain hp).2)
end
section
variable {X:Cx}
def op_fdivL:OpR X (binaryOp .FloorDiv) (rI (λ_ j=>j ≠ 0/\j.natAbs.log2 < 9000) λi j=>.int (i.fdiv j)) :=
 opI λ_ _ _ _ _ _ _ hc q=>floordiv_int hc.1 q (.inl (PyProof.noPylong_of_log2 hc.2))
def op_fdivP:OpR X (binaryOp .FloorDiv) (rI (λ_ j=>0 < j/\j.natAbs.log2 < 9000) λi j=>.int (i / j)) :=
 opI λi j _ _ _ _ _ hc q=>floordiv_int (Int.ne_of_gt hc.1) (by rw [YS i (Int.le_of_lt hc.1)]; exact q) (.inl (PyProof.noPylong_of_log2 hc.2))
def op_mulL:OpR X (binaryOp .Mult) (rI IntMulOk λi j=>.int (i * j)):=opI λ_ _ _ _ _ _ _ hc q=>mul_int q hc
end
def kindV(H:Hp):V->Option String
 | .non=>some "NoneType"
 | .bl _=>some "bool"
 | .int _=>some "int"
 | .str _=>some "str"
 | .ref a=>match H a with
  | some (.lst _)=>some "list"
  | some (.tup _)=>some "tuple"
  | some (.dK _)=>some "dict"
  | _=>none
 | _=>none
def kinds:List String:=["NoneType","bool","int","str","list","tuple","dict"]
def asks:List String:=["bool","int","str","list","tuple","dict"]
def isA(t n:String):Bool:=t == n || (t == "bool" && n == "int")
def kind_bl(H:Hp)(x:Bool):kindV H (.bl x)=some "bool":=rfl
def kind_int(H:Hp)(i:Int):kindV H (.int i)=some "int":=rfl
theorem kind_tup{H:Hp}{a:Addr}{xs:List V}(h:H a=some (.tup xs)):kindV H (.ref a)=some "tuple":=by unfold kindV; dsimp only; rw [h]
theorem kind_lst{H:Hp}{a:Addr}{xs:List V}(h:H a=some (.lst xs)):kindV H (.ref a)=some "list":=by unfold kindV; dsimp only; rw [h]
def ask_int:("int"∈asks)=True:=eq_true (by decide)
def ask_bool:("bool"∈asks)=True:=eq_true (by decide)
def ask_tuple:("tuple"∈asks)=True:=eq_true (by decide)
def ask_list:("list"∈asks)=True:=eq_true (by decide)
def ask_str:("str"∈asks)=True:=eq_true (by decide)
def isa_bb:isA "bool" "bool"=true:=by decide
def isa_bi:isA "bool" "int"=true:=by decide
def isa_ii:isA "int" "int"=true:=by decide
def isa_ib:isA "int" "bool"=false:=by decide
def isa_tt:isA "tuple" "tuple"=true:=by decide
def isa_ll:isA "list" "list"=true:=by decide
def kindV_ty{K:PySem.W.Frag}{H:Hp}{x:V}{t:String}(e:kindV H x=some t):TyOf K H x (.type t)/\t∈kinds:=by
 unfold kindV at e
 split at e
 ·cases e; exact⟨.non,by decide⟩
 ·cases e; exact⟨.bl _,by decide⟩
 ·cases e; exact⟨.int _,by decide⟩
 ·cases e; exact⟨.str _,by decide⟩
 ·split at e
  ·cases e; exact⟨.lst (by assumption),by decide⟩
  ·cases e; exact⟨.tup (by assumption),by decide⟩
  ·cases e; exact⟨.dK (by assumption),by decide⟩
  ·cases e
 ·cases e
def kit_table(K:PySem.W.Frag):∀ t∈kinds,∀ n∈asks,kitOne K (.type t) (.type n)=some (isA t n):=by
 intro t ht n hn
 simp only [kinds,asks,List.mem_cons,List.not_mem_nil,or_false] at ht hn
 rcases ht with rfl | rfl | rfl | rfl | rfl | rfl | rfl <;> rcases hn with rfl | rfl | rfl | rfl | rfl | rfl <;> rfl
section
variable {X:Cx}
def call_inst:CallR X (.builtin "isinstance") (λxs H Q=>∃ x n t,xs=[x,.ty n]/\kindV H x=some t/\n∈asks/\Q (.bl (isA t n)) H):=by
 intro pins s Z H xs us Q I r h
 obtain⟨x,n,t,rfl,e,hn,q⟩:=h
 obtain⟨u,v,rfl,ru,rv⟩:=vals2 r
 cases (show v=Value.type n from rv)
 obtain⟨ty,ht⟩:=kindV_ty (K:=X.K) e
 exact isinst_ok I ru ty (kit_table X.K t ht n hn) λtk=>⟨.bl (isA t n),H,I.tok tk,rfl,q⟩
def pe_ty{x:Str}{T:String}{pos:Pos}(hg:Gl X x)(hm:X.mg x=none)(hv:bootBuiltins x=some (.type T))(hn:x ≠ "__name__":=by decide)(hd:(x == ("__debug__":Str))=false:=by decide):PE X (.Name x pos) (tC (.ty T)) :=
 pe_bltn hg hm hv rfl hn hd
end
section
variable {X:Cx}{e:Expr}{es:List Expr}{te:TE}{t:TA}{pos:Pos}
def same_new{H:Hp}{p:Addr}(h:H p=none)(o:HO):Same H (upd H p o):=λb u q=>by rw [upd_ne (ne_of_none q h)]; exact q
def tTup2(t:TA):TE:=λZ H Q=>t Z H λxs H1=>xs.length<=1000/\∀ p H2,H1 p=none->Same H1 H2->H2 p=some (.tup xs)->Q (.ref p) H2
def tLst2(t:TA):TE:=λZ H Q=>t Z H λxs H1=>xs.length<=1000/\∀ p H2,H1 p=none->Same H1 H2->H2 p=some (.lst xs)->Q (.ref p) H2
def le1000{n:Nat}(h:n<=1000):n<=sizeLine:=YA (small1000 h)
def pe_tup2{x1}(h:PA X es t):PE X (.Tuple es x1 pos) (tTup2 t):=by
 intro pins s Z H Q I hq
 refine wpAny_Tuple_spliced (thn (h pos pins s Z H _ I hq) λus s1 ⟨xs,H1,I1,r,z,q⟩=>⟨by rw [<- r.length]; exact le1000 z,?_⟩)
 have hf:H1 s1.heap.objs.size=none:=I1.hok.fresh (Ya _)
 refine⟨.ref s1.heap.objs.size,upd H1 s1.heap.objs.size (.tup xs),I1.laid (t':=s1.toks) (λb u e=>Ym _ e) (Ya _) ?_,rfl,q _ _ hf (same_new hf _) upd_same⟩
 exact⟨le1000 z,us,r,⟨_,Yv _ rfl,rfl,_,rfl⟩⟩
def pe_lst2(h:PA X es t):PE X (.List es pos) (tLst2 t):=by
 intro pins s Z H Q I hq
 refine wpAny_List_spliced (thn (h pos pins s Z H _ I hq) λus s1 ⟨xs,H1,I1,r,z,q⟩=>⟨by rw [<- r.length]; exact le1000 z,?_⟩)
 have hf:H1 s1.heap.objs.size=none:=I1.hok.fresh (Ya _)
 refine⟨.ref s1.heap.objs.size,upd H1 s1.heap.objs.size (.lst xs),I1.laid (t':=s1.toks) (λb u e=>Ym _ e) (Ya _) ?_,rfl,q _ _ hf (same_new hf _) upd_same⟩
 exact⟨le1000 z,us,0,r,Yv _ rfl⟩
def ix_imp{r r':R2}(h:IxR X r)(i:∀ x y H Q,r' x y H Q->r x y H Q):IxR X r' :=
 λvalue slice pins s Z H x y v u Q I rx ry q hs=>h value slice pins s Z H x y v u Q I rx ry (i x y H Q q) hs
def rIxT2:R2:=λx y H Q=>∃ p xs i v,x=.ref p/\y=.int i/\H p=some (.tup xs)/\atI xs i=some v/\Q v H
def rIxL2:R2:=λx y H Q=>∃ p xs i v,x=.ref p/\y=.int i/\H p=some (.lst xs)/\atI xs i=some v/\Q v H
def ix_tup2:IxR X rIxT2:=ix_imp ix_tup λ_ _ _ _ ⟨p,xs,i,v,h1,h2,h3,h4,q⟩=>⟨p,xs,i,v,h1,h2,SqT.of h3,h4,q⟩
def ix_lst2:IxR X rIxL2:=ix_imp ix_list λ_ _ _ _ ⟨p,xs,i,v,h1,h2,h3,h4,q⟩=>⟨p,xs,i,v,h1,h2,SqL.of h3,h4,q⟩
def call_len2:CallR X (.builtin "len") (λxs H Q=>∃ p ys,xs=[.ref p]/\(H p=some (.lst ys)\/H p=some (.tup ys))/\Q (.int ys.length) H) :=
 λpins s Z H xs us Q I r ⟨p,ys,h1,h2,q⟩=>call_len_seq pins s Z H xs us Q I r ⟨p,ys,h1,h2.imp SqL.of SqT.of,q⟩
def tApp(to:TE)(t:TA):TE:=λZ H Q=>to Z H λx H1=>∃ l zs,x=.ref l/\H1 l=some (.lst zs)/\t Z H1 λvs H2=>∃ y xs,vs=[y]/\H2 l=some (.lst xs)/\xs.length < 1000000/\Q .non (upd H2 l (.lst (xs ++ [y])))
def mill{n:Nat}(h:n < 1000000):n < sizeLine:=Nat.lt_trans h (by decide)
def pe_append{o:Expr}{to:TE}{apos cpos:Pos}(ho:PE X o to)(ha:PA X (e :: es) t)
  (hbase:attributeBase o "append" X.env (eval o X.env)=eval o X.env:=by rfl)
  (hfew:((backTo cpos (starEach (e :: es) X.env)).all (λx=>!x.1) && (backToKw cpos (keywordEach [] X.env)).all (λx=>x.1.isSome)
   && decide ((e :: es).length + ([]:List Keyword).length + (if ([]:List Keyword).isEmpty then 0 else 1) < 30))=true:=by rfl)
  (hline:(apos.endLine == cpos.line)=true:=by rfl) (hs:starEach (e :: es) X.env=(false,eval e X.env) :: starEach es X.env:=by rfl) (hplain:(backTo cpos (starEach es X.env)).any (·.1)=false:=by rfl) :
  PE X (.Call (.Attribute o "append" apos) (e :: es) [] cpos) (tApp to t):=by
 intro pins s Z H Q I h
 refine wpAny_Call_method_late hbase hfew hline rfl (thn (ho pins s Z H _ I h) λv s1 ⟨x,H1,I1,r1,l,zs,e1,e2,q1⟩=>?_)
 obtain⟨h1,h2⟩:=tyV_is (T:="list") I1 r1 (by rw [e1]; exact .inl ⟨rfl,zs,SqL.of e2⟩)
 refine⟨"list","list.append",PySem.F.plainAttrs_list,PySem.F.slot_list_append,PySem.F.type_list_append,h1,h2,?_⟩
 have hA:=ha cpos pins s1 Z H1 _ I1 q1
 rw [hs] at hA ⊢
 refine Calls.callWith_builtin (by show (false || (backTo cpos (starEach es X.env)).any (·.1))=false; rw [hplain] <;> rfl) (Calls.evalArgs_plain ?_)
 exact thn hA λus s2 ⟨vs,H2,I2,r2,y,xs,e3,e4,z,q2⟩=>mt_append pins s2 Z H2 x vs v us Q I2 r1 r2 ⟨l,xs,y,e1,e3,e4,mill z,q2⟩
theorem same_upd{H H':Hp}{p:Addr}{o:HO}(hp:H p=none)(hs:Same H H'):Same H (upd H' p o):=λb u q=>by rw [upd_ne (ne_of_none q hp)]; exact hs b u q
def gTup2(n:Nat)(t:TGs):TG:=λv Z H Q=>∃ a xs,v=.ref a/\H a=some (.tup xs)/\xs.length=n/\t xs Z H Q
def pg_tup2{es:List Expr}{k:Nat}{t:TGs}{n:Nat}(hc:X.calm=true)(h:PGs X es t)
  (hn:(assignEach es X.env).length=n:=by rfl) (hst:(assignEach es X.env).findIdx? (·.1)=none:=by rfl):PG X (.Tuple es k pos) (gTup2 n t) :=
 λpins s Z H v u Q I r ⟨a,xs,h1,h2,h3,q⟩=>pg_tup hc h hn hst pins s Z H v u Q I r ⟨a,xs,h1,SqT.of h2,h3,q⟩
end
def atI0{α:Type}(x:α)(xs:List α):atI (x :: xs) 0=some x:=atI_nat (j:=0) rfl
def atI1{α:Type}(x y:α)(xs:List α):atI (x :: y :: xs) 1=some y:=atI_nat (j:=1) rfl
def atI2{α:Type}(x y z:α)(xs:List α):atI (x :: y :: z :: xs) 2=some z:=atI_nat (j:=2) rfl
def atI3{α:Type}(x y z u:α)(xs:List α):atI (x :: y :: z :: u :: xs) 3=some u:=atI_nat (j:=3) rfl
def cellOf(ns:List Int)(k:Nat):Int:=ns.getD k (2 * (k:Int) + 1)
def cell_in{ns:List Int}{k:Nat}(h:k < ns.length):atI (ns.map V.int) (k:Int)=some (.int (cellOf ns k)):=by
 refine atI_nat ?_
 rw [Yt,Yb h]
 simp [cellOf,List.getD,List.getElem?_eq_getElem h]
def slotI(Z:St)(i:Nat):Int:=match Z[i]? with
 | some (some (.int m))=>m
 | _=>0
def while_w{c:TT}{tb:TS}{D:Ends}{Z:St}{H:Hp}(Pv:St->Hp->Prop)(μ:St->Hp->Nat)(h0:Pv Z H)
  (hs:∀ Z H,Pv Z H->c Z H λb H1=>if b=true then ∃ N:St->Hp->Prop,(∀ Z' H',N Z' H'->∃ m',m' < μ Z H/\(m'=μ Z' H'/\Pv Z' H'))/\tb { D with nx:=N,ct:=N,bk:=D.nx } Z H1 else D.nx Z H1):tWhile c tb D Z H:=by
 refine⟨λm Z H=>m=μ Z H/\Pv Z H,⟨_,rfl,h0⟩,?_⟩
 rintro m Z H ⟨rfl,p⟩
 exact hs Z H p
structure QE(X:Cx)(e:Expr)(t:TE):Prop where
 h:PE X e t
structure QT(X:Cx)(e:Expr)(t:TT):Prop where
 h:PT X e t
structure QW(X:Cx)(e:Expr)(t:TT):Prop where
 h:PW X e t
structure QA(X:Cx)(es:List Expr)(t:TA):Prop where
 h:PA X es t
structure QS(X:Cx)(st:Stmt)(t:TS):Prop where
 h:PS X st t
structure QB(X:Cx)(sts:List Stmt)(t:TS):Prop where
 h:PSs X sts t
structure QI(X:Cx)(tg it:Expr)(t:TI):Prop where
 h:PI X tg it t
structure QG(X:Cx)(tg:Expr)(t:TG):Prop where
 h:PG X tg t
structure QGs(X:Cx)(tgs:List Expr)(t:TGs):Prop where
 h:PGs X tgs t
section
variable {X:Cx}{a b c e:Expr}{es rest:List Expr}{ta tb tc te:TE}{tA tB':TT}{t:TA}{pos p:Pos}{x:Str}
def q_v(i:Nat)(hN:X.N[i]?=some x:=by rfl)(hv:Vis X.env.scope x:=by first | exact Or.inl rfl | exact Or.inr (Or.inl rfl) | exact Or.inr (Or.inr rfl))(hd:(x == ("__debug__":Str))=false:=by decide)
  (hcd:(x == ("__classdict__":Str))=false:=by decide):QE X (.Name x pos) (tVar i):=⟨pe_var hN hv hd hcd⟩
def q_int{i j}:QE X (.Constant (.int i) j pos) (tC (.int i)):=⟨pe_int⟩
def q_bl{k j}:QE X (.Constant (.bool k) j pos) (tC (.bl k)):=⟨pe_bl⟩
def q_non{j}:QE X (.Constant .none j pos) (tC .non):=⟨pe_non⟩
def q_str{y j}:QE X (.Constant (.str y) j pos) (tC (.str y)):=⟨pe_str⟩
def q_ty{T:String}(hg:Gl X x)(hm:X.mg x=none)(hv:bootBuiltins x=some (.type T))(hn:x ≠ "__name__":=by decide)(hd:(x == ("__debug__":Str))=false:=by decide):QE X (.Name x pos) (tC (.ty T)):=⟨pe_ty hg hm hv hn hd⟩
def q_add(ha:QE X a ta)(hb:QE X b tb):QE X (.BinOp a .Add b pos) (tOp (rI0 λi j=>.int (i + j)) ta tb):=⟨pe_op op_add ha.h hb.h⟩
def q_sub(ha:QE X a ta)(hb:QE X b tb):QE X (.BinOp a .Sub b pos) (tOp (rI0 λi j=>.int (i - j)) ta tb):=⟨pe_op op_sub ha.h hb.h⟩
def q_mul(ha:QE X a ta)(hb:QE X b tb):QE X (.BinOp a .Mult b pos) (tOp (rI CMul λi j=>.int (i * j)) ta tb):=⟨pe_op op_mul ha.h hb.h⟩
def q_mulL(ha:QE X a ta)(hb:QE X b tb):QE X (.BinOp a .Mult b pos) (tOp (rI IntMulOk λi j=>.int (i * j)) ta tb):=⟨pe_op op_mulL ha.h hb.h⟩
def q_mod(ha:QE X a ta)(hb:QE X b tb):QE X (.BinOp a .Mod b pos) (tOp (rI (λ_ j=>0 < j) λi j=>.int (i % j)) ta tb):=⟨pe_op op_mod ha.h hb.h⟩
def q_fdiv(ha:QE X a ta)(hb:QE X b tb):QE X (.BinOp a .FloorDiv b pos) (tOp (rI CDiv λi j=>.int (i / j)) ta tb):=⟨pe_op op_fdiv ha.h hb.h⟩
def q_fdivP(ha:QE X a ta)(hb:QE X b tb):QE X (.BinOp a .FloorDiv b pos) (tOp (rI (λ_ j=>0 < j/\j.natAbs.log2 < 9000) λi j=>.int (i / j)) ta tb):=⟨pe_op op_fdivP ha.h hb.h⟩
def q_fdivL(ha:QE X a ta)(hb:QE X b tb):QE X (.BinOp a .FloorDiv b pos) (tOp (rI (λ_ j=>j ≠ 0/\j.natAbs.log2 < 9000) λi j=>.int (i.fdiv j)) ta tb):=⟨pe_op op_fdivL ha.h hb.h⟩
def q_pow(ha:QE X a ta)(hb:QE X b tb):QE X (.BinOp a .Pow b pos) (tOp (rI CPow λi j=>.int (i ^ j.toNat)) ta tb):=⟨pe_op op_pow ha.h hb.h⟩
def q_cat(ha:QE X a ta)(hb:QE X b tb):QE X (.BinOp a .Add b pos) (tOp rCat ta tb):=⟨pe_op op_cat ha.h hb.h⟩
def q_neg(ha:QE X a ta):QE X (.UnaryOp .USub a pos) (tUn (rU λi=>.int (-i)) ta):=⟨pe_un un_neg ha.h⟩
def q_not(ha:QE X a ta):QE X (.UnaryOp .Not a pos) (tNotV ta):=⟨pe_not ha.h⟩
def q_one{op}(ha:QE X a ta):QE X (.BoolOp op [a] pos) ta:=⟨pe_one ha.h⟩
def q_and(ha:QE X a ta)(hb:QE X (.BoolOp .And (b :: rest) pos) tb):QE X (.BoolOp .And (a :: b :: rest) pos) (tAndV ta tb):=⟨pe_and ha.h hb.h⟩
def q_ifE(hc:QT X c tA)(ha:QE X a ta)(hb:QE X b tb):QE X (.IfExp c a b pos) (tIf tA ta tb):=⟨pe_ifExp hc.h ha.h hb.h⟩
def q_eq(ha:QE X a ta)(hb:QE X b tb):QE X (.Compare a [.Eq] [b] pos) (tOp rEq ta tb):=⟨pe_cmpR op_eq ha.h hb.h (nomark _)⟩
def q_lt(ha:QE X a ta)(hb:QE X b tb):QE X (.Compare a [.Lt] [b] pos) (tOp (rI0 λi j=>.bl (decide (i < j))) ta tb):=⟨pe_cmpR op_lt ha.h hb.h (nomark _)⟩
def q_gt(ha:QE X a ta)(hb:QE X b tb):QE X (.Compare a [.Gt] [b] pos) (tOp (rI0 λi j=>.bl (decide (j < i))) ta tb):=⟨pe_cmpR op_gt ha.h hb.h (nomark _)⟩
def q_ge(ha:QE X a ta)(hb:QE X b tb):QE X (.Compare a [.GtE] [b] pos) (tOp (rI0 λi j=>.bl (decide (j<=i))) ta tb):=⟨pe_cmpR op_ge ha.h hb.h (nomark _)⟩
def t_val(ha:QE X e te)(he:∀ whole,isTrue e X.env whole=(do let v <- whole; standAt e.pos; holding [v] (truthy v)):=by intro _; rfl):QT X e (tB te):=⟨pt_val ha.h he⟩
def t_not(ha:QT X a tA):QT X (.UnaryOp .Not a pos) (tNot tA):=⟨pt_not ha.h⟩
def w_and1(ha:QT X a tA):QW X (.BoolOp .And [a] pos) tA:=⟨pw_and1 ha.h⟩
def w_or1(ha:QT X a tA):QW X (.BoolOp .Or [a] pos) tA:=⟨pw_or1 ha.h⟩
def w_and(ha:QT X a tA)(hb:QW X (.BoolOp .And (b :: rest) pos) tB'):QW X (.BoolOp .And (a :: b :: rest) pos) (tAnd tA tB'):=⟨pw_and ha.h hb.h⟩
def w_or(ha:QT X a tA)(hb:QW X (.BoolOp .Or (b :: rest) pos) tB'):QW X (.BoolOp .Or (a :: b :: rest) pos) (tOr tA tB'):=⟨pw_or ha.h hb.h⟩
def t_w(h:QW X e tA):QT X e tA:=⟨h.h.pt⟩
def t_eq(ha:QE X a ta)(hb:QE X b tb):QT X (.Compare a [.Eq] [b] pos) (tTest (tOp rEq ta tb)):=⟨pt_cmpR op_eq ha.h hb.h (nomark _)⟩
def t_ne(ha:QE X a ta)(hb:QE X b tb):QT X (.Compare a [.NotEq] [b] pos) (tTest (tOp rNe ta tb)):=⟨pt_cmpR op_ne ha.h hb.h (nomark _)⟩
def t_lt(ha:QE X a ta)(hb:QE X b tb):QT X (.Compare a [.Lt] [b] pos) (tTest (tOp (rI0 λi j=>.bl (decide (i < j))) ta tb)):=⟨pt_cmpR op_lt ha.h hb.h (nomark _)⟩
def t_gt(ha:QE X a ta)(hb:QE X b tb):QT X (.Compare a [.Gt] [b] pos) (tTest (tOp (rI0 λi j=>.bl (decide (j < i))) ta tb)):=⟨pt_cmpR op_gt ha.h hb.h (nomark _)⟩
def t_ge(ha:QE X a ta)(hb:QE X b tb):QT X (.Compare a [.GtE] [b] pos) (tTest (tOp (rI0 λi j=>.bl (decide (j<=i))) ta tb)):=⟨pt_cmpR op_ge ha.h hb.h (nomark _)⟩
def t_isN(ha:QE X a ta)(hb:QE X b tb):QT X (.Compare a [.Is] [b] pos) (tTest (tOp (λx y H Q=>y=.non/\Q (.bl (decide (x=.non))) H) ta tb)):=⟨pt_cmpR op_isN ha.h hb.h (nomark _)⟩
def t_notN(ha:QE X a ta)(hb:QE X b tb):QT X (.Compare a [.IsNot] [b] pos) (tTest (tOp (λx y H Q=>y=.non/\Q (.bl (!decide (x=.non))) H) ta tb)):=⟨pt_cmpR op_notN ha.h hb.h (nomark _)⟩
def a_nil:QA X [] tNil:=⟨pa_nil⟩
def a_c(ha:QE X e te)(hr:QA X es t)(hp:plainE e=true:=by rfl):QA X (e :: es) (tCons te t):=⟨pa_c ha.h hr.h hp⟩
def q_tup{x1}(h:QA X es t):QE X (.Tuple es x1 pos) (tTup2 t):=⟨pe_tup2 h.h⟩
def q_lst(h:QA X es t):QE X (.List es pos) (tLst2 t):=⟨pe_lst2 h.h⟩
def q_ixT(ha:QE X a ta)(hb:QE X b tb)(hs:PlainIx b:=by intro _ _; rfl):QE X (.Subscript a b pos) (tOp rIxT2 ta tb):=⟨pe_ix ix_tup2 ha.h hb.h hs⟩
def q_ixL(ha:QE X a ta)(hb:QE X b tb)(hs:PlainIx b:=by intro _ _; rfl):QE X (.Subscript a b pos) (tOp rIxL2 ta tb):=⟨pe_ix ix_lst2 ha.h hb.h hs⟩
def q_ixS(ha:QE X a ta)(hb:QE X b tb)(hs:PlainIx b:=by intro _ _; rfl):QE X (.Subscript a b pos) (tOp (rIxL X.K) ta tb):=⟨pe_ix ix_list ha.h hb.h hs⟩
def q_len(hg:Gl X "len")(hm:X.mg "len"=none)(ha:QA X (e :: es) t)(hp:(e :: es).all plainE=true:=by rfl) :
  QE X (.Call (.Name "len" p) (e :: es) [] pos) (tCB (λxs H Q=>∃ p ys,xs=[.ref p]/\(H p=some (.lst ys)\/H p=some (.tup ys))/\Q (.int ys.length) H) t):=⟨pe_cB call_len2 hg hm PySem.boot_len ha.h hp⟩
def q_lenS(hg:Gl X "len")(hm:X.mg "len"=none)(ha:QA X (e :: es) t)(hp:(e :: es).all plainE=true:=by rfl) :
  QE X (.Call (.Name "len" p) (e :: es) [] pos) (tCB (λxs H Q=>∃ p ys,xs=[.ref p]/\(SqL X.K H p ys\/SqT X.K H p ys)/\Q (.int ys.length) H) t):=⟨pe_cB call_len_seq hg hm PySem.boot_len ha.h hp⟩
def q_abs(hg:Gl X "abs")(hm:X.mg "abs"=none)(ha:QA X (e :: es) t)(hp:(e :: es).all plainE=true:=by rfl) :
  QE X (.Call (.Name "abs" p) (e :: es) [] pos) (tCB (λxs H Q=>∃ i,xs=[.int i]/\Q (.int (if i < 0 then -i else i)) H) t):=⟨pe_cB call_abs hg hm (by rfl) ha.h hp⟩
def q_inst(hg:Gl X "isinstance")(hm:X.mg "isinstance"=none)(ha:QA X (e :: es) t)(hp:(e :: es).all plainE=true:=by rfl) :
  QE X (.Call (.Name "isinstance" p) (e :: es) [] pos) (tCB (λxs H Q=>∃ x n t,xs=[x,.ty n]/\kindV H x=some t/\n∈asks/\Q (.bl (isA t n)) H) t):=⟨pe_cB call_inst hg hm (by rfl) ha.h hp⟩
def q_int1(hg:Gl X "int")(hm:X.mg "int"=none)(ha:QA X (e :: es) t)(hp:(e :: es).all plainE=true:=by rfl) :
  QE X (.Call (.Name "int" p) (e :: es) [] pos) (tCB (λxs H Q=>(∃ i,xs=[.int i]/\Q (.int i) H)\/∃ k,xs=[.bl k]/\Q (.int (if k then 1 else 0)) H) t):=⟨pe_cTy call_int1 hg hm (by rfl) ha.h hp⟩
variable {j k:Nat}{ps:List Str}{sp:Sp}
def q_fn(F:Fn X.prog X.w X.K X.mg X.base CX0 j x ps sp)(hr:Room k X.A)(hj:j<=k)(hg:Gl X x)(ha:QA X (e :: es) t)(hp:(e :: es).all plainE=true:=by rfl)(hdb:(x == ("__debug__":Str))=false:=by decide) :
  QE X (.Call (.Name x p) (e :: es) [] pos) (tCall sp [] E0 t):=⟨pe_fn F hr hj hg ha.h hp hdb⟩
theorem qfn(F:Fn X.prog X.w X.K X.mg X.base CX0 j x ps sp)(hr:Room k X.A)(ha:QA X (e :: es) t)(hj:j<=k:=by decide)(hg:Gl X x:=by rfl)(hp:(e :: es).all plainE=true:=by rfl)(hdb:(x == ("__debug__":Str))=false:=by decide):QE X (.Call (.Name x p) (e :: es) [] pos) (tCall sp [] E0 t):=q_fn F hr hj hg ha hp hdb
def q_app{o:Expr}{to:TE}{apos cpos:Pos}(ho:QE X o to)(ha:QA X [e] t)(hbase:attributeBase o "append" X.env (eval o X.env)=eval o X.env:=by rfl)(hline:(apos.endLine == cpos.line)=true:=by rfl)(hp:plainE e=true:=by rfl) :
  QE X (.Call (.Attribute o "append" apos) [e] [] cpos) (tApp to t) :=
 ⟨pe_append ho.h ha.h hbase (by rw [se_cons hp]; rfl) hline (se_cons hp) rfl⟩
end
section
variable {X:Cx}{st:Stmt}{rest a b body:List Stmt}{t u tb:TS}{e c tg it:Expr}{te:TE}{tc:TT}{pos:Pos}{g:TG}{wi:TI}
def b_nil:QB X [] tNext:=⟨pss_nil⟩
def b_cons(h1:QS X st t)(h2:QB X rest u):QB X (st :: rest) (tSeq t u):=⟨pss_cons h1.h h2.h⟩
def b_one(h1:QS X st t):QB X [st] t:=⟨pss_one h1.h⟩
def s_never:QS X st tNever:=⟨ps_never⟩
def s_ret(he:QE X e te):QS X (.Return (some e) pos) (tRet te):=⟨ps_ret he.h⟩
def s_if(hc:QT X c tc)(ha:QB X a t)(hb:QB X b u):QS X (.If c a b pos) (tIfS tc t u):=⟨ps_if hc.h ha.h hb.h⟩
def s_expr(he:QE X e te)(hs:swapsWith e none pos.line X.env=pure false:=by rfl):QS X (.Expr e pos) (tDrop te):=⟨ps_expr he.h hs⟩
def s_set{x:Str}{pos':Pos}(i:Nat)(hN:X.N.Nodup)(he:QE X e te)(hi:X.N[i]?=some x:=by rfl)(hx:Loc X.env.scope x:=by first | exact Or.inl rfl | exact Or.inr rfl)(hs:swapsWith e (some (.Name x pos')) pos.line X.env=pure false:=by rfl)
  (hf:X.fn x=true\/X.env.scope.names.lookup x=some .local:=by first | exact .inl rfl | exact .inr rfl | assumption):QS X (.Assign [.Name x pos'] e pos) (tAsg te (gName i)):=⟨ps_set hN hi hx he.h hs hf⟩
def s_par{x y:Str}{c d:Expr}{ta:TA}{px py pt:Pos}{kt k2 pt2}(i j:Nat)(hN:X.N.Nodup)(ha:QA X [c,d] ta)(hc:X.calm=true:=by rfl)(hi:X.N[i]?=some x:=by rfl)(hj:X.N[j]?=some y:=by rfl)(hij:i ≠ j:=by decide)
  (hx:X.env.scope.names.lookup x=some .local:=by rfl) (hy:X.env.scope.names.lookup y=some .local:=by rfl)
  (hw:swappedStores [.Tuple [.Name x px,.Name y py] kt pt] (.Tuple [c,d] k2 pt2) X.env=pure (some [x,y]):=by rfl)
  (hs:swapsWithSole [.Tuple [.Name x px,.Name y py] kt pt] (.Tuple [c,d] k2 pt2) pos.line X.env=pure false:=by rfl) :
  QS X (.Assign [.Tuple [.Name x px,.Name y py] kt pt] (.Tuple [c,d] k2 pt2) pos) (tPar i j ta):=⟨ps_par hc hN hi hj hij hx hy ha.h hw hs⟩
def s_asg(he:QE X e te)(hg:QG X tg g)(hs:swapsWithSole [tg] e pos.line X.env=pure false:=by rfl)(hw:swappedStores [tg] e X.env=pure none:=by rfl)(h1:(assignEach [tg] X.env).map (·.2)=[assign tg X.env]:=by rfl):QS X (.Assign [tg] e pos) (tAsg te g):=⟨ps_asg he.h hg.h hs hw h1⟩
def g_name{x:Str}(i:Nat)(hN:X.N.Nodup)(hi:X.N[i]?=some x:=by rfl)(hx:Loc X.env.scope x:=by first | exact Or.inl rfl | exact Or.inr rfl)(hf:X.fn x=true\/X.env.scope.names.lookup x=some .local:=by first | exact .inl rfl | exact .inr rfl | assumption) :
  QG X (.Name x pos) (gName i):=⟨pg_name hN hi hx hf⟩
def gs_nil:QGs X [] gNil:=⟨pgs_nil⟩
def gs_cons{es:List Expr}{v:TGs}(h1:QG X e g)(h2:QGs X es v)(hs:(assignEach (e :: es) X.env).map (·.2)=assign e X.env :: (assignEach es X.env).map (·.2):=by rfl):QGs X (e :: es) (gCons g v):=⟨pgs_cons h1.h h2.h hs⟩
def g_tup{es:List Expr}{k:Nat}{v:TGs}{n:Nat}(h:QGs X es v)(hc:X.calm=true:=by rfl)(hn:(assignEach es X.env).length=n:=by rfl)(hst:(assignEach es X.env).findIdx? (·.1)=none:=by rfl) :
  QG X (.Tuple es k pos) (gTup2 n v):=⟨pg_tup2 hc h.h hn hst⟩
def s_while(hp:PassesOwn (model X.prog X.w) X.A X.env X.xe)(hc:QT X c tc)(hb:QB X body tb):QS X (.While c body [] pos) (tWhile tc tb):=⟨ps_while hp hc.h hb.h⟩
def s_for(hp:PassesOwn (model X.prog X.w) X.A X.env X.xe)(hi:QI X tg it wi)(hg:QG X tg g)(hb:QB X body tb)(hc:X.calm=true:=by rfl)(hs:∀ x,foldedSetIterable it X.env x=pure x:=by intro _; rfl) :
  QS X (.For tg it body [] pos) (tFor wi g tb):=⟨ps_for hp hc hi.h hg.h hb.h hs⟩
def i_list(hl:QE X e te):QI X tg e (iList X.K te):=⟨pi_list hl.h⟩
def i_tup(hl:QE X e te):QI X tg e (iTup X.K te):=⟨pi_tup hl.h⟩
def i_rng1{c:Expr}{ta:TA}{p:Pos}(hg:Gl X "range")(hm:X.mg "range"=none)(ha:QA X [c] ta)(hp:plainE c=true:=by rfl):QI X tg (.Call (.Name "range" p) [c] [] pos) (iRng1 ta):=⟨pi_range1 hg hm ha.h (se_cons hp)⟩
end
def okQ{P:Program}{w:World}{K:PySem.W.Frag}{mg:Str->Option Value}{base:Heap}{x qual:Str}{st:Stmt}{f:Addr}{fd:FuncData}{N ps:List Str}{k:Nat}{sp:Sp}(F:Fun K x qual st f fd)(S:FnScope N ps (defScope st))(len:∀ vs H Q E,sp vs H Q E->vs.length=ps.length)
  (hbody:∀ (cdv:Value) (A:Around) (outer:List Env) (s:Shared) (H:Hp) (vs:List V) (Q:VK) (E:XK),Room k (A.deeper (envOfC qual (defScope st) s.heap.objs.size f cdv))->sp vs H Q E ->
   ∃ t,QB (cxOf CX0 P w K mg base N qual (defScope st) f cdv A outer s H E).nox (defBody st) t/\t { nx:=λ_ H'=>Q .non H',rt:=Q } (start N vs) H):FnOk P w K mg base CX0 (k + 1) f fd ps sp :=
 F.ok S len λcdv A outer s H vs Q E hr h=>by
  obtain⟨t,q,r⟩:=hbody cdv A outer s H vs Q E hr h
  exact⟨t,q.h,r⟩
def there_of{P:Program}{w:World}{H:Hp}{h:Heap}{a:Addr}{o:HO}(x:ObjOk P w H h a o):∃ u,h.get? a=some u:=by
 cases o with
 | lst xs=>obtain⟨_,_,_,_,e⟩:=x; exact⟨_,e⟩
 | tup xs=>obtain⟨_,_,_,u,e,_⟩:=x; exact⟨_,e⟩
 | dK kvs=>obtain⟨_,_,_,_,u,_,_,e,_⟩:=x; exact⟨u,e⟩
 | dT kvs=>obtain⟨_,_,_,_,u,_,_,e,_⟩:=x; exact⟨u,e⟩
 | set S n=>obtain⟨u,_,_,_,e,_⟩:=x; exact⟨_,e⟩
 | ins C dx fs=>obtain⟨_,_,_,e,_⟩:=x; exact⟨_,e⟩
 | own y=>exact x
 | xd fs=>obtain⟨_,⟨u,_,_,e,_⟩,_⟩:=x; exact⟨_,e⟩
 | rng lo hi=>obtain⟨_,_,_,e⟩:=x; exact⟨_,e⟩
 | frz ob u=>exact⟨_,x.1⟩
 | tbl ps=>obtain⟨_,e,_⟩:=x; exact⟨_,e⟩
 | met f y=>exact⟨_,x⟩
 | ext φ=>exact x.2.1
structure Cv(X:Cx)(pins:List (Addr × Obj))(B:Heap)(H:Hp):Prop where
 old:∀ b o,X.s₀.heap.get? b=some o->b ∉ frs X.stack->∃ o',B.get? b=some o'
 trk:∀ b o,H b=some o->∃ o',B.get? b=some o'
 cel:∀ x c,X.env.cells.lookup x=some c->∃ o',B.get? c=some o'
 pin:∀ p∈X.pn ++ pins,∃ o',B.get? p.1=some o'
section
variable {X:Cx}{pins:List (Addr × Obj)}{Z:St}{H:Hp}{s:Shared}
end
def CX1(P:Program)(w:World):CXT:=λouter H s E e s'=>∃ (ea C:Addr) (a0:Value) (B:Heap) (H':Hp),e=.ref ea/\s'.os=s.os/\AllBare s'.gens/\Un (frs outer) [] H H' s.heap s'.heap/\HOk P w H' s'.heap /\
 Heap.FlyingW B outer ea (.ref C) a0 s'.heap/\(∀ b o,s.heap.get? b=some o->b ∉ frs outer->∃ o',B.get? b=some o')/\(∀ b o,H' b=some o->∃ o',B.get? b=some o')/\E (.ref C) none H'
structure Body(X:Cx):Prop where
 st:X.stack=X.env :: X.outer
 fr:X.env.frame=some X.env.locals
 ex:X.ex=[]
 fn:∀ x,X.fn x=true
structure Goes(X:Cx)(E:XK):Prop extends Body X where
 xe:∀ e s',wpAny (model X.prog X.w) X.A (leaving X.env e) (λ_ s''=>CX1 X.prog X.w X.outer X.H₀ X.s₀ E e s'') (λe' s''=>CX1 X.prog X.w X.outer X.H₀ X.s₀ E e' s'') s'->X.xe e s'
section
variable {X:Cx}{E:XK}{pins:List (Addr × Obj)}{Z:St}{H:Hp}{s:Shared}
def Body.apart(b:Body X)(I:Inv X pins Z H s):(∀ x c,X.env.cells.lookup x=some c->(∃ o,s.heap.get? c=some o)/\c ∉ frs X.stack)/\(∀ p∈X.pn ++ pins,s.heap.get? p.1=some p.2/\p.1 ∉ frs X.stack) /\
  (∀ a o,X.s₀.heap.get? a=some o->∃ o',s.heap.get? a=some o')/\(∀ a o,H a=some o->(∃ o',s.heap.get? a=some o')/\a ∉ frs X.stack):=by
 refine⟨λx c e=>?_,λp hp=>?_,λa o e=>?_,λa o e=>?_⟩
 ·obtain⟨v,o,ho,hd⟩:=I.cell x c e
  refine⟨⟨o,ho⟩,λz=>?_⟩
  rcases Yq.mp (I.stkSub c z) with q | q
  ·exact I.cne x c e q
  ·obtain⟨_,o',e',_⟩:=I.ok.funs.mem q
   exact absurd (Yk (Yd e') (I.ok.cab x c (b.fn x) e)) (YF _)
 ·obtain⟨e,n,ne,nf,d⟩:=I.pin p hp
  exact⟨e,λz=>(Yq.mp (I.stkSub _ z)).elim ne nf⟩
 ·exact I.base.there a o e (by rw [b.ex]; exact List.not_mem_nil)
 ·exact⟨there_of (I.hok a o e),λz=>by rw [I.stkFree a z] at e; cases e⟩
def Body.cv(b:Body X)(I:Inv X pins Z H s){B:Heap}{H':Hp}(cov:∀ a o,s.heap.get? a=some o->a ∉ frs X.stack->∃ o',B.get? a=some o')(trk:∀ a o,H' a=some o->∃ o',B.get? a=some o'):Cv X pins B H':=by
 obtain⟨h1,h2,h3,_⟩:=b.apart I
 refine⟨λa o e n=>?_,trk,λx c e=>?_,λp hp=>?_⟩
 ·obtain⟨o',e'⟩:=h3 a o e
  exact cov a o' e' n
 ·obtain⟨⟨o,e'⟩,n⟩:=h1 x c e
  exact cov c o e' n
 ·obtain⟨e',n⟩:=h2 p hp
  exact cov p.1 p.2 e' n
end
section
variable {X:Cx}{E:XK}{x:Str}{C:Addr}{np cpos pos:Pos}{e₀:Expr}{rest:List Expr}{t:TA}
def tRaise(C:Addr)(E:XK)(t:TA):TS:=λ_ Z H=>t Z H λvs H1=>vs.length<=1000/\E (.ref C) none H1
end
def XP(X:Cx)(pins:List (Addr × Obj))(Z:St)(EX:XK)(e:Value)(s':Shared):Prop :=
 ∃ (ea C:Addr) (a0:Value) (B:Heap) (H':Hp),e=.ref ea/\Inv X pins Z H' s'/\Heap.FlyingW B X.stack ea (.ref C) a0 s'.heap/\Cv X pins B H'/\EX (.ref C) none H'
abbrev TEX:=St->Hp->VK->XK->Prop
def PEX(X:Cx)(e:Expr)(t:TEX):Prop :=
 ∀ (pins:List (Addr × Obj)) (s:Shared) (Z:St) (H:Hp) (Q:VK) (EX:XK),Inv X pins Z H s->t Z H Q EX->wpAny (model X.prog X.w) X.A (eval e X.env) (EP X pins Z Q) (XP X pins Z EX) s
abbrev TSX:=Ends->(St->XK)->St->Hp->Prop
def PSsX(X:Cx)(sts:List Stmt)(t:TSX):Prop :=
 ∀ (pins:List (Addr × Obj)) (s:Shared) (Z:St) (H:Hp) (D:Ends) (EX:St->XK),Inv X pins Z H s->t D EX Z H ->
  wpAny (model X.prog X.w) X.A (execs sts X.env) (SP X pins D) (λe s'=>∃ Z',XP X pins Z' (EX Z') e s') s
section
variable {X:Cx}{j k:Nat}{x:Str}{ps:List Str}{sp:Sp}{p pos:Pos}{e:Expr}{es:List Expr}{t:TA}{f:Addr}{fd:FuncData}{ds:List Value}{dvs:List V}
def tCallX(sp:Sp)(dvs:List V)(t:TA):TEX:=λZ H Q EX=>t Z H λvs H1=>sp (vs ++ dvs) H1 Q EX
end
section
variable {X:Cx}{pins:List (Addr × Obj)}{Z:St}{H:Hp}{s:Shared}{ea:Addr}
def ExcAt(C ea:Addr)(h:Heap):Prop:=∃ o,h.get? ea=some o/\o.cls=.ref C
def hoExc(C ea:Addr):HO:=.ext (ExcAt C ea)
end
def tHand(K:PySem.W.Frag)(D:Addr)(i:Nat)(th:Addr->TS)(En:Ends)(Z:St):XK:=λc _ H'=>∃ C,c=.ref C/\exmOne K (.ref C) (.ref D)=some true/\∀ ea,H' ea=none ->
 th ea { nx:=λZ2 H2=>En.nx (Z2.set i none) H2,rt:=En.rt,bk:=λZ2 H2=>En.bk (Z2.set i none) H2,ct:=λZ2 H2=>En.ct (Z2.set i none) H2 } (Z.set i (some (.ref ea))) (upd H' ea (hoExc C ea))
def tTry(K:PySem.W.Frag)(tb:TSX)(D:Addr)(i:Nat)(th:Addr->TS):TS:=λEn Z H=>tb En (tHand K D i th En) Z H
section
variable {X:Cx}{body:List Stmt}{x n:Str}{np hpos pos:Pos}{b₀:Stmt}{suite:List Stmt}{tb:TSX}{th:Addr->TS}{D:Addr}{i:Nat}
end
end My
namespace My
open PySem PySem.Spec L2 PySem.W PySem.Builtin PySem.Builtin.ObjectAttr PySem.Builtin.Getset_descriptor
open PyProof.Rows hiding St
section
variable {prog:Program}{w:World}{A:Around}{E:VSP}{s:Shared}{K:Frag}{x D:Addr}
structure ExcK(K:Frag)(D:Addr):Prop where
 cl:(clsIn K D).isSome=true
 ga:findIn K (.ref D) "__getattribute__"=some (some (.builtin "BaseException.__getattribute__"))
 no:findIn K (.ref D) "__getattr__"=some none
 ha:findIn K (.ref D) "__class__"=some (some (.builtin "object.__class__"))
 hn:specialIn K (.builtin "object.__class__") "__get__"=some (some (.builtin "getset_descriptor.__get__"))
 tk:takesIn K (.builtin "object.__class__")=some true
 mo:mroIn K D (.type "object")=some true
 mb:mroIn K D (.type "BaseException")=some true
end
end My
namespace My
open PySem PySem.Spec L2
open PyProof.Rows hiding St
section
variable {X:Cx}{e:Expr}{es:List Expr}{t:TA}{pos p:Pos}
end
structure FunD(K:PySem.W.Frag)(x qual:Str)(st:Stmt)(dV:Value)(f:Addr)(fd:FuncData):Prop where
 ex:∃ (oc:Value) (od:Option Addr) (kV doc pm:Value) (an:Option Addr) (cdv ct:Value) (osl:Array (Option Value)),
  fd=fnOf x qual (defArgs st) (defBody st) (defScope st) dV kV doc pm an cdv ct/\K.lookup f=some ⟨oc,od,.func fd,osl⟩/\codeIn K cdv qual=true
 kp:keepIn K (.ref f)=true
variable {K:PySem.W.Frag}
def fund_mk{x qual:Str}{st:Stmt}{dV:Value}{f:Addr}{oc:Value}{od an:Option Addr}{osl:Array (Option Value)}{kV doc pm cdv ct:Value}(l:K.lookup f=some ⟨oc,od,.func (fnOf x qual (defArgs st) (defBody st) (defScope st) dV kV doc pm an cdv ct),osl⟩)
  (c:codeIn K cdv qual=true) (k:keepIn K (.ref f)=true):FunD K x qual st dV f (fnOf x qual (defArgs st) (defBody st) (defScope st) dV kV doc pm an cdv ct):=⟨⟨oc,od,kV,doc,pm,an,cdv,ct,osl,rfl,l,c⟩,k⟩
section
variable {P:Program}{w:World}{K:PySem.W.Frag}{mg:Str->Option Value}{base:Heap}{x qual:Str}{st:Stmt}{dV:Value}{f:Addr}{fd:FuncData}{N ps:List Str}{k:Nat}{sp:Sp}
def okQD(F:FunD K x qual st dV f fd)(S:FnScope N ps (defScope st))(len:∀ vs H Q E,sp vs H Q E->vs.length=ps.length)
  (hbody:∀ (cdv:Value) (A:Around) (outer:List Env) (s:Shared) (H:Hp) (vs:List V) (Q:VK) (E:XK),Room k (A.deeper (envOfC qual (defScope st) s.heap.objs.size f cdv))->sp vs H Q E ->
   ∃ t,QB (cxOf CX0 P w K mg base N qual (defScope st) f cdv A outer s H E).nox (defBody st) t/\t { nx:=λ_ H'=>Q .non H',rt:=Q } (start N vs) H):FnOk P w K mg base CX0 (k + 1) f fd ps sp:=by
 obtain⟨oc,od,kV,doc,pm,an,cdv,ct,osl,rfl,lk,hcd⟩:=F.ex
 refine fn_of lk hcd S len λA outer s H vs Q E hr hsp=>?_
 obtain⟨t,h,q⟩:=hbody cdv A outer s H vs Q E hr hsp
 exact⟨t,h.h.nox,q⟩
end
theorem mulOk{x y:Int}{a b:Nat}(hx:x.natAbs < 2 ^ a)(hy:y.natAbs < 2 ^ b)(h:a + b<=1000000):IntMulOk x y:=by
 have key:∀ {z:Int}{n:Nat},z.natAbs < 2 ^ n->Builtin.Int.intBits z<=n:=λ{z n} hz=>by
  unfold Builtin.Int.intBits
  split
  ·exact Ys _
  ·rename_i h0
   have h1:z.natAbs ≠ 0:=by
    intro q
    apply h0
    have:z=0:=by omega
    simp [this]
   have:=(Nat.log2_lt h1).mpr hz
   omega
 exact IntMulOk.of_le (key hx) (key hy) (by omega)
structure FnD(P:Program)(w:World)(K:PySem.W.Frag)(mg:Str->Option Value)(base:Heap)(CX:CXT)(k:Nat)(x:Str)(ps:List Str)(dvs:List V)(sp:Sp):Prop where
 ex:∃ (f:Addr) (fd:FuncData) (ds:List Value),FnOk P w K mg base CX k f fd ps sp/\Binds K fd ps ds/\Vals dvs ds/\keepIn K (.ref f)=true/\mg x=some (.ref f)
structure QX(X:Cx)(e:Expr)(t:TEX):Prop where
 h:PEX X e t
structure QSX(X:Cx)(sts:List Stmt)(t:TSX):Prop where
 h:PSsX X sts t
section
variable {X:Cx}{E:XK}{j k:Nat}{x:Str}{ps:List Str}{sp:Sp}{p pos:Pos}{e:Expr}{es:List Expr}{t:TA}{dvs:List V}{C:Addr}
def q_fnD(F:FnD X.prog X.w X.K X.mg X.base CX0 j x ps dvs sp)(hr:Room k X.A)(hj:j<=k)(hg:Gl X x)(ha:QA X (e :: es) t)(hp:(e :: es).all plainE=true:=by rfl)(hdb:(x == ("__debug__":Str))=false:=by decide) :
  QE X (.Call (.Name x p) (e :: es) [] pos) (tCall sp dvs E0 t):=by
 obtain⟨f,fd,ds,G,b,v,kp,m⟩:=F.ex
 exact⟨pe_call G (hr.mono hj) hg m kp b v pass0 ha.h hdb (se_cons (hd_plain hp).1) (se_any (hd_plain hp).2)⟩
def tXE(te:TEX):TSX:=λD EX Z H=>te Z H (λ_ H1=>D.nx Z H1) (EX Z)
def tXS(i:Nat)(te:TEX):TSX:=λD EX Z H=>te Z H (λv H1=>D.nx (Z.set i (some v)) H1) (EX Z)
end
inductive EqD (H:Hp):V->V->Bool->Nat->Prop where
 | flat {x y:V}(fx:flatV x=true) (fy:flatV y=true):EqD H x y (eqV x y) 0
 | tup {a b:Addr}{xs ys:List V}{e:Nat->Bool}{n:Nat}(ha:H a=some (.tup xs)) (hb:H b=some (.tup ys)) (h:∀ j x y,xs[j]?=some x->ys[j]?=some y->EqD H x y (e j) n) :
   EqD H (.ref a) (.ref b) ((List.range (min xs.length ys.length)).all e && xs.length == ys.length) (n + 1)
 | lst {a b:Addr}{xs ys:List V}{e:Nat->Bool}{n:Nat}(ha:H a=some (.lst xs)) (hb:H b=some (.lst ys)) (hl:xs.length=ys.length) (h:∀ j x y,xs[j]?=some x->ys[j]?=some y->EqD H x y (e j) n) :
   EqD H (.ref a) (.ref b) ((List.range xs.length).all e) (n + 1)
 | lstNe {a b:Addr}{xs ys:List V}{n:Nat}(ha:H a=some (.lst xs)) (hb:H b=some (.lst ys)) (hl:xs.length ≠ ys.length):EqD H (.ref a) (.ref b) false (n + 1)
 | up {x y:V}{b:Bool}{n:Nat}(h:EqD H x y b n):EqD H x y b (n + 1)
def eqV_refl{x:V}(h:flatV x=true):eqV x x=true:=by
 cases x
 case non=>rfl
 case bl b=>simp [eqV]
 case int i=>simp [eqV]
 case str y=>simp [eqV]
 all_goals exact absurd (show false=true from h) (by decide)
def all_range{n:Nat}{e:Nat->Bool}(h:∀ j,j < n->e j=true):(List.range n).all e=true:=List.all_eq_true.mpr λj hj=>h j (YV.mp hj)
variable {H:Hp}
def EqD.self{x y:V}{b:Bool}{n:Nat}(h:EqD H x y b n):x=y->b=true:=by
 induction h with
 | flat fx fy=>intro e; subst e; exact eqV_refl fx
 | @tup a b xs ys e n ha hb h ih =>
  intro q
  injection q with q
  subst q
  rw [ha] at hb
  injection hb with hb
  injection hb with hb
  subst hb
  rw [all_range,Bool.true_and,beq_self_eq_true]
  intro j hj
  rw [Nat.min_self] at hj
  exact ih j _ _ (Yb hj) (Yb hj) rfl
 | @lst a b xs ys e n ha hb hl h ih =>
  intro q
  injection q with q
  subst q
  rw [ha] at hb
  injection hb with hb
  injection hb with hb
  subst hb
  exact all_range λj hj=>ih j _ _ (Yb hj) (Yb hj) rfl
 | up h ih=>exact ih
 | lstNe ha hb hl =>
  intro q
  injection q with q
  subst q
  rw [ha] at hb
  injection hb with hb
  injection hb with hb
  subst hb
  exact absurd rfl hl
section
variable {X:Cx}{pins:List (Addr × Obj)}{Z:St}{H:Hp}{s:Shared}
theorem EqD.at(I:Inv X pins Z H s){x y:V}{b:Bool}{n:Nat}(h:EqD H x y b n):∀ {A:Around}{u v:Value},RelV x u->RelV y v->A.units + n < cLine ->
  SeqAt.EqAt A s u v b/\((∃ a c,x=.ref a/\y=.ref c)->SeqAt.RcAt A s u v b):=by
 induction h with
 | flat fx fy =>
  intro A u v r1 r2 _
  refine⟨eqAt_V r1 r2 fx fy,?_⟩
  rintro⟨a,c,rfl,_⟩
  cases fx
 | @tup a b xs ys e n ha hb h ih =>
  intro A u v r1 r2 hu
  cases r1
  cases r2
  obtain⟨its,v1,t1,_⟩:=I.tuple (SqT.of ha)
  obtain⟨jts,v2,t2,_⟩:=I.tuple (SqT.of hb)
  have rc:SeqAt.RcAt A s (.ref a) (.ref b) ((List.range (min xs.length ys.length)).all e && xs.length == ys.length):=by
   have z:=SeqAt.RcAt.tuples (A:=A) (s:=s) (e:=e) t1 t2 (by omega) λj h1 h2=>by
    have k1:j < xs.length:=by rw [v1.length]; simpa using h1
    have k2:j < ys.length:=by rw [v2.length]; simpa using h2
    obtain⟨u1,q1,w1⟩:=v1.get (Yb k1)
    obtain⟨u2,q2,w2⟩:=v2.get (Yb k2)
    have g1:its.toArray[j]=u1:=by
     have:=Yf.mp q1
     obtain⟨hh,this⟩:=this
     simpa using this
    have g2:jts.toArray[j]=u2:=by
     have:=Yf.mp q2
     obtain⟨hh,this⟩:=this
     simpa using this
    rw [g1,g2]
    exact (ih j _ _ (Yb k1) (Yb k2) w1 w2 (by show A.units + 1 + n < cLine; omega)).1
   simpa [v1.length,v2.length] using z
  refine⟨?_,λ_=>rc⟩
  by_cases q:a=b
  ·have:=(EqD.tup ha hb h).self (by rw [q])
   rw [this,q]
   exact SeqAt.EqAt.same _
  ·exact SeqAt.EqAt.of_refs q rc
 | @lst a b xs ys e n ha hb hl h ih =>
  intro A u v r1 r2 hu
  cases r1
  cases r2
  obtain⟨its,v1,t1,_⟩:=I.list (SqL.of ha)
  obtain⟨jts,v2,t2,_⟩:=I.list (SqL.of hb)
  have rc:SeqAt.RcAt A s (.ref a) (.ref b) ((List.range xs.length).all e):=by
   have z:=SeqAt.RcAt.lists (A:=A) (s:=s) (e:=e) t1.isList t2.isList (by simp [<- v1.length,<- v2.length,hl]) (by omega) λj h1 h2=>by
    have k1:j < xs.length:=by rw [v1.length]; simpa using h1
    have k2:j < ys.length:=by rw [v2.length]; simpa using h2
    obtain⟨u1,q1,w1⟩:=v1.get (Yb k1)
    obtain⟨u2,q2,w2⟩:=v2.get (Yb k2)
    have g1:its.toArray[j]=u1:=by
     have:=Yf.mp q1
     obtain⟨hh,this⟩:=this
     simpa using this
    have g2:jts.toArray[j]=u2:=by
     have:=Yf.mp q2
     obtain⟨hh,this⟩:=this
     simpa using this
    rw [g1,g2]
    exact (ih j _ _ (Yb k1) (Yb k2) w1 w2 (by show A.units + 1 + n < cLine; omega)).1
   simpa [v1.length,v2.length] using z
  refine⟨?_,λ_=>rc⟩
  by_cases q:a=b
  ·have:=(EqD.lst ha hb hl h).self (by rw [q])
   rw [this,q]
   exact SeqAt.EqAt.same _
  ·exact SeqAt.EqAt.of_refs q rc
 | up h ih =>
  intro A u v r1 r2 hu
  exact ih r1 r2 (by omega)
 | @lstNe a b xs ys n ha hb hl =>
  intro A u v r1 r2 hu
  cases r1
  cases r2
  obtain⟨its,v1,t1,_⟩:=I.list (SqL.of ha)
  obtain⟨jts,v2,t2,_⟩:=I.list (SqL.of hb)
  have rc:SeqAt.RcAt A s (.ref a) (.ref b) false:=SeqAt.RcAt.lists_lengths t1.isList t2.isList (by simp [<- v1.length,<- v2.length]; exact hl) (by omega)
  have ne:a ≠ b:=λq=>by
   subst q
   rw [ha] at hb
   injection hb with hb
   injection hb with hb
   subst hb
   exact hl rfl
  exact⟨SeqAt.EqAt.of_refs ne rc,λ_=>rc⟩
end
section
variable {X:Cx}{a b:Expr}{ta tb:TE}{pos:Pos}{k:Nat}
def rEqD:R2:=λx y H Q=>∃ t n p c,x=.ref p/\y=.ref c/\EqD H x y t n/\n<=60/\Q (.bl t) H
def op_eqD(hr:Room k X.A):OpR X (compareOp .Eq) rEqD:=by
 intro pins s Z H x y v u Q I rx ry h
 obtain⟨t,n,p,c,e1,e2,h,hn,q⟩:=h
 have hu:=hr.units
 exact ((h.at I rx ry (by omega)).2 ⟨p,c,e1,e2⟩) _ _ _ _ ⟨.bl t,H,I,rfl,q⟩
def q_eqD(hr:Room k X.A)(ha:QE X a ta)(hb:QE X b tb):QE X (.Compare a [.Eq] [b] pos) (tOp rEqD ta tb):=⟨pe_cmpR (op_eqD hr) ha.h hb.h (nomark _)⟩
end
section
variable {X:Cx}{pins:List (Addr × Obj)}{Z:St}{H:Hp}{s:Shared}{h':Heap}
def turned_laid{t':Nat}{ch:List Addr}{o:HO}(I:Inv X pins Z H s)(k:∀ b u,b ∉ ch->s.heap.get? b=some u->h'.get? b=some u)(hf:∀ b∈ch,FpOk X pins H b)(new:ObjOk X.prog X.w (upd H s.heap.objs.size o) h' s.heap.objs.size o) :
  Inv X pins Z (upd H s.heap.objs.size o) { s with heap:=h',toks:=t' }:=by
 have hn:H s.heap.objs.size=none:=I.hok.fresh (Ya _)
 have nch:∀ b u,H b=some u->b ∉ ch:=λb u e z=>by rw [(hf b z).1] at e; cases e
 have old:∀ b u,H b=some u->upd H s.heap.objs.size o b=some u:=λb u e=>by rw [upd_ne (ne_of_none e hn)]; exact e
 refine I.step (g':=s.gens) (d':=s.drawn) (ch:=ch) (λb hb=>⟨(hf b hb).2.2.2.1,(hf b hb).2.1,(hf b hb).2.2.2.2.1,(hf b hb).2.2.2.2.2⟩) (λb u _ _ hc e _=>k b u hc e) (λb u _ _ hc e _=>⟨u.slots,k b u hc e⟩)
  (λb u hc e n=>by rw [upd_ne (Nat.ne_of_lt (Heap.lt_size e))]; exact n) (λb u hc e=>⟨u,k b u hc e⟩) (λb xs e=>old b _ e) (λb x u e=>old b _ e) (λb ps e=>⟨#[],by rw [old b _ e]; simp⟩) (λm hm=>?_) (λb u e=>?_) I.bare
 ·obtain⟨u,es,ep,ho,r⟩:=hm
  exact⟨u,es,ep,k _ u (λz=>(hf _ z).2.1 rfl) ho,r⟩
 ·by_cases hb:b=s.heap.objs.size
  ·subst hb; rw [upd_same] at e; cases e; exact new
  ·rw [upd_ne hb] at e
   refine (I.hok b u e).stay (λc v hc q=>k c v ?_ q) (λc q=>old c _ q) (λc xs q=>old c _ q) λc o q=>old c _ q
   rcases hc with z | z
   ·rw [z]; exact nch b u e
   ·exact nch c _ z
theorem turned2{t':Nat}{ch:List Addr}(I:Inv X pins Z H s)(k:∀ b u,b ∉ ch->s.heap.get? b=some u->h'.get? b=some u)(hf:∀ b∈ch,FpOk X pins H b):Inv X pins Z H { s with heap:=h',toks:=t' }:=by
 have nch:∀ b u,H b=some u->b ∉ ch:=λb u e z=>by rw [(hf b z).1] at e; cases e
 refine I.step (g':=s.gens) (d':=s.drawn) (ch:=ch) (λb hb=>⟨(hf b hb).2.2.2.1,(hf b hb).2.1,(hf b hb).2.2.2.2.1,(hf b hb).2.2.2.2.2⟩) (λb u _ _ hc e _=>k b u hc e) (λb u _ _ hc e _=>⟨u.slots,k b u hc e⟩)
  (λb u hc e n=>n) (λb u hc e=>⟨u,k b u hc e⟩) (λb xs e=>e) (λb x u e=>e) (λb ps e=>⟨#[],by rw [e]; simp⟩) (λm hm=>?_) (λb u e=>?_) I.bare
 ·obtain⟨u,es,ep,ho,r⟩:=hm
  exact⟨u,es,ep,k _ u (λz=>(hf _ z).2.1 rfl) ho,r⟩
 ·refine (I.hok b u e).stay (λc v hc q=>k c v ?_ q) (λc q=>q) λc xs q=>q
  rcases hc with z | z
  ·rw [z]; exact nch b u e
  ·exact nch c _ z
def Ite(K:PySem.W.Frag)(a:Addr):It :=
 ⟨λi H=>∃ xs x,SqL K H a xs/\xs[i]?=some x,λi H x H'=>∃ p y,x=.ref p/\H p=none/\Same H H'/\H' p=some (.tup [.int i,y])/\∀ xs,SqL K H a xs->xs[i]?=some y,λi H=>∃ xs,SqL K H a xs/\xs.length<=i⟩
def turn_enum{P:Program}{w:World}{es:List Expr}{x1}{pos:Pos}(a it e:Addr)(hne:e ≠ it):Turn P w K (.Tuple es x1 pos) (Ite K a) [it,e] e (λi h=>(∃ old,IsEnum h e it (i:Nat) old)/\h.IsListIter it a i) where
 mem:=by simp
 obj:=λi h st b hb=>by
  obtain⟨⟨old,he⟩,o,eo,c,d⟩:=st
  rcases Yq.mp hb with z | z
  ·subst z; exact⟨o,eo,λv z=>by rw [d] at z; cases z⟩
  ·have z:b=e:=by simpa using z
   subst z; exact⟨_,he,λv z=>by cases z⟩
 keep:=λi h h' st k=>⟨⟨st.1.choose,k e (by simp) _ st.1.choose_spec⟩,st.2.at λo x=>k it (by simp) o x⟩
 item:=by
  intro X hP hw hK hc i pins s Z H E I hf st hg
  subst hP hw hK
  obtain⟨⟨old,he⟩,hit⟩:=st
  obtain⟨xs,x,hq,hx⟩:=hg
  obtain⟨its,rv,p,hz⟩:=I.list hq
  obtain⟨u,hu,ru⟩:=rv.get hx
  have hn:H s.heap.objs.size=none:=I.hok.fresh (Ya _)
  refine wpAny_pyNext_enum_item he hit p.isList (x:=u) (by simpa using hu) hne λh' eo st' ht hsz kk=>?_
  refine⟨_,rfl,wpAny_letOwnedTupleGo_enum (s:={ s with heap:=h',toks:=s.toks + 1 }) eo λh2 he2 sb=>?_⟩
  have sb2:∀ b,b ≠ e->h2.get? b=h'.get? b:=sb.2
  have hel:s.heap.objs.size ≠ e:=Nat.ne_of_gt (Yd he)
  have kt:h2.get? s.heap.objs.size=some { cls:=.type "tuple",data:=.seq #[.int i s.toks,u] }:=(sb2 _ hel).trans ht
  have I1:Inv X pins Z (upd H s.heap.objs.size (.tup [.int i,x])) { s with heap:=h2,toks:=s.toks + 1 }:=by
   refine turned_laid (ch:=[it,e]) I (λb o hb q=>?_) hf ?_
   ·have hb':b ≠ it/\b ≠ e:=by simpa using hb
    rw [sb2 b hb'.2]
    exact kk b o hb'.2 hb'.1 q
   ·exact⟨by show 2<=sizeLine; decide,[.int i s.toks,u],.cons ⟨_,rfl⟩ (.cons ru .nil),⟨_,kt,rfl,_,rfl⟩⟩
  refine⟨.ref s.heap.objs.size,_,I1,rfl,⟨_,x,rfl,hn,same_new hn _,upd_same,λys hy=>by rw [I.list_inj hy hq]; exact hx⟩,⟨⟨u,?_⟩,?_⟩,λb hb=>?_⟩
  ·exact he2
  ·obtain⟨o,q,r⟩:=st'
   exact⟨o,(sb2 it (Ne.symm hne)).trans q,r⟩
  ·have hb1:=(hf b hb).1
   have:b ≠ s.heap.objs.size:=λz=>by
    rcases Yq.mp hb with y | y
    ·obtain⟨o,q,_⟩:=hit
     exact YF _ (by have:=Yd q; rw [<- y,z] at this; exact this)
    ·have y:b=e:=by simpa using y
     exact hel (z.symm.trans y)
   rw [upd_ne this]
   exact hb1
 done:=by
  intro X hP hw hK hc i pins s Z H E I hf st hg
  subst hP hw hK
  obtain⟨⟨old,he⟩,hit⟩:=st
  obtain⟨xs,hq,hx⟩:=hg
  obtain⟨its,rv,p,hz⟩:=I.list hq
  have hl:=rv.length
  refine wpAny_pyNext_enum_end (I.ok.hd hc) he hit p.isList (by simp; omega) λh' eb=>⟨rfl,turned2 (t':=s.toks) (ch:=[it,e]) I (λb o hb q=>eb b o (λz=>hb (by simp [z])) q) hf⟩
 self:=λ_ _ _ _ _ st h=>wpAny_pyIter_enum st.1.choose_spec h
def iEnum(K:PySem.W.Frag)(ta:TA):TI:=λZ H R=>ta Z H λvs H1=>∃ a,vs=[.ref a]/\(∃ xs,SqL K H1 a xs)/\R (Ite K a) H1
def pi_enum{l:Expr}{ta:TA}{p pos pos':Pos}{es:List Expr}{x1}(hg:Gl X "enumerate")(hm:X.mg "enumerate"=none)(ha:PA X [l] ta)(hs:starEach [l] X.env=[(false,eval l X.env)]:=by rfl):PI X (.Tuple es x1 pos') (.Call (.Name "enumerate" p) [l] [] pos) (iEnum X.K ta):=by
 intro pins s Z H R I h
 refine Call_ (ld_blt I hg hm boot_enumerate (YW (thn (ha pos pins s Z H _ I h) λus s1 ⟨vs,H1,I1,r1,q1⟩=>?_) hs rfl))
 obtain⟨a,e,⟨xs,hq⟩,q⟩:=q1
 subst e
 cases r1 with
 | cons r rr =>
  cases rr
  cases r
  obtain⟨its,rv,pl,hz⟩:=I1.list hq
  refine call_enumerate_list pl.isList λh' he hit hsz kk=>?_
  have I2:Inv X pins Z H1 { s1 with heap:=h' }:=I1.kept (t':=s1.toks) kk
  refine wpAny_pyIter_enum (s:={ s1 with heap:=h' }) he ⟨_,[s1.heap.objs.size,s1.heap.objs.size + 1],_,_,H1,rfl,I2,turn_enum a _ _ (Nat.succ_ne_self _),⟨⟨.none,he⟩,hit⟩,λb hb=>?_,q⟩
  have hb':s1.heap.objs.size<=b:=by
   rcases Yq.mp hb with z | z
   ·exact Nat.le_of_eq z.symm
   ·have z:b=s1.heap.objs.size + 1:=by simpa using z
    rw [z]; exact Nat.le_succ _
  exact I1.fpOk hb' (I1.hok.fresh hb')
theorem vals_of:∀ {xs:List V}{us:List Value},xs.length=us.length->(∀ (i:Nat) x u,xs[i]?=some x->us[i]?=some u->RelV x u)->Vals xs us
 | [],[],_,_=>.nil
 | x :: xs,u :: us,hl,h=>.cons (h 0 x u rfl rfl) (vals_of (by simpa using hl) λi x u h1 h2=>h (i + 1) x u h1 h2)
def rngL(lo hi:Int):List V:=(List.range (hi - lo).toNat).map λk:Nat=>V.int (lo + (k:Int))
theorem rngL_len{lo hi:Int}:(rngL lo hi).length=(hi - lo).toNat:=by simp [rngL]
def rngL_get{lo hi:Int}{i:Nat}(h:i < (hi - lo).toNat):(rngL lo hi)[i]?=some (.int (lo + i)):=by
 unfold rngL
 rw [Yt,List.getElem?_range h]
 rfl
def rList(K:PySem.W.Frag):List V->Hp->VK->Prop:=λxs H Q=>∃ p ys,xs=[.ref p]/\(SqL K H p ys\/SqT K H p ys\/∃ lo hi,H p=some (.rng lo hi)/\-(2 ^ 62)<=lo/\lo < 2 ^ 62/\-(2 ^ 62)<=hi/\hi < 2 ^ 62/\ys=rngL lo hi/\hi - lo<=1000000) /\
 ∀ l H2,H l=none->Same H H2->H2 l=some (.lst ys)->Q (.ref l) H2
def call_listA(hc:X.calm=true):CallR X (.type "list") (rList X.K):=by
 intro pins s Z H xs us Q I r h
 obtain⟨p,ys,rfl,hq,q⟩:=h
 have old:∀ l,H l=none->Q (.ref l) (upd H l (.lst ys)):=λl hl=>q l _ hl (same_new hl _) upd_same
 rcases hq with hq | hq | ⟨lo,hi,hq,h1,h2,h3,h4,rfl,h5⟩
 ·exact call_list_of pins s Z H [.ref p] us Q I r ⟨p,ys,rfl,.inl hq,old⟩
 ·exact call_list_of pins s Z H [.ref p] us Q I r ⟨p,ys,rfl,.inr hq,old⟩
 ·obtain⟨u,rfl,rx⟩:=vals1 r
  cases rx
  obtain⟨t,u,v,hr⟩:=I.hok p _ hq
  have hn:Builtin.Range.rangeSize lo hi 1=((hi - lo).toNat:Int):=by rw [rangeSize_one]; split <;> omega
  refine call_list_range (I.ok.hd hc) hr (small_one h1 h2 h3 h4) hn (by omega) λh' tk acc' c' kk hl ⟨hs,hacc⟩=>?_
  have hf:H s.heap.objs.size=none:=I.hok.fresh (Ya _)
  refine⟨.ref s.heap.objs.size,_,I.laid kk (Nat.le_refl _) (show ObjOk X.prog X.w _ h' _ (.lst (rngL lo hi)) from ⟨?_,acc'.toList,c',vals_of ?_ λi x u e1 e2=>?_,by simpa using hl⟩),rfl,old _ hf⟩
  ·rw [rngL_len]; exact Yh (m:=1000000) (by omega) (by decide)
  ·rw [rngL_len]; simpa using hs.symm
  ·have hi:i < (hi - lo).toNat:=by rw [<- rngL_len]; exact (Yf.mp e1).1
   rw [rngL_get hi] at e1
   cases e1
   obtain⟨t,rfl⟩:=hacc i u (by simpa using e2)
   exact⟨t,by rw [Int.mul_one]⟩
end
def blkG(X:Cx)(N:List Str)(sc:Scope)(cl:List (Str × Addr))(fn:Str->Bool)(s:Shared)(H:Hp)(fp:List Addr):Cx where
 prog:=X.prog
 w:=X.w
 K:=X.K
 mg:=X.mg
 base:=X.base
 A:=X.A
 N:=N
 s₀:=s
 H₀:=H
 env:=compEnvC sc cl s.heap.objs.size X.env
 outer:=X.stack
 stack:=X.stack
 ex:=fp
 calm:=X.calm
 fn:=fn
 pn:=[]
 xe:=λ_ _=>False
abbrev blk(X:Cx)(N:List Str)(sc:Scope)(cl:List (Str × Addr))(s:Shared)(H:Hp)(fp:List Addr):Cx:=blkG X N sc cl (λ_=>false) s H fp
def capOf(Z:St)(caps:List Nat):St:=caps.map λi=>(Z[i]?).join
structure Blk(X:Cx)(ts:List Str)(caps:List Nat)(cs:List Str)(sc:Scope)(cl:List (Str × Addr)):Prop where
 clos:closureFor sc X.env=pure cl
 kind:sc.kind=.function
 cell:∀ x∈sc.names,x.2 ≠ .cell
 loc:∀ x∈sc.names,x.2=.local->sc.names.lookup x.1=some .local
 sub:∀ x c,cl.lookup x=some c->X.env.cells.lookup x=some c
 has:∀ x,((relabel sc X.env).names.lookup x=some .cell\/(relabel sc X.env).names.lookup x=some .free)->∃ c,cl.lookup x=some c
 len:caps.length=cs.length
 cap:∀ (k:Nat) i x,caps[k]?=some i->cs[k]?=some x->X.N[i]?=some x/\(X.env.kindOf x=some .cell\/X.env.kindOf x=some .free)
 capK:∀ x∈cs,(relabel sc X.env).names.lookup x=some .cell\/(relabel sc X.env).names.lookup x=some .free
section
variable {X:Cx}{pins:List (Addr × Obj)}{Z:St}{H:Hp}{s:Shared}{ts cs:List Str}{caps:List Nat}{sc:Scope}{cl:List (Str × Addr)}{fp:List Addr}
theorem blk_ok(B:Blk X ts caps cs sc cl)(I:Inv X pins Z H s)(hf:∀ b∈fp,FpOk X pins H b)(hlt:∀ b∈fp,b < s.heap.objs.size):(blk X (ts ++ cs) sc cl s H fp).Ok where
 mod:=I.ok.mod
 kind:=B.kind
 glob:=I.ok.glob
 blt:=I.ok.blt
 above:=Ya _
 inj:=λx y c h1 h2=>I.ok.inj x y c (B.sub x c h1) (B.sub y c h2)
 has:=λx h=>B.has x h
 cab:=λx c h _=>by cases h
 hd:=I.ok.hd
 frames:=I.ok.frames
 stk:=.inl rfl
 exf:=λb hb=>⟨Yl (hlt b hb),λx c h=>(hf b hb).2.2.2.2.1 x c (B.sub x c h)⟩
 bs:=I.bs
 bsz:=Yh I.ok.bsz I.sz
 noex:=λb o e hb=>by
  rcases (hf b hb).2.2.2.1 with z | z
  ·exact I.ok.noex b o e z
  ·exact YF _ (Yk (Yd (I.ok.bs b o e).1) z)
 exfs:=λb hb z=>by
  rcases Yq.mp (I.stkSub b z) with e | e
  ·exact (hf b hb).2.1 e
  ·exact (hf b hb).2.2.1 e
 funs:=I.stack
 frf:=I.stkFree
def blk_inv(B:Blk X ts caps cs sc cl)(I:Inv X pins Z H s)(hf:∀ b∈fp,FpOk X pins H b)(hlt:∀ b∈fp,b < s.heap.objs.size){h₁:Heap}{t':Nat}(hn:h₁.Ns s.heap.objs.size λ_=>none)(kk:∀ b o,s.heap.get? b=some o->h₁.get? b=some o) :
  Inv (blk X (ts ++ cs) sc cl s H fp) [] (List.replicate ts.length none ++ capOf Z caps) H { s with heap:=h₁,toks:=t' }:=by
 have hfr:H s.heap.objs.size=none:=I.hok.fresh (Ya _)
 refine⟨blk_ok B I hf hlt,rfl,I.bare,Un.kept kk,⟨_,hn,λi x v h1 h2 h3=>?_⟩,λx c e=>?_,hfr,λx c e=>I.freeC x c (B.sub x c e),λp hp=>absurd (show p∈([]:List (Addr × Obj)) from hp) (by simp),I.hok.kept kk,?_⟩
 ·have hi:¬ i < ts.length:=λhi=>by
   rw [List.getElem?_append_left (by simpa using hi),List.getElem?_replicate,if_pos hi] at h2
   cases h2
  have h1':(ts ++ cs)[i]?=some x:=h1
  rw [YL (by omega)] at h1'
  rw [List.getElem?_append_right (by simp; omega),List.length_replicate] at h2
  unfold capOf at h2
  rw [Yt] at h2
  cases e:caps[i - ts.length]? with
  | none=>rw [e] at h2; cases h2
  | some j =>
   rw [e] at h2
   have h2':(Z[j]?).join=some v:=by simpa using h2
   have h2'':Z[j]?=some (some v):=by
    cases q:Z[j]? with
    | none=>rw [q] at h2'; cases h2'
    | some o=>rw [q] at h2'; cases h2'; rfl
   obtain⟨hN,hk⟩:=B.cap _ _ _ e h1'
   obtain⟨m,hm,hl⟩:=I.loc
   obtain⟨u,r,l⟩:=hl j x v hN h2'' (.inr hk)
   refine⟨u,r,?_⟩
   rcases l with ⟨l,_⟩ | ⟨_,c,hc,⟨o,ho,hd⟩⟩
   ·rcases hk with z | z <;> (rw [z] at l; cases l)
   ·have ck:=B.capK x (YY h1')
    obtain⟨c',hc'⟩:=B.has x ck
    have:=B.sub x c' hc'
    rw [hc] at this
    cases this
    exact .inr ⟨ck,c,hc',o,kk c o ho,hd⟩
 ·obtain⟨v,o,ho,hd⟩:=I.cell x c (B.sub x c e)
  exact⟨v,o,kk c o ho,hd⟩
 ·show (List.replicate ts.length (none:Option V) ++ capOf Z caps).length=(ts ++ cs).length
  rw [YG,YG,List.length_replicate]
  unfold capOf
  rw [Yy,B.len]
def testsOf(ifs:List Expr)(env:Env):Sem Bool:=forIn ifs true λc r=>if r=true then do let ok <- isTrue c env (eval c env); pure (ForInStep.yield ok) else pure (ForInStep.yield r)
def PTs(X:Cx)(ifs:List Expr)(t:TT):Prop :=
 ∀ (pins:List (Addr × Obj)) (s:Shared) (Z:St) (H:Hp) (Q:Bool->Hp->Prop),Inv X pins Z H s->t Z H Q->wpAny (model X.prog X.w) X.A (testsOf ifs X.env) (TP X pins Z Q) X.xe s
def tYes:TT:=λ_ H Q=>Q true H
def pts_nil:PTs X [] tYes:=λ_ _ _ H _ I h=>wpAny_tests_nil ⟨H,I,h⟩
def comp_loop{prog:Program}{w:World}{A:Around}{R:Result->Shared->Prop}{s:Shared}{elt target iter:Expr}{ifs:List Expr}{scope:Scope}{pos:Pos}{it acc:Value}{env:Env}(I:Nat->Shared->Prop)
  (turn:∀ n s,I n s->wpAny (model prog w) A (pyNext it) (λr s₁=>match r with
   | none=>R (.ok .next) s₁
   | some v=>wpAny (model prog w) A (letOwnedTupleGo target it v) (λ_ s₁'=>wpAny (model prog w) A (assign target env v) (λ_ s₂=>wpAny (model prog w) A (testsOf ifs env) (λok s₃ =>
     if ok=true then wpAny (model prog w) A (eval elt env) (λx s₄ =>
      wpAny (model prog w) A (call (.builtin "list.append") [acc,x]) (λ_ s₅=>∃ m,m < n/\I m s₅) (notedBy (model prog w) A env λe s'=>R (.error e) s') s₄) (notedBy (model prog w) A env λe s'=>R (.error e) s') s₃
     else ∃ m,m < n/\I m s₃) (notedBy (model prog w) A env λe s'=>R (.error e) s') s₂) (notedBy (model prog w) A env λe s'=>R (.error e) s') s₁') (notedBy (model prog w) A env λe s'=>R (.error e) s') s₁) (notedBy (model prog w) A env λe s'=>R (.error e) s') s)
  (n:Nat) (h:I n s):codeAny (model prog w) A (.compLoop (.ListComp elt [⟨target,iter,ifs,0⟩] scope pos) 0 it acc env) R s:=by
 refine codeAny_loop rfl I (λn s hI=>?_) n h
 show wpAny _ _ ((compTurn (.ListComp elt [⟨target,iter,ifs,0⟩] scope pos) 0 it acc env).onRaise (λx=>do noteFrame x env; theTreesLotGoes x)) _ _ s
 refine wpAny_noted ?_
 rw [compTurn_list]
 refine Yc (wpAny_standAt (Yc (Yn (turn n s hI) (λr s₁ h₁=>?_) λ_ _ h'=>h')))
 cases r with
 | none=>exact Yg h₁
 | some v =>
  refine Yc (Yn h₁ (λ_ s₁' h₁'=>?_) λ_ _ h'=>h')
  refine Yc (Yn h₁' (λ_ s₂ h₂=>Yc (Yn h₂ (λok s₃ h₃=>?_) λ_ _ h'=>h')) λ_ _ h'=>h')
  cases ok with
  | false=>exact Yg ⟨rfl,h₃⟩
  | true=>exact Yc (Yc (Yn h₃ (λx s₄ h₄=>Yc (Yn h₄ (λ_ s₅ h₅=>Yg (Yg ⟨rfl,h₅⟩)) λ_ _ h'=>h')) λ_ _ h'=>h'))
def tBlkT(nt:Nat)(cp:St)(J:It)(g:TG)(tt:TT)(te:TE)(H1:Hp)(Q:VK):Prop:=∀ acc H2,H1 acc=none->Same H1 H2->H2 acc=some (.lst []) ->
 ∃ W:Nat->Nat->List V->Hp->Prop,(∃ m,W 0 m [] H2)/\∀ i m ys H,W i m ys H->H acc=some (.lst ys)/\((J.stop i H/\Q (.ref acc) H)\/(J.go i H/\ys.length < 1000000/\∃ N:List V->Hp->Prop,(∀ ys' H',N ys' H'->∃ m',m' < m/\W (i + 1) m' ys' H') /\
  ∀ os x H',os.length=nt->J.yld i H x H'->g x (os ++ cp) H' λτ H3=>∃ os',os'.length=nt/\τ=os' ++ cp/\tt τ H3 λb H4=>if b=true then te τ H4 λv H5=>H5 acc=some (.lst ys)/\N (ys ++ [v]) (upd H5 acc (.lst (ys ++ [v]))) else N ys H4))
def tBlk(nt:Nat)(cp:St)(J:It)(g:TG)(te:TE)(H1:Hp)(Q:VK):Prop:=tBlkT nt cp J g tYes te H1 Q
def tCompT(nt:Nat)(caps:List Nat)(wi:TI)(g:TG)(tt:TT)(te:TE):TE:=λZ H Q=>wi Z H λJ H1=>tBlkT nt (capOf Z caps) J g tt te H1 Q
def tComp(nt:Nat)(caps:List Nat)(wi:TI)(g:TG)(te:TE):TE:=λZ H Q=>wi Z H λJ H1=>tBlk nt (capOf Z caps) J g te H1 Q
def BlkPost(X:Cx)(pins:List (Addr × Obj))(Z:St)(Q:VK)(acc:Value)(C:Addr)(r:Result)(s':Shared):Prop :=
 r=.ok .next/\∃ a H',acc=.ref a/\Inv X pins Z H' s'/\FpOk X pins H' C/\(∃ m,s'.heap.Ns C m)/\Q (.ref a) H'
def blk_key{elt target iter:Expr}{ifs:List Expr}{pos:Pos}{g:TG}{tt:TT}{te:TE}{it acc:Addr}{tn:Nat->Heap->Prop}{J:It}{Q:VK}{cells:List (Str × Addr)}{fn:Str->Bool}{s3 s4:Shared}{H3:Hp}{W:Nat->Nat->List V->Hp->Prop}{m0:Nat}(hc:X.calm=true)
  (hg:PG (blkG X (ts ++ cs) sc cells fn s3 H3 fp) target g) (ht:PTs (blkG X (ts ++ cs) sc cells fn s3 H3 fp) ifs tt) (he:PE (blkG X (ts ++ cs) sc cells fn s3 H3 fp) elt te) (ok:(blkG X (ts ++ cs) sc cells fn s3 H3 fp).Ok)
  (I3:Inv X pins Z H3 s3) (f3:∀ b∈fp,FpOk X pins H3 b) (hlt3:∀ b∈fp,b < s3.heap.objs.size) (T:Turn X.prog X.w X.K target J fp it tn) (J4:Inv (blkG X (ts ++ cs) sc cells fn s3 H3 fp) [] (List.replicate ts.length none ++ capOf Z caps) H3 s4) (st4:tn 0 s4.heap) (w0:W 0 m0 [] H3)
  (step:∀ i m ys H,W i m ys H->H acc=some (.lst ys)/\((J.stop i H/\Q (.ref acc) H)\/(J.go i H/\ys.length < 1000000/\∃ N:List V->Hp->Prop,(∀ ys' H',N ys' H'->∃ m',m' < m/\W (i + 1) m' ys' H') /\
   ∀ os x H',os.length=ts.length->J.yld i H x H'->g x (os ++ capOf Z caps) H' λτ H3=>∃ os',os'.length=ts.length/\τ=os' ++ capOf Z caps/\tt τ H3 λb H4=>if b=true then te τ H4 λv H5=>H5 acc=some (.lst ys)/\N (ys ++ [v]) (upd H5 acc (.lst (ys ++ [v]))) else N ys H4))) :
  codeAny (model X.prog X.w) X.A (.compLoop (.ListComp elt [⟨target,iter,ifs,0⟩] sc pos) 0 (.ref it) (.ref acc) (compEnvC sc cells s3.heap.objs.size X.env)) (BlkPost X pins Z Q (.ref acc) s3.heap.objs.size) s4:=by
 have stat:∀ {H':Hp},(∀ b∈fp,H' b=none)->∀ b∈fp,FpOk (blkG X (ts ++ cs) sc cells fn s3 H3 fp) [] H' b:=λhn b hb =>
  ⟨hn b hb,Nat.ne_of_lt (hlt3 b hb),ok.exfs b hb,.inl hb,ok.exf b hb |>.2,λp hp=>absurd (show p∈([]:List (Addr × Obj)) from hp) (by simp)⟩
 refine comp_loop (λn s'=>∃ i os ys H',os.length=ts.length/\Inv (blkG X (ts ++ cs) sc cells fn s3 H3 fp) [] (os ++ capOf Z caps) H' s'/\tn i s'.heap/\(∀ b∈fp,H' b=none)/\W i n ys H') ?_ m0
  ⟨0,List.replicate ts.length none,[],_,by simp,J4,st4,λb hb=>(f3 b hb).1,w0⟩
 rintro n s5 ⟨i,os,ys,H5,ol,J5,st5,fr5,w5⟩
 obtain⟨ha,hcase⟩:=step i n ys H5 w5
 rcases hcase with ⟨stop,q⟩ | ⟨go,hys,N,hN,turn⟩
 ·refine thn (T.done (blkG X (ts ++ cs) sc cells fn s3 H3 fp) rfl rfl rfl hc i [] s5 _ H5 _ J5 (stat fr5) st5 stop) λr s6 ⟨hr,J6⟩=>?_
  subst hr
  have hf6:H5 s3.heap.objs.size=none:=J6.free
  obtain⟨m6,hm6,_⟩:=J6.loc
  exact⟨rfl,_,H5,rfl,I3.call' (J6.os) J6.base J6.hok J6.bare (λb hb=>⟨(f3 b hb).2.2.2.1,(f3 b hb).2.1,(f3 b hb).2.2.2.2.1,(f3 b hb).2.2.2.2.2⟩),I3.fpOk (Ya _) hf6,⟨m6,hm6⟩,q⟩
 ·refine thn (T.item (blkG X (ts ++ cs) sc cells fn s3 H3 fp) rfl rfl rfl hc i [] s5 _ H5 _ J5 (stat fr5) st5 go) λr s6 ⟨u,hr,h6⟩=>?_
  subst hr
  refine thn h6 λ_ s7 ⟨x,H7,J7,r7,y7,st7,fr7⟩=>?_
  have J7':=J7.pinned (stat fr7) (T.obj _ _ st7)
  refine Yn (hg _ s7 _ H7 x u _ J7' r7 (turn os x H7 ol y7)) (λ_ s8 ⟨Z8,H8,J8,os',ol',e8,q8⟩=>?_) λ_ _ z=>z.elim
  subst e8
  refine Yn (ht _ s8 _ H8 _ J8 q8) (λb s8' ⟨H8',J8',q8'⟩=>?_) λ_ _ z=>z.elim
  cases b with
  | false =>
   rw [if_neg (by decide)] at q8' ⊢
   obtain⟨m',hm',w9⟩:=hN _ _ q8'
   refine⟨m',hm',i + 1,os',ys,_,ol',J8'.unpinned,T.keep _ _ _ st7 λb hb o e=>(J8'.pin (b,o) (Yo _ (Yo _ (mem_pinsAt hb e)))).1,λb hb=>?_,w9⟩
   obtain⟨o,e,d⟩:=T.obj _ _ st7 b hb
   exact (J8'.pin (b,o) (Yo _ (Yo _ (mem_pinsAt hb e)))).2.1
  | true =>
   rw [if_pos rfl] at q8' ⊢
   refine Yn (he _ s8' _ H8' _ J8' q8') (λv s9 ⟨v9,H9,J9,r9,ha9,n9⟩=>?_) λ_ _ z=>z.elim
   refine Yn (mt_append (X:=blkG X (ts ++ cs) sc cells fn s3 H3 fp) _ s9 _ H9 (.ref acc) [v9] (.ref acc) [v] (λ_ H'=>H'=upd H9 acc (.lst (ys ++ [v9]))) J9 rfl (.cons r9 .nil) ⟨_,ys,v9,rfl,rfl,ha9,mill hys,rfl⟩) (λ_ s10 ⟨_,H10,J10,_,e10⟩=>?_) λ_ _ z=>z.elim
   subst e10
   obtain⟨m',hm',w9⟩:=hN _ _ n9
   refine⟨m',hm',i + 1,os',ys ++ [v9],_,ol',J10.unpinned,T.keep _ _ _ st7 λb hb o e=>(J10.pin (b,o) (Yo _ (Yo _ (mem_pinsAt hb e)))).1,λb hb=>?_,w9⟩
   obtain⟨o,e,d⟩:=T.obj _ _ st7 b hb
   exact (J10.pin (b,o) (Yo _ (Yo _ (mem_pinsAt hb e)))).2.1
def blk_run{elt target iter:Expr}{ifs:List Expr}{pos:Pos}{g:TG}{tt:TT}{te:TE}{it:Addr}{tn:Nat->Heap->Prop}{J:It}{Q:VK}{E:VSP}(B:Blk X ts caps cs sc cl)(hc:X.calm=true)
  (hg:∀ s H fp,PG (blk X (ts ++ cs) sc cl s H fp) target g) (ht:∀ s H fp,PTs (blk X (ts ++ cs) sc cl s H fp) ifs tt) (he:∀ s H fp,PE (blk X (ts ++ cs) sc cl s H fp) elt te)
  (I2:Inv X pins Z H s) (T:Turn X.prog X.w X.K target J fp it tn) (st2:tn 0 s.heap) (f2:∀ b∈fp,FpOk X pins H b) (h:tBlkT ts.length (capOf Z caps) J g tt te H Q) :
  wpAny (model X.prog X.w) X.A (newList []) (λacc s₃=>wpAny (model X.prog X.w) X.A (newFunctionEnv sc X.env.globals cl [] X.env.qual none .none (some X.env)) (λcenv s₄ =>
   codeAny (model X.prog X.w) X.A (.compStart (.ListComp elt [⟨target,iter,ifs,0⟩] sc pos) 0 (.ref it) acc { cenv with scope:=relabel sc X.env }) (BlkPost X pins Z Q acc cenv.locals) s₄) E s₃) E s:=by
 refine wpAny_newObj_type (wpAny_newFunctionEnv B.cell (by intro y hy; simp at hy) (λh₁ hns₁ hsb₁=>?_) B.kind)
 dsimp only at hns₁ hsb₁ ⊢
 have hnew:H s.heap.objs.size=none:=I2.hok.fresh (Ya _)
 have I3:Inv X pins Z (upd H s.heap.objs.size (.lst [])) { s with heap:=s.heap.push { cls:=.type "list",dict:=none,data:=.seq ([]:List Value).toArray } } :=
  I2.laid (t':=s.toks) (λb u e=>Ym _ e) (Ya _) ⟨Ys _,[],0,.nil,Yv _ rfl⟩
 obtain⟨W,⟨m0,w0⟩,step⟩:=h s.heap.objs.size _ hnew (same_new hnew _) upd_same
 have old2:∀ b o,s.heap.get? b=some o->(s.heap.push { cls:=.type "list",dict:=none,data:=.seq ([]:List Value).toArray }).get? b=some o:=λb o e=>Ym _ e
 generalize hs3:({ s with heap:=s.heap.push { cls:=.type "list",dict:=none,data:=.seq ([]:List Value).toArray } }:Shared)=s3 at I3
 have hh:s.heap.push { cls:=.type "list",dict:=none,data:=.seq ([]:List Value).toArray }=s3.heap:=by rw [<- hs3]
 rw [hh] at hns₁ hsb₁ old2
 have fpO:∀ b∈fp,∃ o,s.heap.get? b=some o:=λb hb=>let ⟨o,e,_⟩:=T.obj 0 _ st2 b hb; ⟨o,e⟩
 have f3:∀ b∈fp,FpOk X pins (upd H s.heap.objs.size (.lst [])) b:=λb hb=>⟨by
  obtain⟨o,e⟩:=fpO b hb
  rw [upd_ne (Yl (Yd e))]; exact (f2 b hb).1,(f2 b hb).2⟩
 have hlt3:∀ b∈fp,b < s3.heap.objs.size:=λb hb=>let ⟨o,e⟩:=fpO b hb; Yd (old2 b o e)
 have kk:∀ b o,s3.heap.get? b=some o->h₁.get? b=some o:=λb o e=>hsb₁.extBut b o (Yl (Yd e)) (Ym _ e)
 have J4:=blk_inv (t':=s.toks + ([]:List (Str × Value)).length) B I3 f3 hlt3 (h₁:=h₁) hns₁ kk
 have st4:tn 0 h₁:=T.keep _ _ _ st2 λb hb o e=>kk b o (old2 b o e)
 have key:∀ s4:Shared,s4={ s3 with heap:=h₁,toks:=s.toks + ([]:List (Str × Value)).length } ->
   codeAny (model X.prog X.w) X.A (.compLoop (.ListComp elt [⟨target,iter,ifs,0⟩] sc pos) 0 (.ref it) (.ref s.heap.objs.size) (compEnvC sc cl s3.heap.objs.size X.env)) (BlkPost X pins Z Q (.ref s.heap.objs.size) s3.heap.objs.size) s4:=by
  rintro s4 rfl
  exact blk_key hc (hg _ _ _) (ht _ _ _) (he _ _ _) (blk_ok B I3 f3 hlt3) I3 f3 hlt3 T J4 st4 w0 step
 have key2:=key { s with heap:=h₁,toks:=s.toks + ([]:List (Str × Value)).length } (by rw [<- hs3])
 rw [hh]
 exact codeAny_compStart_list key2 (T.self _ 0 _ _ _ st4 key2)
def pe_compT{elt target iter:Expr}{ifs:List Expr}{pos:Pos}{wi:TI}{g:TG}{tt:TT}{te:TE}(B:Blk X ts caps cs sc cl)(hi:PI X target iter wi)
  (hg:∀ s H fp,PG (blk X (ts ++ cs) sc cl s H fp) target g) (ht:∀ s H fp,PTs (blk X (ts ++ cs) sc cl s H fp) ifs tt) (he:∀ s H fp,PE (blk X (ts ++ cs) sc cl s H fp) elt te) (hc:X.calm=true:=by rfl) (hs:∀ x,foldedSetIterable iter X.env x=pure x:=by intro _; rfl) :
  PE X (.ListComp elt [⟨target,iter,ifs,0⟩] sc pos) (tCompT ts.length caps wi g tt te):=by
 intro pins s Z H Q I h
 rw [eval_ListComp]
 refine wpAny_comprehension_free (use:=none) rfl hs B.clos B.kind B.loc (thn (hi pins s Z H _ I h) λv s1 h1=>thn h1 λitv s2 h2=>?_)
 obtain⟨it,fp,tn,J,H2,e,I2,T,st2,f2,hq⟩:=h2
 subst e
 refine thn (blk_run B hc hg ht he I2 T st2 f2 hq) λacc s3 h3=>thn h3 λcenv s4 h4=>YR h4 λr s' hp=>?_
 obtain⟨rfl,a,H',rfl,I',fC,⟨m,hm⟩,q⟩:=hp
 exact⟨m,hm,λh' sb=>⟨.ref a,H',I'.turned (t':=s'.toks) (λb o hb e=>sb.extBut b o hb e) fC.1 fC.2.1 fC.2.2.2.1 fC.2.2.2.2.1 fC.2.2.2.2.2,rfl,q⟩⟩
def ps_setCompT{elt target iter:Expr}{ifs:List Expr}{x:Str}{px pos spos:Pos}{wi:TI}{g:TG}{tt:TT}{te:TE}(i:Nat)(B:Blk X ts caps cs sc cl)(hi:PI X target iter wi)
  (hg:∀ s H fp,PG (blk X (ts ++ cs) sc cl s H fp) target g) (ht:∀ s H fp,PTs (blk X (ts ++ cs) sc cl s H fp) ifs tt) (he:∀ s H fp,PE (blk X (ts ++ cs) sc cl s H fp) elt te) (hx:PG X (.Name x px) (gName i))
  (hsw:swapsWith (.ListComp elt [⟨target,iter,ifs,0⟩] sc pos) (some (.Name x px)) spos.line X.env=pure true) (hc:X.calm=true:=by rfl) (hs:∀ x,foldedSetIterable iter X.env x=pure x:=by intro _; rfl) :
  PS X (.Assign [.Name x px] (.ListComp elt [⟨target,iter,ifs,0⟩] sc pos) spos) (tAsg (tCompT ts.length caps wi g tt te) (gName i)):=by
 intro pins s Z H D I h
 rw [exec_Assign_Name_used _ _ _ _ hsw]
 refine Yc (wpAny_standAt (Yc ?_))
 show wpAny _ X.A (do let _ <- comprehension (.ListComp elt [⟨target,iter,ifs,0⟩] sc pos) sc X.env _ (newList []) false (eval iter X.env) (some (assign (.Name x px) X.env))) _ _ s
 refine Yc (Yn (wpAny_comprehension_free (use:=some (assign (.Name x px) X.env)) (Q:=λ_ s'=>SP X pins D .next s') rfl hs B.clos B.kind B.loc
  (thn (hi pins s Z H _ I h) λv s1 h1=>thn h1 λitv s2 h2=>?_)) (λ_ s' hq=>Yg (Yg hq)) λ_ _ e=>e)
 obtain⟨it,fp,tn,J,H2,e,I2,T,st2,f2,hq⟩:=h2
 subst e
 refine thn (blk_run B hc hg ht he I2 T st2 f2 hq) λacc s3 h3=>thn h3 λcenv s4 h4=>YR h4 λr s' hp=>?_
 obtain⟨rfl,a,H',rfl,I',fC,⟨m,hm⟩,q⟩:=hp
 obtain⟨oC,esC,epC,hoC,hdC,rC⟩:=id hm
 have Ip:Inv X (pins ++ [(cenv.locals,oC)]) Z H' s':=I'.pins_of λp hp=>by
  rcases List.mem_append.mp hp with z | z
  ·exact I'.pin p (Yo _ z)
  ·have z:p=(cenv.locals,oC):=by simpa using z
   subst z
   exact⟨hoC,fC.1,fC.2.1,fC.2.2.1,λv z=>by rw [show oC.data=_ from hdC] at z; cases z⟩
 refine thn (hx _ s' Z H' (.ref a) (.ref a) _ Ip rfl q) λ_ s5 ⟨Z5,H5,I5,q5⟩=>?_
 have pC:=I5.pin (cenv.locals,oC) (List.mem_append_right _ (List.mem_append_right _ (by simp)))
 refine⟨m,⟨oC,esC,epC,pC.1,hdC,rC⟩,λh' sb=>⟨Z5,H5,I5.unpinned.turned (t':=s5.toks) (λb o hb e=>sb.extBut b o hb e) pC.2.1 fC.2.1 fC.2.2.2.1 fC.2.2.2.2.1 fC.2.2.2.2.2,q5⟩⟩
def pe_comp{elt target iter:Expr}{pos:Pos}{wi:TI}{g:TG}{te:TE}(B:Blk X ts caps cs sc cl)(hi:PI X target iter wi)
  (hg:∀ s H fp,PG (blk X (ts ++ cs) sc cl s H fp) target g) (he:∀ s H fp,PE (blk X (ts ++ cs) sc cl s H fp) elt te) (hc:X.calm=true:=by rfl) (hs:∀ x,foldedSetIterable iter X.env x=pure x:=by intro _; rfl) :
  PE X (.ListComp elt [⟨target,iter,[],0⟩] sc pos) (tComp ts.length caps wi g te):=pe_compT B hi hg (λ_ _ _=>pts_nil) he hc hs
def ps_setComp{elt target iter:Expr}{x:Str}{px pos spos:Pos}{wi:TI}{g:TG}{te:TE}(i:Nat)(B:Blk X ts caps cs sc cl)(hi:PI X target iter wi)
  (hg:∀ s H fp,PG (blk X (ts ++ cs) sc cl s H fp) target g) (he:∀ s H fp,PE (blk X (ts ++ cs) sc cl s H fp) elt te) (hx:PG X (.Name x px) (gName i))
  (hsw:swapsWith (.ListComp elt [⟨target,iter,[],0⟩] sc pos) (some (.Name x px)) spos.line X.env=pure true) (hc:X.calm=true:=by rfl) (hs:∀ x,foldedSetIterable iter X.env x=pure x:=by intro _; rfl) :
  PS X (.Assign [.Name x px] (.ListComp elt [⟨target,iter,[],0⟩] sc pos) spos) (tAsg (tComp ts.length caps wi g te) (gName i)):=ps_setCompT i B hi hg (λ_ _ _=>pts_nil) he hx hsw hc hs
end
section
variable {X:Cx}{tg e elt it c d:Expr}{te:TE}{ta:TA}{wi:TI}{g:TG}{pos p:Pos}{ts cs:List Str}{caps:List Nat}{sc:Scope}{cl:List (Str × Addr)}
def i_enum{es:List Expr}{x1}{pos':Pos}(hg:Gl X "enumerate")(hm:X.mg "enumerate"=none)(ha:QA X [c] ta)(hp:plainE c=true:=by rfl):QI X (.Tuple es x1 pos') (.Call (.Name "enumerate" p) [c] [] pos) (iEnum X.K ta):=⟨pi_enum hg hm ha.h (se_cons hp)⟩
def q_list(hg:Gl X "list")(hm:X.mg "list"=none)(ha:QA X [c] ta)(hp:plainE c=true:=by rfl)(hc:X.calm=true:=by rfl):QE X (.Call (.Name "list" p) [c] [] pos) (tCB (rList X.K) ta):=⟨pe_callTy (call_listA hc) hg hm (by decide +kernel) ha.h (by decide) (by decide) (se_cons hp) rfl⟩
def q_min(hg:Gl X "min")(hm:X.mg "min"=none)(ha:QA X [c,d] ta)(hp:plainE c=true:=by rfl)(hq:plainE d=true:=by rfl)(hc:X.calm=true:=by rfl) :
  QE X (.Call (.Name "min" p) [c,d] [] pos) (tCB (λxs H Q=>∃ i j,xs=[.int i,.int j]/\Q (.int (if j < i then j else i)) H) ta):=⟨pe_callB (call_min2 hc) hg hm (by decide +kernel) ha.h (by decide) (by decide) (se_cons hp) (by rw [se_cons hq]; rfl)⟩
def g_sub{o i:Expr}{to ti:TE}(ho:QE X o to)(hi:QE X i ti) (ha:∀ v,assign (.Subscript o i pos) X.env v=(do
      let ov <- holding [v] (eval o X.env)
      let iv <- holding [v,ov] (eval i X.env)
      standAt pos
      holding [v,ov,iv] (setItem ov iv v)
      release [v,ov,iv] []):=by intro _; rfl):QG X (.Subscript o i pos) (gSub to ti rSetL):=⟨pg_sub ho.h hi.h set_list ha⟩
def blk0(ts:List Str)(hk:sc.kind=.function:=by rfl)(h:(sc.names.all λx=>x.2 != .free && x.2 != .cell && (x.2 != .local || sc.names.lookup x.1 == some .local))=true:=by decide +kernel):Blk X ts [] [] sc []:=by
 have hh:∀ x∈sc.names,x.2 ≠ .free/\x.2 ≠ .cell/\(x.2=.local->sc.names.lookup x.1=some .local):=λx hx=>by
  have q:=List.all_eq_true.mp h x hx
  simp only [Bool.and_eq_true,bne_iff_ne,ne_eq,Bool.or_eq_true,beq_iff_eq] at q
  exact⟨q.1.1,q.1.2,λz=>q.2.elim (λy=>absurd z y) id⟩
 have rl:relabel sc X.env=sc:=by
  unfold relabel
  rw [map_eq_self λx hx=>by
   have q:(x.2 == NameKind.free)=false:=by simpa using (hh x hx).1
   obtain⟨n,k⟩:=x
   simp only at q
   simp [q]]
 refine⟨closureFor_none λx hx=>(hh x hx).1,hk,λx hx=>(hh x hx).2.1,λx hx=>(hh x hx).2.2,λx c e=>by simp at e,λx e=>?_,rfl,λk i x e=>by simp at e,λx e=>by simp at e⟩
 rw [rl] at e
 rcases e with e | e
 ·exact absurd rfl (hh _ (YB e)).2.1
 ·exact absurd rfl (hh _ (YB e)).1
def closL(cells:List (Str × Addr)):List (Str × NameKind)->List (Str × Addr)->Option (List (Str × Addr))
 | [],acc=>some acc
 | (n,k) :: r,acc=>if k == .free then (match cells.lookup n with | some c=>closL cells r ((n,c) :: acc) | none=>none) else closL cells r acc
def closL_of{env:Env}:∀ {ns:List (Str × NameKind)}{acc cl:List (Str × Addr)},closL env.cells ns acc=some cl ->
  (forIn ns acc λx r=>(match x with | (name,kind)=>if (kind == NameKind.free)=true then do let c <- PySem.cellOf env name; pure (ForInStep.yield ((name,c) :: r)) else pure (ForInStep.yield r):Sem (ForInStep (List (Str × Addr)))))=(pure cl:Sem _)
 | [],acc,cl,h=>by cases h; rfl
 | (n,k) :: r,acc,cl,h=>by
  unfold closL at h
  rw [List.forIn_cons]
  dsimp only
  split at h
  ·rename_i hk
   rw [if_pos hk]
   split at h
   ·rename_i c hc
    have e:PySem.cellOf env n=pure c:=by unfold PySem.cellOf; rw [hc]
    rw [e]
    exact closL_of h
   ·cases h
  ·rename_i hk
   rw [if_neg hk]
   exact closL_of h
def closL_sub{cells:List (Str × Addr)}:∀ {ns:List (Str × NameKind)}{acc cl:List (Str × Addr)},closL cells ns acc=some cl->(∀ p∈acc,cells.lookup p.1=some p.2)->∀ p∈cl,cells.lookup p.1=some p.2
 | [],acc,cl,h,ha=>by cases h; exact ha
 | (n,k) :: r,acc,cl,h,ha=>by
  unfold closL at h
  split at h
  ·split at h
   ·rename_i c hc
    exact closL_sub h λp hp=>by
     rcases Yq.mp hp with rfl | hp
     ·exact hc
     ·exact ha p hp
   ·cases h
  ·exact closL_sub h ha
def closL_has{cells:List (Str × Addr)}{x:Str}:∀ {ns:List (Str × NameKind)}{acc cl:List (Str × Addr)},closL cells ns acc=some cl->((x,NameKind.free)∈ns\/∃ c,(x,c)∈acc)->∃ c,(x,c)∈cl
 | [],acc,cl,h,ha=>by
  cases h
  rcases ha with z | z
  ·cases z
  ·exact z
 | (n,k) :: r,acc,cl,h,ha=>by
  unfold closL at h
  split at h
  ·split at h
   ·rename_i c hc
    refine closL_has h ?_
    rcases ha with z | ⟨c',z⟩
    ·rcases Yq.mp z with e | z
     ·cases e; exact .inr ⟨c,List.mem_cons_self⟩
     ·exact .inl z
    ·exact .inr ⟨c',YM _ z⟩
   ·cases h
  ·rename_i hk
   refine closL_has h ?_
   rcases ha with z | z
   ·rcases Yq.mp z with e | z
    ·cases e; exact absurd rfl hk
    ·exact .inl z
   ·exact .inr z
def lookup_of_mem{x:Str}{c:Addr}:∀ {l:List (Str × Addr)},(x,c)∈l->∃ c',l.lookup x=some c'
 | [],h=>by cases h
 | (n,d) :: r,h=>by
  rw [List.lookup_cons]
  cases e:x == n with
  | true=>exact⟨d,rfl⟩
  | false =>
   rcases Yq.mp h with z | z
   ·cases z; simp at e
   ·exact lookup_of_mem z
def relabel_cases{env:Env}{x:Str}{k:NameKind}(h:(relabel sc env).names.lookup x=some k):(x,k)∈sc.names\/(k=.cell/\(x,NameKind.free)∈sc.names):=by
 have m:=YB h
 unfold relabel at m
 obtain⟨⟨n,k'⟩,hm,e⟩:=List.mem_map.mp m
 dsimp only at e
 split at e
 ·rename_i hc
  cases e
  simp only [Bool.and_eq_true,beq_iff_eq] at hc
  rw [hc.1.1] at hm
  exact .inr ⟨rfl,hm⟩
 ·cases e
  exact .inl hm
theorem relabel_free{env:Env}{x:Str}:∀ {ns:List (Str × NameKind)},ns.lookup x=some NameKind.free ->
  (ns.map λ(n,k)=>if (k == NameKind.free && env.scope.kind == .function && env.kindOf n == some .cell) then (n,NameKind.cell) else (n,k)).lookup x=some .cell \/
  (ns.map λ(n,k)=>if (k == NameKind.free && env.scope.kind == .function && env.kindOf n == some .cell) then (n,NameKind.cell) else (n,k)).lookup x=some .free
 | [],h=>by cases h
 | (n,k) :: r,h=>by
  rw [List.lookup_cons] at h
  rw [Yr]
  dsimp only
  cases e:x == n with
  | true =>
   rw [e] at h
   cases h
   split <;> simp [List.lookup_cons,e]
  | false =>
   rw [e] at h
   split
   ·simp only [List.lookup_cons,e]; exact relabel_free h
   ·simp only [List.lookup_cons,e]; exact relabel_free h
def blkC(ts:List Str)(caps:List Nat)(cs:List Str)(hcl:closL X.env.cells sc.names []=some cl:=by rfl)(hcap:caps.map (λi=>X.N[i]?)=cs.map some:=by rfl)(hck:(cs.all λx=>X.env.kindOf x == some .cell || X.env.kindOf x == some .free)=true:=by rfl)
  (hcf:cs.map (λx=>sc.names.lookup x)=cs.map (λ_=>some NameKind.free):=by rfl) (hk:sc.kind=.function:=by rfl) (h:(sc.names.all λx=>x.2 != .cell && (x.2 != .local || sc.names.lookup x.1 == some .local))=true:=by decide +kernel):Blk X ts caps cs sc cl:=by
 have hh:∀ x∈sc.names,x.2 ≠ .cell/\(x.2=.local->sc.names.lookup x.1=some .local):=λx hx=>by
  have q:=List.all_eq_true.mp h x hx
  simp only [Bool.and_eq_true,bne_iff_ne,ne_eq,Bool.or_eq_true,beq_iff_eq] at q
  exact⟨q.1,λz=>q.2.elim (λy=>absurd z y) id⟩
 have len:caps.length=cs.length:=by have:=congrArg List.length hcap; simpa using this
 refine⟨?_,hk,λx hx=>(hh x hx).1,λx hx=>(hh x hx).2,λx c e=>?_,λx e=>?_,len,λk i x e1 e2=>?_,λx hx=>?_⟩
 ·simp only [closureFor]
  rw [closL_of hcl]
  rfl
 ·exact closL_sub hcl (λp hp=>by cases hp) _ (YB e)
 ·have m:(x,NameKind.free)∈sc.names:=by
   rcases e with e | e
   ·rcases relabel_cases e with z | ⟨_,z⟩
    ·exact absurd rfl (hh _ z).1
    ·exact z
   ·rcases relabel_cases e with z | ⟨z,_⟩
    ·exact z
    ·cases z
  obtain⟨c,hc⟩:=closL_has hcl (.inl m)
  exact lookup_of_mem hc
 ·have h1:=congrArg (·[k]?) hcap
  simp only [List.getElem?_map,e1,e2,Option.map_some,Option.some.injEq] at h1
  have h2:=List.all_eq_true.mp hck x (YY e2)
  simp only [Bool.or_eq_true,beq_iff_eq] at h2
  exact⟨h1,h2⟩
 ·obtain⟨k,hk'⟩:=Y6 hx
  have h1:=congrArg (·[k]?) hcf
  simp only [List.getElem?_map,hk',Option.map_some,Option.some.injEq] at h1
  exact relabel_free h1
structure QTs(X:Cx)(ifs:List Expr)(t:TT):Prop where
 h:PTs X ifs t
def q_comp(B:Blk X ts caps cs sc cl)(hi:QI X tg it wi)(hg:∀ s H fp,QG (blk X (ts ++ cs) sc cl s H fp) tg g)(he:∀ s H fp,QE (blk X (ts ++ cs) sc cl s H fp) elt te)(hc:X.calm=true:=by rfl)(hs:∀ x,foldedSetIterable it X.env x=pure x:=by intro _; rfl) :
  QE X (.ListComp elt [⟨tg,it,[],0⟩] sc pos) (tComp ts.length caps wi g te):=⟨pe_comp B hi.h (λs H fp=>(hg s H fp).h) (λs H fp=>(he s H fp).h) hc hs⟩
def s_setComp{x:Str}{px spos:Pos}(i:Nat)(B:Blk X ts caps cs sc cl)(hi:QI X tg it wi)(hg:∀ s H fp,QG (blk X (ts ++ cs) sc cl s H fp) tg g)(he:∀ s H fp,QE (blk X (ts ++ cs) sc cl s H fp) elt te)(hx:QG X (.Name x px) (gName i))
  (hsw:swapsWith (.ListComp elt [⟨tg,it,[],0⟩] sc pos) (some (.Name x px)) spos.line X.env=pure true:=by rfl) (hc:X.calm=true:=by rfl) (hs:∀ x,foldedSetIterable it X.env x=pure x:=by intro _; rfl) :
  QS X (.Assign [.Name x px] (.ListComp elt [⟨tg,it,[],0⟩] sc pos) spos) (tAsg (tComp ts.length caps wi g te) (gName i)):=⟨ps_setComp i B hi.h (λs H fp=>(hg s H fp).h) (λs H fp=>(he s H fp).h) hx.h hsw hc hs⟩
end
section
variable {X:Cx}{a b c e:Expr}{ta tb tc te:TE}{pos:Pos}{st:Stmt}
end
def enumK(K:PySem.W.Frag)(g:TG)(tb:TS)(D:Ends)(Z:St):List V->Hp->Prop:=λvs H1=>∃ a,vs=[.ref a]/\(∃ xs,SqL K H1 a xs)/\∃ W:Nat->Nat->St->Hp->Prop,(∃ m,W 0 m Z H1)/\∀ i m Z H,W i m Z H ->
 ((Ite K a).stop i H/\D.nx Z H)\/((Ite K a).go i H/\∃ N:St->Hp->Prop,(∀ Z' H',N Z' H'->∃ m',m' < m/\W (i + 1) m' Z' H')/\∀ x H',(Ite K a).yld i H x H'->g x Z H' λZ2 H2=>tb { D with nx:=N,ct:=N,bk:=D.nx } Z2 H2)
variable {g:TG}{tb:TS}{D:Ends}{Z:St}
theorem tFor_enum{ta:TA}:tFor (iEnum K ta) g tb D Z H=ta Z H (enumK K g tb D Z):=rfl
theorem enumK_of{a:Addr}{xs:List V}(Pv:Nat->St->Hp->Prop)(h0:Pv 0 Z H)(hl:∀ i Z H,i<=xs.length->Pv i Z H->SqL K H a xs)
  (hs:∀ i x Z H p H',xs[i]?=some x->Pv i Z H->H p=none->Same H H'->H' p=some (.tup [.int i,x])->g (.ref p) Z H' λZ2 H2=>tb { D with nx:=Pv (i + 1),ct:=Pv (i + 1),bk:=D.nx } Z2 H2) (hd:∀ Z H,Pv xs.length Z H->D.nx Z H) :
  enumK K g tb D Z [.ref a] H:=by
 refine⟨a,rfl,⟨xs,hl 0 Z H (Nat.zero_le _) h0⟩,λi m Z H=>m=xs.length - i/\i<=xs.length/\Pv i Z H,⟨xs.length,by simp,Nat.zero_le _,h0⟩,?_⟩
 rintro i m Z H ⟨rfl,hi,p⟩
 have q:=hl i Z H hi p
 by_cases hlt:i < xs.length
 ·refine .inr ⟨⟨xs,xs[i],q,by simp [hlt]⟩,Pv (i + 1),λZ' H' p'=>⟨xs.length - (i + 1),by omega,rfl,hlt,p'⟩,λx H' y=>?_⟩
  obtain⟨b,y,rfl,hn,sm,e,hy⟩:=y
  exact hs i y Z H b H' (hy xs q) p hn sm e
 ·have e:i=xs.length:=by omega
  subst e
  exact .inl ⟨⟨xs,q,Ya _⟩,hd _ _ p⟩
variable {te:TE}
def blk_rngT{lo:Int}{n nt:Nat}{cp:St}{tt:TT}{H1:Hp}{Q:VK}(Pv:Addr->Nat->List V->Hp->Prop)(h0:∀ acc H2,H1 acc=none->Same H1 H2->H2 acc=some (.lst [])->Pv acc 0 [] H2)
  (hl:∀ acc i ys H,Pv acc i ys H->H acc=some (.lst ys)/\ys.length < 1000000)
  (hs:∀ acc i ys H os,H1 acc=none->i < n->Pv acc i ys H->os.length=nt->g (.int (lo + (i:Nat))) (os ++ cp) H λτ H3=>∃ os',os'.length=nt/\τ=os' ++ cp/\tt τ H3 λb H4=>if b=true then te τ H4 λv H5=>H5 acc=some (.lst ys)/\Pv acc (i + 1) (ys ++ [v]) (upd H5 acc (.lst (ys ++ [v]))) else Pv acc (i + 1) ys H4)
  (hd:∀ acc ys H,H1 acc=none->Pv acc n ys H->Q (.ref acc) H):tBlkT nt cp (Itr lo n) g tt te H1 Q:=by
 intro acc H2 hn sm e
 refine⟨λi m ys H=>m=n - i/\i<=n/\Pv acc i ys H,⟨n,by simp,Nat.zero_le _,h0 acc H2 hn sm e⟩,?_⟩
 rintro i m ys H ⟨rfl,hi,p⟩
 obtain⟨q1,q2⟩:=hl acc i ys H p
 refine⟨q1,?_⟩
 by_cases hlt:i < n
 ·refine .inr ⟨hlt,q2,Pv acc (i + 1),λys' H' p'=>⟨n - (i + 1),by omega,rfl,hlt,p'⟩,λos x H' ol y=>?_⟩
  obtain⟨rfl,rfl⟩:=y
  exact hs acc i ys _ os hn hlt p ol
 ·have e:i=n:=by omega
  subst e
  exact .inl ⟨Ya _,hd _ _ _ hn p⟩
def blk_rng{lo:Int}{n nt:Nat}{cp:St}{H1:Hp}{Q:VK}(Pv:Addr->Nat->List V->Hp->Prop)(h0:∀ acc H2,H1 acc=none->Same H1 H2->H2 acc=some (.lst [])->Pv acc 0 [] H2)
  (hl:∀ acc i ys H,Pv acc i ys H->H acc=some (.lst ys)/\ys.length < 1000000)
  (hs:∀ acc i ys H os,H1 acc=none->i < n->Pv acc i ys H->os.length=nt->g (.int (lo + (i:Nat))) (os ++ cp) H λτ H3=>∃ os',os'.length=nt/\τ=os' ++ cp/\te τ H3 λv H4=>H4 acc=some (.lst ys)/\Pv acc (i + 1) (ys ++ [v]) (upd H4 acc (.lst (ys ++ [v]))))
  (hd:∀ acc ys H,H1 acc=none->Pv acc n ys H->Q (.ref acc) H):tBlk nt cp (Itr lo n) g te H1 Q:=by
 refine blk_rngT (tt:=tYes) Pv h0 hl (λacc i ys H os a b c d=>?_) hd
 have h:=hs acc i ys H os a b c d
 have e:(λτ H3=>∃ os',os'.length=nt/\τ=os' ++ cp/\tYes τ H3 λb H4=>if b=true then te τ H4 λv H5=>H5 acc=some (.lst ys)/\Pv acc (i + 1) (ys ++ [v]) (upd H5 acc (.lst (ys ++ [v]))) else Pv acc (i + 1) ys H4) =
   (λτ H3=>∃ os',os'.length=nt/\τ=os' ++ cp/\te τ H3 λv H4=>H4 acc=some (.lst ys)/\Pv acc (i + 1) (ys ++ [v]) (upd H4 acc (.lst (ys ++ [v])))):=by
  funext τ H3
  simp only [tYes,if_true]
 rw [e]
 exact h
def rngK(lo:Int)(n:Nat)(g:TG)(tb:TS)(D:Ends)(Z:St):Hp->Prop:=λH1=>∃ W:Nat->Nat->St->Hp->Prop,(∃ m,W 0 m Z H1)/\∀ i m Z H,W i m Z H ->
 ((Itr lo n).stop i H/\D.nx Z H)\/((Itr lo n).go i H/\∃ N:St->Hp->Prop,(∀ Z' H',N Z' H'->∃ m',m' < m/\W (i + 1) m' Z' H')/\∀ x H',(Itr lo n).yld i H x H'->g x Z H' λZ2 H2=>tb { D with nx:=N,ct:=N,bk:=D.nx } Z2 H2)
theorem tFor_rng1{ta:TA}:tFor (iRng1 ta) g tb D Z H=ta Z H λvs H1=>∃ j:Int,vs=[.int j]/\-(2 ^ 62)<=j/\j < 2 ^ 62/\rngK 0 j.toNat g tb D Z H1:=rfl
def rngK_of{lo:Int}{n:Nat}(Pv:Nat->St->Hp->Prop)(h0:Pv 0 Z H)(hs:∀ i Z H,i < n->Pv i Z H->g (.int (lo + (i:Nat))) Z H λZ2 H2=>tb { D with nx:=Pv (i + 1),ct:=Pv (i + 1),bk:=D.nx } Z2 H2)
  (hd:∀ Z H,Pv n Z H->D.nx Z H):rngK lo n g tb D Z H:=by
 refine⟨λi m Z H=>m=n - i/\i<=n/\Pv i Z H,⟨n,by simp,Nat.zero_le _,h0⟩,?_⟩
 rintro i m Z H ⟨rfl,hi,p⟩
 by_cases hlt:i < n
 ·refine .inr ⟨hlt,Pv (i + 1),λZ' H' p'=>⟨n - (i + 1),by omega,rfl,hlt,p'⟩,λx H' y=>?_⟩
  obtain⟨rfl,rfl⟩:=y
  exact hs i Z _ hlt p
 ·have e:i=n:=by omega
  subst e
  exact .inl ⟨Ya _,hd _ _ p⟩
def listK(K:PySem.W.Frag)(g:TG)(tb:TS)(D:Ends)(Z:St):V->Hp->Prop:=λx H1=>∃ a,x=.ref a/\(∃ xs,SqL K H1 a xs)/\∃ W:Nat->Nat->St->Hp->Prop,(∃ m,W 0 m Z H1)/\∀ i m Z H,W i m Z H ->
 ((Itl K a).stop i H/\D.nx Z H)\/((Itl K a).go i H/\∃ N:St->Hp->Prop,(∀ Z' H',N Z' H'->∃ m',m' < m/\W (i + 1) m' Z' H')/\∀ x H',(Itl K a).yld i H x H'->g x Z H' λZ2 H2=>tb { D with nx:=N,ct:=N,bk:=D.nx } Z2 H2)
theorem tFor_list:tFor (iList K te) g tb D Z H=te Z H (listK K g tb D Z):=rfl
theorem listK_of{a:Addr}{xs:List V}(Pv:Nat->St->Hp->Prop)(h0:Pv 0 Z H)(hl:∀ i Z H,i<=xs.length->Pv i Z H->SqL K H a xs)
  (hs:∀ i x Z H,xs[i]?=some x->Pv i Z H->g x Z H λZ2 H2=>tb { D with nx:=Pv (i + 1),ct:=Pv (i + 1),bk:=D.nx } Z2 H2) (hd:∀ Z H,Pv xs.length Z H->D.nx Z H):listK K g tb D Z (.ref a) H :=
 ⟨a,rfl,⟨xs,hl 0 Z H (Ys _) h0⟩,for_list Pv h0 hl hs hd⟩
def tupK(K:PySem.W.Frag)(g:TG)(tb:TS)(D:Ends)(Z:St):V->Hp->Prop:=λx H1=>∃ a,x=.ref a/\(∃ xs,SqT K H1 a xs)/\∃ W:Nat->Nat->St->Hp->Prop,(∃ m,W 0 m Z H1)/\∀ i m Z H,W i m Z H ->
 ((Itt K a).stop i H/\D.nx Z H)\/((Itt K a).go i H/\∃ N:St->Hp->Prop,(∀ Z' H',N Z' H'->∃ m',m' < m/\W (i + 1) m' Z' H')/\∀ x H',(Itt K a).yld i H x H'->g x Z H' λZ2 H2=>tb { D with nx:=N,ct:=N,bk:=D.nx } Z2 H2)
theorem tFor_tup:tFor (iTup K te) g tb D Z H=te Z H (tupK K g tb D Z):=rfl
def tupK_of{a:Addr}{xs:List V}(Pv:Nat->St->Hp->Prop)(h0:Pv 0 Z H)(hl:∀ i Z H,i<=xs.length->Pv i Z H->SqT K H a xs)
  (hs:∀ i x Z H,xs[i]?=some x->Pv i Z H->g x Z H λZ2 H2=>tb { D with nx:=Pv (i + 1),ct:=Pv (i + 1),bk:=D.nx } Z2 H2) (hd:∀ Z H,Pv xs.length Z H->D.nx Z H):tupK K g tb D Z (.ref a) H:=by
 refine⟨a,rfl,⟨xs,hl 0 Z H (Nat.zero_le _) h0⟩,λi m Z H=>m=xs.length - i/\i<=xs.length/\Pv i Z H,⟨xs.length,by simp,Nat.zero_le _,h0⟩,?_⟩
 rintro i m Z H ⟨rfl,hi,p⟩
 have q:=hl i Z H hi p
 by_cases hlt:i < xs.length
 ·refine .inr ⟨⟨xs,xs[i],q,by simp [hlt]⟩,Pv (i + 1),λZ' H' p'=>⟨xs.length - (i + 1),by omega,rfl,hlt,p'⟩,λx H' y=>?_⟩
  obtain⟨rfl,hy⟩:=y
  exact hs i x Z _ (hy xs q) p
 ·have e:i=xs.length:=by omega
  subst e
  exact .inl ⟨⟨xs,q,Ya _⟩,hd _ _ p⟩
structure Mth(P:Program)(w:World)(K:PySem.W.Frag)(mg:Str->Option Value)(base:Heap)(CX:CXT)(k:Nat)(C:Addr)(m:Str)(ps:List Str)(sp:Sp):Prop where
 ex:∃ (f:Addr) (fd:FuncData),FnOk P w K mg base CX k f fd ps sp/\Binds K fd ps []/\Meth K C m f/\Cls K C
structure Mkr(P:Program)(w:World)(K:PySem.W.Frag)(mg:Str->Option Value)(base:Heap)(CX:CXT)(k:Nat)(C:Addr)(x:Str)(ps:List Str)(sp:Sp):Prop where
 ex:∃ (f:Addr) (fd:FuncData),FnOk P w K mg base CX k f fd ps sp/\Binds K fd ps []/\Mk K C f/\mg x=some (.ref C)
section
variable {X:Cx}{CX:CXT}{j k:Nat}{C:Addr}{x m fl:Str}{ps:List Str}{sp:Sp}{p pos apos:Pos}{e o value:Expr}{es:List Expr}{t:TA}{ta tv:TE}{E:XK}
def q_meth{pl:Sem Bool}(F:Mth X.prog X.w X.K X.mg X.base CX0 j C m ps sp)(hr:Room k X.A)(hj:j<=k)(ho:QE X o ta)(ha:QA X (e :: es) t)(hp:(e :: es).all plainE=true:=by rfl)
  (ht:eval (.Call (.Attribute o m apos) (e :: es) [] pos) X.env=(do
   let ov <- eval o X.env
   standAt apos.atName
   let (f,first) <- holding [ov] (getMethod ov m pl)
   callWith pos f first (backTo pos (starEach (e :: es) X.env)) (backToKw pos (keywordEach [] X.env))):=by rfl) :
  QE X (.Call (.Attribute o m apos) (e :: es) [] pos) (tMeth C m sp [] E0 ta t):=by
 obtain⟨f,fd,G,b,hm,c⟩:=F.ex
 exact⟨pe_meth ho.h c hm G (hr.mono hj) b .nil pass0 ha.h (se_cons (hd_plain hp).1) (se_any (hd_plain hp).2) ht⟩
def q_meth0{pl:Sem Bool}(F:Mth X.prog X.w X.K X.mg X.base CX0 j C m ps sp)(hr:Room k X.A)(hj:j<=k)(ho:QE X o ta)
  (ht:eval (.Call (.Attribute o m apos) [] [] pos) X.env=(do
   let ov <- eval o X.env
   standAt apos.atName
   let (f,first) <- holding [ov] (getMethod ov m pl)
   callWith pos f first (backTo pos (starEach [] X.env)) (backToKw pos (keywordEach [] X.env))):=by rfl) :
  QE X (.Call (.Attribute o m apos) [] [] pos) (tMeth C m sp [] E0 ta tNil):=by
 obtain⟨f,fd,G,b,hm,c⟩:=F.ex
 exact⟨pe_meth0 ho.h c hm G (hr.mono hj) b .nil pass0 ht⟩
def q_make(F:Mkr X.prog X.w X.K X.mg X.base CX0 j C x ps sp)(hr:Room (k + 1) X.A)(hj:j<=k)(hg:Gl X x)(ha:QA X (e :: es) t)(hp:(e :: es).all plainE=true:=by rfl)(hdb:(x == ("__debug__":Str))=false:=by decide) :
  QE X (.Call (.Name x p) (e :: es) [] pos) (tMake C sp [] E0 t):=by
 obtain⟨f,fd,G,b,M,hm⟩:=F.ex
 exact⟨pe_make M (G.mono hj) hr hg hm b .nil pass0 ha.h hdb (se_cons (hd_plain hp).1) (se_any (hd_plain hp).2)⟩
def q_fld(ho:QE X e ta)(hb:attributeBase e fl X.env (eval e X.env)=eval e X.env:=by rfl):QE X (.Attribute e fl pos) (tFld X.K ta fl):=⟨pe_fld ho.h hb⟩
def s_fld{pos':Pos}(ho:QE X o ta)(hv:QE X value tv)(hs:swapsWith value (some (.Attribute o fl pos')) pos.line X.env=pure false:=by rfl):QS X (.Assign [.Attribute o fl pos'] value pos) (sFld X.K ta tv fl):=⟨ps_fld ho.h hv.h hs⟩
def q_fldK(K:PySem.W.Frag)(ho:QE X e ta)(hK:X.K=K:=by rfl)(hb:attributeBase e fl X.env (eval e X.env)=eval e X.env:=by rfl):QE X (.Attribute e fl pos) (tFld K ta fl):=by subst hK; exact⟨pe_fld ho.h hb⟩
def q_listK(K:PySem.W.Frag)(hg:Gl X "list")(hm:X.mg "list"=none)(ha:QA X [e] t)(hK:X.K=K:=by rfl)(hp:plainE e=true:=by rfl)(hc:X.calm=true:=by rfl):QE X (.Call (.Name "list" p) [e] [] pos) (tCB (rList K) t):=by subst hK; exact q_list hg hm ha hp hc
def tMethX(C:Addr)(m:Str)(sp:Sp)(ta:TE)(t:TA):TEX:=λZ H Q EX=>ta Z H λx H1=>∃ a dx fs,x=.ref a/\H1 a=some (.ins C dx fs)/\fs.lookup m=none/\t Z H1 λvs H2=>sp (x :: vs) H2 Q EX
end
def FlyAny(B:Heap)(l:List Env)(e:Addr)(cls a0:Value)(h:Heap):Prop:=B.StaysIn h/\B.get? e=none/\h.FunFrames B l/\∃ fl,h.TracedAtW B e cls a0 fl
section
variable {M:Model}{A:Around}{E:VSP}{s:Shared}{B:Heap}{env:Env}{outer:List Env}{L e:Addr}{cls a0:Value}
def FlyAny.but{l:List Env}{h h':Heap}{C:Addr}{m:Str->Option Value}(x:FlyAny B l e cls a0 h)(hn:h.Ns C m)(sb:Heap.SameBut C h h')(hB:B.get? C=none)(hl:C ∉ l.filterMap (·.frame)):FlyAny B l e cls a0 h':=by
 obtain⟨hkb,hen,hfr,fl,oe,vs,T,oT,ts,he,hcls,hd,h1,hnT,hTe,hT,hdT,h3⟩:=x
 obtain⟨oC,es,ep,hC,hdC,_⟩:=hn
 have e2:∀ b,b ≠ C->h'.get? b=h.get? b:=sb.2
 have ne:∀ b ob ws,h.get? b=some ob->ob.data=.fields ws->b ≠ C:=λb ob ws g1 g2 z=>by
  rw [z,hC] at g1
  cases g1
  rw [hdC] at g2
  cases g2
 have frm:∀ {l:List Env},h.FunFrames B l->C ∉ l.filterMap (·.frame)->h'.FunFrames B l:=by
  intro l
  induction l with
  | nil=>exact λ_ _=>trivial
  | cons env rest ih =>
   rintro⟨hk,⟨L,o,hf,hn,ho,hd⟩,hr⟩ hc
   rw [List.filterMap_cons,hf] at hc
   have hc':C ≠ L/\C ∉ rest.filterMap (·.frame):=by simpa using hc
   exact⟨hk,⟨L,o,hf,hn,(e2 L (Ne.symm hc'.1)).trans ho,hd⟩,ih hr hc'.2⟩
 refine⟨λb o q=>(e2 b λz=>by rw [z,hB] at q; cases q).trans (hkb b o q),hen,frm hfr hl,fl,oe,vs,T,oT,ts,(e2 e (ne e oe vs he hd)).trans he,hcls,hd,h1,hnT,hTe,(e2 T (ne T oT ts hT hdT)).trans hT,hdT,h3⟩
end
section
variable {X:Cx}{E:XK}{pins:List (Addr × Obj)}{Z:St}{H:Hp}{s:Shared}
variable {ts cs:List Str}{caps:List Nat}{sc:Scope}{cl:List (Str × Addr)}{fp:List Addr}
end
section
variable {X:Cx}{E:XK}{j k:Nat}{x:Str}{ps:List Str}{sp:Sp}{p pos:Pos}{e elt tg it:Expr}{es:List Expr}{t:TA}{ts cs:List Str}{caps:List Nat}{sc:Scope}{cl:List (Str × Addr)}{wi:TI}{g:TG}{te:TE}
end
def tHand0(K:PySem.W.Frag)(D:Addr)(th:Addr->TS)(En:Ends)(Z:St):XK:=λc _ H'=>∃ C,c=.ref C/\exmOne K (.ref C) (.ref D)=some true/\∀ ea,th ea { nx:=En.nx,rt:=En.rt,bk:=En.bk,ct:=En.ct } Z H'
def tTry0(K:PySem.W.Frag)(tb:TSX)(D:Addr)(th:Addr->TS):TS:=λEn Z H=>tb En (tHand0 K D th En) Z H
section
variable {X:Cx}{body:List Stmt}{x:Str}{np hpos pos:Pos}{b₀:Stmt}{suite:List Stmt}{tb:TSX}{th:Addr->TS}{D:Addr}
end
def tMakeX(C:Addr)(sp:Sp)(t:TA):TEX:=λZ H Q EX=>t Z H λvs H1=>∀ x dx,H1 x=none->H1 dx=none->dx ≠ x->sp (.ref x :: vs) (upd (upd H1 dx (.own x)) x (.ins C dx [])) (λv H2=>v=.non/\Q (.ref x) H2) EX
section
variable {X:Cx}{j k:Nat}{C:Addr}{x:Str}{ps:List Str}{sp:Sp}{p pos:Pos}{e:Expr}{es:List Expr}{t:TA}
end
section
variable {X:Cx}{e:Expr}{te:TE}{p1 p2 p3 pos:Pos}{c1 c2:Str}{k1 k2:Nat}
def tFs(te:TE):TE:=λZ H Q=>te Z H λx H1=>∃ i:Int,x=.int i/\i.natAbs < 2 ^ 30/\∀ z,Q (.str z) H1
end
section
variable {X:Cx}{e:Expr}{t:TA}{p pos:Pos}
end
section
variable {X:Cx}{pins:List (Addr × Obj)}{Z:St}{H:Hp}{s:Shared}
def EqD.neAt(I:Inv X pins Z H s){x y:V}{b:Bool}{n:Nat}(h:EqD H x y b n):∀ {A:Around}{u v:Value},RelV x u->RelV y v->A.units + n < cLine->(∃ a c,x=.ref a/\y=.ref c)->SeqAt.RcNeAt A s u v (!b):=by
 induction h with
 | flat fx fy =>
  rintro A u v r1 r2 _ ⟨a,c,rfl,_⟩
  cases fx
 | up h ih =>
  intro A u v r1 r2 hu w
  exact ih r1 r2 (by omega) w
 | @tup a b xs ys e n ha hb h ih =>
  intro A u v r1 r2 hu _
  cases r1
  cases r2
  obtain⟨its,v1,t1,_⟩:=I.tuple (SqT.of ha)
  obtain⟨jts,v2,t2,_⟩:=I.tuple (SqT.of hb)
  have z:=SeqAt.RcNeAt.tuples (A:=A) (s:=s) (e:=e) t1 t2 (by omega) λj h1 h2=>by
   have k1:j < xs.length:=by rw [v1.length]; simpa using h1
   have k2:j < ys.length:=by rw [v2.length]; simpa using h2
   obtain⟨u1,q1,w1⟩:=v1.get (Yb k1)
   obtain⟨u2,q2,w2⟩:=v2.get (Yb k2)
   have g1:its.toArray[j]=u1:=by
    have:=Yf.mp q1
    obtain⟨hh,this⟩:=this
    simpa using this
   have g2:jts.toArray[j]=u2:=by
    have:=Yf.mp q2
    obtain⟨hh,this⟩:=this
    simpa using this
   rw [g1,g2]
   exact ((h j _ _ (Yb k1) (Yb k2)).at I w1 w2 (by show A.units + 1 + n < cLine; omega)).1
  simpa [v1.length,v2.length] using z
 | @lst a b xs ys e n ha hb hl h ih =>
  intro A u v r1 r2 hu _
  cases r1
  cases r2
  obtain⟨its,v1,t1,_⟩:=I.list (SqL.of ha)
  obtain⟨jts,v2,t2,_⟩:=I.list (SqL.of hb)
  have z:=SeqAt.RcNeAt.lists (A:=A) (s:=s) (e:=e) t1.isList t2.isList (by simp [<- v1.length,<- v2.length,hl]) (by omega) λj h1 h2=>by
   have k1:j < xs.length:=by rw [v1.length]; simpa using h1
   have k2:j < ys.length:=by rw [v2.length]; simpa using h2
   obtain⟨u1,q1,w1⟩:=v1.get (Yb k1)
   obtain⟨u2,q2,w2⟩:=v2.get (Yb k2)
   have g1:its.toArray[j]=u1:=by
    have:=Yf.mp q1
    obtain⟨hh,this⟩:=this
    simpa using this
   have g2:jts.toArray[j]=u2:=by
    have:=Yf.mp q2
    obtain⟨hh,this⟩:=this
    simpa using this
   rw [g1,g2]
   exact ((h j _ _ (Yb k1) (Yb k2)).at I w1 w2 (by show A.units + 1 + n < cLine; omega)).1
  simpa [v1.length,v2.length] using z
 | @lstNe a b xs ys n ha hb hl =>
  intro A u v r1 r2 hu _
  cases r1
  cases r2
  obtain⟨its,v1,t1,_⟩:=I.list (SqL.of ha)
  obtain⟨jts,v2,t2,_⟩:=I.list (SqL.of hb)
  exact SeqAt.RcNeAt.lists_lengths t1.isList t2.isList (by simp [<- v1.length,<- v2.length]; exact hl) (by omega)
end
section
variable {X:Cx}{a b:Expr}{ta tb:TE}{pos:Pos}{k:Nat}
def rNeD:R2:=λx y H Q=>∃ t n p c,x=.ref p/\y=.ref c/\EqD H x y t n/\n<=60/\Q (.bl (!t)) H
def op_neD(hr:Room k X.A):OpR X (compareOp .NotEq) rNeD:=by
 intro pins s Z H x y v u Q I rx ry h
 obtain⟨t,n,p,c,e1,e2,h,hn,q⟩:=h
 have hu:=hr.units
 exact (h.neAt I rx ry (by omega) ⟨p,c,e1,e2⟩) _ _ _ _ ⟨.bl (!t),H,I,rfl,q⟩
def t_neD(hr:Room k X.A)(ha:QE X a ta)(hb:QE X b tb):QT X (.Compare a [.NotEq] [b] pos) (tTest (tOp rNeD ta tb)):=⟨pt_cmpR (op_neD hr) ha.h hb.h (nomark _)⟩
end
section
variable {X:Cx}{o e:Expr}{es:List Expr}{to:TE}{t:TA}{name:Str}{apos cpos:Pos}{id:String}{r:V->List V->Hp->VK->Prop}
def tLm0(r:V->List V->Hp->VK->Prop)(to:TE):TE:=λZ H Q=>to Z H λx H1=>r x [] H1 Q
def tLm(r:V->List V->Hp->VK->Prop)(to:TE)(t:TA):TE:=λZ H Q=>to Z H λx H1=>∃ l zs,x=.ref l/\H1 l=some (.lst zs)/\t Z H1 λvs H2=>r x vs H2 Q
end
section
variable {X:Cx}{pins:List (Addr × Obj)}{Z:St}{H:Hp}{s:Shared}{a:Addr}{kvs:List (Key × V)}
end
section
variable {X:Cx}{tg l o i e value:Expr}{tl td ty tv:TE}{t:TA}{pos pos' p:Pos}
def tDG(td ty:TE):TE:=λZ H Q=>td Z H λx H1=>ty Z H1 λy H2=>∃ a kvs k v,x=.ref a/\Rd H2 a (.dK kvs)/\y=kV k/\valV kvs k=some v/\Q v H2
def sDP(td ty tv:TE):TS:=λD Z H=>tv Z H λv H1=>td Z H1 λx H2=>ty Z H2 λy H3=>∃ a kvs k,x=.ref a/\H3 a=some (.dK kvs)/\y=kV k/\kvs.length < 1000/\D.nx Z (upd H3 a (.dK (putK kvs k v)))
def tDI(neg:Bool)(ty td:TE):TE:=λZ H Q=>ty Z H λy H1=>td Z H1 λx H2=>∃ a kvs k,x=.ref a/\Rd H2 a (.dK kvs)/\y=kV k/\Q (.bl (if neg=true then !(valV kvs k).isSome else (valV kvs k).isSome)) H2
end
def blk_list{a:Addr}{xs:List V}{nt:Nat}{cp:St}{tt:TT}{H1:Hp}{Q:VK}(Pv:Addr->Nat->List V->Hp->Prop)(h0:∀ acc H2,H1 acc=none->Same H1 H2->H2 acc=some (.lst [])->Pv acc 0 [] H2)
  (hl:∀ acc i ys H,H1 acc=none->Pv acc i ys H->H acc=some (.lst ys)/\ys.length < 1000000/\SqL K H a xs)
  (hs:∀ acc i x ys H os,H1 acc=none->xs[i]?=some x->Pv acc i ys H->os.length=nt->g x (os ++ cp) H λτ H3=>∃ os',os'.length=nt/\τ=os' ++ cp/\tt τ H3 λb H4=>if b=true then te τ H4 λv H5=>H5 acc=some (.lst ys)/\Pv acc (i + 1) (ys ++ [v]) (upd H5 acc (.lst (ys ++ [v]))) else Pv acc (i + 1) ys H4)
  (hd:∀ acc ys H,H1 acc=none->Pv acc xs.length ys H->Q (.ref acc) H):tBlkT nt cp (Itl K a) g tt te H1 Q:=by
 intro acc H2 hn sm e
 refine⟨λi m ys H=>m=xs.length - i/\i<=xs.length/\Pv acc i ys H,⟨xs.length,by simp,Nat.zero_le _,h0 acc H2 hn sm e⟩,?_⟩
 rintro i m ys H ⟨rfl,hi,p⟩
 obtain⟨q1,q2,q3⟩:=hl acc i ys H hn p
 refine⟨q1,?_⟩
 by_cases hlt:i < xs.length
 ·refine .inr ⟨⟨xs,xs[i],q3,by simp [hlt]⟩,q2,Pv acc (i + 1),λys' H' p'=>⟨xs.length - (i + 1),by omega,rfl,hlt,p'⟩,λos x H' ol y=>?_⟩
  obtain⟨rfl,hy⟩:=y
  exact hs acc i x ys _ os hn (hy xs q3) p ol
 ·have e:i=xs.length:=by omega
  subst e
  exact .inl ⟨⟨xs,q3,Ya _⟩,hd _ _ _ hn p⟩
def Itz(K:PySem.W.Frag)(a b:Addr):It :=
  ⟨λi H=>∃ xs ys x y,SqL K H a xs/\SqL K H b ys/\xs[i]?=some x/\ys[i]?=some y,λi H x H'=>∃ p u v,x=.ref p/\H p=none/\Same H H'/\H' p=some (.tup [u,v])/\(∀ xs,SqL K H a xs->xs[i]?=some u)/\∀ ys,SqL K H b ys->ys[i]?=some v,
   λi H=>∃ xs ys,SqL K H a xs/\SqL K H b ys/\(xs.length<=i\/ys.length<=i)⟩
variable {pos:Pos}
def turn_zip{P:Program}{w:World}{es:List Expr}{x1}(a b z TI TO i1 i2:Addr)(D:ZipApart z TI TO i1 i2 a b) :
  Turn P w K (.Tuple es x1 pos) (Itz K a b) [z,TI,TO,i1,i2] z (λi h=>IsZip h z TI TO .none/\IsPair h TI (.ref i1) (.ref i2)/\(∃ u v,IsPair h TO u v)/\h.IsListIter i1 a i/\h.IsListIter i2 b i) where
 mem:=by simp
 obj:=λi h st c hc=>by
  obtain⟨hz,hTI,⟨u,v,hTO⟩,⟨o1,e1,c1,d1⟩,o2,e2,c2,d2⟩:=st
  simp only [List.mem_cons,List.not_mem_nil,or_false] at hc
  rcases hc with rfl | rfl | rfl | rfl | rfl
  ·exact⟨_,hz,λv z=>by cases z⟩
  ·exact⟨_,hTI,λv z=>by cases z⟩
  ·exact⟨_,hTO,λv z=>by cases z⟩
  ·exact⟨_,e1,λv z=>by rw [d1] at z; cases z⟩
  ·exact⟨_,e2,λv z=>by rw [d2] at z; cases z⟩
 keep:=λi h h' st k=>by
  obtain⟨hz,hTI,⟨u,v,hTO⟩,h1,h2⟩:=st
  exact⟨k z (by simp) _ hz,k TI (by simp) _ hTI,⟨u,v,k TO (by simp) _ hTO⟩,h1.at λo x=>k i1 (by simp) o x,h2.at λo x=>k i2 (by simp) o x⟩
 item:=by
  intro X hP hw hK hc i pins s Z H E I hf st hg
  subst hP hw hK
  obtain⟨hz,hTI,⟨u0,v0,hTO⟩,h1,h2⟩:=st
  obtain⟨xs,ys,x,y,hqa,hqb,hx,hy⟩:=hg
  obtain⟨its,rv,p,_⟩:=I.list hqa
  obtain⟨its2,rv2,p2,_⟩:=I.list hqb
  obtain⟨u,hu,ru⟩:=rv.get hx
  obtain⟨v,hv,rv'⟩:=rv2.get hy
  have hn:H s.heap.objs.size=none:=I.hok.fresh (Ya _)
  have lt:∀ c∈[z,TI,TO,i1,i2],c < s.heap.objs.size:=λc hc=>by
   obtain⟨o1,e1,_⟩:=h1
   obtain⟨o2,e2,_⟩:=h2
   simp only [List.mem_cons,List.not_mem_nil,or_false] at hc
   rcases hc with rfl | rfl | rfl | rfl | rfl
   ·exact Yd hz
   ·exact Yd hTI
   ·exact Yd hTO
   ·exact Yd e1
   ·exact Yd e2
  refine wpAny_pyNext_zip_item D hz hTI hTO h1 h2 p.isList p2.isList (x:=u) (y:=v) (by simpa using hu) (by simpa using hv) λh' a1 a2 a3 a4 a5 a6 kk=>?_
  refine⟨_,rfl,wpAny_letOwnedTupleGo_zip (s:={ s with heap:=h' }) a1 λh2' hz2 sb=>?_⟩
  have sb2:∀ c,c ≠ z->h2'.get? c=h'.get? c:=sb.2
  have nz:s.heap.objs.size ≠ z:=Nat.ne_of_gt (lt z (by simp))
  have kt:h2'.get? s.heap.objs.size=some { cls:=.type "tuple",data:=.seq #[u,v] }:=(sb2 _ nz).trans a5
  have I1:Inv X pins Z (upd H s.heap.objs.size (.tup [x,y])) { s with heap:=h2',toks:=s.toks }:=by
   refine turned_laid (ch:=[z,TI,TO,i1,i2]) I (λc o hb q=>?_) hf ?_
   ·simp only [List.mem_cons,List.not_mem_nil,or_false,not_or] at hb
    rw [sb2 c hb.1]
    exact kk c o hb.1 hb.2.2.1 hb.2.2.2.1 hb.2.2.2.2 q
   ·exact⟨by show 2<=sizeLine; decide,[u,v],.cons ru (.cons rv' .nil),⟨_,kt,rfl,_,rfl⟩⟩
  refine⟨.ref s.heap.objs.size,_,I1,rfl,⟨_,x,y,rfl,hn,same_new hn _,upd_same,λzs hz=>by rw [I.list_inj hz hqa]; exact hx,λzs hz=>by rw [I.list_inj hz hqb]; exact hy⟩,⟨hz2,(sb2 _ D.TIz).trans (kk _ _ D.TIz D.TITO D.TIi1 D.TIi2 hTI),⟨u,v,(sb2 _ D.TOz).trans a2⟩,?_,?_⟩,λc hc=>?_⟩
  ·obtain⟨o,q,r⟩:=a3
   exact⟨o,(sb2 _ D.i1z).trans q,r⟩
  ·obtain⟨o,q,r⟩:=a4
   exact⟨o,(sb2 _ D.i2z).trans q,r⟩
  ·rw [upd_ne (Yl (lt c hc))]
   exact (hf c hc).1
 done:=by
  intro X hP hw hK hc i pins s Z H E I hf st hg
  subst hP hw hK
  obtain⟨hz,hTI,⟨u0,v0,hTO⟩,h1,h2⟩:=st
  obtain⟨xs,ys,hqa,hqb,he⟩:=hg
  obtain⟨its,rv,p,_⟩:=I.list hqa
  obtain⟨its2,rv2,p2,_⟩:=I.list hqb
  have l1:=rv.length
  have l2:=rv2.length
  refine wpAny_pyNext_zip_end (I.ok.hd hc) D hz hTI hTO h1 h2 p.isList p2.isList (he.imp (λz=>by simp; omega) λz=>by simp; omega) λh' eb=>⟨rfl,turned2 (t':=s.toks) (ch:=[z,TI,TO,i1,i2]) I (λc o hb q=>?_) hf⟩
  simp only [List.mem_cons,List.not_mem_nil,or_false,not_or] at hb
  exact eb c o hb.1 hb.2.2.1 hb.2.2.2.1 hb.2.2.2.2 q
 self:=λ_ _ _ _ _ st h=>wpAny_pyIter_zip st.1 h
def zip_apart(n a b:Nat)(ha:a < n)(hb:b < n):ZipApart (n + 4) (n + 2) (n + 3) n (n + 1) a b:=by
 constructor <;> (intro z; have z':=Nat.le_of_eq z; have z'':=Nat.le_of_eq z.symm; omega)
def iZip(K:PySem.W.Frag)(ta:TA):TI:=λZ H R=>ta Z H λvs H1=>∃ a b,vs=[.ref a,.ref b]/\(∃ xs,SqL K H1 a xs)/\(∃ ys,SqL K H1 b ys)/\R (Itz K a b) H1
def boot_zip:bootBuiltins "zip"=some (.type "zip"):=by decide +kernel
section
variable {X:Cx}{l m:Expr}{ta:TA}{p pos pos':Pos}{es:List Expr}
def pi_zip{x1}(hg:Gl X "zip")(hm:X.mg "zip"=none)(ha:PA X [l,m] ta)(hs:starEach [l,m] X.env=[(false,eval l X.env),(false,eval m X.env)]:=by rfl)(hs2:starEach [m] X.env=[(false,eval m X.env)]:=by rfl):PI X (.Tuple es x1 pos') (.Call (.Name "zip" p) [l,m] [] pos) (iZip X.K ta):=by
 intro pins s Z H R I h
 refine Call_ (ld_blt I hg hm boot_zip (YW (thn (ha pos pins s Z H _ I h) λus s1 ⟨vs,H1,I1,r1,q1⟩=>?_) (by rw [hs,hs2]) (by rw [hs2]; rfl)))
 obtain⟨a,b,e,⟨xs,hqa⟩,⟨ys,hqb⟩,q⟩:=q1
 subst e
 obtain⟨u,v,rfl,ru,rv⟩:=vals2 r1
 cases ru
 cases rv
 obtain⟨its,_,pl,_⟩:=I1.list hqa
 obtain⟨its2,_,pl2,_⟩:=I1.list hqb
 have la:a < s1.heap.objs.size:=by obtain⟨o,n,e,_⟩:=pl; exact Yd e
 have lb:b < s1.heap.objs.size:=by obtain⟨o,n,e,_⟩:=pl2; exact Yd e
 refine call_zip_2 pl.isList pl2.isList λh' hz hTI hTO g1 g2 hsz kk=>?_
 have I2:Inv X pins Z H1 { s1 with heap:=h' }:=I1.kept (t':=s1.toks) kk
 have D:=zip_apart _ _ _ la lb
 refine wpAny_pyIter_zip (s:={ s1 with heap:=h' }) hz ⟨_,[s1.heap.objs.size + 4,s1.heap.objs.size + 2,s1.heap.objs.size + 3,s1.heap.objs.size,s1.heap.objs.size + 1],_,_,H1,rfl,I2,turn_zip a b _ _ _ _ _ D,⟨hz,hTI,⟨_,_,hTO⟩,g1,g2⟩,λc hc=>?_,q⟩
 have hb':s1.heap.objs.size<=c:=by
  simp only [List.mem_cons,List.not_mem_nil,or_false] at hc
  rcases hc with rfl | rfl | rfl | rfl | rfl
  ·exact Y3 _ _
  ·exact Y3 _ _
  ·exact Y3 _ _
  ·exact Ya _
  ·exact Y3 _ _
 exact I1.fpOk hb' (I1.hok.fresh hb')
def i_zip{x1}(hg:Gl X "zip")(hm:X.mg "zip"=none)(ha:QA X [l,m] ta)(hp:plainE l=true:=by rfl)(hq:plainE m=true:=by rfl):QI X (.Tuple es x1 pos') (.Call (.Name "zip" p) [l,m] [] pos) (iZip X.K ta) :=
 ⟨pi_zip hg hm ha.h (by rw [se_cons hp,se_cons hq]; rfl) (se_cons hq)⟩
end
def zipK(K:PySem.W.Frag)(g:TG)(tb:TS)(D:Ends)(Z:St):List V->Hp->Prop:=λvs H1=>∃ a b,vs=[.ref a,.ref b]/\(∃ xs,SqL K H1 a xs)/\(∃ ys,SqL K H1 b ys)/\∃ W:Nat->Nat->St->Hp->Prop,(∃ m,W 0 m Z H1)/\∀ i m Z H,W i m Z H ->
 ((Itz K a b).stop i H/\D.nx Z H)\/((Itz K a b).go i H/\∃ N:St->Hp->Prop,(∀ Z' H',N Z' H'->∃ m',m' < m/\W (i + 1) m' Z' H')/\∀ x H',(Itz K a b).yld i H x H'->g x Z H' λZ2 H2=>tb { D with nx:=N,ct:=N,bk:=D.nx } Z2 H2)
theorem tFor_zip{ta:TA}:tFor (iZip K ta) g tb D Z H=ta Z H (zipK K g tb D Z):=rfl
def zipK_of{a b:Addr}{xs ys:List V}(hxy:xs.length=ys.length)(Pv:Nat->St->Hp->Prop)(h0:Pv 0 Z H)(hl:∀ i Z H,i<=xs.length->Pv i Z H->SqL K H a xs/\SqL K H b ys)
  (hs:∀ i x y Z H p H',xs[i]?=some x->ys[i]?=some y->Pv i Z H->H p=none->Same H H'->H' p=some (.tup [x,y])->g (.ref p) Z H' λZ2 H2=>tb { D with nx:=Pv (i + 1),ct:=Pv (i + 1),bk:=D.nx } Z2 H2) (hd:∀ Z H,Pv xs.length Z H->D.nx Z H) :
  zipK K g tb D Z [.ref a,.ref b] H:=by
 refine⟨a,b,rfl,⟨xs,(hl 0 Z H (Nat.zero_le _) h0).1⟩,⟨ys,(hl 0 Z H (Nat.zero_le _) h0).2⟩,λi m Z H=>m=xs.length - i/\i<=xs.length/\Pv i Z H,⟨xs.length,by simp,Nat.zero_le _,h0⟩,?_⟩
 rintro i m Z H ⟨rfl,hi,p⟩
 obtain⟨qa,qb⟩:=hl i Z H hi p
 by_cases hlt:i < xs.length
 ·have hlt2:i < ys.length:=by omega
  refine .inr ⟨⟨xs,ys,xs[i],ys[i],qa,qb,by simp [hlt],by simp [hlt2]⟩,Pv (i + 1),λZ' H' p'=>⟨xs.length - (i + 1),by omega,rfl,hlt,p'⟩,λx H' y=>?_⟩
  obtain⟨c,u,v,rfl,hn,sm,e,hu,hv⟩:=y
  exact hs i u v Z H c H' (hu xs qa) (hv ys qb) p hn sm e
 ·have e:i=xs.length:=by omega
  subst e
  exact .inl ⟨⟨xs,ys,qa,qb,.inl (Ya _)⟩,hd _ _ p⟩
def blk_zip{a b:Addr}{xs zs:List V}{nt:Nat}{cp:St}{tt:TT}{H1:Hp}{Q:VK}(hxy:xs.length=zs.length)(Pv:Addr->Nat->List V->Hp->Prop)(h0:∀ acc H2,H1 acc=none->Same H1 H2->H2 acc=some (.lst [])->Pv acc 0 [] H2)
  (hl:∀ acc i ys H,H1 acc=none->Pv acc i ys H->H acc=some (.lst ys)/\ys.length < 1000000/\SqL K H a xs/\SqL K H b zs)
  (hs:∀ acc i x z ys H os p H',H1 acc=none->xs[i]?=some x->zs[i]?=some z->Pv acc i ys H->os.length=nt->H p=none->Same H H'->H' p=some (.tup [x,z])->g (.ref p) (os ++ cp) H' λτ H3=>∃ os',os'.length=nt/\τ=os' ++ cp/\tt τ H3 λb H4=>if b=true then te τ H4 λv H5=>H5 acc=some (.lst ys)/\Pv acc (i + 1) (ys ++ [v]) (upd H5 acc (.lst (ys ++ [v]))) else Pv acc (i + 1) ys H4)
  (hd:∀ acc ys H,H1 acc=none->Pv acc xs.length ys H->Q (.ref acc) H):tBlkT nt cp (Itz K a b) g tt te H1 Q:=by
 intro acc H2 hn sm e
 refine⟨λi m ys H=>m=xs.length - i/\i<=xs.length/\Pv acc i ys H,⟨xs.length,by simp,Nat.zero_le _,h0 acc H2 hn sm e⟩,?_⟩
 rintro i m ys H ⟨rfl,hi,p⟩
 obtain⟨q1,q2,q3,q4⟩:=hl acc i ys H hn p
 refine⟨q1,?_⟩
 by_cases hlt:i < xs.length
 ·have hlt2:i < zs.length:=by omega
  refine .inr ⟨⟨xs,zs,xs[i],zs[i],q3,q4,by simp [hlt],by simp [hlt2]⟩,q2,Pv acc (i + 1),λys' H' p'=>⟨xs.length - (i + 1),by omega,rfl,hlt,p'⟩,λos x H' ol y=>?_⟩
  obtain⟨c,u,v,rfl,hn',sm',e',hu,hv⟩:=y
  exact hs acc i u v ys _ os c H' hn (hu xs q3) (hv zs q4) p ol hn' sm' e'
 ·have e:i=xs.length:=by omega
  subst e
  exact .inl ⟨⟨xs,zs,q3,q4,.inl (Ya _)⟩,hd _ _ _ hn p⟩
end My
namespace My
open PySem PySem.Spec
open PyProof.Rows hiding St
def Rise(l:List Nat):Prop:=l.Pairwise (· < ·)
theorem Rise.at{l:List Nat}(h:Rise l){i j:Nat}{x y:Nat}(hi:l[i]?=some x)(hj:l[j]?=some y)(hij:i < j):x < y:=by
 obtain⟨hi1,rfl⟩:=Yf.mp hi
 obtain⟨hj1,rfl⟩:=Yf.mp hj
 exact List.pairwise_iff_getElem.mp h i j hi1 hj1 hij
def TOk(b:Bool)(t:SetTable):Prop:=Rise t.place.toList/\t.dummies=#[]/\t.led=b
section
variable {prog:Program}{w:World}{A:Around}{E:VSP}{s:Shared}
def byT(w:World):Bool:=w.params.followText "set-order"
def keyI(e:Int × Value):Int:=match e.2 with
 | .int k _=>k
 | _=>0
def AllI(prog:Program)(w:World)(es:List (Int × Value)):Prop:=∀ e∈es,∃ (k:Int) (t:Tok),e.2=.int k t/\e.1=(intKind prog w).hash k
def AllI.is{es:List (Int × Value)}(h:AllI prog w es){e:Int × Value}(he:e∈es)(k:Int):(intKind prog w).is k e.2=true ↔ k=keyI e:=by
 obtain⟨k',t,h1,h2⟩:=h e he
 have h3:keyI e=k':=by unfold keyI; rw [h1]
 rw [h1,KeyKind.is_eq_decide (intKind_is _ _ k' t) k,decide_eq_true_eq,h3]
def SetI(prog:Program)(w:World)(h:Heap)(a:Addr)(S:Int->Prop)(n:Nat):Prop :=
 ∃ o es ep t,h.get? a=some o/\o.ExactSet/\o.data=.set es ep t/\TOk (!byT w) t/\t.fits es.size=true/\AllI prog w es.toList/\(es.toList.map keyI).Nodup/\(∀ k,k∈es.toList.map keyI ↔ S k)/\es.size<=n
theorem SetI.keep{h h':Heap}{a:Addr}{S:Int->Prop}{n:Nat}(x:SetI prog w h a S n)(hk:∀ o,h.get? a=some o->h'.get? a=some o):SetI prog w h' a S n :=
 let ⟨o,es,ep,t,ho,r⟩:=x; ⟨o,es,ep,t,hk o ho,r⟩
theorem SetI.lt{h:Heap}{a:Addr}{S:Int->Prop}{n:Nat}(x:SetI prog w h a S n):a < h.objs.size:=let ⟨_,_,_,_,ho,_⟩:=x; Yd ho
end
section
variable {prog:Program}{w:World}{A:Around}{R:Result->Shared->Prop}{I:Addr}{fp wr:List Addr}{G:Array GenState->Array GenState->Prop}{P:Nat->Value->Prop}{St:Nat->Shared->Prop}
end
section
variable {prog:Program}{w:World}{A:Around}{E:VSP}{s:Shared}
abbrev freshSet(w:World):Obj:={ cls:=.type "set",dict:=none,data:=.set #[] 0 (.fresh 0 0 (!byT w)) }
theorem SetI.fresh{h:Heap}{a:Addr}(e:h.get? a=some (freshSet w)):SetI prog w h a (·∈([]:List Int)) 0 :=
 ⟨_,#[],0,_,e,⟨rfl,rfl,rfl⟩,rfl,⟨List.Pairwise.nil,rfl,rfl⟩,rfl,(λe he=>by simp at he),List.nodup_nil,λk=>by simp,Nat.le_refl _⟩
theorem SetI.type{a:Addr}{S:Int->Prop}{n:Nat}(x:SetI prog w s.heap a S n):s.TypeIs (.ref a) "set":=let ⟨o,_,_,_,ho,hex,_⟩:=x; ⟨o,ho,hex.1⟩
end
end My
namespace My
open PySem PySem.Spec L2
open PyProof.Rows hiding St
def vals_ints:∀ {ns:List Int}{us:List Value},Vals (ns.map V.int) us->IntsAre us ns
 | [],us,h=>by cases h; exact .nil
 | n :: ns,us,h=>by
  cases h with
  | cons h1 h2 =>
   obtain⟨t,rfl⟩:=h1
   exact .cons n t (vals_ints h2)
section
variable {X:Cx}{e:Expr}{t:TA}{p p' pos pos':Pos}
def SetI.few{prog:Program}{w:World}{h:Heap}{a:Addr}{S:Int->Prop}{n:Nat}(x:SetI prog w h a S n)(hb:∀ k,S k->0<=k/\k < 60):SetI prog w h a S 60:=by
 obtain⟨o,es,ep,t,ho,hex,hd,hT,hf,hA,hN,hM,hz⟩:=x
 refine⟨o,es,ep,t,ho,hex,hd,hT,hf,hA,hN,hM,?_⟩
 have hs:es.toList.map keyI ⊆ (List.range 60).map λk:Nat=>(k:Int):=λk hk=>by
  obtain⟨h1,h2⟩:=hb k ((hM k).mp hk)
  exact List.mem_map.mpr ⟨k.toNat,YV.mpr (by omega),by omega⟩
 have:=List.Nodup.length_le_of_subset hN hs
 simpa using this
def rSortSet:List V->Hp->VK->Prop:=λxs H Q=>∃ (a:Addr) (ns:List Int),xs=[.ref a]/\H a=some (.lst (ns.map V.int))/\ns.length < 4000/\(∀ k∈ns,0<=k/\k < 60) /\
 ∀ l H2 (ks:List Int),H l=none->Same H H2->H2 l=some (.lst (ks.map V.int))->ks.Pairwise (· < ·)->(∀ k,k∈ks ↔ k∈ns)->Q (.ref l) H2
end
section
variable {X:Cx}{a b o e:Expr}{es:List Expr}{ta tb to te:TE}{t:TA}{name:Str}{apos cpos pos p p2:Pos}{id:String}{r:V->List V->Hp->VK->Prop}
def rSlX:V->Option Int->Option Int->Hp->VK->Prop:=λx lo hi H Q=>∃ z,x=.str z/\z.length<=1000/\Q (.str (Txt.slice z lo hi)) H
def tXm(r:V->List V->Hp->VK->Prop)(to:TE)(t:TA):TE:=λZ H Q=>to Z H λx H1=>∃ z,x=.str z/\t Z H1 λvs H2=>r x vs H2 Q
def rFind:V->List V->Hp->VK->Prop:=λx vs H Q=>∃ z y,x=.str z/\vs=[.str y]/\Q (.int (Txt.find z y)) H
def rJoin:V->List V->Hp->VK->Prop:=λx vs H Q=>∃ z a ss,x=.str z/\vs=[.ref a]/\H a=some (.lst (List.map V.str ss))/\z.length<=16/\(ss.map (·.length)).sum + ss.length<=1048576/\Q (.str (Txt.join z ss)) H
end
def leS(a b:Str):Prop:=a.cps.toList<=b.cps.toList
section
variable {X:Cx}{e:Expr}{t:TA}{p pos:Pos}
def rSortStr:List V->Hp->VK->Prop:=λxs H Q=>∃ (a:Addr) (ss:List Str),xs=[.ref a]/\H a=some (.lst (ss.map V.str))/\ss.length < 64/\∀ l H2 (ts:List Str),H l=none->Same H H2->H2 l=some (.lst (ts.map V.str))->ts.Pairwise leS->ts.Perm ss->Q (.ref l) H2
end
section
variable {prog:Program}{w:World}{A:Around}{E:VSP}{s:Shared}
def EqIn(prog:Program)(w:World)(A:Around)(s:Shared)(u v:Value):Prop:=∀ (E:VSP) (Q:Bool->Shared->Prop),Q true s->wpAny (model prog w) A (eqBool u v) Q E s
theorem EqIn.of{A:Around}{u v:Value}(h:SeqAt.EqAt A s u v true):EqIn prog w A s u v:=λE Q q=>h prog w E Q q
def EqIn.refs{a b:Addr}(h:∀ (E:VSP) (Q:VSP),Q (.bool true) s->wpAny (model prog w) A (richCompare .Eq (.ref a) (.ref b)) Q E s):EqIn prog w A s (.ref a) (.ref b):=λE Q q=>by
 unfold eqBool
 refine wpAny_holding ?_
 refine wpAny_ite_split (λ_=>Yc (wpAny_rule (Yg q))) (λ_=>?_)
 exact Yc (h E _ (YO q))
def rc_tupNe{l b:Addr}{items items2:Array Value}{Q:VSP}(hl:s.heap.IsTuple l items)(hb:s.heap.IsTuple b items2)(hz:items.size=items2.size)(hu:A.units < cLine)
  (he:∀ j (h1:j < items.size) (h2:j < items2.size),EqIn prog w A.in1 s items[j] items2[j]) (h:Q (.bool false) s):wpAny (model prog w) A (richCompare .NotEq (.ref l) (.ref b)) Q E s:=by
 obtain⟨o1,g1,c1,n1,d1⟩:=id hl
 obtain⟨o2,g2,c2,n2,d2⟩:=id hb
 have t1:s.TypeIs (.ref l) "tuple":=⟨o1,g1,c1⟩
 have t2:s.TypeIs (.ref b) "tuple":=⟨o2,g2,c2⟩
 refine wpAny_richCompare_same_room (op:=.NotEq) t1 t2 F.slot_tuple_ne (wpAny_call_entry F.slot_tuple_ne t1 F.entry_tuple_ne ?_ (F.args_tuple_ne_2 _ _)) hu
 show wpAny _ _ (slotArgs "__ne__" 1 ⟨[.ref l,.ref b],[]⟩ >>= _) _ _ s
 refine Yc (Yg ?_)
 dsimp only
 refine Yc (wpAny_isInstance (T:="tuple") (b:=true) t2 AutoSeq1.sub_tuple_tuple ?_)
 rw [if_neg (by decide)]
 refine Yc (Y1 g1 d1 (Yc (Y1 g2 d2 ?_)))
 refine Yc (wpAny_forIn_list _ (λrest b s'=>b.1=none/\s'=s/\∃ i,rest=(items.toList.zip items2.toList).drop i) _ ?_ ?_ _ _ ⟨rfl,rfl,0,rfl⟩)
 ·rintro⟨y,x⟩ rest b' s' ⟨hb',rfl,i,hi⟩
  have hlt:i < (items.toList.zip items2.toList).length:=by
   rcases Nat.lt_or_ge i (items.toList.zip items2.toList).length with h' | h'
   ·exact h'
   ·rw [List.drop_of_length_le h'] at hi; cases hi
  have hlt':=hlt
  rw [List.length_zip,Y0,Y0] at hlt'
  have k1:i < items.size:=by omega
  have k2:i < items2.size:=by omega
  rw [List.drop_eq_getElem_cons hlt] at hi
  injection hi with hyx hrest
  have hy:y=items[i]:=by have:=congrArg Prod.fst hyx; simpa using this
  have hx:x=items2[i]:=by have:=congrArg Prod.snd hyx; simpa using this
  subst hy hx
  refine Yc (he i k1 k2 _ _ ?_)
  rw [if_neg (by decide)]
  exact Yg ⟨rfl,rfl,i + 1,hrest⟩
 ·rintro⟨b1,b2⟩ s' ⟨hb',rfl,_⟩
  simp only at hb'
  subst hb'
  dsimp only
  refine Yg ⟨_,rfl,?_⟩
  rw [show Builtin.Tuple.tupleCompareSizes CmpOp.NotEq items.size items2.size=Value.bool false by rw [hz]; simp [Builtin.Tuple.tupleCompareSizes]]
  exact⟨(λz=>nomatch z),h⟩
def rc_tupEq{l b:Addr}{items items2:Array Value}{Q:VSP}(hl:s.heap.IsTuple l items)(hb:s.heap.IsTuple b items2)(hz:items.size=items2.size)(hu:A.units < cLine)
  (he:∀ j (h1:j < items.size) (h2:j < items2.size),EqIn prog w A.in1 s items[j] items2[j]) (h:Q (.bool true) s):wpAny (model prog w) A (richCompare .Eq (.ref l) (.ref b)) Q E s:=by
 obtain⟨o1,g1,c1,n1,d1⟩:=id hl
 obtain⟨o2,g2,c2,n2,d2⟩:=id hb
 have t1:s.TypeIs (.ref l) "tuple":=⟨o1,g1,c1⟩
 have t2:s.TypeIs (.ref b) "tuple":=⟨o2,g2,c2⟩
 refine wpAny_richCompare_same_room (op:=.Eq) t1 t2 F.slot_tuple_eq (wpAny_call_entry F.slot_tuple_eq t1 F.entry_tuple_eq ?_ (F.args_tuple_eq_2 _ _)) hu
 show wpAny _ _ (slotArgs "__eq__" 1 ⟨[.ref l,.ref b],[]⟩ >>= _) _ _ s
 refine Yc (Yg ?_)
 dsimp only
 refine Yc (wpAny_isInstance (T:="tuple") (b:=true) t2 AutoSeq1.sub_tuple_tuple ?_)
 rw [if_neg (by decide)]
 refine Yc (Y1 g1 d1 (Yc (Y1 g2 d2 ?_)))
 refine Yc (wpAny_forIn_list _ (λrest b s'=>b.1=none/\s'=s/\∃ i,rest=(items.toList.zip items2.toList).drop i) _ ?_ ?_ _ _ ⟨rfl,rfl,0,rfl⟩)
 ·rintro⟨y,x⟩ rest b' s' ⟨hb',rfl,i,hi⟩
  have hlt:i < (items.toList.zip items2.toList).length:=by
   rcases Nat.lt_or_ge i (items.toList.zip items2.toList).length with h' | h'
   ·exact h'
   ·rw [List.drop_of_length_le h'] at hi; cases hi
  have hlt':=hlt
  rw [List.length_zip,Y0,Y0] at hlt'
  have k1:i < items.size:=by omega
  have k2:i < items2.size:=by omega
  rw [List.drop_eq_getElem_cons hlt] at hi
  injection hi with hyx hrest
  have hy:y=items[i]:=by have:=congrArg Prod.fst hyx; simpa using this
  have hx:x=items2[i]:=by have:=congrArg Prod.snd hyx; simpa using this
  subst hy hx
  refine Yc (he i k1 k2 _ _ ?_)
  rw [if_neg (by decide)]
  exact Yg ⟨rfl,rfl,i + 1,hrest⟩
 ·rintro⟨b1,b2⟩ s' ⟨hb',rfl,_⟩
  simp only at hb'
  subst hb'
  dsimp only
  refine Yg ⟨_,rfl,?_⟩
  rw [show Builtin.Tuple.tupleCompareSizes CmpOp.Eq items.size items2.size=Value.bool true by rw [hz]; simp [Builtin.Tuple.tupleCompareSizes]]
  exact⟨(λz=>nomatch z),h⟩
end
section
variable {X:Cx}{pins:List (Addr × Obj)}{Z:St}{H:Hp}{s:Shared}{a b:Expr}{ta tb:TE}{pos:Pos}{k:Nat}
def kv_at{kvs:List (Key × V)}{vs:List (Key × Value)}(r:KV kvs vs){i:Nat}{kv:Key × V}{k:Key}{v:Value}(h1:kvs[i]?=some kv)(h2:vs[i]?=some (k,v)):kv.1=k/\RelV kv.2 v:=by
 induction r generalizing i with
 | nil=>simp at h1
 | cons h _ ih =>
  cases i with
  | zero =>
   simp at h1 h2
   subst h1
   subst h2
   exact h
  | succ i=>exact ih (by simpa using h1) (by simpa using h2)
inductive EqP (H:Hp):V->V->Nat->Prop where
 | deep {x y:V}{n:Nat}(h:EqD H x y true n):EqP H x y n
 | dct {a b:Addr}{ka kb:List (Key × V)}{n:Nat}(ha:Rd H a (.dK ka)) (hb:Rd H b (.dK kb)) (hl:ka.length=kb.length) (h:∀ (j:Nat) x y,ka[j]?=some x->kb[j]?=some y->x.1=y.1/\EqD H x.2 y.2 true n) (hN:(ka.map (·.1)).Nodup):EqP H (.ref a) (.ref b) (n + 2)
 | tup {a b:Addr}{xs ys:List V}{n:Nat}(ha:H a=some (.tup xs)) (hb:H b=some (.tup ys)) (hl:xs.length=ys.length) (h:∀ (j:Nat) x y,xs[j]?=some x->ys[j]?=some y->EqP H x y n):EqP H (.ref a) (.ref b) (n + 2)
theorem valueAt_nodup:∀ {vs:List (Key × Value)}{j:Nat}{k:Key}{y:Value},(vs.map (·.1)).Nodup->vs[j]?=some (k,y)->valueAt vs k=some y
 | [],j,k,y,_,h=>by simp at h
 | (k',y') :: vs,0,k,y,_,h=>by
  simp at h
  obtain⟨rfl,rfl⟩:=h
  simp [valueAt]
 | (k',y') :: vs,j + 1,k,y,hN,h=>by
  rw [Yr,List.nodup_cons] at hN
  have hm:(k,y)∈vs:=List.mem_of_getElem? (by simpa using h)
  have hne:k' ≠ k:=λe=>hN.1 (List.mem_map.mpr ⟨_,hm,e.symm⟩)
  have ih:=valueAt_nodup hN.2 (show vs[j]?=some (k,y) by simpa using h)
  unfold valueAt at ih ⊢
  rw [List.find?_cons_of_neg (by simpa using hne)]
  exact ih
def hits_of{A:Around}{vb:List (Key × Value)}(hN:(vb.map (·.1)).Nodup):∀ {va:List (Key × Value)}(i:Nat),(∀ (j:Nat) k v,va[j]?=some (k,v)->∃ y,vb[i + j]?=some (k,y)/\SeqAt.EqAt A s v y true)->KeqHits A s vb va true
 | [],_,_=>.nil
 | (k,v) :: va,i,h=>by
  obtain⟨y,h1,h2⟩:=h 0 k v rfl
  exact .hit (e:=true) (valueAt_nodup hN h1) h2 (hits_of hN (i + 1) λj k v e=>by
   have:=h (j + 1) k v e
   rw [show i + 1 + j=i + (j + 1) by omega]
   exact this)
theorem EqP.at(I:Inv X pins Z H s){x y:V}{n:Nat}(h:EqP H x y n):∀ {A:Around}{u v:Value},RelV x u->RelV y v->A.units + n < cLine->EqIn X.prog X.w A s u v/\((∃ a c,x=.ref a/\y=.ref c) ->
  (∀ (E:VSP) (Q:VSP),Q (.bool true) s->wpAny (model X.prog X.w) A (richCompare .Eq u v) Q E s)/\∀ (E:VSP) (Q:VSP),Q (.bool false) s->wpAny (model X.prog X.w) A (richCompare .NotEq u v) Q E s):=by
 induction h with
 | deep h =>
  intro A u v r1 r2 hu
  obtain⟨z1,z2⟩:=h.at I r1 r2 hu
  exact⟨.of z1,λw=>⟨λE Q q=>z2 w _ _ E Q q,λE Q q=>h.neAt I r1 r2 hu w _ _ E Q q⟩⟩
 | @dct a b ka kb n ha hb hl h hN =>
  intro A u v r1 r2 hu
  cases r1
  cases r2
  obtain⟨_,n1,va,kv1,d1⟩:=dk_rd I.hok ha
  obtain⟨_,n2,vb,kv2,d2⟩:=dk_rd I.hok hb
  have hkeys:ka.map (·.1)=kb.map (·.1):=YH λj=>by
   rw [Yt,Yt]
   by_cases c:j < ka.length
   ·have c2:j < kb.length:=by omega
    rw [Yb c,Yb c2]
    exact congrArg some (h j _ _ (Yb c) (Yb c2)).1
   ·rw [Yp (by omega),Yp (by omega)]
  have hNb:(vb.map (·.1)).Nodup:=by rw [<- kv2.keys,<- hkeys]; exact hN
  have lA:va.length=ka.length:=kv1.length.symm
  have lB:vb.length=kb.length:=kv2.length.symm
  have hits:∀ A:Around,A.units + n < cLine->KeqHits A s vb va true:=λA hA=>hits_of hNb 0 λj k v e=>by
   have hj:j < ka.length:=by rw [<- lA]; exact (Yf.mp e).1
   have hj2:j < kb.length:=by omega
   obtain⟨p1,r1⟩:=kv_at kv1 (Yb hj) e
   obtain⟨q,e2⟩:∃ q,vb[j]?=some q:=⟨_,Yb (by omega)⟩
   obtain⟨p2,r2⟩:=kv_at kv2 (Yb hj2) (show vb[j]?=some (q.1,q.2) from e2)
   obtain⟨p3,hd⟩:=h j _ _ (Yb hj) (Yb hj2)
   refine⟨q.2,?_,(hd.at I r1 r2 hA).1⟩
   rw [Nat.zero_add,e2,<- p1,p3,p2]
  have e1:∀ (E:VSP) (Q:VSP),Q (.bool true) s->wpAny (model X.prog X.w) A (richCompare .Eq (.ref a) (.ref b)) Q E s:=λE Q q =>
   PySem.W.keq_eq (A:=A) n1 n2 d1 d2 (by omega) (r:=true) (λ_=>hits _ (by show A.units + 1 + n < cLine; omega)) (by rw [show (va.length == vb.length && true)=true by rw [lA,lB,hl]; simp]; exact q)
  refine⟨EqIn.refs e1,λ_=>⟨e1,λE Q q=>?_⟩⟩
  exact PySem.W.keq_ne (A:=A) n1 n2 d1 d2 (by omega) (r:=true) (λ_=>hits _ (by show A.units + 1 + n < cLine; omega)) (by rw [show (!(va.length == vb.length && true))=false by rw [lA,lB,hl]; simp]; exact q)
 | @tup a b xs ys n ha hb hl h ih =>
  intro A u v r1 r2 hu
  cases r1
  cases r2
  obtain⟨its,v1,t1,_⟩:=I.tuple (SqT.of ha)
  obtain⟨jts,v2,t2,_⟩:=I.tuple (SqT.of hb)
  have he:∀ j (h1:j < its.toArray.size) (h2:j < jts.toArray.size),EqIn X.prog X.w A.in1 s its.toArray[j] jts.toArray[j]:=λj h1 h2=>by
   have k1:j < xs.length:=by rw [v1.length]; simpa using h1
   have k2:j < ys.length:=by rw [v2.length]; simpa using h2
   obtain⟨u1,q1,w1⟩:=v1.get (Yb k1)
   obtain⟨u2,q2,w2⟩:=v2.get (Yb k2)
   have g1:its.toArray[j]=u1:=by obtain⟨hh,this⟩:=List.getElem?_eq_some_iff.mp q1; simpa using this
   have g2:jts.toArray[j]=u2:=by obtain⟨hh,this⟩:=List.getElem?_eq_some_iff.mp q2; simpa using this
   rw [g1,g2]
   exact (ih j _ _ (Yb k1) (Yb k2) w1 w2 (by show A.units + 1 + n < cLine; omega)).1
  have hz:its.toArray.size=jts.toArray.size:=by simp [<- v1.length,<- v2.length,hl]
  have e1:∀ (E:VSP) (Q:VSP),Q (.bool true) s->wpAny (model X.prog X.w) A (richCompare .Eq (.ref a) (.ref b)) Q E s:=λE Q q=>rc_tupEq t1 t2 hz (by omega) he q
  exact⟨EqIn.refs e1,λ_=>⟨e1,λE Q q=>rc_tupNe t1 t2 hz (by omega) he q⟩⟩
def rEqP:R2:=λx y H Q=>∃ n a c,x=.ref a/\y=.ref c/\EqP H x y n/\n<=60/\Q (.bl true) H
def rNeP:R2:=λx y H Q=>∃ n a c,x=.ref a/\y=.ref c/\EqP H x y n/\n<=60/\Q (.bl false) H
end
structure BlkM(X:Cx)(ts:List Str)(caps:List Nat)(cs:List Str)(sc:Scope)(cl:List (Str × Addr))(x:Str):Prop where
 clos:closureFor sc X.env=pure cl
 kind:sc.kind=.function
 own:∀ n,cellsFrom n sc.names cl=(x,n) :: cl
 own0:∀ n,cellsFrom n sc.names []=[(x,n)]
 loc:∀ y∈sc.names,y.2=.local->sc.names.lookup y.1=some .local
 sub:∀ y c,cl.lookup y=some c->X.env.cells.lookup y=some c
 has:∀ y,((relabel sc X.env).names.lookup y=some .cell\/(relabel sc X.env).names.lookup y=some .free)->y=x\/∃ c,cl.lookup y=some c
 len:caps.length=cs.length
 cap:∀ (k:Nat) i y,caps[k]?=some i->cs[k]?=some y->X.N[i]?=some y/\(X.env.kindOf y=some .cell\/X.env.kindOf y=some .free)
 capK:∀ y∈cs,(relabel sc X.env).names.lookup y=some .cell\/(relabel sc X.env).names.lookup y=some .free
 capX:∀ y∈cs,y ≠ x
section
variable {X:Cx}{pins:List (Addr × Obj)}{Z:St}{H:Hp}{s:Shared}{ts cs:List Str}{caps:List Nat}{sc:Scope}{cl:List (Str × Addr)}{fp:List Addr}{x:Str}
variable {tg it elt:Expr}{pos:Pos}{wi:TI}{g:TG}{te:TE}
end
section
variable {prog:Program}{w:World}{A:Around}{E:VSP}{s:Shared}
end
section
variable {X:Cx}{c d:Expr}{p pos:Pos}{ta:TA}
def rSortD:List V->Hp->VK->Prop:=λxs H Q=>∃ (a:Addr) (kvs:List (Key × V)) (ss:List Str),xs=[.ref a]/\Rd H a (.dK kvs)/\(kvs.map λkv=>kV kv.1)=ss.map V.str/\ss.length < 64/\∀ l H2 (ts:List Str),H l=none->Same H H2->H2 l=some (.lst (ts.map V.str))->ts.Pairwise leS->ts.Perm ss->Q (.ref l) H2
end
def ints_pairs:∀ {ns:List Int}{us:List Value},Vals (ns.map V.int) us->∃ ps:List (Int × Tok),us=ps.map (λp=>Value.int p.1 p.2)/\ps.map (·.1)=ns
 | [],us,h=>by cases h; exact⟨[],rfl,rfl⟩
 | n :: ns,us,h=>by
  cases h with
  | cons h1 h2 =>
   obtain⟨t,rfl⟩:=h1
   obtain⟨ps,rfl,e⟩:=ints_pairs h2
   exact⟨(n,t) :: ps,rfl,by rw [Yr,e]⟩
def preSum_take{ps:List (Int × Tok)}:∀ i,i<=ps.length->preSum (numAt ps.toArray) i=((ps.map (·.1)).take i).sum
 | 0,_=>rfl
 | i + 1,h=>by
  have hi:i < ps.length:=h
  show preSum (numAt ps.toArray) i + numAt ps.toArray i=_
  rw [preSum_take i (YA hi),List.take_add_one,Yt,Yb hi]
  simp [numAt,hi]
section
variable {X:Cx}{e:Expr}{t:TA}{p pos:Pos}
def rSumI:List V->Hp->VK->Prop:=λxs H Q=>∃ (a:Addr) (ns:List Int),xs=[.ref a]/\H a=some (.lst (ns.map V.int))/\Q (.int ns.sum) H
def call_sumI(hc:X.calm=true):CallR X (.builtin "sum") rSumI:=by
 intro pins s Z H xs us Q I r h
 obtain⟨a,ns,rfl,e,q⟩:=h
 obtain⟨u,rfl,ru⟩:=vals1 r
 cases ru
 obtain⟨_,its,n,hv,g⟩:=I.hok a _ e
 obtain⟨ps,rfl,ens⟩:=ints_pairs hv
 have hL:s.heap.IsList a (intItems ps.toArray):=⟨_,g,rfl,n,by simp [intItems]⟩
 refine call_sum_walkG (iter_intList hL λs₂ es st hfp hlI=>?_)
 subst es
 refine⟨_,_,_,_,_,_,numAt ps.toArray,rfl,Walks.list (A:=X.A.in1) (I.ok.hd hc) _ a hlI (intItems ps.toArray),st,hfp,(λ_ _=>intItems_at),λh' tk t' hk=>?_⟩
 have hsz:(intItems ps.toArray).size=ps.length:=by simp [intItems]
 rw [hsz,preSum_take _ (Ya _),ens,List.take_of_length_le (by rw [<- ens,Yy]; exact Ya _)]
 exact⟨.int ns.sum,H,I.kept (old_kept hk),⟨t',rfl⟩,q⟩
def q_sumI(hg:Gl X "sum")(hm:X.mg "sum"=none)(ha:QA X [e] t)(hp:plainE e=true:=by rfl)(hc:X.calm=true:=by rfl):QE X (.Call (.Name "sum" p) [e] [] pos) (tCB rSumI t) :=
 ⟨pe_callB (call_sumI hc) hg hm (by decide +kernel) ha.h (by decide) (by decide) (se_cons hp) rfl⟩
end
section
variable {X:Cx}{pins:List (Addr × Obj)}{Z:St}{H:Hp}{s:Shared}{a:Addr}{kvs:List (Key × V)}
end
section
variable {X:Cx}{o e f:Expr}{apos cpos:Pos}{td ty tx:TE}
end
section
variable {X:Cx}{a b:Expr}{p2 pos:Pos}{tx tb:TE}
def q_cutLL(ha:QE X a tx)(hb:QE X b tb):QE X (.Subscript a (.Slice none (some b) none p2) pos) (tSl (rSlL X.K) tx tNoPart (tPart tb)):=⟨pe_slice sl_list ha.h po_none (po_some hb.h)⟩
end
section
variable {X:Cx}{a b o i e:Expr}{ta tb to ti te:TE}{pos tpos:Pos}{t:TA}{p:Pos}
def q_rep(ha:QE X a ta)(hb:QE X b tb):QE X (.BinOp a .Mult b pos) (tOp rRep ta tb):=⟨pe_op op_rep ha.h hb.h⟩
def rAllB:List V->Hp->VK->Prop:=λxs H Q=>∃ (a:Addr) (bs:List Bool),xs=[.ref a]/\H a=some (.lst (bs.map V.bl))/\Q (.bl (bs.all id)) H
def vals_bools:∀ {bs:List Bool}{us:List Value},Vals (bs.map V.bl) us->us=bs.map Value.bool
 | [],us,h=>by cases h; rfl
 | b :: bs,us,h=>by
  cases h with
  | cons h1 h2 =>
   cases h1
   rw [vals_bools h2]
   rfl
theorem all_rngB{bs:List Bool}:(List.range bs.length).all (λi=>bs.getD i false)=bs.all id:=by
 rw [YI,List.all_eq_true,List.all_eq_true]
 constructor
 ·intro h x hx
  obtain⟨i,hi⟩:=Y6 hx
  have:=h i (YV.mpr (Yf.mp hi).1)
  rw [List.getD_eq_getElem?_getD,hi] at this
  exact this
 ·intro h i hi
  have hi':=YV.mp hi
  rw [List.getD_eq_getElem?_getD,Yb hi']
  exact h _ (List.getElem_mem hi')
def call_allB(hc:X.calm=true):CallR X (.builtin "all") rAllB:=by
 intro pins s Z H xs us Q I r h
 obtain⟨a,bs,rfl,e,q⟩:=h
 obtain⟨u,rfl,ru⟩:=vals1 r
 cases ru
 obtain⟨_,its,n,hv,g⟩:=I.hok a _ e
 have ei:=vals_bools hv
 subst ei
 have hL:s.heap.IsList a (bs.map Value.bool).toArray:=⟨_,g,rfl,n,by simp⟩
 refine call_all_walk (wpAny_pyIter_list hL ?_)
 have hn:a ≠ s.heap.objs.size:=Yl (Yd g)
 refine⟨_,_,_,_,_,_,λi=>bs.getD i false,rfl,Walks.list (A:=X.A.in1) (I.ok.hd hc) _ a hn (bs.map Value.bool).toArray,?_,?_,λh' tk hk=>?_⟩
 ·exact⟨⟨_,Heap.get?_push_size _ rfl,rfl,rfl⟩,⟨_,Heap.get?_push_of_some _ g,rfl,n,by simp⟩⟩
 ·intro i v s1 Q1 E1 hP hQ
  have:v=Value.bool (bs.getD i false):=by
   have hP':(bs.map Value.bool).toArray[i]?=some v:=hP
   rw [List.getElem?_toArray,Yt] at hP'
   rw [List.getD_eq_getElem?_getD]
   cases hb:bs[i]? with
   | none=>rw [hb] at hP'; cases hP'
   | some b=>rw [hb] at hP'; cases hP'; rfl
  subst this
  exact YO hQ
 ·rw [show (bs.map Value.bool).toArray.size=bs.length by simp,all_rngB]
  exact⟨.bl (bs.all id),H,I.kept (old_kept hk),rfl,q⟩
def q_allB(hg:Gl X "all")(hm:X.mg "all"=none)(ha:QA X [e] t)(hp:plainE e=true:=by rfl)(hc:X.calm=true:=by rfl):QE X (.Call (.Name "all" p) [e] [] pos) (tCB rAllB t) :=
 ⟨pe_callB (call_allB hc) hg hm (by decide +kernel) ha.h (by decide) (by decide) (se_cons hp) rfl⟩
end
section
open PySem.Calls PySem.AutoSeq1 PySem.SeqAt
end
section
variable {X:Cx}{t:TA}{k:Nat}
def rRemove:V->List V->Hp->VK->Prop:=λx vs H Q=>∃ (l:Addr) (xs:List V) (j n:Nat) (y:V),x=.ref l/\vs=[y]/\H l=some (.lst xs)/\j < xs.length/\xs.length < 1000/\n<=50/\(∀ i z,i<=j->xs[i]?=some z->EqD H z y (decide (i=j)) n)/\Q .non (upd H l (.lst (xs.eraseIdx j)))
end
def blk_enum{K:PySem.W.Frag}{a:Addr}{xs:List V}{nt:Nat}{cp:St}{g:TG}{tt:TT}{te:TE}{H1:Hp}{Q:VK}(Pv:Addr->Nat->List V->Hp->Prop)(h0:∀ acc H2,H1 acc=none->Same H1 H2->H2 acc=some (.lst [])->Pv acc 0 [] H2)
  (hl:∀ acc i ys H,H1 acc=none->Pv acc i ys H->H acc=some (.lst ys)/\ys.length < 1000000/\SqL K H a xs)
  (hs:∀ acc i x ys H os p H',H1 acc=none->xs[i]?=some x->Pv acc i ys H->os.length=nt->H p=none->Same H H'->H' p=some (.tup [.int i,x])->g (.ref p) (os ++ cp) H' λτ H3=>∃ os',os'.length=nt/\τ=os' ++ cp/\tt τ H3 λb H4=>if b=true then te τ H4 λv H5=>H5 acc=some (.lst ys)/\Pv acc (i + 1) (ys ++ [v]) (upd H5 acc (.lst (ys ++ [v]))) else Pv acc (i + 1) ys H4)
  (hd:∀ acc ys H,H1 acc=none->Pv acc xs.length ys H->Q (.ref acc) H):tBlkT nt cp (Ite K a) g tt te H1 Q:=by
 intro acc H2 hn sm e
 refine⟨λi m ys H=>m=xs.length - i/\i<=xs.length/\Pv acc i ys H,⟨xs.length,by simp,Nat.zero_le _,h0 acc H2 hn sm e⟩,?_⟩
 rintro i m ys H ⟨rfl,hi,p⟩
 obtain⟨q1,q2,q3⟩:=hl acc i ys H hn p
 refine⟨q1,?_⟩
 by_cases hlt:i < xs.length
 ·refine .inr ⟨⟨xs,xs[i],q3,by simp [hlt]⟩,q2,Pv acc (i + 1),λys' H' p'=>⟨xs.length - (i + 1),by omega,rfl,hlt,p'⟩,λos x H' ol y=>?_⟩
  obtain⟨b,y,rfl,hn',sm',e',hy⟩:=y
  exact hs acc i y ys _ os b H' hn (hy xs q3) p ol hn' sm' e'
 ·have e:i=xs.length:=by omega
  subst e
  exact .inl ⟨⟨xs,q3,Ya _⟩,hd _ _ _ hn p⟩
end My
set_option maxHeartbeats 4000000
namespace My
open PySem L2
theorem scal_ii{i j:Int}:scal (.int i) (.int j)=true:=rfl
theorem scal_ss{i j:Str}:scal (.str i) (.str j)=true:=rfl
end My
local macro_rules | `(tactic| walk_at "rd") => `(tactic| ((try dsimp only [L2.tSeq, L2.tNext, L2.tRet, L2.tRetN, L2.tIfS, L2.tDrop, L2.tAsg, L2.gName, L2.tVar, L2.tC, L2.tOp, L2.tUn, L2.rI, L2.rI0, L2.rU, L2.rEq, L2.rNe, L2.tTest, L2.tB, L2.tAnd, L2.tOr, L2.tNot, L2.tAndV, L2.tOrV, L2.tNotV, L2.tIf, L2.tCall, L2.tCB, L2.tNil, L2.tCons, My.tTup2, My.tLst2, L2.tPar, My.gTup2, L2.gCons, L2.gNil, My.rIxT2, My.rIxL2, L2.rIxL, L2.rCat, L2.CPow, L2.CMul, L2.CDiv, L2.tBM, L2.rAppend, List.getElem?_cons_zero, List.getElem?_cons_succ, List.set_cons_zero, List.set_cons_succ, List.cons_append, List.nil_append, My.scal_ii, My.scal_ss, Bool.not_true, Bool.not_false, List.length_cons, List.length_nil, My.tApp, My.tMakeX, My.tTry0, My.tHand0, My.tFs, My.tLm0, My.tLm, L2.rReverse, L2.rClear, L2.rPop, L2.rExtend, My.tDG, My.sDP, My.tDI, L2.rIxS, L2.tSl, L2.tNoPart, L2.tPart, My.tXm, My.rFind, My.rJoin, My.rSlX, My.rSortSet, My.rEqP, My.rNeP, My.rSortStr, My.rSortD, My.rSumI, L2.tDGet2, L2.tAugS, L2.ipI, L2.rRep, My.rAllB, My.rRemove, My.capOf, List.map_cons, List.map_nil, Option.join_some, Option.join_none, My.tMethX, L2.tChain, L2.gSub, L2.rSetL, L2.tMeth, L2.tMake, L2.tFld, L2.sFld, My.tTry, My.tXE, My.tXS, My.tCallX, My.tRaise]); (try simp only [L2.tSeq, L2.tNext, L2.tRet, L2.tRetN, L2.tIfS, L2.tDrop, L2.tAsg, L2.gName, L2.tVar, L2.tC, L2.tOp, L2.tUn, L2.rI, L2.rI0, L2.rU, L2.rEq, L2.rNe, L2.tTest, L2.tB, L2.tAnd, L2.tOr, L2.tNot, L2.tAndV, L2.tOrV, L2.tNotV, L2.tIf,
 L2.tCall,L2.tCB,L2.tNil,L2.tCons,My.tTup2,My.tLst2,L2.tPar,My.gTup2,L2.gCons,L2.gNil,My.rIxT2,My.rIxL2,L2.rIxL,L2.rCat,L2.CPow,L2.CMul,L2.CDiv,L2.tBM,L2.rAppend,
 List.getElem?_cons_zero,List.getElem?_cons_succ,List.set_cons_zero,List.set_cons_succ,List.append_nil,List.cons_append,List.nil_append,Option.some.injEq,Option.some_inj,exists_eq_left,exists_eq_left',exists_eq_right,exists_eq,exists_eq',exists_and_left,exists_and_right,exists_const,
 L2.V.int.injEq,L2.V.bl.injEq,L2.V.ref.injEq,L2.V.str.injEq,L2.V.ty.injEq,L2.HO.lst.injEq,L2.HO.tup.injEq,reduceCtorEq,List.cons.injEq,and_true,true_and,and_false,false_and,exists_false,or_false,false_or,My.scal_ii,My.scal_ss,Bool.not_true,Bool.not_false,decide_eq_true_eq,Bool.false_eq_true,if_true,if_false,Bool.not_eq_true',decide_eq_false_iff_not,ite_self,ge_iff_le,gt_iff_lt,My.atI0,My.atI1,My.atI2,My.atI3,YN,List.length_nil,Nat.zero_add,and_assoc,My.tApp,My.tMakeX,My.tTry0,My.tHand0,My.tFs,My.tLm0,My.tLm,L2.rReverse,L2.rClear,L2.rPop,L2.rExtend,My.tDG,My.sDP,My.tDI,L2.rIxS,L2.tSl,L2.tNoPart,L2.tPart,My.tXm,My.rFind,My.rJoin,My.rSlX,My.rSortSet,My.rEqP,My.rNeP,My.rSortStr,My.rSortD,My.rSumI,L2.tDGet2,L2.tAugS,L2.ipI,L2.rRep,My.rAllB,My.rRemove,My.capOf,Yr,List.map_nil,Option.join_some,Option.join_none,My.tMethX,L2.tChain,L2.gSub,L2.rSetL,L2.tMeth,L2.tMake,L2.tFld,L2.sFld,My.tTry,My.tXE,My.tXS,My.tCallX,My.tRaise,My.kind_bl,My.kind_int,My.ask_int,My.ask_bool,My.ask_tuple,My.ask_list,My.ask_str,My.isa_bb,My.isa_bi,My.isa_ii,My.isa_ib,My.isa_tt,My.isa_ll,Bool.true_eq_false,Int.reduceToNat,Int.reducePow,Int.reduceLT,Int.reduceLE,Int.reduceNeg,Int.reduceAbs,Int.reduceSub,Int.reduceMul,Nat.reduceLT,Nat.reduceLeDiff,Nat.reducePow,Int.zero_add,true_or,or_true,eq_self])))
namespace My
open PySem PySem.Spec L2
open PyProof.Rows hiding St
theorem fsc{N P:List Str}{sc:Scope}(a:sc.kind=.function:=by rfl)(b:sc.isCoroutine=false:=by rfl)(c:sc.isGenerator=false:=by rfl)(d:N.Nodup:=by decide +kernel)(e:N.take P.length=P:=by rfl)(f:∀ x∈P,sc.names.lookup x=some .local\/sc.names.lookup x=some .cell:=by decide +kernel)(g:∀ y∈sc.names,y.2 ≠ .free:=by decide +kernel):FnScope N P sc:=⟨a,b,c,d,e,f,g⟩
variable {mg:Str->Option Value}
theorem okR{P:Program}{w:World}{K:PySem.W.Frag}{base:Heap}{x qual:Str}{st:Stmt}{f:Addr}{fd:FuncData}{N ps:List Str}{k:Nat}{sp:Sp}(F:Fun K x qual st f fd)(S:FnScope N ps (defScope st))(hb:∀ (cdv:Value) (A:Around) (outer:List Env) (s:Shared) (H:Hp) (vs:List V) (Q:VK) (E:XK),Room k (A.deeper (envOfC qual (defScope st) s.heap.objs.size f cdv))->sp vs H Q E->∃ t,QB (cxOf CX0 P w K mg base N qual (defScope st) f cdv A outer s H E).nox (defBody st) t/\t { nx:=λ_ H'=>Q .non H',rt:=Q } (start N vs) H)(len:∀ vs H Q E,sp vs H Q E->vs.length=ps.length:=by intro vs H Q E h; repeat (first | (obtain⟨e,_⟩:=h; subst e; rfl) | (obtain⟨_,h⟩:=h))):FnOk P w K mg base CX0 (k + 1) f fd ps sp:=okQ F S len hb
def top(i:Nat):Stmt:=PySem.Challenge.pw_roadshare_k54_endless_ways.main.body.getD i (.Pass ⟨0,0,0,0⟩)
abbrev s_is_whole:Stmt:=top 4
def sc_is_whole:FnScope ["thing"] ["thing"] (defScope s_is_whole):=fsc
abbrev s_greatest_divisor:Stmt:=top 5
def sc_greatest_divisor:FnScope ["one","other","larger","smaller","rest"] ["one","other"] (defScope s_greatest_divisor):=fsc
abbrev s_least_multiple:Stmt:=top 6
def sc_least_multiple:FnScope ["one","other"] ["one","other"] (defScope s_least_multiple):=fsc
abbrev s_ratio:Stmt:=top 8
def sc_ratio:FnScope ["top","bottom","divisor"] ["top","bottom"] (defScope s_ratio):=fsc
abbrev s_common_bottom:Stmt:=top 9
def sc_common_bottom:FnScope ["some","bottom","one"] ["some"] (defScope s_common_bottom):=fsc
abbrev s_top_over:Stmt:=top 10
def sc_top_over:FnScope ["one","bottom"] ["one","bottom"] (defScope s_top_over):=fsc
abbrev s_least:Stmt:=top 12
def sc_least:FnScope ["rows","rights","costs","choice","made_up","own","j"] ["rows","rights","costs"] (defScope s_least):=fsc
abbrev s_go_down:Stmt:=top 13
def sc_go_down:FnScope ["choice","costs","j","k"] ["choice","costs"] (defScope s_go_down):=fsc
abbrev s_cheaper_column:Stmt:=top 14
def sc_cheaper_column:FnScope ["choice","costs","marks","j","column"] ["choice","costs"] (defScope s_cheaper_column):=fsc
abbrev s_row_used_up:Stmt:=top 15
def sc_row_used_up:FnScope ["choice","j","parts","levels","found","k","one","other"] ["choice","j"] (defScope s_row_used_up):=fsc
abbrev s_drop_made_up:Stmt:=top 16
def sc_drop_made_up:FnScope ["choice","k","j"] ["choice"] (defScope s_drop_made_up):=fsc
abbrev s_column_with_part:Stmt:=top 17
def sc_column_with_part:FnScope ["choice","k","j","column"] ["choice","k"] (defScope s_column_with_part):=fsc
abbrev s_column_of:Stmt:=top 18
def sc_column_of:FnScope ["rows","j"] ["rows","j"] (defScope s_column_of):=fsc
abbrev s_tops_over:Stmt:=top 19
def sc_tops_over:FnScope ["some","bottom"] ["some","bottom"] (defScope s_tops_over):=fsc
abbrev s_times:Stmt:=top 20
def sc_times:FnScope ["ones","others"] ["ones","others"] (defScope s_times):=fsc
abbrev s_Choice___init__:Stmt:=inClass (top 21) 0
def sc_Choice___init__:FnScope ["self","rows","rights","scales"] ["self","rows","rights","scales"] (defScope s_Choice___init__):=fsc
abbrev s_Choice_first_line:Stmt:=inClass (top 21) 1
def sc_Choice_first_line:FnScope ["self","k","line"] ["self","k"] (defScope s_Choice_first_line):=fsc
abbrev s_Choice_is_made_up:Stmt:=inClass (top 21) 2
def sc_Choice_is_made_up:FnScope ["self","k"] ["self","k"] (defScope s_Choice_is_made_up):=fsc
abbrev s_Choice_parts:Stmt:=inClass (top 21) 3
def sc_Choice_parts:FnScope ["self","column"] ["self","column"] (defScope s_Choice_parts):=fsc
abbrev s_Choice_levels:Stmt:=inClass (top 21) 4
def sc_Choice_levels:FnScope ["self"] ["self"] (defScope s_Choice_levels):=fsc
abbrev s_Choice_choose:Stmt:=inClass (top 21) 5
def sc_Choice_choose:FnScope ["self","j","k","parts","sign","own","lines","line","part"] ["self","j","k"] (defScope s_Choice_choose):=fsc
abbrev s_Choice_marks:Stmt:=inClass (top 21) 6
def sc_Choice_marks:FnScope ["self","costs","own"] ["self","costs"] (defScope s_Choice_marks):=fsc
abbrev s_Choice_prices:Stmt:=inClass (top 21) 7
def sc_Choice_prices:FnScope ["self","costs"] ["self","costs"] (defScope s_Choice_prices):=fsc
abbrev s_Choice_worth:Stmt:=inClass (top 21) 8
def sc_Choice_worth:FnScope ["self","costs"] ["self","costs"] (defScope s_Choice_worth):=fsc
abbrev s_Choice_solution:Stmt:=inClass (top 21) 9
def sc_Choice_solution:FnScope ["self"] ["self"] (defScope s_Choice_solution):=fsc
abbrev s_Choice_way_along:Stmt:=inClass (top 21) 10
def sc_Choice_way_along:FnScope ["self","j","way"] ["self","j"] (defScope s_Choice_way_along):=fsc
abbrev s_Choice_spread:Stmt:=inClass (top 21) 11
def sc_Choice_spread:FnScope ["self","amounts","bottom","told","k","amount","j"] ["self","amounts","bottom"] (defScope s_Choice_spread):=fsc
abbrev s_law_cell_at:Stmt:=top 23
def sc_law_cell_at:FnScope ["_law_script","_law_k"] ["_law_script","_law_k"] (defScope s_law_cell_at):=fsc
abbrev s_law_drawn:Stmt:=top 24
def sc_law_drawn:FnScope ["_law_cell","_law_bases","_law_row","_law_rest","_law_k","_law_base","_law_one"] ["_law_cell","_law_bases"] (defScope s_law_drawn):=fsc
abbrev s_law_low:Stmt:=top 25
def sc_law_low:FnScope ["_law_top","_law_bottom","_law_one","_law_other"] ["_law_top","_law_bottom"] (defScope s_law_low):=fsc
abbrev s_law_plus:Stmt:=top 26
def sc_law_plus:FnScope ["_law_one","_law_other"] ["_law_one","_law_other"] (defScope s_law_plus):=fsc
abbrev s_law_less:Stmt:=top 27
def sc_law_less:FnScope ["_law_one","_law_other"] ["_law_one","_law_other"] (defScope s_law_less):=fsc
abbrev s_law_times:Stmt:=top 28
def sc_law_times:FnScope ["_law_one","_law_other"] ["_law_one","_law_other"] (defScope s_law_times):=fsc
abbrev s_law_under:Stmt:=top 29
def sc_law_under:FnScope ["_law_one","_law_other"] ["_law_one","_law_other"] (defScope s_law_under):=fsc
abbrev s_law_total:Stmt:=top 30
def sc_law_total:FnScope ["_law_some","_law_total_here","_law_one"] ["_law_some"] (defScope s_law_total):=fsc
abbrev s_law_ratio:Stmt:=top 31
def sc_law_ratio:FnScope ["_law_found","_law_part"] ["_law_found"] (defScope s_law_ratio):=fsc
abbrev s_law_dot:Stmt:=top 32
def sc_law_dot:FnScope ["_law_one","_law_other"] ["_law_one","_law_other"] (defScope s_law_dot):=fsc
abbrev s_law_column:Stmt:=top 33
def sc_law_column:FnScope ["_law_rows","_law_k"] ["_law_rows","_law_k"] (defScope s_law_column):=fsc
abbrev s_law_list:Stmt:=top 34
def sc_law_list:FnScope ["_law_found","_law_many"] ["_law_found","_law_many"] (defScope s_law_list):=fsc
abbrev s_law_solves:Stmt:=top 35
def sc_law_solves:FnScope ["_law_rows","_law_rights","_law_found","_law_many"] ["_law_rows","_law_rights","_law_found","_law_many"] (defScope s_law_solves):=fsc
abbrev s_law_least:Stmt:=top 36
def sc_law_least:FnScope ["_law_rows","_law_rights","_law_costs","_law_told","_law_k"] ["_law_rows","_law_rights","_law_costs","_law_told"] (defScope s_law_least):=fsc
abbrev s_law_none:Stmt:=top 37
def sc_law_none:FnScope ["_law_rows","_law_rights","_law_costs","_law_told","_law_k"] ["_law_rows","_law_rights","_law_costs","_law_told"] (defScope s_law_none):=fsc
abbrev s_law_endless:Stmt:=top 38
def sc_law_endless:FnScope ["_law_rows","_law_rights","_law_costs","_law_told","_law_noughts"] ["_law_rows","_law_rights","_law_costs","_law_told"] (defScope s_law_endless):=fsc
abbrev s_law_holds:Stmt:=top 39
theorem sc_law_holds:FnScope ["_law_rows","_law_rights","_law_costs","_law_told"] ["_law_rows","_law_rights","_law_costs","_law_told"] (defScope s_law_holds):=fsc
abbrev s_law_asked:Stmt:=top 40
def sc_law_asked:FnScope ["_law_rows","_law_rights","_law_costs","_law_handed","_law_told"] ["_law_rows","_law_rights","_law_costs"] (defScope s_law_asked):=fsc
abbrev s_law_numbers:Stmt:=top 41
def sc_law_numbers:FnScope ["_law_cell","_law_many","_law_wide","_law_row"] ["_law_cell","_law_many","_law_wide"] (defScope s_law_numbers):=fsc
abbrev s_law_table:Stmt:=top 42
def sc_law_table:FnScope ["_law_script","_law_head","_law_wide","_law_many","_law_rows","_law_k"] ["_law_script"] (defScope s_law_table):=fsc
abbrev s_law_at_least:Stmt:=top 43
def sc_law_at_least:FnScope ["_law_some"] ["_law_some"] (defScope s_law_at_least):=fsc
abbrev s_law:Stmt:=top 44
def sc_law:FnScope ["_law_script","_law_rows","_law_many","_law_wide","_law_way","_law_row","_law_rest","_law_drawn_here","_law_rights","_law_costs","_law_less_here"] ["_law_script"] (defScope s_law):=fsc
def RatV(H:Hp)(x:V)(q:Rat):Prop:=∃ p,x=.ref p/\H p=some (.tup [.int q.num,.int (q.den:Int)])
variable {q:Rat}
def RatV.same{H H':Hp}{x:V}(h:RatV H x q)(s:Same H H'):RatV H' x q:=by
 obtain⟨p,e,h⟩:=h
 exact⟨p,e,s _ _ h⟩
def Big(b:Int):Prop:=b.natAbs < 2 ^ 8000
variable {n:Nat}
theorem Big.of{b:Int}(h:b.natAbs < 2 ^ n)(hn:n<=8000):Big b:=pow_mono h hn
variable {H:Hp}
def if_go{c:TT}{a b:TS}{D:Ends}{Z:St}(h:∀ A:St->Hp->Prop,A=a D->∀ B:St->Hp->Prop,B=b D->c Z H λx H1=>if x=true then A Z H1 else B Z H1):tIfS c a b D Z H:=h _ rfl _ rfl
def seq_go{a b:TS}{D:Ends}{Z:St}(h:∀ B:St->Hp->Prop,B=b D->a { D with nx:=B } Z H):tSeq a b D Z H:=h _ rfl
def isW:V->Bool
 | .int _=>true
 | _=>false
def Th0(H:Hp)(x:V):Prop:=∃ t,kindV H x=some t
def sp_whole:Sp:=λvs H Q _=>∃ x,vs=[x]/\Th0 H x/\Q (.bl (isW x)) H
def sp_gcd:Sp:=λvs H Q _=>∃ a b:Int,vs=[.int a,.int b]/\Q (.int (Int.gcd a b)) H
def sp_cell(K:PySem.W.Frag):Sp:=λvs H Q _=>∃ (a:Addr) (ns:List Int) (k:Nat),vs=[.ref a,.int k]/\SqL K H a (ns.map V.int)/\∀ c,Q (.int c) H
variable {P:Program}{w:World}{K:PySem.W.Frag}{mg:Str->Option Value}{base:Heap}{f:Addr}{fd:FuncData}{CT:Addr}{CNP:Addr}{pt:Addr}{c:Addr}
def isW_kind{x:V}{t:String}(e:kindV H x=some t):(isA t "int" && !isA t "bool")=isW x:=by
 unfold kindV at e
 split at e
 ·cases e; rfl
 ·cases e; rfl
 ·cases e; rfl
 ·cases e; rfl
 ·split at e
  ·cases e; rfl
  ·cases e; rfl
  ·cases e; rfl
  ·cases e
 ·cases e
def ok_is_whole(F:Fun K "is_whole" "is_whole" s_is_whole f fd)(n_isinstance:mg "isinstance"=none)(n_int:mg "int"=none)(n_bool:mg "bool"=none) :
  FnOk P w K mg base CX0 1 f fd ["thing"] sp_whole:=by
 refine okR F sc_is_whole λcdv A outer s H vs Q E hr h=>?_
 obtain⟨x,rfl,⟨t,ht⟩,q⟩:=h
 refine⟨_,(b_one (s_ret (q_and (q_inst rfl n_isinstance (a_c (q_v 0) (a_c (q_ty rfl n_int rfl) a_nil))) (q_one (q_not (q_inst rfl n_isinstance (a_c (q_v 0) (a_c (q_ty rfl n_bool rfl) a_nil)))))))),?_⟩
 rw [show start ["thing"] [x]=[some (x)] from rfl]
 rw [<- isW_kind ht] at q
 refine⟨_,rfl,x,"int",t,rfl,ht,by decide,_,rfl,?_⟩
 refine ite2 (λc=>?_) (λc=>?_)
 ·refine⟨_,rfl,x,"bool",t,rfl,ht,by decide,_,rfl,?_⟩
  rw [c] at q
  exact q
 ·rw [Bool.eq_false_iff.mpr c] at q
  exact q
def Pg(a b:Int)(H:Hp)(Z:St)(H':Hp):Prop:=∃ (l m:Int) (r:Option V),Z=[some (.int a),some (.int b),some (.int l),some (.int m),r]/\H'=H/\0<=l/\0<=m/\Int.gcd l m=Int.gcd a b
def ok_gcd(F:Fun K "greatest_divisor" "greatest_divisor" s_greatest_divisor f fd)(n_abs:mg "abs"=none) :
  FnOk P w K mg base CX0 1 f fd ["one","other"] sp_gcd:=by
 refine okR F sc_greatest_divisor λcdv A outer s H vs Q E hr h=>?_
 obtain⟨a,b,rfl,q⟩:=h
 refine⟨_,(b_cons (s_set 2 sc_greatest_divisor.nd (q_abs rfl n_abs (a_c (q_v 0) a_nil)))
   (b_cons (s_set 3 sc_greatest_divisor.nd (q_abs rfl n_abs (a_c (q_v 1) a_nil)))
   (b_cons (s_while Yj (t_ne (q_v 3) q_int) (b_cons (s_set 4 sc_greatest_divisor.nd (q_mod (q_v 2) (q_v 3)))
   (b_cons (s_set 2 sc_greatest_divisor.nd (q_v 3))
   (b_one (s_set 3 sc_greatest_divisor.nd (q_v 4))))))
   (b_one (s_ret (q_v 2)))))),?_⟩
 rw [show start ["one","other","larger","smaller","rest"] [.int a,.int b]=[some (.int a),some (.int b),none,none,none] from rfl]
 walk_at "rd"
 simp only [abs_ite]
 refine while_w (Pg a b H) (λZ _=>(slotI Z 3).toNat) ⟨_,_,none,rfl,rfl,by omega,by omega,gcd_abs a b⟩ ?_
 rintro Z H' ⟨l,m,r,rfl,rfl,hl,hm,hg⟩
 walk_at "rd"
 refine ite2 (λc=>?_) (λc=>?_)
 ·have hm':0 < m:=by omega
  refine⟨_,λZ' H' z=>z,hm',_,?_,rfl,m,l % m,some (.int (l % m)),rfl,rfl,hm,YU _ (by omega),?_⟩
  ·exact emod_lt_nat hm'
  ·rw [gcd_turn]; exact hg
 ·have e:m=0:=by omega
  subst e
  have e2:(Int.gcd a b:Int)=l:=by rw [<- hg]; simp; omega
  rw [e2] at q
  exact q
def ok_cell(F:Fun K "_law_cell_at" "_law_cell_at" s_law_cell_at f fd)(n_len:mg "len"=none) :
  FnOk P w K mg base CX0 1 f fd ["_law_script","_law_k"] (sp_cell K):=by
 refine okR F sc_law_cell_at λcdv A outer s H vs Q E hr h=>?_
 obtain⟨a,ns,k,rfl,hS,q⟩:=h
 refine⟨_,(b_cons (s_if (t_lt (q_v 1) (q_lenS rfl n_len (a_c (q_v 0) a_nil))) (b_one (s_ret (q_ixS (q_v 0) (q_v 1)))) b_nil)
   (b_one (s_ret q_int))),?_⟩
 rw [show start ["_law_script","_law_k"] [.ref a,.int k]=[some (.ref a),some (.int k)] from rfl]
 walk_at "rd"
 refine⟨_,.inl hS,?_⟩
 rw [Yy]
 refine ite2 (λc=>?_) (λc=>?_)
 ·exact⟨_,hS,_,cell_in (by omega),q _⟩
 ·exact q _
def th0_int(i:Int):Th0 H (.int i):=⟨"int",rfl⟩
def sp_ratio0:Sp:=λvs H Q _=>∃ t b:Int,vs=[.int t,.int b]/\Big b/\b ≠ 0/\∀ r H',Same H H'->RatV H' r (Rat.divInt t b)->Q r H'
section
variable {P:Program}{w:World}{K:PySem.W.Frag}{mg:Str->Option Value}{base:Heap}{f:Addr}{fd:FuncData}{dV:Value}{cNF:Addr}
def ok_ratio(F:FunD K "ratio" "ratio" s_ratio dV f fd)(F_is_whole:Fn P w K mg base CX0 1 "is_whole" ["thing"] sp_whole)(F_greatest_divisor:Fn P w K mg base CX0 1 "greatest_divisor" ["one","other"] sp_gcd) :
  FnOk P w K mg base CX0 2 f fd ["top","bottom"] sp_ratio0:=by
 refine okQD F sc_ratio (λvs H Q E h=>?_) (λcdv A outer s H vs Q E hr h=>?_)
 ·obtain⟨t,b,rfl,_⟩:=h; rfl
 obtain⟨t,b,rfl,hz,hb0,q⟩:=h
 refine⟨_,(b_cons (s_if (t_w (w_or (t_not (t_val (qfn F_is_whole hr (a_c (q_v 0) a_nil)))) (w_or1 (t_not (t_val (qfn F_is_whole hr (a_c (q_v 1) a_nil))))))) (b_one s_never) b_nil)
   (b_cons (s_if (t_eq (q_v 1) q_int) (b_one s_never) b_nil)
   (b_cons (s_set 2 sc_ratio.nd (qfn F_greatest_divisor hr (a_c (q_v 0) (a_c (q_v 1) a_nil))))
   (b_cons (s_if (t_lt (q_v 1) q_int) (b_one (s_set 2 sc_ratio.nd (q_neg (q_v 2)))) b_nil)
   (b_one (s_ret (q_tup (a_c (q_fdivL (q_v 0) (q_v 2)) (a_c (q_fdivL (q_v 1) (q_v 2)) a_nil))))))))),?_⟩
 rw [show start ["top","bottom","divisor"] [.int t,.int b]=[some (.int t),some (.int b),none] from rfl]
 refine seq_go λB hB=>?_
 refine if_go λA hA C hC=>?_
 walk_at "rd"
 simp only [sp_whole]
 walk_at "rd"
 refine⟨th0_int _,?_⟩
 rw [if_neg (by simp [isW])]
 refine⟨th0_int _,?_⟩
 rw [if_neg (by simp [isW])]
 subst hC
 walk_at "rd"
 subst hB
 try dsimp only
 refine seq_go λB hB=>?_
 refine if_go λA hA C hC=>?_
 walk_at "rd"
 refine ite2 (λc=>absurd c hb0) (λc=>?_)
 subst hC
 walk_at "rd"
 subst hB
 try dsimp only
 walk_at "rd"
 simp only [sp_gcd]
 walk_at "rd"
 have hne:=sgcd_ne (t:=t) c
 have hlog:(sgcd t b).natAbs.log2 < 9000:=by rw [sgcd_abs]; exact log2_lt_of (pow_mono (Ye (gcd_le_abs c) hz) (by omega)) (by omega)
 have fin:∀ (p:Addr) (H2:Hp),H p=none->Same H H2->H2 p=some (.tup [.int (t.fdiv (sgcd t b)),.int (b.fdiv (sgcd t b))])->Q (.ref p) H2:=λp H2 _ hs e=>q _ _ hs ⟨p,rfl,by
  rw [fdiv_of_dvd (sgcd_dvd_left t b),fdiv_of_dvd (sgcd_dvd_right t b),(ratio_parts c).1,(ratio_parts (t:=t) c).2] at e
  exact e⟩
 refine ite2 (λcb=>?_) (λcb=>?_)
 ·have e:sgcd t b=-(Int.gcd t b:Int):=by unfold sgcd; rw [if_pos cb]
  rw [e] at hne hlog fin
  exact⟨hne,hlog,hne,hlog,fin⟩
 ·have e:sgcd t b=(Int.gcd t b:Int):=by unfold sgcd; rw [if_neg cb]
  rw [e] at hne hlog fin
  exact⟨hne,hlog,hne,hlog,fin⟩
end
variable {α:Type}
def ListV(R:Hp->V->α->Prop)(H:Hp)(xs:List V)(as:List α):Prop:=xs.length=as.length/\∀ (i:Nat) x a,xs[i]?=some x->as[i]?=some a->R H x a
def MonoS(R:Hp->V->α->Prop):Prop:=∀ H H' v a,R H v a->Same H H'->R H' v a
def ListV.mono{R:Hp->V->α->Prop}(m:MonoS R){H H':Hp}{xs:List V}{as:List α}(h:ListV R H xs as)(s:Same H H'):ListV R H' xs as:=⟨h.1,λi x a h1 h2=>m _ _ _ _ (h.2 i x a h1 h2) s⟩
theorem ListV.snoc{R:Hp->V->α->Prop}{xs:List V}{as:List α}{x:V}{a:α}(h:ListV R H xs as)(hx:R H x a):ListV R H (xs ++ [x]) (as ++ [a]):=⟨by simp [h.1],λi y r h1 h2=>by
 by_cases c:i < xs.length
 ·rw [YT c] at h1
  rw [YT (by rw [<- h.1]; exact c)] at h2
  exact h.2 i y r h1 h2
 ·have hi:i=xs.length:=by have:=(List.getElem?_eq_some_iff.mp h1).1; simp at this; omega
  subst hi
  rw [YL (Ya _)] at h1
  rw [h.1,YL (Ya _)] at h2
  simp at h1 h2
  subst h1
  subst h2
  exact hx⟩
theorem ListV.nil{R:Hp->V->α->Prop}:ListV R H [] []:=⟨rfl,λi x a h=>by simp at h⟩
def del(a:Addr)(H:Hp):Hp:=λb=>if b=a then none else H b
def del_some{a b:Addr}{o:HO}:del a H b=some o ↔ b ≠ a/\H b=some o:=by
 unfold del
 by_cases c:b=a
 ·rw [if_pos c]; exact⟨λz=>(nomatch z),λz=>absurd c z.1⟩
 ·rw [if_neg c]; exact⟨λz=>⟨c,z⟩,λz=>z.2⟩
def del_sub{a:Addr}:Same (del a H) H:=λ_ _ e=>(del_some.mp e).2
def del_same{a:Addr}{H H':Hp}(s:Same H H'):Same (del a H) (del a H'):=λ_ _ e=>let ⟨g1,g2⟩:=del_some.mp e; del_some.mpr ⟨g1,s _ _ g2⟩
def Rch(B H H':Hp):Hp:=λb=>match B b with
 | some u=>some u
 | none=>match H b with
  | none=>H' b
  | some (.tup t)=>some (.tup t)
  | some _=>none
def noH:Hp:=λ_=>none
abbrev Nw(H H':Hp):Hp:=Rch noH H H'
def rch_some{B H H':Hp}{b:Addr}{u:HO}:Rch B H H' b=some u ↔ B b=some u\/(B b=none/\((H b=none/\H' b=some u)\/∃ t,H b=some (.tup t)/\u=.tup t)):=by
 unfold Rch
 cases hB:B b with
 | some w=>simp
 | none =>
  cases hH:H b with
  | none=>simp
  | some w =>
   cases w <;> simp [eq_comm]
def noH_same:Same noH H:=λ_ _ e=>(nomatch e)
def rch_sub{B H H':Hp}(hB:Same B H)(s:Same H H'):Same (Rch B H H') H':=λb u e=>by
 rcases rch_some.mp e with h | ⟨_,⟨_,h⟩ | ⟨t,h,rfl⟩⟩
 ·exact s _ _ (hB _ _ h)
 ·exact h
 ·exact s _ _ h
def nw_sub{H H':Hp}(s:Same H H'):Same (Nw H H') H':=rch_sub noH_same s
def rch_fwd{B H H1 H2:Hp}(s:Same H1 H2):Same (Rch B H H1) (Rch B H H2):=λb u e=>by
 rcases rch_some.mp e with h | ⟨hb,⟨h,h'⟩ | h⟩
 ·exact rch_some.mpr (.inl h)
 ·exact rch_some.mpr (.inr ⟨hb,.inl ⟨h,s _ _ h'⟩⟩)
 ·exact rch_some.mpr (.inr ⟨hb,.inr h⟩)
def rch_back{B H0 H1 H2:Hp}(s:Same H0 H1)(s2:Same H1 H2):Same (Rch B H1 H2) (Rch B H0 H2):=λb u e=>by
 rcases rch_some.mp e with h | ⟨hb,h⟩
 ·exact rch_some.mpr (.inl h)
 ·refine rch_some.mpr (.inr ⟨hb,?_⟩)
  cases h0:H0 b with
  | none =>
   refine .inl ⟨rfl,?_⟩
   rcases h with ⟨_,h⟩ | ⟨t,h,rfl⟩
   ·exact h
   ·exact s2 _ _ h
  | some w =>
   have hw:=s _ _ h0
   rcases h with ⟨h,_⟩ | ⟨t,h,rfl⟩
   ·rw [hw] at h; cases h
   ·rw [hw] at h; injection h with h; subst h; exact .inr ⟨t,rfl,rfl⟩
def nw_fwd{H H1 H2:Hp}(s:Same H1 H2):Same (Nw H H1) (Nw H H2):=rch_fwd s
def nw_back{H0 H1 H2:Hp}(s:Same H0 H1)(s2:Same H1 H2):Same (Nw H1 H2) (Nw H0 H2):=rch_back s s2
def nw_new{H H':Hp}{b:Addr}{o:HO}(h:H b=none)(e:H' b=some o):Nw H H' b=some o:=rch_some.mpr (.inr ⟨rfl,.inl ⟨h,e⟩⟩)
variable {ys:List V}
def nw_lst{H H':Hp}{b:Addr}(e:Nw H H' b=some (.lst ys)):H b=none/\H' b=some (.lst ys):=by
 rcases rch_some.mp e with h | ⟨_,h | ⟨t,_,h⟩⟩
 ·cases h
 ·exact h
 ·cases h
def LsV(R:Hp->V->α->Prop)(G:Hp)(x:V)(as:List α):Prop:=∃ p ys,x=.ref p/\G p=some (.lst ys)/\ListV R (del p G) ys as
def LsV.mono{R:Hp->V->α->Prop}(m:MonoS R):MonoS (LsV R):=λ_ _ _ _ ⟨p,ys,e,h1,h2⟩ s=>⟨p,ys,e,s _ _ h1,h2.mono m (del_same s)⟩
def IntR(_:Hp)(v:V)(n:Int):Prop:=v=.int n
def int_mono:MonoS IntR:=λ_ _ _ _ h _=>h
def rat_mono:MonoS RatV:=λ_ _ _ _ h s=>h.same s
def int_list{ns:List Int}(h:ListV IntR H ys ns):ys=ns.map V.int:=by
 refine YH λi=>?_
 rw [Yt]
 by_cases c:i < ys.length
 ·have c2:i < ns.length:=by rw [<- h.1]; exact c
  rw [Yb c,Yb c2]
  exact congrArg some (h.2 i _ _ (Yb c) (Yb c2))
 ·rw [Yp (by omega),Yp (by rw [<- h.1]; omega)]
  rfl
theorem list_int(ns:List Int):ListV IntR H (ns.map V.int) ns:=⟨by simp,λi x a h1 h2=>by rw [List.getElem?_map,h2] at h1; cases h1; rfl⟩
def tab(n:Nat)(f:Nat->α):List α:=(List.range n).map f
theorem tab_len(n:Nat)(f:Nat->α):(tab n f).length=n:=by simp [tab]
theorem tab_at{f:Nat->α}{i:Nat}(h:i < n):(tab n f)[i]?=some (f i):=by simp [tab,h]
def tab_get{f:Nat->α}{i:Nat}{x:α}(h:(tab n f)[i]?=some x):i < n/\x=f i:=by
 have hi:i < n:=by have:=(Yf.mp h).1; rw [tab_len] at this; exact this
 rw [tab_at hi] at h
 exact⟨hi,(Yx h).symm⟩
theorem tab_succ(n:Nat)(f:Nat->α):tab (n + 1) f=tab n f ++ [f n]:=by simp [tab,List.range_succ]
theorem tab_congr{f g:Nat->α}(h:∀ i,i < n->f i=g i):tab n f=tab n g:=List.map_congr_left λi hi=>h i (YV.mp hi)
theorem tab_map{α β:Type}(n:Nat)(f:Nat->α)(g:α->β):(tab n f).map g=tab n λi=>g (f i):=by simp [tab]
def LsV.ints{G:Hp}{x:V}{ns:List Int}(h:LsV IntR G x ns):∃ p,x=.ref p/\G p=some (.lst (ns.map V.int)):=let ⟨p,ys,e,h1,h2⟩:=h; ⟨p,e,by rw [h1,int_list h2]⟩
variable {p:Addr}
def ints_ls{G:Hp}{ns:List Int}(h:G p=some (.lst (ns.map V.int))):LsV IntR G (.ref p) ns:=⟨p,_,rfl,h,list_int ns⟩
def atI_tab{f:Nat->α}{i:Nat}(h:i < n):atI (tab n f) (i:Int)=some (f i):=atI_nat (tab_at h)
structure Acc{α:Type}(R:Hp->V->α->Prop)(B H0:Hp)(p:Addr)(ys:List V)(as:List α)(H:Hp):Prop where
 hn:H0 p=none
 hB:Same B H0
 sm:Same H0 H
 at_:H p=some (.lst ys)
 ls:ListV R (del p (Rch B H0 H)) ys as
theorem Acc.start{R:Hp->V->α->Prop}{B H0 H:Hp}(hB:Same B H0)(hn:H0 p=none)(sm:Same H0 H)(e:H p=some (.lst [])):Acc R B H0 p [] [] H:=⟨hn,hB,sm,e,.nil⟩
section
variable {α:Type}{R:Hp->V->α->Prop}(mR:MonoS R){B H0 H H' H5:Hp}{p:Addr}{ys:List V}{as:List α}{v:V}{b:α}
theorem Acc.step(mR:MonoS R)(h:Acc R B H0 p ys as H)(s:Same H H'):Acc R B H0 p ys as H':=⟨h.hn,h.hB,h.sm.trans s,s _ _ h.at_,h.ls.mono mR (del_same (rch_fwd s))⟩
theorem Acc.push(mR:MonoS R)(h:Acc R B H0 p ys as H')(s:Same H' H5)(hv:R (Rch B H' H5) v b):H5 p=some (.lst ys)/\Acc R B H0 p (ys ++ [v]) (as ++ [b]) (upd H5 p (.lst (ys ++ [v]))):=by
 have e5:=s _ _ h.at_
 have hBp:B p=none:=by
  cases z:B p with
  | none=>rfl
  | some w=>have:=h.hB _ _ z; rw [h.hn] at this; cases this
 refine⟨e5,h.hn,h.hB,same_upd h.hn (h.sm.trans s),upd_same,ListV.snoc (h.ls.mono mR λc u e=>?_) (mR _ _ _ _ hv λc u e=>?_)⟩
 ·obtain⟨hc,e⟩:=del_some.mp e
  refine del_some.mpr ⟨hc,?_⟩
  rcases rch_some.mp e with q | ⟨q1,⟨q2,q3⟩ | q2⟩
  ·exact rch_some.mpr (.inl q)
  ·exact rch_some.mpr (.inr ⟨q1,.inl ⟨q2,by rw [upd_ne hc]; exact s _ _ q3⟩⟩)
  ·exact rch_some.mpr (.inr ⟨q1,.inr q2⟩)
 ·have hc:c ≠ p:=λz=>by
   subst z
   rcases rch_some.mp e with q | ⟨q1,⟨q2,q3⟩ | ⟨t,q2,_⟩⟩
   ·rw [hBp] at q; cases q
   ·rw [h.at_] at q2; cases q2
   ·rw [h.at_] at q2; cases q2
  refine del_some.mpr ⟨hc,?_⟩
  have e2:=rch_back (B:=B) h.sm s _ _ e
  rcases rch_some.mp e2 with q | ⟨q1,⟨q2,q3⟩ | q2⟩
  ·exact rch_some.mpr (.inl q)
  ·exact rch_some.mpr (.inr ⟨q1,.inl ⟨q2,by rw [upd_ne hc]; exact q3⟩⟩)
  ·exact rch_some.mpr (.inr ⟨q1,.inr q2⟩)
def Acc.done(h:Acc R B H0 p ys as H):LsV R (Rch B H0 H) (.ref p) as:=by
 refine⟨p,ys,rfl,?_,h.ls⟩
 cases z:B p with
 | none=>exact rch_some.mpr (.inr ⟨z,.inl ⟨h.hn,h.at_⟩⟩)
 | some w=>have:=h.hB _ _ z; rw [h.hn] at this; cases this
end
section
variable {α:Type}{K:PySem.W.Frag}{a c:Addr}{nt n:Nat}{cp:St}{g:TG}{te:TE}{B H1:Hp}{Q:VK}{xs zs:List V}
def blkA_list(R:Hp->V->α->Prop)(f:Nat->α)(mR:MonoS R)(hB:Same B H1)(ha:H1 a=some (.lst xs))(hlen:xs.length=n)(hl:n < 1000)
  (ht:∀ (i:Nat) x,i < n->xs[i]?=some x->∀ H' (k:VK) os,Same H1 H'->os.length=nt->(∀ v H2,Same H' H2->R (Rch B H' H2) v (f i)->k v H2)->g x (os ++ cp) H' λτ H3=>∃ os',os'.length=nt/\τ=os' ++ cp/\te τ H3 k)
  (q:∀ p H',H1 p=none->Same H1 H'->LsV R (Rch B H1 H') (.ref p) (tab n f)->Q (.ref p) H'):tBlk nt cp (Itl K a) g te H1 Q:=by
 unfold tBlk
 refine blk_list (xs:=xs) (λacc i ys H'=>Acc R B H1 acc ys (tab i f) H'/\i<=n) (λacc H2 hn sm e=>⟨Acc.start hB hn sm e,Ys _⟩) (λacc i ys H2 hn ⟨h,hi⟩=>⟨h.at_,?_,.of (h.sm _ _ ha)⟩) (λacc i y ys H2 os hn hi ⟨h,_⟩ ol=>?_) (λacc ys H2 hn ⟨h,_⟩=>?_)
 ·rw [h.ls.1,tab_len]; omega
 ·have hin:i < n:=by rw [<- hlen]; exact (Yf.mp hi).1
  refine ht i y hin hi H2 (λv H5=>H5 acc=some (.lst ys)/\Acc R B H1 acc (ys ++ [v]) (tab (i + 1) f) (upd H5 acc (.lst (ys ++ [v])))/\i + 1<=n) os h.sm ol λv H3 s3 hv=>?_
  rw [tab_succ]
  obtain⟨e1,e2⟩:=h.push mR s3 hv
  exact⟨e1,e2,hin⟩
 ·rw [hlen] at h
  exact q acc H2 hn h.sm h.done
def blkA_enum(R:Hp->V->α->Prop)(f:Nat->α)(mR:MonoS R)(hB:Same B H1)(ha:H1 a=some (.lst xs))(hlen:xs.length=n)(hl:n < 1000)
  (ht:∀ (i:Nat) x,i < n->xs[i]?=some x->∀ H' (k:VK) os t,H' t=some (.tup [.int i,x])->Same H1 H'->os.length=nt->(∀ v H2,Same H' H2->R (Rch B H' H2) v (f i)->k v H2)->g (.ref t) (os ++ cp) H' λτ H3=>∃ os',os'.length=nt/\τ=os' ++ cp/\te τ H3 k)
  (q:∀ p H',H1 p=none->Same H1 H'->LsV R (Rch B H1 H') (.ref p) (tab n f)->Q (.ref p) H'):tBlk nt cp (Ite K a) g te H1 Q:=by
 unfold tBlk
 refine blk_enum (xs:=xs) (λacc i ys H'=>Acc R B H1 acc ys (tab i f) H'/\i<=n) (λacc H2 hn sm e=>⟨Acc.start hB hn sm e,Ys _⟩) (λacc i ys H2 hn ⟨h,hi⟩=>⟨h.at_,?_,.of (h.sm _ _ ha)⟩) (λacc i y ys H0 os t H2 hn hi ⟨h,_⟩ ol hp s0 et=>?_) (λacc ys H2 hn ⟨h,_⟩=>?_)
 ·rw [h.ls.1,tab_len]; omega
 ·have hin:i < n:=by rw [<- hlen]; exact (Yf.mp hi).1
  have h:=h.step mR s0
  refine ht i y hin hi H2 (λv H5=>H5 acc=some (.lst ys)/\Acc R B H1 acc (ys ++ [v]) (tab (i + 1) f) (upd H5 acc (.lst (ys ++ [v])))/\i + 1<=n) os t et h.sm ol λv H3 s3 hv=>?_
  rw [tab_succ]
  obtain⟨e1,e2⟩:=h.push mR s3 hv
  exact⟨e1,e2,hin⟩
 ·rw [hlen] at h
  exact q acc H2 hn h.sm h.done
def blkA_zip(R:Hp->V->α->Prop)(f:Nat->α)(mR:MonoS R)(hB:Same B H1)(ha:H1 a=some (.lst xs))(hc:H1 c=some (.lst zs))(hlen:xs.length=n)(hlen2:zs.length=n)(hl:n < 1000)
  (ht:∀ (i:Nat) x z,i < n->xs[i]?=some x->zs[i]?=some z->∀ H' (k:VK) os t,H' t=some (.tup [x,z])->Same H1 H'->os.length=nt->(∀ v H2,Same H' H2->R (Rch B H' H2) v (f i)->k v H2)->g (.ref t) (os ++ cp) H' λτ H3=>∃ os',os'.length=nt/\τ=os' ++ cp/\te τ H3 k)
  (q:∀ p H',H1 p=none->Same H1 H'->LsV R (Rch B H1 H') (.ref p) (tab n f)->Q (.ref p) H'):tBlk nt cp (Itz K a c) g te H1 Q:=by
 unfold tBlk
 refine blk_zip (xs:=xs) (zs:=zs) (by rw [hlen,hlen2]) (λacc i ys H'=>Acc R B H1 acc ys (tab i f) H'/\i<=n) (λacc H2 hn sm e=>⟨Acc.start hB hn sm e,Ys _⟩) (λacc i ys H2 hn ⟨h,hi⟩=>⟨h.at_,?_,.of (h.sm _ _ ha),.of (h.sm _ _ hc)⟩) (λacc i y z ys H0 os t H2 hn hi hz ⟨h,_⟩ ol hp s0 et=>?_) (λacc ys H2 hn ⟨h,_⟩=>?_)
 ·rw [h.ls.1,tab_len]; omega
 ·have hin:i < n:=by rw [<- hlen]; exact (Yf.mp hi).1
  have h:=h.step mR s0
  refine ht i y z hin hi hz H2 (λv H5=>H5 acc=some (.lst ys)/\Acc R B H1 acc (ys ++ [v]) (tab (i + 1) f) (upd H5 acc (.lst (ys ++ [v])))/\i + 1<=n) os t et h.sm ol λv H3 s3 hv=>?_
  rw [tab_succ]
  obtain⟨e1,e2⟩:=h.push mR s3 hv
  exact⟨e1,e2,hin⟩
 ·rw [hlen] at h
  exact q acc H2 hn h.sm h.done
def blkA_rng{lo:Int}(R:Hp->V->α->Prop)(f:Nat->α)(mR:MonoS R)(hB:Same B H1)(hl:n < 1000)
  (ht:∀ (i:Nat),i < n->∀ H' (k:VK) os,Same H1 H'->os.length=nt->(∀ v H2,Same H' H2->R (Rch B H' H2) v (f i)->k v H2)->g (.int (lo + (i:Nat))) (os ++ cp) H' λτ H3=>∃ os',os'.length=nt/\τ=os' ++ cp/\te τ H3 k)
  (q:∀ p H',H1 p=none->Same H1 H'->LsV R (Rch B H1 H') (.ref p) (tab n f)->Q (.ref p) H'):tBlk nt cp (Itr lo n) g te H1 Q:=by
 refine blk_rng (λacc i ys H'=>Acc R B H1 acc ys (tab i f) H'/\i<=n) (λacc H2 hn sm e=>⟨Acc.start hB hn sm e,Ys _⟩) (λacc i ys H2 ⟨h,hi⟩=>⟨h.at_,?_⟩) (λacc i ys H2 os hn hin ⟨h,_⟩ ol=>?_) (λacc ys H2 hn ⟨h,_⟩=>?_)
 ·rw [h.ls.1,tab_len]; omega
 ·refine ht i hin H2 (λv H5=>H5 acc=some (.lst ys)/\Acc R B H1 acc (ys ++ [v]) (tab (i + 1) f) (upd H5 acc (.lst (ys ++ [v])))/\i + 1<=n) os h.sm ol λv H3 s3 hv=>?_
  rw [tab_succ]
  obtain⟨e1,e2⟩:=h.push mR s3 hv
  exact⟨e1,e2,hin⟩
 ·exact q acc H2 hn h.sm h.done
end
def sumN:Nat->(Nat->Int)->Int
 | 0,_=>0
 | n + 1,f=>sumN n f + f n
def sumN_congr{f g:Nat->Int}(h:∀ j,j < n->f j=g j):sumN n f=sumN n g:=by
 induction n with
 | zero=>rfl
 | succ n ih=>rw [sumN,sumN,ih λj hj=>h j (by omega),h n (by omega)]
def sumN_lin(n:Nat)(x y:Int)(f g:Nat->Int):sumN n (λj=>x * f j + y * g j)=x * sumN n f + y * sumN n g:=by
 induction n with
 | zero=>simp [sumN]
 | succ n ih=>simp only [sumN,ih,Int.mul_add]; omega
def sumN_zero{f:Nat->Int}(h:∀ j,j < n->f j=0):sumN n f=0:=by
 induction n with
 | zero=>rfl
 | succ n ih=>rw [sumN,ih λj hj=>h j (by omega),h n (by omega)]; rfl
theorem sumN_one{n k:Nat}{f:Nat->Int}(hk:k < n)(h:∀ j,j < n->j ≠ k->f j=0):sumN n f=f k:=by
 induction n with
 | zero=>omega
 | succ n ih =>
  rw [sumN]
  by_cases c:k=n
  ·subst c
   rw [sumN_zero λj hj=>h j (by omega) (by omega)]; omega
  ·rw [ih (by omega) λj hj hne=>h j (by omega) hne,h n (by omega) (Ne.symm c)]; omega
def sumN_two{n k:Nat}{f:Nat->Int}(hk:k + 1 < n)(h:∀ j,j < n->j ≠ k->j ≠ k + 1->f j=0):sumN n f=f k + f (k + 1):=by
 induction n with
 | zero=>omega
 | succ n ih =>
  rw [sumN]
  by_cases c:k + 1=n
  ·subst c
   rw [sumN_one (k:=k) (by omega) λj hj hne=>h j (by omega) hne (by omega)]
  ·rw [ih (by omega) λj hj h1 h2=>h j (by omega) h1 h2,h n (by omega) (by omega) (Ne.symm c)]; omega
def skip(j:Nat)(M:Nat->Nat->Int):Nat->Nat->Int:=λl=>if l < j then M l else M (l + 1)
def sgn(j:Nat):Int:=if j % 2=0 then 1 else -1
theorem sgn_succ(j:Nat):sgn (j + 1)=-sgn j:=by unfold sgn; split <;> split <;> omega
def dt:Nat->(Nat->Nat->Int)->Int
 | 0,_=>1
 | n + 1,M=>sumN (n + 1) λj=>sgn j * (M j n * dt n (skip j M))
def colP(M:Nat->Nat->Int)(k:Nat)(v:Nat->Int):Nat->Nat->Int:=λj=>if j=k then v else M j
def skip_same(M:Nat->Nat->Int)(k:Nat)(v:Nat->Int):skip k (colP M k v)=skip k M:=by
 funext l
 unfold skip colP
 split
 ·rw [if_neg (by omega)]
 ·rw [if_neg (by omega)]
def skip_col(M:Nat->Nat->Int){j k:Nat}(h:j ≠ k)(v:Nat->Int):skip j (colP M k v)=colP (skip j M) (if k < j then k else k - 1) v:=by
 funext l
 unfold skip colP
 dsimp only
 by_cases c:l < j
 ·rw [if_pos c,if_pos c]
  by_cases e:l=k
  ·subst e; rw [if_pos rfl,if_pos (by rw [if_pos c])]
  ·rw [if_neg e,if_neg (by split <;> omega)]
 ·rw [if_neg c,if_neg c]
  by_cases e:l + 1=k
  ·rw [if_pos e,if_pos (by rw [if_neg (by omega)]; omega)]
  ·rw [if_neg e,if_neg (by split <;> omega)]
def dt_lin:∀ (n:Nat) (M:Nat->Nat->Int) (k:Nat),k < n->∀ (x y:Int) (v w:Nat->Int),dt n (colP M k λt=>x * v t + y * w t)=x * dt n (colP M k v) + y * dt n (colP M k w)
 | 0,_,_,h,_,_,_,_=>by omega
 | n + 1,M,k,h,x,y,v,w=>by
  unfold dt
  rw [<- sumN_lin]
  refine sumN_congr λj hj=>?_
  by_cases c:j=k
  ·subst c
   rw [skip_same,skip_same,skip_same]
   simp only [colP,if_true]
   rw [Int.add_mul,Int.mul_add,Int.mul_assoc,Int.mul_assoc,Int.mul_left_comm,Int.mul_left_comm (sgn j) y]
  ·rw [skip_col M c,skip_col M c,skip_col M c,dt_lin n _ _ (by split <;> omega)]
   simp only [colP,if_neg c]
   rw [Int.mul_add,Int.mul_add,Int.mul_left_comm (M j n) x,Int.mul_left_comm (M j n) y,Int.mul_left_comm (sgn j) x,Int.mul_left_comm (sgn j) y]
def dt_adj:∀ (n:Nat) (M:Nat->Nat->Int) (k:Nat),k + 1 < n->M k=M (k + 1)->dt n M=0
 | 0,_,_,h,_=>by omega
 | n + 1,M,k,h,e=>by
  unfold dt
  rw [sumN_two (k:=k) (by omega) λj hj h1 h2=>?_]
  ·have:skip k M=skip (k + 1) M:=by
    funext l
    unfold skip
    by_cases c:l < k
    ·rw [if_pos c,if_pos (by omega)]
    ·rw [if_neg c]
     by_cases c2:l=k
     ·subst c2; rw [if_pos (by omega),e]
     ·rw [if_neg (by omega)]
   rw [this,sgn_succ,<- e]
   rw [Int.neg_mul]
   omega
  ·rw [dt_adj n (skip j M) (if k < j then k else k - 1) (by split <;> omega) ?_]
   ·simp
   ·unfold skip
    by_cases c:k < j
    ·rw [if_pos c,if_pos c,if_pos (by omega),e]
    ·rw [if_neg c,if_neg (by omega),if_neg (by omega),show k - 1 + 1=k by omega,e]
def colP_self(M:Nat->Nat->Int)(k:Nat):colP M k (M k)=M:=by
 funext j
 unfold colP
 split
 ·rename_i c; rw [c]
 ·rfl
def colP_two{M:Nat->Nat->Int}{j k:Nat}(h:j ≠ k)(v w:Nat->Int):colP (colP M j v) k w=colP (colP M k w) j v:=by
 funext l
 unfold colP
 by_cases c:l=k
 ·rw [if_pos c,if_neg (by omega),if_pos c]
 ·rw [if_neg c,if_neg c]
def colP_twice(M:Nat->Nat->Int)(k:Nat)(v w:Nat->Int):colP (colP M k v) k w=colP M k w:=by
 funext l
 unfold colP
 split <;> rfl
def dt_plus(n:Nat)(M:Nat->Nat->Int){k:Nat}(h:k < n)(v w:Nat->Int):dt n (colP M k λt=>v t + w t)=dt n (colP M k v) + dt n (colP M k w):=by
 have:=dt_lin n M k h 1 1 v w
 simpa using this
def dt_swap1(n:Nat)(M:Nat->Nat->Int){k:Nat}(h:k + 1 < n)(v w:Nat->Int):dt n (colP (colP M k v) (k + 1) w)=-dt n (colP (colP M k w) (k + 1) v):=by
 have zero:∀ u,dt n (colP (colP M k u) (k + 1) u)=0:=λu=>dt_adj n _ k h (by
  unfold colP
  rw [if_neg (by omega),if_pos rfl,if_pos rfl])
 have e:=zero λt=>v t + w t
 rw [dt_plus n _ h,colP_two (by omega),dt_plus n _ (by omega),colP_two (M:=M) (j:=k) (k:=k + 1) (by omega),dt_plus n _ (by omega)] at e
 rw [colP_two (M:=M) (j:=k + 1) (k:=k) (by omega),colP_two (M:=M) (j:=k + 1) (k:=k) (by omega),colP_two (M:=M) (j:=k + 1) (k:=k) (by omega),colP_two (M:=M) (j:=k + 1) (k:=k) (by omega)] at e
 rw [zero v,zero w] at e
 omega
def dt_alike(n:Nat):∀ (d:Nat) (M:Nat->Nat->Int) (k:Nat),k + d + 1 < n->M k=M (k + d + 1)->dt n M=0
 | 0,M,k,h,e=>dt_adj n M k h e
 | d + 1,M,k,h,e=>by
  have h1:=dt_swap1 n M (k:=k + d + 1) h (M (k + d + 1)) (M (k + d + 2))
  rw [show colP (colP M (k + d + 1) (M (k + d + 1))) (k + d + 1 + 1) (M (k + d + 2))=M by rw [colP_self,show k + d + 1 + 1=k + d + 2 by omega,colP_self]] at h1
  rw [h1,dt_alike n d _ k (by omega) ?_]
  ·rfl
  ·unfold colP
   rw [if_neg (by omega),if_neg (by omega),if_neg (by omega),if_pos rfl]
   exact e
def dt_two{M:Nat->Nat->Int}{i k:Nat}(hi:i < n)(hk:k < n)(hne:i ≠ k)(e:M i=M k):dt n M=0:=by
 rcases Nat.lt_or_ge i k with c | c
 ·exact dt_alike n (k - i - 1) M i (by omega) (by rw [show i + (k - i - 1) + 1=k by omega]; exact e)
 ·exact dt_alike n (i - k - 1) M k (by omega) (by rw [show k + (i - k - 1) + 1=i by omega]; exact e.symm)
theorem dt_congr:∀ (n:Nat) {M N:Nat->Nat->Int},(∀ j t,j < n->t < n->M j t=N j t)->dt n M=dt n N
 | 0,_,_,_=>rfl
 | n + 1,M,N,h=>by
  unfold dt
  refine sumN_congr λj hj=>?_
  rw [h j n hj (by omega),dt_congr n (M:=skip j M) (N:=skip j N) λl t hl ht=>?_]
  unfold skip
  split
  ·exact h l t (by omega) (by omega)
  ·exact h (l + 1) t (by omega) (by omega)
def dt_times(n:Nat)(M:Nat->Nat->Int){k:Nat}(h:k < n)(x:Int)(v:Nat->Int):dt n (colP M k λt=>x * v t)=x * dt n (colP M k v):=by
 have:=dt_lin n M k h x 0 v v
 simpa using this
def dt_none(n:Nat)(M:Nat->Nat->Int){k:Nat}(h:k < n):dt n (colP M k λ_=>0)=0:=by
 have:=dt_lin n M k h 0 0 (λ_=>0) (λ_=>0)
 simpa using this
def dt_sum(n:Nat)(M:Nat->Nat->Int){k:Nat}(h:k < n)(a:Nat->Int)(b:Nat->Nat->Int):∀ m,dt n (colP M k λt=>sumN m λj=>a j * b j t)=sumN m λj=>a j * dt n (colP M k (b j))
 | 0=>dt_none n M h
 | m + 1=>by
  unfold sumN
  rw [dt_plus n M h,dt_sum n M h a b m,dt_times n M h]
def dt_swap(M:Nat->Nat->Int){i k:Nat}(hi:i < n)(hk:k < n)(hne:i ≠ k)(v w:Nat->Int):dt n (colP (colP M i v) k w)=-dt n (colP (colP M i w) k v):=by
 have zero:∀ u,dt n (colP (colP M i u) k u)=0:=λu=>dt_two hi hk hne (by
  unfold colP
  rw [if_neg hne,if_pos rfl,if_pos rfl])
 have e:=zero λt=>v t + w t
 rw [dt_plus n _ hk,colP_two hne,dt_plus n _ hi,colP_two (M:=M) (j:=i) (k:=k) hne,dt_plus n _ hi] at e
 rw [colP_two (M:=M) (j:=k) (k:=i) hne.symm,colP_two (M:=M) (j:=k) (k:=i) hne.symm,colP_two (M:=M) (j:=k) (k:=i) hne.symm,colP_two (M:=M) (j:=k) (k:=i) hne.symm] at e
 rw [zero v,zero w] at e
 omega
def dotN(n:Nat)(l v:Nat->Int):Int:=sumN n λt=>l t * v t
structure Pv(n:Nat)(B L:Nat->Nat->Int)(u e:Int):Prop where
 one:e * e=1
 det:u=e * dt n B
 pos:0 < u
 line:∀ i,i < n->∀ v,dotN n (L i) v=e * dt n (colP B i v)
 back:∀ v t,t < n->u * v t=sumN n λj=>dotN n (L j) v * B j t
theorem Pv.exact{B L:Nat->Nat->Int}{u e:Int}(P:Pv n B L u e){k i:Nat}(hk:k < n)(hi:i < n)(hne:i ≠ k)(c v:Nat->Int):dotN n (L k) c * dotN n (L i) v - dotN n (L i) c * dotN n (L k) v=u * (e * dt n (colP (colP B k c) i v)):=by
 have h1:u * dt n (colP (colP B k c) i v)=sumN n λj=>dotN n (L j) v * dt n (colP (colP B k c) i (B j)):=by
  rw [<- dt_times n _ hi,<- dt_sum n _ hi]
  refine dt_congr n λj t hj ht=>?_
  unfold colP
  split
  ·exact P.back v t ht
  ·rfl
 have h2:sumN n (λj=>dotN n (L j) v * dt n (colP (colP B k c) i (B j)))=dotN n (L i) v * dt n (colP B k c) + dotN n (L k) v * dt n (colP (colP B k c) i (B k)):=by
  have e1:(λj=>dotN n (L j) v * dt n (colP (colP B k c) i (B j)))=λj=>1 * (if j=i then dotN n (L j) v * dt n (colP (colP B k c) i (B j)) else 0) + 1 * (if j=i then 0 else dotN n (L j) v * dt n (colP (colP B k c) i (B j))):=by
   funext j
   split <;> omega
  rw [e1,sumN_lin,sumN_one hi λj hj hn=>if_neg hn,sumN_one hk λj hj hn=>?_]
  ·rw [if_pos rfl,if_neg hne.symm,Int.one_mul,Int.one_mul]
   congr 2
   rw [colP_two hne.symm,colP_self]
  ·by_cases c2:j=i
   ·rw [if_pos c2]
   ·rw [if_neg c2,dt_two hi hj (Ne.symm c2) ?_,Int.mul_zero]
    unfold colP
    rw [if_pos rfl,if_neg c2,if_neg hn]
 have h3:dt n (colP (colP B k c) i (B k))=-dt n (colP B i c):=by
  rw [colP_two hne.symm,dt_swap B hi hk hne,]
  congr 2
  rw [colP_two hne,colP_self]
 have h4:=P.line k hk c
 have h5:=P.line i hi c
 rw [h4,h5]
 have h6:u * (e * dt n (colP (colP B k c) i v))=e * (u * dt n (colP (colP B k c) i v)):=Int.mul_left_comm ..
 rw [h6,h1,h2,h3,Int.mul_add,Int.mul_neg,Int.mul_neg]
 rw [Int.mul_comm (dotN n (L i) v),Int.mul_comm (dotN n (L k) v),Int.mul_assoc,Int.mul_assoc]
 omega
def dotN_lin{l l1 l2 v:Nat->Int}{x a b:Int}(h:∀ t,t < n->x * l t=a * l1 t + b * l2 t):x * dotN n l v=a * dotN n l1 v + b * dotN n l2 v:=by
 unfold dotN
 have e:x * sumN n (λt=>l t * v t)=sumN n (λt=>x * (l t * v t) + 0 * (l t * v t)):=by rw [sumN_lin]; omega
 rw [e,<- sumN_lin]
 refine sumN_congr λt ht=>?_
 rw [Int.zero_mul,Int.add_zero,<- Int.mul_assoc,h t ht,Int.add_mul,Int.mul_assoc,Int.mul_assoc]
theorem Pv.next{B L L':Nat->Nat->Int}{u e s:Int}(P:Pv n B L u e){k:Nat}(hk:k < n)(c:Nat->Int)(hs:s * s=1)(hp:0 < s * dotN n (L k) c)(hl:∀ t,t < n->L' k t=s * L k t)
  (hi:∀ i,i < n->i ≠ k->∀ t,t < n->u * L' i t=s * (dotN n (L k) c * L i t - dotN n (L i) c * L k t)):Pv n (colP B k c) L' (s * dotN n (L k) c) (s * e):=by
 have hu:=P.pos
 have dk:∀ v,dotN n (L' k) v=s * dotN n (L k) v:=λv=>by
  have:=dotN_lin (n:=n) (l:=L' k) (l1:=L k) (l2:=L k) (v:=v) (x:=1) (a:=s) (b:=0) λt ht=>by rw [hl t ht]; omega
  omega
 have di:∀ i,i < n->i ≠ k->∀ v,u * dotN n (L' i) v=s * (dotN n (L k) c * dotN n (L i) v - dotN n (L i) c * dotN n (L k) v):=λi hin hne v=>by
  have:=dotN_lin (n:=n) (l:=L' i) (l1:=L i) (l2:=L k) (v:=v) (x:=u) (a:=s * dotN n (L k) c) (b:=-(s * dotN n (L i) c)) λt ht=>by
   rw [hi i hin hne t ht,Int.mul_sub,Int.mul_assoc,Int.neg_mul,Int.mul_assoc]; omega
  rw [this,Int.mul_sub,Int.mul_assoc,Int.neg_mul,Int.mul_assoc]
  omega
 refine⟨?_,?_,hp,λi hin v=>?_,λv t ht=>?_⟩
 ·rw [Int.mul_assoc,Int.mul_left_comm e s e,<- Int.mul_assoc,hs,P.one]; rfl
 ·rw [P.line k hk c,Int.mul_assoc]
 ·by_cases h:i=k
  ·subst h
   rw [dk v,colP_twice,P.line i hin v,Int.mul_assoc]
  ·have h1:=di i hin h v
   rw [P.exact hk hin h c v,Int.mul_left_comm s u] at h1
   rw [Int.mul_assoc]
   exact Int.eq_of_mul_eq_mul_left (by omega) h1
 ·refine Int.eq_of_mul_eq_mul_left (a:=u) (by omega) ?_
  have hv:=P.back v t ht
  have hc:=P.back c t ht
  have e1:u * sumN n (λj=>dotN n (L' j) v * colP B k c j t)=sumN n (λj=>(s * dotN n (L k) c) * (dotN n (L j) v * B j t) + (-(s * dotN n (L k) v)) * (dotN n (L j) c * B j t)) + u * (s * dotN n (L k) v * c t):=by
   have e2:(λj=>u * (dotN n (L' j) v * colP B k c j t) + 0 * (dotN n (L' j) v * colP B k c j t))=λj=>u * (dotN n (L' j) v * colP B k c j t):=by funext j; omega
   have e3:u * sumN n (λj=>dotN n (L' j) v * colP B k c j t)=sumN n (λj=>u * (dotN n (L' j) v * colP B k c j t)):=by rw [<- e2,sumN_lin]; omega
   have e4:u * (s * dotN n (L k) v * c t)=sumN n (λj=>if j=k then u * (s * dotN n (L k) v * c t) else 0):=by rw [sumN_one hk λj _ hn=>if_neg hn,if_pos rfl]
   rw [e3,e4]
   have e5:∀ f g:Nat->Int,sumN n f + sumN n g=sumN n (λj=>1 * f j + 1 * g j):=λf g=>by rw [sumN_lin]; omega
   rw [e5]
   refine sumN_congr λj hj=>?_
   by_cases h:j=k
   ·subst h
    rw [if_pos rfl,dk v]
    unfold colP
    rw [if_pos rfl,Int.one_mul,Int.one_mul,Int.neg_mul]
    have:s * dotN n (L j) c * (dotN n (L j) v * B j t)=s * dotN n (L j) v * (dotN n (L j) c * B j t):=by rw [Int.mul_assoc,Int.mul_assoc,Int.mul_left_comm (dotN n (L j) c)]
    omega
   ·rw [if_neg h,<- Int.mul_assoc,di j hj h v]
    unfold colP
    rw [if_neg h,Int.one_mul,Int.mul_zero,Int.add_zero,Int.mul_sub,Int.sub_mul,Int.neg_mul]
    have a1:s * (dotN n (L k) c * dotN n (L j) v) * B j t=s * dotN n (L k) c * (dotN n (L j) v * B j t):=by rw [<- Int.mul_assoc,Int.mul_assoc]
    have a2:s * (dotN n (L j) c * dotN n (L k) v) * B j t=s * dotN n (L k) v * (dotN n (L j) c * B j t):=by rw [Int.mul_comm (dotN n (L j) c),<- Int.mul_assoc,Int.mul_assoc]
    omega
  rw [e1,sumN_lin,<- hv,<- hc,Int.neg_mul]
  have b1:s * dotN n (L k) v * (u * c t)=u * (s * dotN n (L k) v * c t):=Int.mul_left_comm ..
  have b2:s * dotN n (L k) c * (u * v t)=u * (s * dotN n (L k) c * v t):=Int.mul_left_comm ..
  omega
def unitN(g:Nat->Int):Nat->Nat->Int:=λj t=>if t=j then g j else 0
theorem sgn_sq(j:Nat):sgn j * sgn j=1:=by unfold sgn; split <;> rfl
variable {g:Nat->Int}
def dt_unit(hg:∀ j,g j * g j=1):∀ n,dt n (unitN g) * dt n (unitN g)=1
 | 0=>rfl
 | n + 1=>by
  have e:dt (n + 1) (unitN g)=sgn n * (g n * dt n (unitN g)):=by
   show sumN (n + 1) (λj=>sgn j * (unitN g j n * dt n (skip j (unitN g))))=_
   rw [sumN_one (k:=n) (by omega) λj hj hn=>by unfold unitN; rw [if_neg (by omega)]; simp]
   rw [show unitN g n n=g n by unfold unitN; rw [if_pos rfl],dt_congr n (M:=skip n (unitN g)) (N:=unitN g) λj t hj ht=>by unfold skip; rw [if_pos hj]]
  rw [e]
  have h1:sgn n * (g n * dt n (unitN g)) * (sgn n * (g n * dt n (unitN g)))=sgn n * sgn n * (g n * g n) * (dt n (unitN g) * dt n (unitN g)):=by
   generalize sgn n=a
   generalize g n=b
   generalize dt n (unitN g)=d
   simp only [Int.mul_left_comm,Int.mul_comm]
  rw [h1,sgn_sq,hg,dt_unit hg n]
  rfl
theorem Pv.start(hg:∀ j,g j * g j=1)(n:Nat):Pv n (unitN g) (unitN g) 1 (dt n (unitN g)):=by
 have dj:∀ j,j < n->∀ v,dotN n (unitN g j) v=g j * v j:=λj hj v=>by
  unfold dotN
  rw [sumN_one hj λt ht hn=>by unfold unitN; rw [if_neg hn]; simp]
  unfold unitN
  rw [if_pos rfl]
 have bk:∀ v t,t < n->1 * v t=sumN n λj=>dotN n (unitN g j) v * unitN g j t:=λv t ht=>by
  rw [sumN_one ht λj hj hn=>by unfold unitN; rw [if_neg hn.symm]; simp,dj t ht]
  unfold unitN
  rw [if_pos rfl,Int.mul_right_comm,hg]
 refine⟨dt_unit hg n,(dt_unit hg n).symm,by decide,λi hi v=>?_,bk⟩
 have h1:dt n (colP (unitN g) i v)=sumN n λj=>dotN n (unitN g j) v * dt n (colP (unitN g) i (unitN g j)):=by
  rw [<- dt_sum n _ hi]
  refine dt_congr n λj t hj ht=>?_
  unfold colP
  split
  ·have:=bk v t ht
   rw [Int.one_mul] at this
   exact this
  ·rfl
 rw [h1,sumN_one hi λj hj hn=>?_,colP_self,Int.mul_left_comm,dt_unit hg n,Int.mul_one]
 rw [dt_two hi hj hn.symm ?_,Int.mul_zero]
 unfold colP
 rw [if_pos rfl,if_neg hn]
def sumN_comm(n:Nat)(f:Nat->Nat->Int):∀ m,sumN n (λt=>sumN m λj=>f t j)=sumN m λj=>sumN n λt=>f t j
 | 0=>sumN_zero λ_ _=>rfl
 | m + 1=>by
  have e:=sumN_lin n 1 1 (λt=>sumN m λj=>f t j) (λt=>f t m)
  simp only [Int.one_mul] at e
  show sumN n (λt=>sumN m (λj=>f t j) + f t m)=sumN m _ + _
  rw [e,sumN_comm n f m]
def sumN_times(n:Nat)(x:Int)(f:Nat->Int):sumN n (λj=>x * f j)=x * sumN n f:=by
 have:=sumN_lin n x 0 f f
 simpa using this
theorem Pv.bare{B L L':Nat->Nat->Int}{u e s:Int}(P:Pv n B L u e){k i:Nat}{c v:Nat->Int}(h0:dotN n (L i) c=0)(hv:dotN n (L i) v=0)
  (hi:∀ t,t < n->u * L' i t=s * (dotN n (L k) c * L i t - dotN n (L i) c * L k t)):dotN n (L' i) v=0:=by
 have hu:=P.pos
 have:=dotN_lin (n:=n) (l:=L' i) (l1:=L i) (l2:=L i) (v:=v) (x:=u) (a:=s * dotN n (L k) c) (b:=0) λt ht=>by
  rw [hi t ht,h0,Int.zero_mul,Int.sub_zero,Int.zero_mul,Int.add_zero,Int.mul_assoc]
 rw [hv,Int.mul_zero,Int.mul_zero,Int.add_zero] at this
 exact (Int.mul_eq_zero.mp this).resolve_left (by omega)
theorem cxK{CX:CXT}{P:Program}{w:World}{K:PySem.W.Frag}{base:Heap}{N:List Str}{qual:Str}{sc:Scope}{f:Addr}{cdv:Value}{A:Around}{outer:List Env}{s:Shared}{E:XK}:(cxOf CX P w K mg base N qual sc f cdv A outer s H E).nox.K=K:=rfl
def lcmI(a b:Int):Int:=a / (Int.gcd a b:Int) * b
def lcmI_left(a b:Int):a ∣ lcmI a b:=by
 unfold lcmI
 obtain⟨k,hk⟩:=Int.gcd_dvd_right a b
 obtain⟨j,hj⟩:=Int.gcd_dvd_left a b
 by_cases h:(Int.gcd a b:Int)=0
 ·rw [h] at hj
  rw [h,hj]; simp
 ·refine⟨k,?_⟩
  generalize (Int.gcd a b:Int)=g at *
  rw [hk,hj,Int.mul_ediv_cancel_left _ h]
  rw [Int.mul_left_comm,Int.mul_assoc]
def lcmI_right(a b:Int):b ∣ lcmI a b:=⟨_,Int.mul_comm _ _⟩
def lcmI_pos{a b:Int}(ha:0 < a)(hb:0 < b):0 < lcmI a b:=by
 unfold lcmI
 refine Int.mul_pos ?_ hb
 have hg:0 < (Int.gcd a b:Int):=by have:=Int.gcd_pos_of_ne_zero_left b (a:=a) (by omega); omega
 obtain⟨j,hj⟩:=Int.gcd_dvd_left a b
 generalize (Int.gcd a b:Int)=g at *
 rw [hj,Int.mul_ediv_cancel_left _ (by omega)]
 by_cases h:0 < j
 ·exact h
 ·have:=Int.mul_nonneg (Int.le_of_lt hg) (show 0<=-j by omega)
  rw [Int.mul_neg] at this
  omega
def lcmI_le{a b:Int}:(lcmI a b).natAbs<=a.natAbs * b.natAbs:=by
 unfold lcmI
 rw [Int.natAbs_mul]
 exact Nat.mul_le_mul_right _ (Int.natAbs_ediv_le_natAbs _ _)
def topI(q:Rat)(b:Int):Int:=q.num * (b / (q.den:Int))
def topI_cross{b:Int}(h:(q.den:Int) ∣ b):topI q b * q.den=q.num * b:=by
 unfold topI
 rw [Int.mul_assoc,Int.ediv_mul_cancel h]
def topI_lt{b:Int}{s t:Nat}(h:q.num.natAbs < 2 ^ s)(hb:b.natAbs < 2 ^ t):(topI q b).natAbs < 2 ^ (s + t):=mul_lt_pow h (Ye (Int.natAbs_ediv_le_natAbs _ _) hb)
def LsV.ix{R:Hp->V->α->Prop}{G:Hp}{v:V}{n i:Nat}{f:Nat->α}(h:LsV R G v (tab n f))(hi:i < n):∃ p ys x,v=.ref p/\G p=some (.lst ys)/\ys.length=n/\atI ys (i:Int)=some x/\R (del p G) x (f i):=by
 obtain⟨p,ys,e,h1,h2⟩:=h
 have hl:ys.length=n:=by rw [h2.1,tab_len]
 have hx:=Yb (show i < ys.length by omega)
 exact⟨p,ys,_,e,h1,hl,atI_nat hx,h2.2 i _ _ hx (tab_at hi)⟩
theorem LsV.at{R:Hp->V->α->Prop}{G:Hp}{v:V}{f:Nat->α}(h:LsV R G v (tab n f)):∃ p ys,v=.ref p/\G p=some (.lst ys)/\ys.length=n/\∀ i x,ys[i]?=some x->i < n/\R (del p G) x (f i):=by
 obtain⟨p,ys,e,h1,h2⟩:=h
 have hl:ys.length=n:=by rw [h2.1,tab_len]
 refine⟨p,ys,e,h1,hl,λi x hx=>?_⟩
 have hi:i < n:=by have:=(Yf.mp hx).1; omega
 exact⟨hi,h2.2 i _ _ hx (tab_at hi)⟩
def tab_ints(n:Nat)(f:Nat->Int):(tab n f).map V.int=tab n λi=>V.int (f i):=tab_map n f V.int
def sp_lcm:Sp:=λvs H Q _=>∃ a b:Int,vs=[.int a,.int b]/\0 < a/\0 < b/\b.natAbs < 2 ^ 8000/\a.natAbs < 2 ^ 100000/\Q (.int (lcmI a b)) H
def sp_bottom:Sp:=λvs H Q _=>∃ (v:V) (n s:Nat) (q:Nat->Rat),vs=[v]/\LsV RatV H v (tab n q)/\n < 1000/\s<=8000/\s * n<=8000/\(∀ i,i < n->(q i).den < 2 ^ s)/\∀ b:Int,0 < b->b.natAbs<=2 ^ (s * n)->(∀ i,i < n->((q i).den:Int) ∣ b)->Q (.int b) H
def sp_topover:Sp:=λvs H Q _=>∃ (v:V) (q:Rat) (b:Int),vs=[v,.int b]/\RatV H v q/\q.num.natAbs < 2 ^ 8000/\q.den < 2 ^ 8000/\b.natAbs < 2 ^ 8001/\Q (.int (topI q b)) H
def sp_column:Sp:=λvs H Q _=>∃ (v:V) (j n m:Nat) (r:Nat->Nat->Rat),vs=[v,.int (j:Int)]/\LsV (LsV RatV) H v (tab n λi=>tab m (r i))/\n < 1000/\j < m/\∀ x H',Same H H'->LsV RatV (Nw H H') x (tab n λi=>r i j)->Q x H'
def sp_tops:Sp:=λvs H Q _=>∃ (v:V) (b:Int) (n:Nat) (q:Nat->Rat),vs=[v,.int b]/\LsV RatV H v (tab n q)/\n < 1000/\b.natAbs < 2 ^ 8001/\(∀ i,i < n->(q i).num.natAbs < 2 ^ 8000/\(q i).den < 2 ^ 8000)/\∀ x H',Same H H'->LsV IntR (Nw H H') x (tab n λi=>topI (q i) b)->Q x H'
def sp_times:Sp:=λvs H Q _=>∃ (x y:V) (n:Nat) (f g:Nat->Int),vs=[x,y]/\LsV IntR H x (tab n f)/\LsV IntR H y (tab n g)/\n < 1000/\(∀ i,i < n->(f i).natAbs < 2 ^ 100000/\(g i).natAbs < 2 ^ 100000)/\∀ H',Same H H'->Q (.int (dotN n f g)) H'
def len_two{l:List α}(h:l.length=2):∃ a b,l=[a,b]:=by
 match l,h with
 | [a,b],_=>exact⟨a,b,rfl⟩
def sum_tab(n:Nat)(f:Nat->Int):(tab n f).sum=sumN n f:=by
 induction n with
 | zero=>rfl
 | succ n ih=>rw [tab_succ,List.sum_append,ih,sumN]; simp
def ok_lcm(F:Fun K "least_multiple" "least_multiple" s_least_multiple f fd)(F_greatest_divisor:Fn P w K mg base CX0 1 "greatest_divisor" ["one","other"] sp_gcd):FnOk P w K mg base CX0 2 f fd ["one","other"] sp_lcm:=by
 refine okR F sc_least_multiple λcdv A outer s H vs Q E hr h=>?_
 obtain⟨a,b,rfl,ha,hb,zb,za,q⟩:=h
 refine⟨_,(b_one (s_ret (q_mulL (q_fdivL (q_v 0) (qfn F_greatest_divisor hr (a_c (q_v 0) (a_c (q_v 1) a_nil)))) (q_v 1)))),?_⟩
 rw [show start ["one","other"] [.int a,.int b]=[some (.int a),some (.int b)] from rfl]
 walk_at "rd"
 simp only [sp_gcd]
 walk_at "rd"
 have hg:0 < (Int.gcd a b:Int):=by have:=Int.gcd_pos_of_ne_zero_left b (a:=a) (by omega); omega
 have hgl:Int.gcd a b < 2 ^ 8000:=Ye (gcd_le_abs (t:=a) (b:=b) (by omega)) zb
 have e:a.fdiv (Int.gcd a b:Int)=a / (Int.gcd a b:Int):=YS a (Int.le_of_lt hg)
 refine⟨by omega,log2_lt_of (pow_mono (by simpa using hgl) (show 8000<=9000 by decide)) (by decide),?_,?_⟩
 ·rw [e]
  exact mulOk (Ye (Int.natAbs_ediv_le_natAbs _ _) za) zb (by decide)
 ·rw [e]
  exact q
def ok_bottom(F:Fun K "common_bottom" "common_bottom" s_common_bottom f fd)(F_least_multiple:Fn P w K mg base CX0 2 "least_multiple" ["one","other"] sp_lcm):FnOk P w K mg base CX0 3 f fd ["some"] sp_bottom:=by
 refine okR F sc_common_bottom λcdv A outer s H vs Q E hr h=>?_
 obtain⟨v,n,z,t,rfl,hv,hn,hz,hzn,ht,q⟩:=h
 refine⟨_,(b_cons (s_set 1 sc_common_bottom.nd q_int)
   (b_cons (s_for Yj (i_list (q_v 0)) (g_name 2 sc_common_bottom.nd) (b_one (s_set 1 sc_common_bottom.nd (qfn F_least_multiple hr (a_c (q_v 1) (a_c (q_ixT (q_v 2) q_int) a_nil))))))
   (b_one (s_ret (q_v 1))))),?_⟩
 rw [show start ["some","bottom","one"] [v]=[some (v),none,none] from rfl]
 obtain⟨p,ys,rfl,hp,hl,hy⟩:=hv.at
 walk_at "rd"
 simp only [tFor_list]
 walk_at "rd"
 refine listK_of (xs:=ys) (λi Z H'=>∃ (o:Option V) (b:Int),Z=[some (.ref p),some (.int b),o]/\H'=H/\0 < b/\b.natAbs<=2 ^ (z * i)/\∀ j,j < i->((t j).den:Int) ∣ b) ⟨_,1,rfl,rfl,by decide,by simp,λj hj=>by omega⟩ (λi Z H' _ ⟨_,_,_,e,_⟩=>by rw [e]; exact .of hp) (λi x Z H' hi hP=>?_) (λZ H' hP=>?_)
 ·obtain⟨o,b,rfl,rfl,hb,hbz,hd⟩:=hP
  obtain⟨hin,a,rfl,ha⟩:=hy i x hi
  replace ha:=(del_some.mp ha).2
  walk_at "rd"
  simp only [ha,sp_lcm]
  walk_at "rd"
  have hden:=ht i hin
  have hzi:z * i<=8000:=Yh (Nat.mul_le_mul_left z (YA hin)) hzn
  refine⟨hb,by have:=(t i).den_pos; omega,?_,?_,lcmI_pos hb (by have:=(t i).den_pos; omega),?_,λj hj=>?_⟩
  ·have:=pow_mono hden hz
   simpa using this
  ·exact Ye (Yh hbz (YX (by decide) hzi)) (Nat.pow_lt_pow_right (by decide) (by decide))
  ·refine Yh lcmI_le ?_
   rw [Nat.mul_succ,YK]
   exact Nat.mul_le_mul hbz (Nat.le_of_lt (by simpa using hden))
  ·by_cases c:j=i
   ·subst c; exact lcmI_right _ _
   ·exact Int.dvd_trans (hd j (by omega)) (lcmI_left _ _)
 ·obtain⟨o,b,rfl,rfl,hb,hbz,hd⟩:=hP
  walk_at "rd"
  rw [hl] at hbz hd
  exact q b hb hbz hd
def ok_topover(F:Fun K "top_over" "top_over" s_top_over f fd):FnOk P w K mg base CX0 1 f fd ["one","bottom"] sp_topover:=by
 refine okR F sc_top_over λcdv A outer s H vs Q E hr h=>?_
 obtain⟨v,t,b,rfl,⟨a,rfl,ha⟩,h1,h2,hb,q⟩:=h
 refine⟨_,(b_one (s_ret (q_mulL (q_ixT (q_v 0) q_int) (q_fdivL (q_v 1) (q_ixT (q_v 0) q_int))))),?_⟩
 rw [show start ["one","bottom"] [.ref a,.int b]=[some (.ref a),some (.int b)] from rfl]
 walk_at "rd"
 simp only [ha]
 walk_at "rd"
 have hd:(0:Int) < t.den:=by have:=t.den_pos; omega
 have e:b.fdiv (t.den:Int)=b / (t.den:Int):=YS b (Int.le_of_lt hd)
 rw [e]
 refine⟨by omega,log2_lt_of (pow_mono (by simpa using h2) (show 8000<=9000 by decide)) (by decide),mulOk h1 (Nat.lt_of_le_of_lt (Int.natAbs_ediv_le_natAbs _ _) hb) (by decide),q⟩
def ok_column(F:Fun K "column_of" "column_of" s_column_of f fd):FnOk P w K mg base CX0 1 f fd ["rows","j"] sp_column:=by
 refine okR F sc_column_of λcdv A outer s H vs Q E hr h=>?_
 obtain⟨v,j,n,m,r,rfl,hv,hn,hj,q⟩:=h
 refine⟨_,(b_one (s_ret (q_comp (blkC ["row"] [1] ["j"]) (i_list (q_v 0)) (by exact λs H fp=>(g_name 0 (show List.Nodup (["row","j"]:List Str) from by decide +kernel))) (by exact λs H fp=>(q_ixL (q_v 0) (q_v 1)))))),?_⟩
 rw [show start ["rows","j"] [v,.int (j:Int)]=[some (v),some (.int (j:Int))] from rfl]
 obtain⟨p,ys,rfl,hp,hl,hy⟩:=hv.at
 walk_at "rd"
 simp only [tComp,iList,cxK]
 walk_at "rd"
 refine⟨⟨_,.of hp⟩,?_⟩
 refine blkA_list (B:=noH) RatV (λi=>r i j) rat_mono noH_same hp hl hn (λi x hin hx H' k os sm ho hk=>?_) (λp' H' _ s' h'=>q _ _ s' h')
 obtain⟨o,rfl⟩:∃ o,os=[o]:=List.length_eq_one_iff.mp ho
 obtain⟨_,hrow⟩:=hy i x hx
 obtain⟨c,zs,y,rfl,h1,_,h3,h4⟩:=hrow.ix hj
 walk_at "rd"
 refine⟨[_],rfl,rfl,_,sm _ _ (del_sub _ _ h1),_,h3,hk _ _ (λ_ _ z=>z) ?_⟩
 obtain⟨b,rfl,hb⟩:=h4
 exact⟨b,rfl,rch_some.mpr (.inr ⟨rfl,.inr ⟨_,sm _ _ (del_sub _ _ (del_sub _ _ hb)),rfl⟩⟩)⟩
def ok_tops(F:Fun K "tops_over" "tops_over" s_tops_over f fd)(F_top_over:Fn P w K mg base CX0 1 "top_over" ["one","bottom"] sp_topover):FnOk P w K mg base CX0 2 f fd ["some","bottom"] sp_tops:=by
 refine okR F sc_tops_over λcdv A outer s H vs Q E hr h=>?_
 obtain⟨v,b,n,t,rfl,hv,hn,hb,ht,q⟩:=h
 refine⟨_,(b_one (s_ret (q_comp (blkC ["one"] [1] ["bottom"]) (i_list (q_v 0)) (by exact λs H fp=>(g_name 0 (show List.Nodup (["one","bottom"]:List Str) from by decide +kernel))) (by exact λs H fp=>(qfn F_top_over hr (a_c (q_v 0) (a_c (q_v 1) a_nil))))))),?_⟩
 rw [show start ["some","bottom"] [v,.int b]=[some (v),some (.int b)] from rfl]
 obtain⟨p,ys,rfl,hp,hl,hy⟩:=hv.at
 walk_at "rd"
 simp only [tComp,iList,cxK]
 walk_at "rd"
 refine⟨⟨_,.of hp⟩,?_⟩
 refine blkA_list (B:=noH) IntR (λi=>topI (t i) b) int_mono noH_same hp hl hn (λi x hin hx H' k os sm ho hk=>?_) (λp' H' _ s' h'=>q _ _ s' h')
 obtain⟨o,rfl⟩:∃ o,os=[o]:=List.length_eq_one_iff.mp ho
 obtain⟨_,hrow⟩:=hy i x hx
 walk_at "rd"
 exact⟨[_],rfl,rfl,_,_,_,rfl,(rat_mono _ _ _ _ hrow del_sub).same sm,(ht i hin).1,(ht i hin).2,hb,hk _ _ (λ_ _ z=>z) rfl⟩
def ok_times(F:Fun K "times" "times" s_times f fd)(n_sum:mg "sum"=none)(n_zip:mg "zip"=none):FnOk P w K mg base CX0 1 f fd ["ones","others"] sp_times:=by
 refine okR F sc_times λcdv A outer s H vs Q E hr h=>?_
 obtain⟨x,y,n,a,b,rfl,hx,hy,hn,hz,q⟩:=h
 refine⟨_,(b_one (s_ret (q_sumI rfl n_sum (a_c (q_comp (blk0 ["one","other"]) (i_zip rfl n_zip (a_c (q_v 0) (a_c (q_v 1) a_nil))) (by exact λs H fp=>(g_tup (n:=2) (gs_cons (g_name 0 (show List.Nodup (["one","other"]:List Str) from by decide +kernel)) (gs_cons (g_name 1 (show List.Nodup (["one","other"]:List Str) from by decide +kernel)) gs_nil)))) (by exact λs H fp=>(q_mulL (q_v 0) (q_v 1)))) a_nil)))),?_⟩
 rw [show start ["ones","others"] [x,y]=[some (x),some (y)] from rfl]
 obtain⟨p,rfl,hp⟩:=hx.ints
 obtain⟨c,rfl,hc⟩:=hy.ints
 rw [tab_ints] at hp hc
 walk_at "rd"
 simp only [tComp,iZip,cxK]
 walk_at "rd"
 refine⟨⟨_,.of hp⟩,⟨_,.of hc⟩,?_⟩
 refine blkA_zip (B:=noH) IntR (λi=>a i * b i) int_mono noH_same hp hc (tab_len _ _) (tab_len _ _) hn (λi x z hin hx hz' H' k os t ht sm ho hk=>?_) (λp' H' _ s' h'=>?_)
 ·obtain⟨o1,o2,rfl⟩:∃ o1 o2,os=[o1,o2]:=len_two ho
  obtain⟨_,rfl⟩:=tab_get hx
  obtain⟨_,rfl⟩:=tab_get hz'
  walk_at "rd"
  simp only [ht]
  walk_at "rd"
  exact⟨[_,_],rfl,rfl,mulOk (hz i hin).1 (hz i hin).2 (by decide),hk _ _ (λ_ _ z=>z) rfl⟩
 ·obtain⟨p2,e,h2⟩:=(LsV.mono int_mono _ _ _ _ h' (nw_sub s')).ints
  cases e
  refine⟨_,rfl,_,h2,?_⟩
  rw [sum_tab]
  exact q _ s'
structure Cst where
 n:Nat
 m:Nat
 sc:Nat->Int
 A:Nat->Nat->Int
 bt:Int
 r:Nat->Int
 c:Nat->Nat
 L:Nat->Nat->Int
 u:Int
def offC(o ch:Addr)(H:Hp):Hp:=del o (del ch H)
def offC_some{o ch b:Addr}{u:HO}:offC o ch H b=some u ↔ b ≠ o/\b ≠ ch/\H b=some u:=by
 unfold offC
 rw [del_some,del_some]
def offC_sub{o ch:Addr}:Same (offC o ch H) H:=λ_ _ e=>(offC_some.mp e).2.2
def offC_same{o ch:Addr}{H H':Hp}(s:Same H H'):Same (offC o ch H) (offC o ch H'):=del_same (del_same s)
def KeepC(o ch:Addr)(H H':Hp):Prop:=∀ b u,b ≠ o->b ≠ ch->H b=some u->H' b=some u
theorem KeepC.of{o ch:Addr}{H H':Hp}(s:Same H H'):KeepC o ch H H':=λb u _ _ e=>s _ _ e
theorem KeepC.trans{o ch:Addr}{H H' H'':Hp}(k:KeepC o ch H H')(k2:KeepC o ch H' H''):KeepC o ch H H'':=λb u h1 h2 e=>k2 b u h1 h2 (k b u h1 h2 e)
theorem KeepC.upd{o ch b:Addr}{H H':Hp}{u:HO}(k:KeepC o ch H H')(hb:b=o\/b=ch):KeepC o ch H (upd H' b u):=λc w h1 h2 e=>by
 rw [upd_ne (by rcases hb with rfl | rfl; exact h1; exact h2)]
 exact k c w h1 h2 e
def KeepC.off{o ch:Addr}{H H':Hp}(k:KeepC o ch H H'):Same (offC o ch H) (offC o ch H'):=λ_ _ e=>let ⟨g1,g2,g3⟩:=offC_some.mp e; offC_some.mpr ⟨g1,g2,k _ _ g1 g2 g3⟩
def lsI_mono:MonoS (LsV IntR):=LsV.mono int_mono
def lsQ_mono:MonoS (LsV RatV):=LsV.mono rat_mono
def msI_mono:MonoS (LsV (LsV IntR)):=LsV.mono lsI_mono
def msQ_mono:MonoS (LsV (LsV RatV)):=LsV.mono lsQ_mono
def nw_off{o ch dx C:Addr}{fs:List (Str × V)}{cs:List V}{H H':Hp}(ho:H o=some (.ins C dx fs))(hc:H ch=some (.lst cs))(s:Same H H'):Same (Nw H H') (offC o ch H'):=λb u e=>by
 have e':=nw_sub s _ _ e
 refine offC_some.mpr ⟨λz=>?_,λz=>?_,e'⟩
 ·subst z
  rcases rch_some.mp e with h | ⟨_,⟨h,_⟩ | ⟨t,h,_⟩⟩
  ·cases h
  ·rw [ho] at h; cases h
  ·rw [ho] at h; cases h
 ·subst z
  rcases rch_some.mp e with h | ⟨_,⟨h,_⟩ | ⟨t,h,_⟩⟩
  ·cases h
  ·rw [hc] at h; cases h
  ·rw [hc] at h; cases h
def chF(sv cv rv lv:V)(bt u:Int)(ch:Addr):List (Str × V):=[("scales",sv),("columns",cv),("bottom",.int bt),("rights",rv),("chosen",.ref ch),("lines",lv),("under",.int u)]
def ChV(C:Addr)(H:Hp)(o ch:Addr)(S:Cst):Prop:=∃ (dx:Addr) (sv cv rv lv:V),H o=some (.ins C dx (chF sv cv rv lv S.bt S.u ch))/\H ch=some (.lst (tab S.n λi=>V.int (S.c i:Int)))/\LsV IntR (offC o ch H) sv (tab S.m S.sc)/\LsV (LsV IntR) (offC o ch H) cv (tab S.m λj=>tab S.n (S.A j)) /\
 LsV IntR (offC o ch H) rv (tab S.n S.r)/\LsV (LsV IntR) (offC o ch H) lv (tab S.n λi=>tab S.n (S.L i))
variable {S:Cst}
def ChV.same{C:Addr}{H H':Hp}{o ch:Addr}(h:ChV C H o ch S)(s:Same H H'):ChV C H' o ch S:=by
 obtain⟨dx,sv,cv,rv,lv,h1,h2,h3,h4,h5,h6⟩:=h
 have so:Same (offC o ch H) (offC o ch H'):=offC_same s
 exact⟨dx,sv,cv,rv,lv,s _ _ h1,s _ _ h2,lsI_mono _ _ _ _ h3 so,msI_mono _ _ _ _ h4 so,lsI_mono _ _ _ _ h5 so,msI_mono _ _ _ _ h6 so⟩
structure Szs(S:Cst):Prop where
 n:S.n<=8
 m:S.m < 900
 L:∀ i t,i < S.n->t < S.n->(S.L i t).natAbs < 2 ^ 2500
 A:∀ j t,j < S.m->t < S.n->(S.A j t).natAbs < 2 ^ 2500
 r:∀ t,t < S.n->(S.r t).natAbs < 2 ^ 2500
 u:S.u.natAbs < 2 ^ 2500
 u0:0 < S.u
 bt:S.bt.natAbs < 2 ^ 2500
 bt0:0 < S.bt
 sc:∀ j,j < S.m->(S.sc j).natAbs < 2 ^ 2500
def sumN_lt{f:Nat->Int}{a:Nat}(h:∀ t,t < n->(f t).natAbs < 2 ^ a):(sumN n f).natAbs<=n * 2 ^ a:=by
 induction n with
 | zero=>simp [sumN]
 | succ n ih =>
  have h1:=ih λt ht=>h t (by omega)
  have h2:=h n (by omega)
  rw [sumN,Nat.succ_mul]
  omega
def dotN_lt{f g:Nat->Int}{a b:Nat}(hn:n < 1000)(hf:∀ t,t < n->(f t).natAbs < 2 ^ a)(hg:∀ t,t < n->(g t).natAbs < 2 ^ b):(dotN n f g).natAbs < 2 ^ (a + b + 10):=by
 unfold dotN
 refine Ye (sumN_lt (a:=a + b) λt ht=>mul_lt_pow (hf t ht) (hg t ht)) ?_
 rw [YK 2 (a + b) 10,Nat.mul_comm]
 exact Nat.mul_lt_mul_of_pos_left (show n < 2 ^ 10 by omega) (YQ _)
def rep_tab(n:Nat)(x:α):(List.replicate ((n:Int)).toNat [x]).flatten=tab n λ_=>x:=by
 rw [Yu]
 induction n with
 | zero=>rfl
 | succ n ih=>rw [List.replicate_succ',List.flatten_append,ih,tab_succ]; simp
def tab_set{n k:Nat}(f:Nat->α)(x:α):(tab n f).set k x=tab n λi=>if i=k then x else f i:=by
 refine YH λi=>?_
 rw [List.getElem?_set]
 by_cases h:i < n
 ·rw [tab_at h,tab_at h,tab_len]
  by_cases c:k=i
  ·subst c; simp [h]
  ·rw [if_neg c,if_neg (Ne.symm c)]
 ·rw [Yp (l:=tab n _) (by rw [tab_len]; omega),tab_len]
  by_cases c:k=i
  ·subst c; rw [if_pos rfl,if_neg h]
   rw [Yp (l:=tab n _) (by rw [tab_len]; omega)]
  ·rw [if_neg c,Yp (l:=tab n _) (by rw [tab_len]; omega)]
def ixN_nat{n k:Nat}(h:k < n):ixN n (k:Int)=some k:=by
 unfold ixN
 simp
 omega
def sp_first(C:Addr):Sp:=λvs H Q _=>∃ (o dx:Addr) (fs:List (Str × V)) (rv:V) (n k:Nat) (r:Nat->Int),vs=[.ref o,.int (k:Int)]/\H o=some (.ins C dx fs)/\fs.lookup (Str.ofString "rights")=some rv/\LsV IntR H rv (tab n r)/\n < 1000/\k < n /\
 ∀ x H',Same H H'->LsV IntR (Nw H H') x (tab n λt=>if t=k then (if r k < 0 then -1 else 1) else 0)->Q x H'
def sp_parts(C:Addr):Sp:=λvs H Q _=>∃ (o ch:Addr) (S:Cst) (x:V) (v:Nat->Int),vs=[.ref o,x]/\ChV C H o ch S/\Szs S/\LsV IntR H x (tab S.n v)/\(∀ t,t < S.n->(v t).natAbs < 2 ^ 2500) /\
 ∀ y H',Same H H'->LsV IntR (Nw H H') y (tab S.n λi=>dotN S.n (S.L i) v)->Q y H'
def sp_levels(C:Addr):Sp:=λvs H Q _=>∃ (o ch:Addr) (S:Cst),vs=[.ref o]/\ChV C H o ch S/\Szs S/\∀ y H',Same H H'->LsV IntR (Nw H H') y (tab S.n λi=>dotN S.n (S.L i) S.r)->Q y H'
def sp_made(C:Addr):Sp:=λvs H Q _=>∃ (o ch:Addr) (S:Cst) (k:Nat),vs=[.ref o,.int (k:Int)]/\ChV C H o ch S/\k < S.n/\Q (.bl (decide (S.m<=S.c k))) H
section
variable {P:Program}{w:World}{K:PySem.W.Frag}{mg:Str->Option Value}{base:Heap}{f:Addr}{fd:FuncData}{C:Addr}
def ok_first(F:Fun K "first_line" "Choice.first_line" s_Choice_first_line f fd)(n_len:mg "len"=none)(cls_Choice:Cls K C)(nf_rights:NoAttr K C "rights"):FnOk P w K mg base CX0 1 f fd ["self","k"] (sp_first C):=by
 refine okR F sc_Choice_first_line λcdv A outer s H vs Q E hr h=>?_
 obtain⟨o,dx,fs,rv,n,k,r,rfl,ho,hf,hv,hn,hk,q⟩:=h
 refine⟨_,(b_cons (s_set 2 sc_Choice_first_line.nd (q_rep (q_lst (a_c q_int a_nil)) (q_len rfl n_len (a_c (q_fld (q_v 0)) a_nil))))
   (b_cons (s_asg (q_ifE (t_lt (q_ixL (q_fld (q_v 0)) (q_v 1)) q_int) (q_neg q_int) q_int) (g_sub (q_v 2) (q_v 1)))
   (b_one (s_ret (q_v 2))))),?_⟩
 rw [show start ["self","k","line"] [.ref o,.int (k:Int)]=[some (.ref o),some (.int (k:Int)),none] from rfl]
 obtain⟨p,rfl,hp⟩:=hv.ints
 rw [tab_ints] at hp
 walk_at "rd"
 intro l H1 hl s1 e1
 refine⟨C,dx,fs,s1 _ _ ho,cls_Choice,nf_rights,_,hf,p,rfl,_,.inl (s1 _ _ hp),?_⟩
 rw [tab_len]
 have hsl:(1000:Nat)<=sizeLine:=by decide
 refine⟨_,e1,by omega,by omega,by simp; omega,λb hb=>?_⟩
 rw [rep_tab]
 have hpb:p ≠ b:=λz=>by rw [<- z,s1 _ _ hp] at hb; cases hb
 have hob:o ≠ b:=λz=>by rw [<- z,s1 _ _ ho] at hb; cases hb
 have hb0:H b=none:=s1.free hb
 refine⟨C,dx,fs,by rw [upd_ne hob]; exact s1 _ _ ho,cls_Choice,nf_rights,_,hf,p,rfl,_,by rw [upd_ne hpb]; exact s1 _ _ hp,_,atI_tab hk,r k,rfl,?_⟩
 have fin:∀ z:Int,z=(if r k < 0 then -1 else 1)->∃ x,upd H1 b (HO.lst (tab n λ_=>V.int 0)) b=some (HO.lst x)/\∃ x_1,ixN x.length (k:Int)=some x_1/\Q (V.ref b) (upd (upd H1 b (HO.lst (tab n λ_=>V.int 0))) b (HO.lst (x.set x_1 (V.int z)))):=λz hz=>by
  refine⟨_,upd_same,k,?_,q _ _ (same_upd hb0 (same_upd hb0 s1)) ?_⟩
  ·rw [tab_len]; exact ixN_nat hk
  ·refine ints_ls (nw_new hb0 ?_)
   rw [upd_same,tab_set,tab_ints]
   congr 2
   refine tab_congr λi _=>?_
   by_cases c:i=k
   ·rw [if_pos c,if_pos c,hz]
   ·rw [if_neg c,if_neg c]
 by_cases c:r k < 0
 ·rw [if_pos c]; exact fin _ (by rw [if_pos c])
 ·rw [if_neg c]; exact fin _ (by rw [if_neg c])
def ok_parts(F:Fun K "parts" "Choice.parts" s_Choice_parts f fd)(cls_Choice:Cls K C)(nf_lines:NoAttr K C "lines")(F_times:Fn P w K mg base CX0 1 "times" ["ones","others"] sp_times):FnOk P w K mg base CX0 2 f fd ["self","column"] (sp_parts C):=by
 refine okR F sc_Choice_parts λcdv A outer s H vs Q E hr h=>?_
 obtain⟨o,ch,S,x,v,rfl,hC,hS,hx,hv,q⟩:=h
 refine⟨_,(b_one (s_ret (q_comp (blkC ["line"] [1] ["column"]) (i_list (q_fld (q_v 0))) (by exact λs H fp=>(g_name 0 (show List.Nodup (["line","column"]:List Str) from by decide +kernel))) (by exact λs H fp=>(qfn F_times hr (a_c (q_v 0) (a_c (q_v 1) a_nil))))))),?_⟩
 rw [show start ["self","column"] [.ref o,x]=[some (.ref o),some (x)] from rfl]
 obtain⟨dx,sv,cv,rv,lv,h1,h2,h3,h4,h5,h6⟩:=id hC
 obtain⟨p,ys,rfl,hp,hl,hy⟩:=h6.at
 walk_at "rd"
 simp only [tComp,iList,cxK]
 walk_at "rd"
 have hn:=hS.n
 refine⟨C,dx,_,h1,cls_Choice,nf_lines,_,rfl,p,rfl,⟨_,.of (offC_sub _ _ hp)⟩,?_⟩
 refine blkA_list (B:=noH) IntR (λi=>dotN S.n (S.L i) v) int_mono noH_same (offC_sub _ _ hp) hl (by omega) (λi y hin hyi H' k os sm ho' hk=>?_) (λp' H' _ s' h'=>q _ _ s' h')
 obtain⟨o',rfl⟩:∃ o,os=[o]:=List.length_eq_one_iff.mp ho'
 obtain⟨_,hrow⟩:=hy i y hyi
 walk_at "rd"
 refine⟨[_],rfl,rfl,y,x,S.n,_,_,rfl,lsI_mono _ _ _ _ hrow λb u e=>sm _ _ (offC_sub _ _ (del_sub _ _ e)),lsI_mono _ _ _ _ hx sm,by omega,λt ht=>⟨pow_mono (hS.L i t hin ht) (by decide),pow_mono (hv t ht) (by decide)⟩,λH2 s2=>hk _ _ s2 rfl⟩
def ok_made(F:Fun K "is_made_up" "Choice.is_made_up" s_Choice_is_made_up f fd)(n_len:mg "len"=none)(cls_Choice:Cls K C)(nf_chosen:NoAttr K C "chosen")(nf_columns:NoAttr K C "columns"):FnOk P w K mg base CX0 1 f fd ["self","k"] (sp_made C):=by
 refine okR F sc_Choice_is_made_up λcdv A outer s H vs Q E hr h=>?_
 obtain⟨o,ch,S,k,rfl,hC,hk,q⟩:=h
 refine⟨_,(b_one (s_ret (q_ge (q_ixL (q_fld (q_v 0)) (q_v 1)) (q_len rfl n_len (a_c (q_fld (q_v 0)) a_nil))))),?_⟩
 rw [show start ["self","k"] [.ref o,.int (k:Int)]=[some (.ref o),some (.int (k:Int))] from rfl]
 obtain⟨dx,sv,cv,rv,lv,h1,h2,h3,h4,h5,h6⟩:=id hC
 obtain⟨p,ys,rfl,hp,hl,hy⟩:=h4.at
 walk_at "rd"
 refine⟨C,dx,_,h1,cls_Choice,nf_chosen,_,rfl,ch,rfl,_,h2,_,atI_tab hk,C,dx,_,h1,cls_Choice,nf_columns,_,rfl,p,rfl,_,.inl (offC_sub _ _ hp),_,rfl,?_⟩
 rw [hl]
 rw [show decide ((S.m:Int)<=(S.c k:Int))=decide (S.m<=S.c k) by congr 1; exact propext Int.ofNat_le]
 exact q
def ok_levels(F:Fun K "levels" "Choice.levels" s_Choice_levels f fd)(cls_Choice:Cls K C)(nf_rights:NoAttr K C "rights")(M_parts:Mth P w K mg base CX0 2 C "parts" ["self","column"] (sp_parts C)):FnOk P w K mg base CX0 3 f fd ["self"] (sp_levels C):=by
 refine okR F sc_Choice_levels λcdv A outer s H vs Q E hr h=>?_
 obtain⟨o,ch,S,rfl,hC,hS,q⟩:=h
 refine⟨_,(b_one (s_ret (q_meth M_parts hr (by decide) (q_v 0) (a_c (q_fld (q_v 0)) a_nil)))),?_⟩
 rw [show start ["self"] [.ref o]=[some (.ref o)] from rfl]
 obtain⟨dx,sv,cv,rv,lv,h1,h2,h3,h4,h5,h6⟩:=id hC
 walk_at "rd"
 exact⟨dx,_,h1,rfl,C,dx,_,h1,cls_Choice,nf_rights,_,rfl,o,ch,S,rv,S.r,rfl,hC,hS,lsI_mono _ _ _ _ h5 offC_sub,hS.r,q⟩
end
def ltH(H:Hp):Hp:=λb=>match H b with
 | some (.lst xs)=>some (.lst xs)
 | some (.tup xs)=>some (.tup xs)
 | _=>none
theorem lt_lst{b:Addr}{xs:List V}(h:H b=some (.lst xs)):ltH H b=some (.lst xs):=by unfold ltH; rw [h]
theorem lt_tup{b:Addr}{xs:List V}(h:H b=some (.tup xs)):ltH H b=some (.tup xs):=by unfold ltH; rw [h]
def lt_get{b:Addr}{u:HO}(h:ltH H b=some u):H b=some u/\((∃ xs,u=.lst xs)\/∃ xs,u=.tup xs):=by
 unfold ltH at h
 split at h
 ·rename_i xs e; cases h; exact⟨e,.inl ⟨xs,rfl⟩⟩
 ·rename_i xs e; cases h; exact⟨e,.inr ⟨xs,rfl⟩⟩
 ·cases h
def FlatR(R:Hp->V->α->Prop):Prop:=∀ H v a,R H v a->R (ltH H) v a
def int_flat:FlatR IntR:=λ_ _ _ h=>h
def rat_flat:FlatR RatV:=λ_ _ _ ⟨p,e,h⟩=>⟨p,e,lt_tup h⟩
def del_lt:Same (ltH (del p H)) (del p (ltH H)):=λb u e=>by
 obtain⟨h1,h2⟩:=lt_get e
 obtain⟨g1,g2⟩:=del_some.mp h1
 refine del_some.mpr ⟨g1,?_⟩
 rcases h2 with ⟨xs,rfl⟩ | ⟨xs,rfl⟩
 ·exact lt_lst g2
 ·exact lt_tup g2
def ls_flat{R:Hp->V->α->Prop}(m:MonoS R)(f:FlatR R):FlatR (LsV R):=λH v as ⟨p,ys,e,h1,h2⟩=>⟨p,ys,e,lt_lst h1,h2.1,λi x a q1 q2=>m _ _ _ _ (f _ _ _ (h2.2 i x a q1 q2)) del_lt⟩
def lt_del{a C dx:Addr}{fs:List (Str × V)}(h:H a=some (.ins C dx fs)):Same (ltH H) (del a H):=λb u e=>by
 obtain⟨h1,h2⟩:=lt_get e
 refine del_some.mpr ⟨λz=>?_,h1⟩
 rw [z,h] at h1
 injection h1 with h1
 subst h1
 rcases h2 with ⟨xs,h2⟩ | ⟨xs,h2⟩ <;> cases h2
def nw_del{a C dx:Addr}{fs:List (Str × V)}{H H':Hp}(h:H a=some (.ins C dx fs))(s:Same H H'):Same (Nw H H') (del a H'):=λb u e=>by
 refine del_some.mpr ⟨λz=>?_,nw_sub s _ _ e⟩
 subst z
 rcases rch_some.mp e with q | ⟨_,⟨q,_⟩ | ⟨t,q,_⟩⟩
 ·cases q
 ·rw [h] at q; cases q
 ·rw [h] at q; cases q
def del_upd{a:Addr}{u:HO}:Same (del a H) (del a (upd H a u)):=λb w e=>let ⟨g1,g2⟩:=del_some.mp e; del_some.mpr ⟨g1,by rw [upd_ne g1]; exact g2⟩
def cst0(n m:Nat)(sc:Nat->Int)(R:Nat->Nat->Rat)(q:Nat->Rat)(b:Int):Cst:=⟨n,m,sc,λj t=>topI (R t j) (sc j),b,λt=>topI (q t) b,λk=>m + k,λi t=>if t=i then (if topI (q i) b < 0 then -1 else 1) else 0,1⟩
def sp_initC(C:Addr):Sp:=λvs H Q _=>∃ (o dx:Addr) (rv qv sv:V) (n m z:Nat) (sc:Nat->Int) (R:Nat->Nat->Rat) (t:Nat->Rat),vs=[.ref o,rv,qv,sv]/\H o=some (.ins C dx [])/\LsV (LsV RatV) H rv (tab n λi=>tab m (R i))/\LsV RatV H qv (tab n t)/\LsV IntR H sv (tab m sc) /\
 n < 1000/\m < 900/\(∀ j,j < m->(sc j).natAbs < 2 ^ 8001)/\(∀ i j,i < n->j < m->(R i j).num.natAbs < 2 ^ 8000/\(R i j).den < 2 ^ 8000)/\z<=8000/\z * n<=8000/\(∀ i,i < n->SzQ z (t i)) /\
 ∀ H' ch b,(∀ x u,x ≠ o->H x=some u->H' x=some u)->H ch=none->0 < b->b.natAbs<=2 ^ (z * n)->(∀ i,i < n->((t i).den:Int) ∣ b)->ChV C H' o ch (cst0 n m sc R t b)->Q .non H'
section
variable {P:Program}{w:World}{K:PySem.W.Frag}{mg:Str->Option Value}{base:Heap}{f:Addr}{fd:FuncData}{C:Addr}
def ok_initC(F:Fun K "__init__" "Choice.__init__" s_Choice___init__ f fd)(n_len:mg "len"=none)(n_range:mg "range"=none)(n_enumerate:mg "enumerate"=none)(cls_Choice:Cls K C)(nf_scales:NoAttr K C "scales")(nf_columns:NoAttr K C "columns")(nf_bottom:NoAttr K C "bottom")(nf_rights:NoAttr K C "rights")(nf_chosen:NoAttr K C "chosen")(nf_lines:NoAttr K C "lines")(nf_under:NoAttr K C "under")
  (F_common_bottom:Fn P w K mg base CX0 3 "common_bottom" ["some"] sp_bottom) (F_column_of:Fn P w K mg base CX0 1 "column_of" ["rows","j"] sp_column) (F_tops_over:Fn P w K mg base CX0 2 "tops_over" ["some","bottom"] sp_tops) (M_first_line:Mth P w K mg base CX0 1 C "first_line" ["self","k"] (sp_first C)) :
  FnOk P w K mg base CX0 4 f fd ["self","rows","rights","scales"] (sp_initC C):=by
 refine okR F sc_Choice___init__ λcdv A outer s H vs Q E hr h=>?_
 obtain⟨o,dx,rv,qv,sv,n,m,z,sc,R,t,rfl,ho,hR,hq,hs,hn,hm,zs,zR,hz,hzn,zt,q⟩:=h
 refine⟨_,(b_cons (s_fld (q_v 0) (q_v 3))
   (b_cons (s_fld (q_v 0) (q_comp (blkC ["j","scale"] [1] ["rows"]) (i_enum rfl n_enumerate (a_c (q_v 3) a_nil)) (by exact λs H fp=>(g_tup (n:=2) (gs_cons (g_name 0 (show List.Nodup (["j","scale","rows"]:List Str) from by decide +kernel)) (gs_cons (g_name 1 (show List.Nodup (["j","scale","rows"]:List Str) from by decide +kernel)) gs_nil)))) (by exact λs H fp=>(qfn F_tops_over hr (a_c (qfn F_column_of hr (a_c (q_v 2) (a_c (q_v 0) a_nil))) (a_c (q_v 1) a_nil))))))
   (b_cons (s_fld (q_v 0) (qfn F_common_bottom hr (a_c (q_v 2) a_nil)))
   (b_cons (s_fld (q_v 0) (qfn F_tops_over hr (a_c (q_v 2) (a_c (q_fld (q_v 0)) a_nil))))
   (b_cons (s_fld (q_v 0) (q_comp (blkC ["k"] [3] ["scales"]) (i_rng1 rfl n_range (a_c (q_len rfl n_len (a_c (q_v 2) a_nil)) a_nil)) (by exact λs H fp=>(g_name 0 (show List.Nodup (["k","scales"]:List Str) from by decide +kernel))) (by exact λs H fp=>(q_add (q_len rfl n_len (a_c (q_v 1) a_nil)) (q_v 0)))))
   (b_cons (s_fld (q_v 0) (q_comp (blkC ["k"] [0] ["self"]) (i_rng1 rfl n_range (a_c (q_len rfl n_len (a_c (q_v 2) a_nil)) a_nil)) (by exact λs H fp=>(g_name 0 (show List.Nodup (["k","self"]:List Str) from by decide +kernel))) (by exact λs H fp=>(q_meth M_first_line hr (by decide) (q_v 1) (a_c (q_v 0) a_nil)))))
   (b_one (s_fld (q_v 0) q_int)))))))),?_⟩
 rw [show start ["self","rows","rights","scales"] [.ref o,rv,qv,sv]=[some (.ref o),some (rv),some (qv),some (sv)] from rfl]
 have gR:=msQ_mono _ _ _ _ (ls_flat lsQ_mono (ls_flat rat_mono rat_flat) _ _ _ hR) (lt_del ho)
 have gq:=lsQ_mono _ _ _ _ (ls_flat rat_mono rat_flat _ _ _ hq) (lt_del ho)
 have gs:=lsI_mono _ _ _ _ (ls_flat int_mono int_flat _ _ _ hs) (lt_del ho)
 walk_at "rd"
 simp only [tComp,iList,iEnum,iRng1,cxK]
 walk_at "rd"
 refine⟨C,dx,[],ho,cls_Choice,nf_scales,by decide,?_⟩
 obtain⟨a,rfl,ha⟩:=gs.ints
 rw [tab_ints] at ha
 generalize hH1:upd H o (HO.ins C dx (putF (Str.ofString "scales") (V.ref a) []))=H1
 have o1:H1 o=some (.ins C dx [(Str.ofString "scales",V.ref a)]):=by rw [<- hH1]; exact upd_same
 have k1:Same (del o H) (del o H1):=by rw [<- hH1]; exact del_upd
 have ha1:=del_sub _ _ (k1 _ _ ha)
 refine⟨a,rfl,⟨_,.of ha1⟩,?_⟩
 refine blkA_enum (B:=noH) (LsV IntR) (λj=>tab n λt'=>topI (R t' j) (sc j)) lsI_mono noH_same ha1 (tab_len _ _) (by omega) (λi x hi hx H' k os y hy sm hos hk=>?_) (λcv H2 hcv s2 hcols=>?_)
 ·obtain⟨o1',o2',rfl⟩:=len_two hos
  obtain⟨_,rfl⟩:=tab_get hx
  walk_at "rd"
  simp only [hy]
  walk_at "rd"
  refine⟨[_,_],rfl,rfl,rv,i,n,m,R,rfl,msQ_mono _ _ _ _ gR λb u e=>sm _ _ (del_sub _ _ (k1 _ _ e)),hn,hi,λx H3 s3 hx3=>⟨x,sc i,n,_,rfl,lsQ_mono _ _ _ _ hx3 (nw_sub s3),hn,zs i hi,λi' hi'=>zR i' i hi' hi,λx4 H4 s4 hx4=>hk _ _ (s3.trans s4) (lsI_mono _ _ _ _ hx4 (nw_back s3 s4))⟩⟩
 have o2:=s2 _ _ o1
 refine⟨C,dx,_,o2,cls_Choice,nf_columns,(by show (_:Nat) < 1000; simp),?_⟩
 generalize hH3:upd H2 o (HO.ins C dx (putF (Str.ofString "columns") (V.ref cv) [(Str.ofString "scales",V.ref a)]))=H3
 have o3:H3 o=some (.ins C dx [(Str.ofString "scales",V.ref a),(Str.ofString "columns",V.ref cv)]):=by rw [<- hH3]; exact upd_same
 have k3:Same (del o H1) (del o H3):=by rw [<- hH3]; exact λb u e=>del_upd _ _ (del_same s2 _ _ e)
 have k13:Same (del o H) (del o H3):=λb u e=>k3 _ _ (k1 _ _ e)
 have c3:LsV (LsV IntR) (del o H3) (.ref cv) (tab m λj=>tab n λt'=>topI (R t' j) (sc j)):=msI_mono _ _ _ _ hcols λb u e=>by rw [<- hH3]; exact del_upd _ _ (nw_del o1 s2 _ _ e)
 refine⟨qv,n,z,t,rfl,lsQ_mono _ _ _ _ gq λb u e=>del_sub _ _ (k13 _ _ e),hn,hz,hzn,λi hi=>(zt i hi).2,λb hb hbz hbd=>?_⟩
 refine⟨C,dx,_,o3,cls_Choice,nf_bottom,(by show (_:Nat) < 1000; simp),?_⟩
 generalize hH4:upd H3 o (HO.ins C dx (putF (Str.ofString "bottom") (V.int b) [(Str.ofString "scales",V.ref a),(Str.ofString "columns",V.ref cv)]))=H4
 have o4:H4 o=some (.ins C dx [(Str.ofString "scales",V.ref a),(Str.ofString "columns",V.ref cv),(Str.ofString "bottom",V.int b)]):=by rw [<- hH4]; exact upd_same
 have k4:Same (del o H3) (del o H4):=by rw [<- hH4]; exact del_upd
 have k14:Same (del o H) (del o H4):=λb u e=>k4 _ _ (k13 _ _ e)
 have hb8:b.natAbs < 2 ^ 8001:=Ye (Yh hbz (YX (by decide) hzn)) (Nat.pow_lt_pow_right (by decide) (by decide))
 refine⟨C,dx,_,o4,cls_Choice,nf_bottom,_,rfl,qv,b,n,t,rfl,lsQ_mono _ _ _ _ gq λb u e=>del_sub _ _ (k14 _ _ e),hn,hb8,λi hi=>⟨pow_mono (zt i hi).1 hz,pow_mono (zt i hi).2 hz⟩,λwv H5 s5 hw5=>?_⟩
 have o5:=s5 _ _ o4
 refine⟨C,dx,_,o5,cls_Choice,nf_rights,(by show (_:Nat) < 1000; simp),?_⟩
 obtain⟨pw,rfl,_⟩:=hw5.ints
 generalize hH6:upd H5 o (HO.ins C dx (putF (Str.ofString "rights") (V.ref pw) [(Str.ofString "scales",V.ref a),(Str.ofString "columns",V.ref cv),(Str.ofString "bottom",V.int b)]))=H6
 have o6:H6 o=some (.ins C dx [(Str.ofString "scales",V.ref a),(Str.ofString "columns",V.ref cv),(Str.ofString "bottom",V.int b),(Str.ofString "rights",V.ref pw)]):=by rw [<- hH6]; exact upd_same
 have k6:Same (del o H4) (del o H6):=by rw [<- hH6]; exact λb u e=>del_upd _ _ (del_same s5 _ _ e)
 have w6:LsV IntR (del o H6) (.ref pw) (tab n λi=>topI (t i) b):=lsI_mono _ _ _ _ hw5 λb u e=>by rw [<- hH6]; exact del_upd _ _ (nw_del o4 s5 _ _ e)
 have k16:Same (del o H) (del o H6):=λb u e=>k6 _ _ (k14 _ _ e)
 obtain⟨pq,zs',rfl,gq1,gq2,_⟩:=gq.at
 have q6:=del_sub _ _ (k16 _ _ gq1)
 have a6:=del_sub _ _ (k16 _ _ ha)
 have c6:=msI_mono _ _ _ _ c3 λb u e=>k6 _ _ (k4 _ _ e)
 refine⟨pq,rfl,_,.inl q6,by omega,by omega,?_⟩
 rw [gq2,Yu]
 refine blkA_rng (B:=noH) IntR (λk=>((m + k:Nat):Int)) int_mono noH_same hn (λi hi H' k os sm hos hk=>?_) (λch H7 hch s7 hch7=>?_)
 ·obtain⟨o',rfl⟩:∃ o,os=[o]:=List.length_eq_one_iff.mp hos
  walk_at "rd"
  refine⟨[_],rfl,rfl,_,.inl (sm _ _ a6),hk _ _ (λ_ _ z=>z) ?_⟩
  rw [tab_len]
  rfl
 have o7:=s7 _ _ o6
 refine⟨C,dx,_,o7,cls_Choice,nf_chosen,(by show (_:Nat) < 1000; simp),?_⟩
 generalize hH8:upd H7 o (HO.ins C dx (putF (Str.ofString "chosen") (V.ref ch) [(Str.ofString "scales",V.ref a),(Str.ofString "columns",V.ref cv),(Str.ofString "bottom",V.int b),(Str.ofString "rights",V.ref pw)]))=H8
 have o8:H8 o=some (.ins C dx [(Str.ofString "scales",V.ref a),(Str.ofString "columns",V.ref cv),(Str.ofString "bottom",V.int b),(Str.ofString "rights",V.ref pw),(Str.ofString "chosen",V.ref ch)]):=by rw [<- hH8]; exact upd_same
 have k8:Same (del o H6) (del o H8):=by rw [<- hH8]; exact λb u e=>del_upd _ _ (del_same s7 _ _ e)
 have hco:ch ≠ o:=λz=>by rw [z,o6] at hch; cases hch
 have ch8:H8 ch=some (.lst (tab n λk=>V.int ((m + k:Nat):Int))):=by
  obtain⟨_,e,h⟩:=(lsI_mono _ _ _ _ hch7 (nw_sub s7)).ints
  cases e
  rw [tab_ints] at h
  rw [<- hH8,upd_ne hco]
  exact h
 have q8:=del_sub _ _ (k8 _ _ (k16 _ _ gq1))
 have w8:=lsI_mono _ _ _ _ w6 k8
 refine⟨pq,rfl,_,.inl q8,by omega,by omega,?_⟩
 rw [gq2,Yu]
 refine blkA_rng (B:=noH) (LsV IntR) (λk=>tab n λt'=>if t'=k then (if topI (t k) b < 0 then (-1:Int) else 1) else 0) lsI_mono noH_same hn (λi hi H' k os sm hos hk=>?_) (λlv H9 hlv s9 hl9=>?_)
 ·obtain⟨o',rfl⟩:∃ o,os=[o]:=List.length_eq_one_iff.mp hos
  walk_at "rd"
  refine⟨[_],rfl,rfl,dx,_,sm _ _ o8,rfl,o,dx,_,_,n,i,_,rfl,sm _ _ o8,rfl,lsI_mono _ _ _ _ w8 λb u e=>sm _ _ (del_sub _ _ e),hn,hi,λx H2 s2 h2=>hk _ _ s2 h2⟩
 have o9:=s9 _ _ o8
 refine⟨C,dx,_,o9,cls_Choice,nf_lines,(by show (_:Nat) < 1000; simp),?_⟩
 refine⟨C,dx,_,upd_same,cls_Choice,nf_under,(by show (6:Nat) < 1000; decide),?_⟩
 have f1:putF (Str.ofString "under") (V.int 1) (putF (Str.ofString "lines") (V.ref lv) [(Str.ofString "scales",V.ref a),(Str.ofString "columns",V.ref cv),(Str.ofString "bottom",V.int b),(Str.ofString "rights",V.ref pw),(Str.ofString "chosen",V.ref ch)])=chF (.ref a) (.ref cv) (.ref pw) (.ref lv) b 1 ch:=rfl
 rw [f1]
 generalize hH:upd (upd H9 o (HO.ins C dx (putF (Str.ofString "lines") (V.ref lv) [(Str.ofString "scales",V.ref a),(Str.ofString "columns",V.ref cv),(Str.ofString "bottom",V.int b),(Str.ofString "rights",V.ref pw),(Str.ofString "chosen",V.ref ch)]))) o (HO.ins C dx (chF (.ref a) (.ref cv) (.ref pw) (.ref lv) b 1 ch))=Hf
 have kf:Same (del o H9) (del o Hf):=by rw [<- hH]; exact λb u e=>del_upd _ _ (del_upd _ _ e)
 have k9:Same (del o H8) (del o Hf):=λb u e=>kf _ _ (del_same s9 _ _ e)
 have off6:Same (del o H6) (offC o ch Hf):=λb u e=>by
  have e2:=del_some.mp (k9 _ _ (k8 _ _ e))
  refine offC_some.mpr ⟨e2.1,λz=>?_,e2.2⟩
  rw [z] at e
  rw [(del_some.mp e).2] at hch
  cases hch
 have off9:Same (Nw H8 H9) (offC o ch Hf):=λb u e=>by
  obtain⟨g1,g2,g3⟩:=offC_some.mp (nw_off o8 ch8 s9 _ _ e)
  exact offC_some.mpr ⟨g1,g2,(del_some.mp (kf _ _ (del_some.mpr ⟨g1,g3⟩))).2⟩
 have hch0:H ch=none:=by
  cases e:H ch with
  | none=>rfl
  | some u=>have:=del_sub _ _ (k16 _ _ (del_some.mpr ⟨hco,e⟩)); rw [this] at hch; cases hch
 have keep:∀ x u,x ≠ o->H x=some u->Hf x=some u:=λx u hx e=>del_sub _ _ (k9 _ _ (k8 _ _ (k16 _ _ (del_some.mpr ⟨hx,e⟩))))
 refine q Hf ch b keep hch0 hb hbz hbd ⟨dx,.ref a,.ref cv,.ref pw,.ref lv,by rw [<- hH]; exact upd_same,?_,lsI_mono _ _ _ _ gs λb u e=>off6 _ _ (k16 _ _ e),msI_mono _ _ _ _ c6 off6,lsI_mono _ _ _ _ w6 off6,msI_mono _ _ _ _ hl9 off9⟩
 exact (del_some.mp (k9 _ _ (del_some.mpr ⟨hco,ch8⟩))).2
end
def prt(S:Cst)(j i:Nat):Int:=dotN S.n (S.L i) (S.A j)
def sgnI(x:Int):Int:=if 0 < x then 1 else -1
def chL(S:Cst)(j k:Nat):Nat->Nat->Int:=λi t=>if i=k then sgnI (prt S j k) * S.L k t else (((prt S j k).natAbs:Int) * S.L i t - prt S j i * (sgnI (prt S j k) * S.L k t)) / S.u
def cstC(S:Cst)(j k:Nat):Cst:={ S with c:=λi=>if i=k then j else S.c i,L:=chL S j k,u:=((prt S j k).natAbs:Int) }
def sp_choose(C:Addr):Sp:=λvs H Q _=>∃ (o ch:Addr) (S:Cst) (j k:Nat),vs=[.ref o,.int (j:Int),.int (k:Int)]/\ChV C H o ch S/\Szs S/\j < S.m/\k < S.n/\∀ H',KeepC o ch H H'->ChV C H' o ch (cstC S j k)->Q .non H'
theorem sgn_abs(x:Int):(sgnI x).natAbs < 2 ^ 1:=by unfold sgnI; split <;> decide
theorem prt_lt(h:Szs S){j i:Nat}(hj:j < S.m)(hi:i < S.n):(prt S j i).natAbs < 2 ^ 5010:=dotN_lt (a:=2500) (b:=2500) (by have:=h.n; omega) (λt ht=>h.L i t hi ht) λt ht=>h.A j t hj ht
section
variable {P:Program}{w:World}{K:PySem.W.Frag}{mg:Str->Option Value}{base:Heap}{f:Addr}{fd:FuncData}{C:Addr}
def ok_choose(F:Fun K "choose" "Choice.choose" s_Choice_choose f fd)(n_abs:mg "abs"=none)(n_zip:mg "zip"=none)(cls_Choice:Cls K C)(nf_columns:NoAttr K C "columns")(nf_lines:NoAttr K C "lines")(nf_under:NoAttr K C "under")(nf_chosen:NoAttr K C "chosen")(M_parts:Mth P w K mg base CX0 2 C "parts" ["self","column"] (sp_parts C)):FnOk P w K mg base CX0 3 f fd ["self","j","k"] (sp_choose C):=by
 refine okR F sc_Choice_choose λcdv A outer s H vs Q E hr h=>?_
 obtain⟨o,ch,S,j,k,rfl,hC,hS,hj,hk,q⟩:=h
 refine⟨_,(b_cons (s_set 3 sc_Choice_choose.nd (q_meth M_parts hr (by decide) (q_v 0) (a_c (q_ixL (q_fld (q_v 0)) (q_v 1)) a_nil)))
   (b_cons (s_set 4 sc_Choice_choose.nd (q_ifE (t_gt (q_ixL (q_v 3) (q_v 2)) q_int) q_int (q_neg q_int)))
   (b_cons (s_setComp 5 (blkC ["one"] [4] ["sign"]) (i_list (q_ixL (q_fld (q_v 0)) (q_v 2))) (by exact λs H fp=>(g_name 0 (show List.Nodup (["one","sign"]:List Str) from by decide +kernel))) (by exact λs H fp=>(q_mulL (q_v 1) (q_v 0))) (g_name 5 sc_Choice_choose.nd))
   (b_cons (s_set 6 sc_Choice_choose.nd (q_lst a_nil))
   (b_cons (s_for Yj (i_zip rfl n_zip (a_c (q_fld (q_v 0)) (a_c (q_v 3) a_nil))) (g_tup (n:=2) (gs_cons (g_name 7 sc_Choice_choose.nd) (gs_cons (g_name 8 sc_Choice_choose.nd) gs_nil))) (b_one (s_expr (q_app (q_v 6) (a_c (q_comp (blkC ["one","other"] [0,2,3,8] ["self","k","parts","part"]) (i_zip rfl n_zip (a_c (q_v 7) (a_c (q_v 5) a_nil))) (by exact λs H fp=>(g_tup (n:=2) (gs_cons (g_name 0 (show List.Nodup (["one","other","self","k","parts","part"]:List Str) from by decide +kernel)) (gs_cons (g_name 1 (show List.Nodup (["one","other","self","k","parts","part"]:List Str) from by decide +kernel)) gs_nil)))) (by exact λs H fp=>(q_fdivL (q_sub (q_mulL (q_abs rfl n_abs (a_c (q_ixL (q_v 4) (q_v 3)) a_nil)) (q_v 0)) (q_mulL (q_v 5) (q_v 1))) (q_fldK K (q_v 2))))) a_nil)))))
   (b_cons (s_asg (q_v 5) (g_sub (q_v 6) (q_v 2)))
   (b_cons (s_fld (q_v 0) (q_v 6))
   (b_cons (s_fld (q_v 0) (q_abs rfl n_abs (a_c (q_ixL (q_v 3) (q_v 2)) a_nil)))
   (b_one (s_asg (q_v 1) (g_sub (q_fld (q_v 0)) (q_v 2)))))))))))),?_⟩
 rw [show start ["self","j","k","parts","sign","own","lines","line","part"] [.ref o,.int (j:Int),.int (k:Int)]=[some (.ref o),some (.int (j:Int)),some (.int (k:Int)),none,none,none,none,none,none] from rfl]
 obtain⟨dx,sv,cv,rv,lv,h1,h2,h3,h4,h5,h6⟩:=id hC
 have hn:=hS.n
 obtain⟨pc,ys,yc,rfl,hp,hl,hx,hyc⟩:=h4.ix hj
 refine seq_go λB hB=>?_
 walk_at "rd"
 refine⟨dx,_,h1,rfl,C,dx,_,h1,cls_Choice,nf_columns,_,rfl,pc,rfl,_,offC_sub _ _ hp,_,hx,o,ch,S,yc,S.A j,rfl,hC,hS,lsI_mono _ _ _ _ hyc λb u e=>offC_sub _ _ (del_sub _ _ e),λt ht=>hS.A j t hj ht,λpv H1 s1 hpv=>?_⟩
 obtain⟨pp,rfl,hpp'⟩:=hpv.ints
 rw [tab_ints] at hpp'
 have hpp:=nw_sub s1 _ _ hpp'
 change H1 pp=some (.lst (tab S.n λi=>V.int (prt S j i))) at hpp
 subst hB
 try dsimp only
 refine seq_go λB hB=>?_
 walk_at "rd"
 refine⟨_,hpp,_,atI_tab hk,_,rfl,?_⟩
 suffices hg:B [some (.ref o),some (.int (j:Int)),some (.int (k:Int)),some (.ref pp),some (.int (sgnI (prt S j k))),none,none,none,none] H1 by
  unfold sgnI at hg
  by_cases c:0 < prt S j k
  ·rw [if_pos c] at hg ⊢; exact hg
  ·rw [if_neg c] at hg ⊢; exact hg
 subst hB
 try dsimp only
 have hC1:=hC.same s1
 have so1:=offC_same (o:=o) (ch:=ch) s1
 have l1:=msI_mono _ _ _ _ h6 so1
 obtain⟨pl,ls,yk,rfl,hpl,hll,hxk,hyk⟩:=l1.ix hk
 obtain⟨pk,rfl,hpk⟩:=hyk.ints
 rw [tab_ints] at hpk
 have hpk1:=offC_sub _ _ (del_sub _ _ hpk)
 walk_at "rd"
 simp only [tComp,iList,iZip,cxK,tFor_zip]
 walk_at "rd"
 refine⟨C,dx,_,s1 _ _ h1,cls_Choice,nf_lines,_,rfl,pl,rfl,_,offC_sub _ _ hpl,_,hxk,pk,rfl,⟨_,.of hpk1⟩,?_⟩
 refine blkA_list (B:=noH) IntR (λt=>sgnI (prt S j k) * S.L k t) int_mono noH_same hpk1 (tab_len _ _) (by omega) (λi y hi hy H' kk os sm hos hkk=>?_) (λpo H2 hpo s2 hown=>?_)
 ·obtain⟨o',rfl⟩:∃ o,os=[o]:=List.length_eq_one_iff.mp hos
  obtain⟨_,rfl⟩:=tab_get hy
  walk_at "rd"
  exact⟨[_],rfl,rfl,mulOk (sgn_abs _) (hS.L k i hk hi) (by decide),hkk _ _ (λ_ _ z=>z) rfl⟩
 obtain⟨_,e,hown2⟩:=(lsI_mono _ _ _ _ hown (nw_sub s2)).ints
 cases e
 rw [tab_ints] at hown2
 intro pa H3 hpa s3 e3
 have s12:=s1.trans s2
 have s123:=s12.trans s3
 refine⟨C,dx,_,s123 _ _ h1,cls_Choice,nf_lines,_,rfl,?_⟩
 have l3:=msI_mono _ _ _ _ l1 (offC_same s2)
 obtain⟨_,ls3,e,hpl3,hll3,hls3⟩:=l3.at
 cases e
 have pp3:=s2 _ _ hpp
 refine zipK_of (xs:=ls3) (ys:=tab S.n λi=>V.int (prt S j i)) (by rw [tab_len]; exact hll3) (λi Z H'=>∃ (o1 o2:Option V) (zs:List V),Z=[some (.ref o),some (.int (j:Int)),some (.int (k:Int)),some (.ref pp),some (.int (sgnI (prt S j k))),some (.ref po),some (.ref pa),o1,o2] /\
  Acc (LsV IntR) noH H2 pa zs (tab i λi=>tab S.n λt=>(((prt S j k).natAbs:Int) * S.L i t - prt S j i * (sgnI (prt S j k) * S.L k t)) / S.u) H') ⟨_,_,[],rfl,Acc.start noH_same hpa s3 e3⟩ (λi Z H' _ ⟨_,_,_,_,hA⟩=>⟨.of (hA.sm _ _ (offC_sub _ _ hpl3)),.of (hA.sm _ _ pp3)⟩) (λi x y Z H4 pt H5 hi hy hP hpt s5 e5=>?_) (λZ H4 hP=>?_)
 ·obtain⟨o1,o2,zs,rfl,hA⟩:=hP
  obtain⟨hin,hrow⟩:=hls3 i x hi
  obtain⟨_,rfl⟩:=tab_get hy
  have hA5:=hA.step lsI_mono s5
  have sm5:=hA5.sm
  obtain⟨px,rfl,hpx⟩:=hrow.ints
  rw [tab_ints] at hpx
  have hpx5:=sm5 _ _ (offC_sub _ _ (del_sub _ _ hpx))
  have po5:=sm5 _ _ hown2
  walk_at "rd"
  simp only [e5]
  walk_at "rd"
  simp only [tComp,iZip,cxK]
  walk_at "rd"
  refine⟨⟨_,hA5.at_⟩,⟨_,.of hpx5⟩,⟨_,.of po5⟩,?_⟩
  refine blkA_zip (B:=noH) IntR (λt=>(((prt S j k).natAbs:Int) * S.L i t - prt S j i * (sgnI (prt S j k) * S.L k t)) / S.u) int_mono noH_same hpx5 po5 (tab_len _ _) (tab_len _ _) (by omega) (λt x z ht hx hz H' kk os tp htp sm' hos hkk=>?_) (λpz H6 hpz s6 hz6=>?_)
  ·obtain⟨o1',o2',rfl⟩:=len_two hos
   obtain⟨_,rfl⟩:=tab_get hx
   obtain⟨_,rfl⟩:=tab_get hz
   walk_at "rd"
   simp only [htp]
   walk_at "rd"
   have h1':=sm' _ _ (sm5 _ _ (s12 _ _ h1))
   have zp:=prt_lt hS hj hk
   have ef:∀ x:Int,x.fdiv S.u=x / S.u:=λx=>YS x (Int.le_of_lt hS.u0)
   refine⟨[_,_],rfl,rfl,_,sm' _ _ (sm5 _ _ pp3),_,atI_tab hk,_,rfl,?_⟩
   rw [abs_ite]
   refine⟨mulOk (a:=5010) (by simpa using zp) (hS.L i t hin ht) (by decide),mulOk (prt_lt hS hj hin) (mul_lt_pow (sgn_abs _) (hS.L k t hk ht)) (by decide),C,dx,_,h1',cls_Choice,nf_under,_,rfl,_,rfl,by have:=hS.u0; omega,log2_lt_of (pow_mono hS.u (by decide)) (by decide),?_⟩
   rw [ef]
   exact hkk _ _ (λ_ _ z=>z) rfl
  ·obtain⟨g1,g2⟩:=hA5.push lsI_mono s6 hz6
   refine⟨zs,g1,?_,zs ++ [.ref pz],?_⟩
   ·rw [hA5.ls.1,tab_len]; omega
   ·rw [tab_succ]; exact g2
 ·obtain⟨o1,o2,zs,rfl,hA⟩:=hP
  try dsimp only
  walk_at "rd"
  rw [hll3] at hA
  have hzl:zs.length=S.n:=by rw [hA.ls.1,tab_len]
  have o2:=s12 _ _ h1
  have c2:=s12 _ _ h2
  have no:o ≠ pa:=λz=>by rw [<- z,o2] at hpa; cases hpa
  have nc:ch ≠ pa:=λz=>by rw [<- z,c2] at hpa; cases hpa
  have npp:pp ≠ pa:=λz=>by rw [<- z,pp3] at hpa; cases hpa
  have nppo:pp ≠ o:=λz=>by rw [z,o2] at pp3; cases pp3
  have nco:ch ≠ o:=λz=>by rw [z,o2] at c2; cases c2
  have o4:=hA.sm _ _ o2
  have c4:=hA.sm _ _ c2
  have p4:=hA.sm _ _ pp3
  refine⟨_,hA.at_,k,by rw [hzl]; exact ixN_nat hk,C,dx,_,by rw [upd_ne no]; exact o4,cls_Choice,nf_lines,(by show (7:Nat) < 1000; decide),_,by rw [upd_ne nppo,upd_ne npp]; exact p4,_,atI_tab hk,_,rfl,C,dx,_,upd_same,cls_Choice,nf_under,(by show (7:Nat) < 1000; decide),C,dx,_,upd_same,cls_Choice,nf_chosen,_,rfl,ch,rfl,_,by rw [upd_ne nco,upd_ne nco,upd_ne nc]; exact c4,k,by rw [tab_len]; exact ixN_nat hk,?_⟩
  rw [abs_ite]
  have f1:putF (Str.ofString "under") (V.int ((prt S j k).natAbs:Int)) (putF (Str.ofString "lines") (V.ref pa) (chF sv (V.ref pc) rv (V.ref pl) S.bt S.u ch))=chF sv (V.ref pc) rv (V.ref pa) S.bt ((prt S j k).natAbs:Int) ch:=rfl
  rw [f1]
  generalize hHf:upd (upd (upd (upd H4 pa _) o _) o _) ch _=Hf
  have kf:∀ b u,b ≠ pa->b ≠ o->b ≠ ch->H4 b=some u->Hf b=some u:=λb u n1 n2 n3 e=>by rw [<- hHf,upd_ne n3,upd_ne n2,upd_ne n2,upd_ne n1]; exact e
  have keep:KeepC o ch H Hf:=λb u n2 n3 e=>kf b u (λz=>by rw [<- z,s12 _ _ e] at hpa; cases hpa) n2 n3 (hA.sm _ _ (s12 _ _ e))
  have offk:Same (offC o ch H) (offC o ch Hf):=keep.off
  refine q Hf keep ⟨dx,sv,.ref pc,rv,.ref pa,?_,?_,lsI_mono _ _ _ _ h3 offk,msI_mono _ _ _ _ h4 offk,lsI_mono _ _ _ _ h5 offk,pa,zs.set k (.ref po),rfl,?_,?_⟩
  ·rw [<- hHf,upd_ne nco.symm,upd_same]; rfl
  ·rw [<- hHf,upd_same,tab_set]
   congr 2
   refine tab_congr λi _=>?_
   show (if i=k then V.int (j:Int) else V.int (S.c i:Int))=V.int (((if i=k then j else S.c i:Nat)):Int)
   split <;> rfl
  ·refine offC_some.mpr ⟨no.symm,nc.symm,?_⟩
   rw [<- hHf,upd_ne nc.symm,upd_ne no.symm,upd_ne no.symm,upd_same]
  ·have g1:Same (del pa (Nw H2 H4)) (del pa (offC o ch Hf)):=λb u e=>by
    obtain⟨n1,e⟩:=del_some.mp e
    obtain⟨n2,n3,e'⟩:=offC_some.mp (nw_off o2 c2 hA.sm _ _ e)
    exact del_some.mpr ⟨n1,offC_some.mpr ⟨n2,n3,kf b u n1 n2 n3 e'⟩⟩
   have g2:Same (Nw H1 H2) (del pa (offC o ch Hf)):=λb u e=>by
    obtain⟨n2,n3,e'⟩:=offC_some.mp (nw_off (s1 _ _ h1) (s1 _ _ h2) s2 _ _ e)
    have n1:b ≠ pa:=λz=>by rw [z,hpa] at e'; cases e'
    exact del_some.mpr ⟨n1,offC_some.mpr ⟨n2,n3,kf b u n1 n2 n3 (hA.sm _ _ e')⟩⟩
   refine⟨by rw [List.length_set,hzl,tab_len]; rfl,λi x a h1' h2'=>?_⟩
   obtain⟨hin,rfl⟩:=tab_get h2'
   rw [List.getElem?_set] at h1'
   by_cases c:k=i
   ·subst c
    rw [if_pos rfl,if_pos (by rw [hzl]; exact hin)] at h1'
    cases h1'
    have:=lsI_mono _ _ _ _ hown g2
    rw [show (tab (cstC S j k).n ((cstC S j k).L k))=tab S.n λt=>sgnI (prt S j k) * S.L k t from tab_congr λt _=>if_pos rfl]
    exact this
   ·rw [if_neg c] at h1'
    have:=lsI_mono _ _ _ _ (hA.ls.2 i x _ h1' (tab_at hin)) g1
    rw [show (tab (cstC S j k).n ((cstC S j k).L i))=tab S.n λt=>(((prt S j k).natAbs:Int) * S.L i t - prt S j i * (sgnI (prt S j k) * S.L k t)) / S.u from tab_congr λt _=>if_neg (Ne.symm c)]
    exact this
end
def tup_nw{H H':Hp}{a:Addr}{t:List V}(s:Same H H')(e:H' a=some (.tup t)):Nw H H' a=some (.tup t):=by
 cases h:H a with
 | none=>exact nw_new h e
 | some w=>rw [s _ _ h] at e; injection e with e; subst e; exact rch_some.mpr (.inr ⟨rfl,.inr ⟨t,h,rfl⟩⟩)
def rat_ls{H H':Hp}{as:List Rat}(h:H p=none)(s:Same H H')(e:H' p=some (.lst ys))(hy:ListV RatV H' ys as):LsV RatV (Nw H H') (.ref p) as:=by
 refine⟨p,ys,rfl,nw_new h e,hy.1,λi x a h1 h2=>?_⟩
 obtain⟨b,rfl,hb⟩:=hy.2 i x a h1 h2
 exact⟨b,rfl,del_some.mpr ⟨(λz=>by rw [z,e] at hb; cases hb),tup_nw s hb⟩⟩
def ratL_upd{H2:Hp}{o:HO}{zs ys:List V}{as:List Rat}(hp:H2 p=some (.lst zs))(hy:ListV RatV H2 ys as):ListV RatV (upd H2 p o) ys as:=⟨hy.1,λi x a h1 h2=>by
 obtain⟨b,rfl,hb⟩:=hy.2 i x a h1 h2
 exact⟨b,rfl,by rw [upd_ne (λz=>by rw [z,hp] at hb; cases hb)]; exact hb⟩⟩
def ratL_set{m j:Nat}{x:Nat->Rat}{v:V}{r:Rat}(hy:ListV RatV H ys (tab m x))(hv:RatV H v r):ListV RatV H (ys.set j v) (tab m λi=>if i=j then r else x i):=by
 refine⟨by rw [List.length_set,hy.1,tab_len,tab_len],λi y a h1 h2=>?_⟩
 obtain⟨hin,rfl⟩:=tab_get h2
 rw [List.getElem?_set] at h1
 by_cases c:j=i
 ·subst c
  rw [if_pos rfl,if_pos (by rw [hy.1,tab_len]; exact hin)] at h1
  cases h1
  rw [if_pos rfl]
  exact hv
 ·rw [if_neg c] at h1
  rw [if_neg (Ne.symm c)]
  exact hy.2 i y _ h1 (tab_at hin)
def InjC(S:Cst):Prop:=∀ i k,i < S.n->k < S.n->S.c i < S.m->S.c i=S.c k->i=k
def Spr(S:Cst)(am:Nat->Int)(D:Int)(i:Nat)(x:Nat->Rat):Prop:=(∀ k,k < i->S.c k < S.m->x (S.c k)=Rat.divInt (am k * S.sc (S.c k)) D)/\∀ j,j < S.m->(∀ k,k < i->S.c k ≠ j)->x j=0
def sp_spread(C:Addr):Sp:=λvs H Q _=>∃ (o ch:Addr) (S:Cst) (av:V) (am:Nat->Int) (D:Int),vs=[.ref o,av,.int D]/\ChV C H o ch S/\Szs S/\InjC S/\LsV IntR H av (tab S.n am)/\(∀ i,i < S.n->(am i).natAbs < 2 ^ 6000)/\D ≠ 0/\Big D /\
 ∀ y H' x,Same H H'->LsV RatV (Nw H H') y (tab S.m x)->Spr S am D S.n x->Q y H'
def sp_solution(C:Addr):Sp:=λvs H Q _=>∃ (o ch:Addr) (S:Cst),vs=[.ref o]/\ChV C H o ch S/\Szs S/\InjC S /\
 ∀ y H' x,Same H H'->LsV RatV (Nw H H') y (tab S.m x)->Spr S (λi=>dotN S.n (S.L i) S.r) (S.u * S.bt) S.n x->Q y H'
def sp_withpart(C:Addr):Sp:=λvs H Q _=>∃ (o ch:Addr) (S:Cst) (k:Nat),vs=[.ref o,.int (k:Int)]/\ChV C H o ch S/\Szs S/\k < S.n/\(∀ (j:Nat) H',Same H H'->j < S.m->prt S j k ≠ 0->Q (.int (j:Int)) H')/\(∀ H',Same H H'->(∀ j,j < S.m->prt S j k=0)->Q .non H')
section
variable {P:Program}{w:World}{K:PySem.W.Frag}{mg:Str->Option Value}{base:Heap}{f:Addr}{fd:FuncData}{C:Addr}
def ok_spread(F:Fun K "spread" "Choice.spread" s_Choice_spread f fd)(n_len:mg "len"=none)(n_enumerate:mg "enumerate"=none)(cls_Choice:Cls K C)(nf_columns:NoAttr K C "columns")(nf_chosen:NoAttr K C "chosen")(nf_scales:NoAttr K C "scales")(M_is_made_up:Mth P w K mg base CX0 1 C "is_made_up" ["self","k"] (sp_made C))(F_ratio:Fn P w K mg base CX0 2 "ratio" ["top","bottom"] sp_ratio0)(F_ratio_d:FnD P w K mg base CX0 2 "ratio" ["top","bottom"] [.int 1] sp_ratio0):FnOk P w K mg base CX0 3 f fd ["self","amounts","bottom"] (sp_spread C):=by
 refine okR F sc_Choice_spread λcdv A outer s H vs Q E hr h=>?_
 obtain⟨o,ch,S,av,am,D,rfl,hC,hS,hI,ha,za,hD,zD,q⟩:=h
 refine⟨_,(b_cons (s_set 3 sc_Choice_spread.nd (q_rep (q_lst (a_c (q_fnD F_ratio_d hr (by decide) rfl (a_c q_int a_nil)) a_nil)) (q_len rfl n_len (a_c (q_fld (q_v 0)) a_nil))))
   (b_cons (s_for Yj (i_enum rfl n_enumerate (a_c (q_v 1) a_nil)) (g_tup (n:=2) (gs_cons (g_name 4 sc_Choice_spread.nd) (gs_cons (g_name 5 sc_Choice_spread.nd) gs_nil))) (b_one (s_if (t_not (t_val (q_meth M_is_made_up hr (by decide) (q_v 0) (a_c (q_v 4) a_nil)))) (b_cons (s_set 6 sc_Choice_spread.nd (q_ixL (q_fld (q_v 0)) (q_v 4)))
   (b_one (s_asg (qfn F_ratio hr (a_c (q_mulL (q_v 5) (q_ixL (q_fld (q_v 0)) (q_v 6))) (a_c (q_v 2) a_nil))) (g_sub (q_v 3) (q_v 6))))) b_nil)))
   (b_one (s_ret (q_v 3))))),?_⟩
 rw [show start ["self","amounts","bottom","told","k","amount","j"] [.ref o,av,.int D]=[some (.ref o),some (av),some (.int D),none,none,none,none] from rfl]
 have hn:=hS.n
 have hm:=hS.m
 obtain⟨dx,sv,cv,rv,lv,h1,h2,h3,h4,h5,h6⟩:=id hC
 obtain⟨pc,cs,rfl,hpc,hcl,_⟩:=h4.at
 obtain⟨psc,rfl,hpsc⟩:=h3.ints
 obtain⟨pa,rfl,hpa⟩:=ha.ints
 rw [tab_ints] at hpsc hpa
 walk_at "rd"
 simp only [sp_ratio0,tFor_enum]
 walk_at "rd"
 refine⟨Big.of (n:=1) (by decide) (by decide),by decide,λr0 H1 s1 hr0 p1 H2 hp1 s2 e2=>?_⟩
 have s12:=s1.trans s2
 refine⟨C,dx,_,s12 _ _ h1,cls_Choice,nf_columns,_,rfl,pc,rfl,_,.inl (s12 _ _ (offC_sub _ _ hpc)),_,e2,by omega,by omega,?_,λpt hpt=>?_⟩
 ·have hsl:(1000:Nat)<=sizeLine:=by decide
  rw [hcl]; simp; omega
 rw [hcl,rep_tab]
 have s3:Same H2 (upd H2 pt (.lst (tab S.m λ_=>r0))):=same_new hpt _
 have sm0:=s12.trans s3
 have hpt0:=s12.free hpt
 refine enumK_of (xs:=tab S.n λi=>V.int (am i)) (λi Z H'=>∃ (o1 o2 o3:Option V) (ys:List V) (x:Nat->Rat),Z=[some (.ref o),some (.ref pa),some (.int D),some (.ref pt),o1,o2,o3]/\Same H H'/\H' pt=some (.lst ys)/\ListV RatV H' ys (tab S.m x)/\Spr S am D i x)
  ⟨_,_,_,_,λ_=>0,rfl,sm0,upd_same,⟨by rw [tab_len,tab_len],λi y a h1' h2'=>?_⟩,λk hk=>by omega,λj _ _=>rfl⟩ (λi Z H' _ ⟨_,_,_,_,_,_,sm,_⟩=>.of (sm _ _ hpa)) (λi y Z H4 pb H5 hi hP hpb s5 e5=>?_) (λZ H4 hP=>?_)
 ·obtain⟨_,rfl⟩:=tab_get h1'
  obtain⟨_,rfl⟩:=tab_get h2'
  have:=hr0.same (s2.trans s3)
  rw [show Rat.divInt 0 1=0 from rfl] at this
  exact this
 ·obtain⟨o1,o2,o3,ys,x,rfl,sm,e4,hx,hsp⟩:=hP
  obtain⟨hin,rfl⟩:=tab_get hi
  have sm5:=sm.trans s5
  have e45:=s5 _ _ e4
  have hx5:=hx.mono rat_mono s5
  walk_at "rd"
  simp only [e5]
  walk_at "rd"
  refine⟨dx,_,sm5 _ _ h1,rfl,o,ch,S,i,rfl,hC.same sm5,hin,_,rfl,?_⟩
  refine ite2 (λc=>?_) (λc=>?_)
  ·have hcm:S.c i < S.m:=by simpa using c
   refine⟨C,dx,_,sm5 _ _ h1,cls_Choice,nf_chosen,_,rfl,ch,rfl,_,sm5 _ _ h2,_,atI_tab hin,?_⟩
   refine⟨C,dx,_,sm5 _ _ h1,cls_Choice,nf_scales,_,rfl,psc,rfl,_,_,rfl,sm5 _ _ (offC_sub _ _ hpsc),_,atI_tab hcm,_,rfl,mulOk (za i hin) (hS.sc _ hcm) (by decide),_,_,rfl,zD,hD,λv H6 s6 hv=>?_⟩
   have e6:=s6 _ _ e45
   refine⟨_,_,rfl,e6,_,by rw [hx.1,tab_len]; exact ixN_nat hcm,same_upd hpt0 (sm5.trans s6),_,upd_same,_,ratL_upd e6 (ratL_set (hx5.mono rat_mono s6) hv),?_⟩
   refine⟨λk hk hck=>?_,λj hj hno=>?_⟩
   ·show (if S.c k=S.c i then _ else _)=_
    by_cases ck:k=i
    ·subst ck; rw [if_pos rfl]
    ·rw [if_neg (λz=>ck (hI k i (by omega) hin hck z))]
     exact hsp.1 k (by omega) hck
   ·show (if j=S.c i then _ else _)=_
    rw [if_neg (λz=>hno i (by omega) (Eq.symm z))]
    exact hsp.2 j hj λk hk=>hno k (by omega)
  ·have hcm:¬ S.c i < S.m:=by simpa using c
   refine⟨sm5,_,e45,x,hx5,λk hk hck=>?_,λj hj hno=>hsp.2 j hj λk hk=>hno k (by omega)⟩
   by_cases ck:k=i
   ·subst ck; exact absurd hck hcm
   ·exact hsp.1 k (by omega) hck
 ·obtain⟨o1,o2,o3,ys,x,rfl,sm,e4,hx,hsp⟩:=hP
  walk_at "rd"
  rw [tab_len] at hsp
  exact q _ _ x sm (rat_ls hpt0 sm e4 hx) hsp
def ok_solution(F:Fun K "solution" "Choice.solution" s_Choice_solution f fd)(cls_Choice:Cls K C)(nf_under:NoAttr K C "under")(nf_bottom:NoAttr K C "bottom")(M_levels:Mth P w K mg base CX0 3 C "levels" ["self"] (sp_levels C))(M_spread:Mth P w K mg base CX0 3 C "spread" ["self","amounts","bottom"] (sp_spread C)):FnOk P w K mg base CX0 4 f fd ["self"] (sp_solution C):=by
 refine okR F sc_Choice_solution λcdv A outer s H vs Q E hr h=>?_
 obtain⟨o,ch,S,rfl,hC,hS,hI,q⟩:=h
 refine⟨_,(b_one (s_ret (q_meth M_spread hr (by decide) (q_v 0) (a_c (q_meth0 M_levels hr (by decide) (q_v 0)) (a_c (q_mulL (q_fld (q_v 0)) (q_fld (q_v 0))) a_nil))))),?_⟩
 rw [show start ["self"] [.ref o]=[some (.ref o)] from rfl]
 obtain⟨dx,sv,cv,rv,lv,h1,h2,h3,h4,h5,h6⟩:=id hC
 walk_at "rd"
 refine⟨dx,_,h1,rfl,dx,_,h1,rfl,o,ch,S,rfl,hC,hS,λy H1 s1 hy=>?_⟩
 refine⟨C,dx,_,s1 _ _ h1,cls_Choice,nf_under,_,rfl,C,dx,_,s1 _ _ h1,cls_Choice,nf_bottom,_,rfl,_,rfl,_,rfl,mulOk hS.u hS.bt (by decide),?_⟩
 refine⟨o,ch,S,y,_,_,rfl,hC.same s1,hS,hI,lsI_mono _ _ _ _ hy (nw_sub s1),λi hi=>pow_mono (dotN_lt (a:=2500) (b:=2500) (by have:=hS.n; omega) (λt ht=>hS.L i t hi ht) hS.r) (by decide),Int.ne_of_gt (Int.mul_pos hS.u0 hS.bt0),Big.of (mul_lt_pow hS.u hS.bt) (by decide),λy' H' x s' hy' hsp=>q y' H' x (s1.trans s') (lsQ_mono _ _ _ _ hy' (nw_back s1 s')) hsp⟩
def ok_withpart(F:Fun K "column_with_part" "column_with_part" s_column_with_part f fd)(n_enumerate:mg "enumerate"=none)(cls_Choice:Cls K C)(nf_columns:NoAttr K C "columns")(nf_lines:NoAttr K C "lines")(F_times:Fn P w K mg base CX0 1 "times" ["ones","others"] sp_times):FnOk P w K mg base CX0 2 f fd ["choice","k"] (sp_withpart C):=by
 refine okR F sc_column_with_part λcdv A outer s H vs Q E hr h=>?_
 obtain⟨o,ch,S,k,rfl,hC,hS,hk,q1,q2⟩:=h
 refine⟨_,(b_cons (s_for Yj (i_enum rfl n_enumerate (a_c (q_fld (q_v 0)) a_nil)) (g_tup (n:=2) (gs_cons (g_name 2 sc_column_with_part.nd) (gs_cons (g_name 3 sc_column_with_part.nd) gs_nil))) (b_one (s_if (t_ne (qfn F_times hr (a_c (q_ixL (q_fld (q_v 0)) (q_v 1)) (a_c (q_v 3) a_nil))) q_int) (b_one (s_ret (q_v 2))) b_nil)))
   (b_one (s_ret q_non))),?_⟩
 rw [show start ["choice","k","j","column"] [.ref o,.int (k:Int)]=[some (.ref o),some (.int (k:Int)),none,none] from rfl]
 have hn:=hS.n
 obtain⟨dx,sv,cv,rv,lv,h1,h2,h3,h4,h5,h6⟩:=id hC
 obtain⟨pc,cs,rfl,hpc,hcl,hcs⟩:=h4.at
 obtain⟨pl,ls,yk,rfl,hpl,hll,hxk,hyk⟩:=h6.ix hk
 walk_at "rd"
 simp only [tFor_enum]
 walk_at "rd"
 refine⟨C,dx,_,h1,cls_Choice,nf_columns,_,rfl,?_⟩
 refine enumK_of (xs:=cs) (λi Z H'=>∃ (o1 o2:Option V),Z=[some (.ref o),some (.int (k:Int)),o1,o2]/\Same H H'/\∀ j,j < i->prt S j k=0)
  ⟨_,_,rfl,λ_ _ z=>z,λj hj=>by omega⟩ (λi Z H' _ ⟨_,_,_,sm,_⟩=>.of (sm _ _ (offC_sub _ _ hpc))) (λi y Z H4 pb H5 hi hP hpb s5 e5=>?_) (λZ H4 hP=>?_)
 ·obtain⟨o1,o2,rfl,sm,h0⟩:=hP
  obtain⟨hin,hcol⟩:=hcs i y hi
  have sm5:=sm.trans s5
  walk_at "rd"
  simp only [e5]
  walk_at "rd"
  refine⟨C,dx,_,sm5 _ _ h1,cls_Choice,nf_lines,_,rfl,pl,rfl,_,sm5 _ _ (offC_sub _ _ hpl),_,hxk,yk,y,S.n,S.L k,S.A i,rfl,lsI_mono _ _ _ _ hyk λb u e=>sm5 _ _ (offC_sub _ _ (del_sub _ _ e)),lsI_mono _ _ _ _ hcol λb u e=>sm5 _ _ (offC_sub _ _ (del_sub _ _ e)),by omega,λt ht=>⟨pow_mono (hS.L k t hk ht) (by decide),pow_mono (hS.A i t hin ht) (by decide)⟩,λH6 s6=>⟨rfl,?_⟩⟩
  by_cases c:prt S i k=0
  ·rw [if_neg (by intro z; exact z (by rw [<- c]; rfl))]
   refine⟨sm5.trans s6,λj hj=>?_⟩
   by_cases cj:j=i
   ·subst cj; exact c
   ·exact h0 j (by omega)
  ·rw [if_pos (by intro z; injection z with z; exact c z)]
   exact q1 i H6 (sm5.trans s6) hin c
 ·obtain⟨o1,o2,rfl,sm,h0⟩:=hP
  walk_at "rd"
  rw [hcl] at h0
  exact q2 _ sm h0
end
def colS(S:Cst)(g:Nat->Int)(j:Nat):Nat->Int:=if j < S.m then S.A j else λt=>if t=j - S.m then g (j - S.m) else 0
structure CI(S:Cst)(g:Nat->Int)(e:Int):Prop where
 gs:∀ j,g j * g j=1
 pv:Pv S.n (λi=>colS S g (S.c i)) S.L S.u e
def unitV(t:Nat):Nat->Int:=λi=>if i=t then 1 else 0
def dot_unit{n t:Nat}(l:Nat->Int)(ht:t < n):dotN n l (unitV t)=l t:=by
 unfold dotN
 rw [sumN_one ht λj hj hn=>by unfold unitV; rw [if_neg hn]; simp]
 unfold unitV
 rw [if_pos rfl]; simp
variable {R:Nat->Nat->Rat}
def ci_start{n m:Nat}{sc:Nat->Int}{q:Nat->Rat}{b:Int}:CI (cst0 n m sc R q b) (λi=>if topI (q i) b < 0 then -1 else 1) (dt n (unitN λi=>if topI (q i) b < 0 then -1 else 1)):=by
 have hg:∀ j,(λi=>if topI (q i) b < 0 then (-1:Int) else 1) j * (λi=>if topI (q i) b < 0 then (-1:Int) else 1) j=1:=λj=>by
  dsimp only
  split <;> rfl
 refine⟨hg,?_⟩
 have h:=Pv.start hg n
 have e1:(λi=>colS (cst0 n m sc R q b) (λi=>if topI (q i) b < 0 then (-1:Int) else 1) ((cst0 n m sc R q b).c i))=unitN λi=>if topI (q i) b < 0 then (-1:Int) else 1:=by
  funext i
  show colS _ _ (m + i)=_
  unfold colS
  rw [if_neg (show ¬ m + i < (cst0 n m sc R q b).m from by show ¬ m + i < m; omega)]
  rw [show m + i - (cst0 n m sc R q b).m=i from by show m + i - m=i; omega]
  rfl
 rw [e1]
 exact h
theorem sgn_sqI(x:Int):sgnI x * sgnI x=1:=by unfold sgnI; split <;> rfl
theorem sgn_mul{x:Int}:sgnI x * x=(x.natAbs:Int):=by unfold sgnI; split <;> omega
variable {e:Int}
theorem ci_exact(h:CI S g e){j k i:Nat}(hj:j < S.m)(hk:k < S.n)(hi:i < S.n)(hne:i ≠ k){t:Nat}(ht:t < S.n):S.u * chL S j k i t=sgnI (prt S j k) * (prt S j k * S.L i t - prt S j i * S.L k t):=by
 unfold chL
 rw [if_neg hne,<- sgn_mul]
 have e1:sgnI (prt S j k) * prt S j k * S.L i t - prt S j i * (sgnI (prt S j k) * S.L k t)=sgnI (prt S j k) * (prt S j k * S.L i t - prt S j i * S.L k t):=by
  rw [Int.mul_sub,Int.mul_assoc,Int.mul_left_comm (prt S j i)]
 rw [e1]
 have e2:=h.pv.exact hk hi hne (S.A j) (unitV t)
 rw [dot_unit _ ht,dot_unit _ ht] at e2
 refine Int.mul_ediv_cancel' ?_
 unfold prt
 rw [e2,Int.mul_left_comm]
 exact⟨_,rfl⟩
theorem ci_next(h:CI S g e){j k:Nat}(hj:j < S.m)(hk:k < S.n)(hp:prt S j k ≠ 0):CI (cstC S j k) g (sgnI (prt S j k) * e):=by
 refine⟨h.gs,?_⟩
 have h1:=h.pv.next (L':=chL S j k) (s:=sgnI (prt S j k)) hk (S.A j) (sgn_sqI _) (by show 0 < sgnI (prt S j k) * prt S j k; rw [sgn_mul]; omega) (λt ht=>by unfold chL; rw [if_pos rfl]) (λi hi hne t ht=>ci_exact h hj hk hi hne ht)
 have e1:colP (λi=>colS S g (S.c i)) k (S.A j)=λi=>colS (cstC S j k) g ((cstC S j k).c i):=by
  funext i
  unfold colP
  show _=colS S g (if i=k then j else S.c i)
  by_cases c:i=k
  ·rw [if_pos c,if_pos c]; unfold colS; rw [if_pos hj]
  ·rw [if_neg c,if_neg c]
 rw [e1] at h1
 have e2:sgnI (prt S j k) * dotN S.n (S.L k) (S.A j)=((prt S j k).natAbs:Int):=sgn_mul
 rw [e2] at h1
 exact h1
def ci_bare(h:CI S g e){j k i j':Nat}(hj:j < S.m)(hk:k < S.n)(hi:i < S.n)(hne:i ≠ k)(h0:prt S j i=0)(hv:prt S j' i=0):prt (cstC S j k) j' i=0 :=
 h.pv.bare (L':=chL S j k) (s:=sgnI (prt S j k)) (k:=k) (c:=S.A j) (v:=S.A j') h0 hv λt ht=>ci_exact h hj hk hi hne ht
def ci_inj(h:CI S g e):InjC S:=λi k hi hk _ hc=>by
 by_cases c:i=k
 ·exact c
 ·have h0:dt S.n (λi=>colS S g (S.c i))=0:=dt_two hi hk c (by show colS S g (S.c i)=colS S g (S.c k); rw [hc])
  have h1:=h.pv.det
  have h2:=h.pv.pos
  rw [h0,Int.mul_zero] at h1
  omega
def bnd:Nat->Nat->Nat
 | 0,_=>1
 | n + 1,X=>(n + 1) * (X * bnd n X)
def sumN_abs{f:Nat->Int}{b:Nat}(h:∀ t,t < n->(f t).natAbs<=b):(sumN n f).natAbs<=n * b:=by
 induction n with
 | zero=>simp [sumN]
 | succ n ih =>
  have h1:=ih λt ht=>h t (by omega)
  have h2:=h n (by omega)
  rw [sumN,Nat.succ_mul]
  omega
theorem sgn_one(j:Nat):(sgn j).natAbs=1:=by unfold sgn; split <;> rfl
def dt_le{X:Nat}:∀ (n:Nat) {M:Nat->Nat->Int},(∀ j t,j < n->t < n->(M j t).natAbs<=X)->(dt n M).natAbs<=bnd n X
 | 0,_,_=>Ya _
 | n + 1,M,h=>by
  unfold dt bnd
  refine sumN_abs λj hj=>?_
  rw [Int.natAbs_mul,Int.natAbs_mul,sgn_one,Nat.one_mul]
  refine Y4 (h j n hj (by omega)) (dt_le n λl t hl ht=>?_)
  unfold skip
  split
  ·exact h l t (by omega) (by omega)
  ·exact h (l + 1) t (by omega) (by omega)
def bnd_le{c:Nat}:∀ n,n<=8->bnd n (2 ^ c)<=2 ^ ((c + 3) * n)
 | 0,_=>by simp [bnd]
 | n + 1,h=>by
  unfold bnd
  have h1:=bnd_le (c:=c) n (by omega)
  rw [Nat.mul_succ,YK,YK 2 c 3]
  calc (n + 1) * (2 ^ c * bnd n (2 ^ c))<=2 ^ 3 * (2 ^ c * 2 ^ ((c + 3) * n)):=Y4 (by omega) (Nat.mul_le_mul_left _ h1)
   _=2 ^ ((c + 3) * n) * (2 ^ c * 2 ^ 3):=by rw [Nat.mul_comm (2 ^ 3),Nat.mul_comm (2 ^ c),Nat.mul_assoc]
structure Szb(S:Cst)(c:Nat):Prop where
 n:S.n<=8
 m:S.m < 900
 c1:c<=900
 cn:(c + 3) * S.n < 2400
 A:∀ j t,j < S.m->t < S.n->(S.A j t).natAbs < 2 ^ c
 r:∀ t,t < S.n->(S.r t).natAbs < 2 ^ 2000
 bt:S.bt.natAbs < 2 ^ 1300
 bt0:0 < S.bt
 sc:∀ j,j < S.m->(S.sc j).natAbs < 2 ^ 700
 sc0:∀ j,j < S.m->0 < S.sc j
theorem Szb.next{c:Nat}(h:Szb S c)(j k:Nat):Szb (cstC S j k) c:=⟨h.n,h.m,h.c1,h.cn,h.A,h.r,h.bt,h.bt0,h.sc,h.sc0⟩
def col_lt{c:Nat}(h:Szb S c)(C:CI S g e)(j t:Nat)(ht:t < S.n):(colS S g j t).natAbs<=2 ^ c:=by
 unfold colS
 split
 ·rename_i hj; exact YA (h.A j t hj ht)
 ·dsimp only
  split
  ·have hg:=C.gs (j - S.m)
   have:(g (j - S.m)).natAbs * (g (j - S.m)).natAbs=1:=by rw [<- Int.natAbs_mul,hg]; rfl
   have h2:=Nat.eq_one_of_mul_eq_one_right this
   rw [h2]; exact Nat.one_le_two_pow
  ·exact Ys _
theorem Szb.L{c:Nat}(h:Szb S c)(C:CI S g e)(i t:Nat)(hi:i < S.n)(ht:t < S.n):(S.L i t).natAbs < 2 ^ 2400:=by
 have h1:=C.pv.line i hi (unitV t)
 rw [dot_unit _ ht] at h1
 have he:e.natAbs=1:=by
  have:=C.pv.one
  have:e.natAbs * e.natAbs=1:=by rw [<- Int.natAbs_mul,this]; rfl
  exact Nat.eq_one_of_mul_eq_one_right this
 rw [h1,Int.natAbs_mul,he,Nat.one_mul]
 refine Ye (Yh (dt_le S.n (X:=2 ^ c) λj t' hj ht'=>?_) (bnd_le S.n h.n)) (Nat.pow_lt_pow_right (by decide) h.cn)
 unfold colP
 split
 ·unfold unitV
  split
  ·exact Nat.one_le_two_pow
  ·exact Ys _
 ·exact col_lt h C _ _ ht'
theorem Szb.u{c:Nat}(h:Szb S c)(C:CI S g e):S.u.natAbs < 2 ^ 2400:=by
 have he:e.natAbs=1:=by
  have:=C.pv.one
  have:e.natAbs * e.natAbs=1:=by rw [<- Int.natAbs_mul,this]; rfl
  exact Nat.eq_one_of_mul_eq_one_right this
 rw [C.pv.det,Int.natAbs_mul,he,Nat.one_mul]
 exact Ye (Yh (dt_le S.n (X:=2 ^ c) λj t' hj ht'=>col_lt h C _ _ ht') (bnd_le S.n h.n)) (Nat.pow_lt_pow_right (by decide) h.cn)
def Szb.szs{c:Nat}(h:Szb S c)(C:CI S g e):Szs S:=⟨h.n,h.m,λi t hi ht=>pow_mono (h.L C i t hi ht) (by decide),λj t hj ht=>pow_mono (h.A j t hj ht) (by have:=h.c1; omega),λt ht=>pow_mono (h.r t ht) (by decide),pow_mono (h.u C) (by decide),C.pv.pos,pow_mono h.bt (by decide),h.bt0,λj hj=>pow_mono (h.sc j hj) (by decide)⟩
def sumQ:Nat->(Nat->Rat)->Rat
 | 0,_=>0
 | n + 1,f=>sumQ n f + f n
def sumQ_congr{f g:Nat->Rat}(h:∀ j,j < n->f j=g j):sumQ n f=sumQ n g:=by
 induction n with
 | zero=>rfl
 | succ n ih=>rw [sumQ,sumQ,ih λj hj=>h j (by omega),h n (by omega)]
def sumQ_div{D:Int}(hD:D ≠ 0)(n:Nat)(f:Nat->Int):sumQ n (λj=>Rat.divInt (f j) D)=Rat.divInt (sumN n f) D:=by
 induction n with
 | zero=>show (0:Rat)=Rat.divInt 0 D; rw [Rat.zero_divInt]
 | succ n ih =>
  rw [sumQ,ih,sumN]
  rw [Rat.divInt_add_divInt _ _ hD hD]
  rw [Rat.divInt_eq_divInt_iff (Int.mul_ne_zero hD hD) hD]
  rw [<- Int.add_mul,Int.mul_assoc]
def top_frac{b:Int}(hb:b ≠ 0)(h:(q.den:Int) ∣ b):Rat.divInt (topI q b) b=q:=by
 conv=>rhs; rw [<- Yw q]
 rw [Rat.divInt_eq_divInt_iff hb (rat_den_ne q)]
 exact topI_cross h
def amt(S:Cst)(am:Nat->Int)(j:Nat):Int:=sumN S.n λk=>if S.c k=j then am k else 0
def amt_hit(hI:InjC S){am:Nat->Int}{k:Nat}(hk:k < S.n)(hc:S.c k < S.m):amt S am (S.c k)=am k:=by
 unfold amt
 rw [sumN_one hk λj hj hn=>?_,if_pos rfl]
 rw [if_neg]
 intro z
 exact hn (hI j k hj hk (by rw [z]; exact hc) z)
def amt_none{am:Nat->Int}{j:Nat}(h:∀ k,k < S.n->S.c k ≠ j):amt S am j=0:=sumN_zero λk hk=>if_neg (h k hk)
def spr_amt(hI:InjC S){am:Nat->Int}{D:Int}{x:Nat->Rat}(h:Spr S am D S.n x){j:Nat}(hj:j < S.m):x j=Rat.divInt (amt S am j * S.sc j) D:=by
 by_cases c:∃ k,k < S.n/\S.c k=j
 ·obtain⟨k,hk,rfl⟩:=c
  rw [amt_hit hI hk hj]
  exact h.1 k hk hj
 ·have h0:∀ k,k < S.n->S.c k ≠ j:=λk hk z=>c ⟨k,hk,z⟩
  rw [amt_none h0,Int.zero_mul,Rat.zero_divInt]
  exact h.2 j hj h0
def amt_sum{am:Nat->Int}(h0:∀ k,k < S.n->S.m<=S.c k->am k=0)(t:Nat):sumN S.m (λj=>amt S am j * S.A j t)=sumN S.n λk=>am k * colS S g (S.c k) t:=by
 have e1:(λj=>amt S am j * S.A j t)=λj=>sumN S.n λk=>S.A j t * (if S.c k=j then am k else 0):=by
  funext j
  unfold amt
  rw [sumN_times,Int.mul_comm]
 rw [e1,sumN_comm]
 refine sumN_congr λk hk=>?_
 by_cases c:S.c k < S.m
 ·rw [sumN_one c λj hj hn=>by rw [if_neg (Ne.symm hn),Int.mul_zero],if_pos rfl]
  unfold colS
  rw [if_pos c,Int.mul_comm]
 ·rw [h0 k hk (by omega),Int.zero_mul]
  exact sumN_zero λj hj=>by rw [if_neg (by omega),Int.mul_zero]
structure Of(S:Cst)(R:Nat->Nat->Rat)(q:Nat->Rat):Prop where
 A:∀ j t,j < S.m->t < S.n->S.A j t=topI (R t j) (S.sc j)
 sd:∀ j t,j < S.m->t < S.n->((R t j).den:Int) ∣ S.sc j
 s0:∀ j,j < S.m->0 < S.sc j
 r:∀ t,t < S.n->S.r t=topI (q t) S.bt
 bd:∀ t,t < S.n->((q t).den:Int) ∣ S.bt
 b0:0 < S.bt
def row_term{R:Rat}{s a D:Int}(hs:s ≠ 0)(hD:D ≠ 0)(hd:(R.den:Int) ∣ s):R * Rat.divInt (a * s) D=Rat.divInt (a * topI R s) D:=by
 conv=>lhs; lhs; rw [<- top_frac hs hd]
 rw [Rat.divInt_mul_divInt,Rat.divInt_eq_divInt_iff (Int.mul_ne_zero hs hD) hD]
 generalize topI R s=T
 ac_rfl
def row_sum{q x:Nat->Rat}(O:Of S R q){a:Nat->Int}{D:Int}(hD:D ≠ 0)(hx:∀ j,j < S.m->x j=Rat.divInt (a j * S.sc j) D){t:Nat}(ht:t < S.n){i:Nat}(hi:i<=S.m):sumQ i (λj=>R t j * x j)=Rat.divInt (sumN i λj=>a j * S.A j t) D:=by
 rw [<- sumQ_div hD]
 refine sumQ_congr λj hj=>?_
 rw [hx j (by omega),row_term (by have:=O.s0 j (by omega); omega) hD (O.sd j t (by omega) ht),O.A j t (by omega) ht]
def solves{q x:Nat->Rat}(O:Of S R q)(C:CI S g e)(h0:∀ k,k < S.n->S.m<=S.c k->dotN S.n (S.L k) S.r=0)(hx:Spr S (λi=>dotN S.n (S.L i) S.r) (S.u * S.bt) S.n x){t:Nat}(ht:t < S.n):sumQ S.m (λj=>R t j * x j)=q t:=by
 have hu:=C.pv.pos
 have hD:S.u * S.bt ≠ 0:=Int.ne_of_gt (Int.mul_pos hu O.b0)
 rw [row_sum O hD (λj hj=>spr_amt (ci_inj C) hx hj) ht (Ya _),amt_sum (g:=g) h0 t]
 have h1:=C.pv.back S.r t ht
 rw [<- h1,O.r t ht]
 conv=>rhs; rw [<- top_frac (q:=q t) (b:=S.bt) (by have:=O.b0; omega) (O.bd t ht)]
 rw [Rat.divInt_eq_divInt_iff hD (by have:=O.b0; omega)]
 ac_rfl
def SameD(S S':Cst):Prop:=S'.n=S.n/\S'.m=S.m/\S'.sc=S.sc/\S'.A=S.A/\S'.bt=S.bt/\S'.r=S.r
def Drp(S:Cst)(i:Nat):Prop:=∀ k,k < i->S.m<=S.c k->∀ j,j < S.m->prt S j k=0
section
variable {P:Program}{w:World}{K:PySem.W.Frag}{mg:Str->Option Value}{base:Heap}{f:Addr}{fd:FuncData}{C:Addr}
def PickR(Pr:Nat->Int->Prop)(_:Hp)(v:V)(j:Nat):Prop:=∃ b,v=.int b/\Pr j b
def pick_mono{Pr:Nat->Int->Prop}:MonoS (PickR Pr):=λ_ _ _ _ h _=>h
def ls_pick{Pr:Nat->Int->Prop}{G:Hp}{x:V}{m:Nat}(h:LsV (PickR Pr) G x (tab m λj=>j)):∃ sc:Nat->Int,LsV IntR G x (tab m sc)/\∀ j,j < m->Pr j (sc j):=by
 obtain⟨p,ys,rfl,h1,h2⟩:=h
 have hl:ys.length=m:=by rw [h2.1,tab_len]
 refine⟨λj=>match ys[j]? with | some (.int b)=>b | _=>0,⟨p,ys,rfl,h1,by rw [tab_len,hl],λi x a q1 q2=>?_⟩,λj hj=>?_⟩
 ·obtain⟨hi,rfl⟩:=tab_get q2
  obtain⟨b,rfl,_⟩:=h2.2 i x i q1 (tab_at hi)
  show V.int b=V.int _
  rw [q1]
 ·have hx:=Yb (show j < ys.length by omega)
  obtain⟨b,e,hb⟩:=h2.2 j _ j hx (tab_at hj)
  dsimp only
  rw [hx,e]
  exact hb
def amt_lt(hI:InjC S){am:Nat->Int}{a:Nat}(h:∀ k,k < S.n->(am k).natAbs < 2 ^ a){j:Nat}(hj:j < S.m):(amt S am j).natAbs < 2 ^ a:=by
 by_cases c:∃ k,k < S.n/\S.c k=j
 ·obtain⟨k,hk,rfl⟩:=c
  rw [amt_hit hI hk hj]
  exact h k hk
 ·rw [amt_none λk hk z=>c ⟨k,hk,z⟩]
  exact YQ _
def Solv(n m:Nat)(R:Nat->Nat->Rat)(q x:Nat->Rat):Prop:=∀ i,i < n->sumQ m (λj=>R i j * x j)=q i
end
def lev(S:Cst)(i:Nat):Int:=dotN S.n (S.L i) S.r
def Feas(S:Cst):Prop:=∀ i,i < S.n->0<=lev S i
def mrkC(S:Cst)(wt:Nat->Int)(v:Nat->Int):Int:=sumN S.n λi=>wt (S.c i) * dotN S.n (S.L i) v
def Enter(S:Cst)(wt:Nat->Int)(j:Nat):Prop:=j < S.m/\wt j * S.u < mrkC S wt (S.A j)/\∀ j',j' < j->mrkC S wt (S.A j')<=wt j' * S.u
def Used(S:Cst)(j k:Nat):Prop:=k < S.n/\0 < prt S j k/\∀ i,i < S.n->0 < prt S j i->lev S k * prt S j i < lev S i * prt S j k\/(lev S k * prt S j i=lev S i * prt S j k/\S.c k<=S.c i)
def Used.le{j k:Nat}(h:Used S j k){i:Nat}(hi:i < S.n)(hp:0 < prt S j i):lev S k * prt S j i<=lev S i * prt S j k:=by
 rcases h.2.2 i hi hp with h | ⟨h,_⟩ <;> omega
def ci_dot(h:CI S g e){j k:Nat}(hj:j < S.m)(hk:k < S.n){i:Nat}(hi:i < S.n)(v:Nat->Int):(if i=k then dotN S.n ((cstC S j k).L i) v=sgnI (prt S j k) * dotN S.n (S.L k) v else S.u * dotN S.n ((cstC S j k).L i) v=sgnI (prt S j k) * (prt S j k * dotN S.n (S.L i) v - prt S j i * dotN S.n (S.L k) v)):=by
 split
 ·rename_i c
  subst c
  have:=dotN_lin (n:=S.n) (l:=(cstC S j i).L i) (l1:=S.L i) (l2:=S.L i) (v:=v) (x:=1) (a:=sgnI (prt S j i)) (b:=0) λt ht=>by
   show 1 * chL S j i i t=_
   unfold chL
   rw [if_pos rfl]
   omega
  omega
 ·rename_i c
  have:=dotN_lin (n:=S.n) (l:=(cstC S j k).L i) (l1:=S.L i) (l2:=S.L k) (v:=v) (x:=S.u) (a:=sgnI (prt S j k) * prt S j k) (b:=-(sgnI (prt S j k) * prt S j i)) λt ht=>by
   rw [show (cstC S j k).L i t=chL S j k i t from rfl,ci_exact h hj hk hi c ht,Int.mul_sub,Int.mul_assoc,Int.neg_mul,Int.mul_assoc]
   omega
  rw [this,Int.mul_sub,Int.mul_assoc,Int.neg_mul,Int.mul_assoc]
  omega
def sgn_pos{x:Int}(h:0 < x):sgnI x=1:=if_pos h
def lev_row(h:CI S g e){j k:Nat}(hj:j < S.m)(hk:k < S.n)(hp:0 < prt S j k):lev (cstC S j k) k=lev S k:=by
 have:=ci_dot h hj hk hk S.r
 rw [if_pos rfl,sgn_pos hp,Int.one_mul] at this
 exact this
def lev_else(h:CI S g e){j k:Nat}(hj:j < S.m)(hk:k < S.n)(hp:0 < prt S j k){i:Nat}(hi:i < S.n)(hne:i ≠ k):S.u * lev (cstC S j k) i=prt S j k * lev S i - prt S j i * lev S k:=by
 have:=ci_dot h hj hk hi S.r
 rw [if_neg hne,sgn_pos hp,Int.one_mul] at this
 exact this
def feas_next(h:CI S g e)(hF:Feas S){j k:Nat}(hj:j < S.m)(hu:Used S j k):Feas (cstC S j k):=λi hi=>by
 have hk:=hu.1
 have hp:=hu.2.1
 by_cases c:i=k
 ·subst c
  rw [lev_row h hj hi hp]
  exact hF i hi
 ·have h1:=lev_else h hj hk hp (i:=i) hi c
  have hpos:=h.pv.pos
  have h2:0<=prt S j k * lev S i - prt S j i * lev S k:=by
   by_cases cp:0 < prt S j i
   ·have:=hu.le hi cp
    rw [Int.mul_comm (lev S k),Int.mul_comm (lev S i)] at this
    omega
   ·have h3:=Int.mul_nonneg (Int.le_of_lt hp) (hF i hi)
    have h4:=Int.mul_nonneg (show 0<=-prt S j i by omega) (hF k hk)
    rw [Int.neg_mul] at h4
    omega
  rw [<- h1] at h2
  by_cases cl:0<=lev (cstC S j k) i
  ·exact cl
  ·have:=Int.mul_neg_of_pos_of_neg hpos (show lev (cstC S j k) i < 0 by omega)
   omega
def wth(S:Cst)(wt:Nat->Int):Int:=mrkC S wt S.r
def sumN_add(n:Nat)(f g:Nat->Int):sumN n (λi=>f i + g i)=sumN n f + sumN n g:=by
 have:=sumN_lin n 1 1 f g
 simpa using this
def sumN_sub(n:Nat)(f g:Nat->Int):sumN n (λi=>f i - g i)=sumN n f - sumN n g:=by
 have:=sumN_lin n 1 (-1) f g
 have e:(λi=>1 * f i + -1 * g i)=λi=>f i - g i:=by funext i; omega
 rw [e] at this
 omega
def sumN_pick{n k:Nat}(hk:k < n)(f:Nat->Int)(x:Int):sumN n (λi=>if i=k then x else f i)=sumN n f - f k + x:=by
 have h1:sumN n (λi=>if i=k then x - f k else 0)=x - f k:=by rw [sumN_one hk λj _ hn=>if_neg hn,if_pos rfl]
 have h2:(λi=>if i=k then x else f i)=λi=>f i + (if i=k then x - f k else 0):=by
  funext i
  by_cases c:i=k
  ·subst c; rw [if_pos rfl,if_pos rfl]; omega
  ·rw [if_neg c,if_neg c]; omega
 rw [h2,sumN_add,h1]
 omega
def mrk_next(h:CI S g e){j k:Nat}(hj:j < S.m)(hk:k < S.n)(hp:0 < prt S j k)(wt v:Nat->Int):S.u * mrkC (cstC S j k) wt v=prt S j k * mrkC S wt v - dotN S.n (S.L k) v * (mrkC S wt (S.A j) - wt j * S.u):=by
 have e1:S.u * mrkC (cstC S j k) wt v=sumN S.n (λi=>if i=k then wt j * (S.u * dotN S.n (S.L k) v) else wt (S.c i) * (prt S j k * dotN S.n (S.L i) v - prt S j i * dotN S.n (S.L k) v)):=by
  unfold mrkC
  rw [<- sumN_times]
  refine sumN_congr λi hi=>?_
  have:=ci_dot h hj hk (i:=i) hi v
  by_cases c:i=k
  ·subst c
   rw [if_pos rfl,sgn_pos hp,Int.one_mul] at this
   rw [if_pos rfl]
   show S.u * (wt (if i=i then j else S.c i) * _)=_
   rw [if_pos rfl]
   show S.u * (wt j * dotN S.n ((cstC S j i).L i) v)=_
   rw [this]
   ac_rfl
  ·rw [if_neg c,sgn_pos hp,Int.one_mul] at this
   rw [if_neg c]
   show S.u * (wt (if i=k then j else S.c i) * _)=_
   rw [if_neg c,Int.mul_left_comm]
   show wt (S.c i) * (S.u * dotN S.n ((cstC S j k).L i) v)=_
   rw [this]
 rw [e1,sumN_pick hk]
 have e2:sumN S.n (λi=>wt (S.c i) * (prt S j k * dotN S.n (S.L i) v - prt S j i * dotN S.n (S.L k) v))=prt S j k * mrkC S wt v - dotN S.n (S.L k) v * mrkC S wt (S.A j):=by
  unfold mrkC
  rw [<- sumN_times,<- sumN_times,<- sumN_sub]
  refine sumN_congr λi hi=>?_
  rw [Int.mul_sub]
  show _=_ - dotN S.n (S.L k) v * (wt (S.c i) * prt S j i)
  generalize prt S j i=a
  generalize prt S j k=b
  generalize dotN S.n (S.L k) v=c
  generalize dotN S.n (S.L i) v=d
  generalize wt (S.c i)=x
  grind
 rw [e2]
 have e3:wt (S.c k) * (prt S j k * dotN S.n (S.L k) v - prt S j k * dotN S.n (S.L k) v)=0:=by rw [Int.sub_self,Int.mul_zero]
 rw [e3]
 generalize dotN S.n (S.L k) v=c
 generalize mrkC S wt v=m1
 generalize mrkC S wt (S.A j)=m2
 grind
def line_col(h:CI S g e){i k:Nat}(hi:i < S.n)(hk:k < S.n):dotN S.n (S.L k) (colS S g (S.c i))=if k=i then S.u else 0:=by
 rw [h.pv.line k hk]
 split
 ·rename_i c
  subst c
  rw [show colP (λi=>colS S g (S.c i)) k (colS S g (S.c k))=λi=>colS S g (S.c i) from colP_self _ k]
  exact h.pv.det.symm
 ·rename_i c
  rw [dt_two hi hk (Ne.symm c) ?_,Int.mul_zero]
  unfold colP
  rw [if_neg (Ne.symm c),if_pos rfl]
def mrk_basic(h:CI S g e)(wt:Nat->Int){i:Nat}(hi:i < S.n):mrkC S wt (colS S g (S.c i))=wt (S.c i) * S.u:=by
 unfold mrkC
 rw [sumN_one hi λk hk hn=>?_]
 ·rw [line_col h hi hi,if_pos rfl]
 ·rw [line_col h hi hk,if_neg hn,Int.mul_zero]
def enter_free(h:CI S g e){wt:Nat->Int}{j:Nat}(hE:Enter S wt j){i:Nat}(hi:i < S.n):S.c i ≠ j:=λz=>by
 have h1:=mrk_basic h wt hi
 rw [z] at h1
 have h2:colS S g j=S.A j:=if_pos hE.1
 rw [h2] at h1
 have:=hE.2.1
 omega
def same_basis{S S':Cst}{e e':Int}(h:CI S g e)(h':CI S' g e')(hn:S'.n=S.n)(hm:S'.m=S.m)(hA:S'.A=S.A)(hc:∀ i,i < S.n->S'.c i=S.c i):S'.u=S.u/\∀ i,i < S.n->∀ v,dotN S.n (S'.L i) v=dotN S.n (S.L i) v:=by
 have hcol:∀ j,colS S' g j=colS S g j:=λj=>by unfold colS; rw [hm,hA]
 have hB:∀ i,i < S.n->colS S' g (S'.c i)=colS S g (S.c i):=λi hi=>by rw [hc i hi,hcol]
 have d:dt S.n (λi=>colS S' g (S'.c i))=dt S.n (λi=>colS S g (S.c i)):=dt_congr S.n λj t hj ht=>by rw [hB j hj]
 have p:=h.pv
 have p':=h'.pv
 rw [hn] at p'
 have h1:=p.det
 have h2:=p'.det
 rw [d] at h2
 have o1:=p.one
 have o2:=p'.one
 have he:e'=e:=by
  have a1:=p.pos
  have a2:=p'.pos
  have b1:e=1\/e=-1:=by
   have:e.natAbs * e.natAbs=1:=by rw [<- Int.natAbs_mul,o1]; rfl
   have:=Nat.eq_one_of_mul_eq_one_right this
   omega
  have b2:e'=1\/e'=-1:=by
   have:e'.natAbs * e'.natAbs=1:=by rw [<- Int.natAbs_mul,o2]; rfl
   have:=Nat.eq_one_of_mul_eq_one_right this
   omega
  rcases b1 with rfl | rfl <;> rcases b2 with rfl | rfl <;> first | rfl | (exfalso; omega)
 subst he
 refine⟨by rw [h1,h2],λi hi v=>?_⟩
 rw [p.line i hi v,p'.line i hi v]
 congr 1
 refine dt_congr S.n λj t hj ht=>?_
 unfold colP
 split
 ·rfl
 ·show colS S' g (S'.c j) t=colS S g (S.c j) t
  rw [hB j hj]
def divInt_le{a b c d:Int}(hb:0 < b)(hd:0 < d):Rat.divInt a b<=Rat.divInt c d ↔ a * d<=c * b:=by
 rw [Rat.le_iff_sub_nonneg,Rat.divInt_sub_divInt _ _ (by omega) (by omega),Rat.divInt_nonneg_iff_of_pos_right (Int.mul_pos hd hb)]
 omega
structure Run(T:Nat->Cst)(J Rw:Nat->Nat)(wt g:Nat->Int)(N:Nat):Prop where
 ent:∀ k,k < N->Enter (T k) wt (J k)
 usd:∀ k,k < N->Used (T k) (J k) (Rw k)
 nxt:∀ k,k < N->T (k + 1)=cstC (T k) (J k) (Rw k)
 ci:∀ k,k<=N->∃ e,CI (T k) g e
 cb:∀ k i,k<=N->i < (T 0).n->(T k).c i < (T 0).m + (T 0).n
def Run.dat{T:Nat->Cst}{J Rw:Nat->Nat}{wt g:Nat->Int}{N:Nat}(R:Run T J Rw wt g N):∀ k,k<=N->(T k).n=(T 0).n/\(T k).m=(T 0).m/\(T k).A=(T 0).A/\(T k).r=(T 0).r
 | 0,_=>⟨rfl,rfl,rfl,rfl⟩
 | k + 1,h=>by
  have:=R.dat k (by omega)
  rw [R.nxt k (by omega)]
  exact this
def Run.le{T:Nat->Cst}{J Rw:Nat->Nat}{wt g:Nat->Int}{N M:Nat}(R:Run T J Rw wt g N)(h:M<=N):Run T J Rw wt g M:=⟨λk hk=>R.ent k (by omega),λk hk=>R.usd k (by omega),λk hk=>R.nxt k (by omega),λk hk=>R.ci k (by omega),λk i hk hi=>R.cb k i (by omega) hi⟩
section
variable {T:Nat->Cst}{J Rw:Nat->Nat}{wt g:Nat->Int}{N:Nat}
def valR(wt:Nat->Int)(S:Cst):Rat:=Rat.divInt (wth S wt) S.u
theorem Run.u(R:Run T J Rw wt g N){k:Nat}(hk:k<=N):0 < (T k).u:=by obtain⟨e,h⟩:=R.ci k hk; exact h.pv.pos
def Run.cross(R:Run T J Rw wt g N){k:Nat}(hk:k < N):(T k).u * wth (T (k + 1)) wt=(T (k + 1)).u * wth (T k) wt - lev (T k) (Rw k) * (mrkC (T k) wt ((T k).A (J k)) - wt (J k) * (T k).u):=by
 obtain⟨e,h⟩:=R.ci k (by omega)
 have hu:=R.usd k hk
 have hE:=R.ent k hk
 have:=mrk_next h hE.1 hu.1 hu.2.1 wt (T k).r
 rw [R.nxt k hk]
 show _=((prt (T k) (J k) (Rw k)).natAbs:Int) * _ - _
 rw [show ((prt (T k) (J k) (Rw k)).natAbs:Int)=prt (T k) (J k) (Rw k) by have:=hu.2.1; omega]
 exact this
def Run.down(R:Run T J Rw wt g N)(hF:∀ k,k<=N->Feas (T k)){k:Nat}(hk:k < N):valR wt (T (k + 1))<=valR wt (T k)/\(valR wt (T (k + 1))=valR wt (T k)->lev (T k) (Rw k)=0):=by
 have h:=R.cross hk
 have u1:=R.u (k:=k) (by omega)
 have u2:=R.u (k:=k + 1) (by omega)
 have hl:0<=lev (T k) (Rw k):=hF k (by omega) _ (R.usd k hk).1
 have hd:0 < mrkC (T k) wt ((T k).A (J k)) - wt (J k) * (T k).u:=by have:=(R.ent k hk).2.1; omega
 have hm:=Int.mul_nonneg hl (Int.le_of_lt hd)
 unfold valR
 constructor
 ·rw [divInt_le u2 u1,Int.mul_comm,h,Int.mul_comm]
  omega
 ·intro e
  rw [Rat.divInt_eq_divInt_iff (by omega) (by omega),Int.mul_comm,h,Int.mul_comm] at e
  have:lev (T k) (Rw k) * (mrkC (T k) wt ((T k).A (J k)) - wt (J k) * (T k).u)=0:=by omega
  rcases Int.mul_eq_zero.mp this with z | z
  ·exact z
  ·omega
def Run.downs(R:Run T J Rw wt g N)(hF:∀ k,k<=N->Feas (T k)){a:Nat}:∀ d,a + d<=N->valR wt (T (a + d))<=valR wt (T a)
 | 0,_=>Rat.le_refl
 | d + 1,h=>Rat.le_trans (R.down hF (k:=a + d) (by omega)).1 (R.downs hF d (by omega))
def Bas(S:Cst)(q:Nat):Prop:=∃ i,i < S.n/\S.c i=q
def Run.stay(R:Run T J Rw wt g N){k q:Nat}(hk:k < N)(h:Bas (T k) q)(hl:(T k).c (Rw k) ≠ q):Bas (T (k + 1)) q:=by
 obtain⟨i,hi,rfl⟩:=h
 rw [R.nxt k hk]
 refine⟨i,hi,?_⟩
 show (if i=Rw k then J k else (T k).c i)=_
 rw [if_neg (λz=>hl (by rw [z]))]
def Run.came(R:Run T J Rw wt g N){k q:Nat}(hk:k < N)(h:Bas (T (k + 1)) q)(hj:J k ≠ q):Bas (T k) q:=by
 obtain⟨i,hi,e⟩:=h
 rw [R.nxt k hk] at hi e
 change (if i=Rw k then J k else (T k).c i)=q at e
 by_cases c:i=Rw k
 ·rw [if_pos c] at e; exact absurd e hj
 ·rw [if_neg c] at e; exact⟨i,hi,e⟩
def Run.in_(R:Run T J Rw wt g N){k:Nat}(hk:k < N):Bas (T (k + 1)) (J k):=by
 rw [R.nxt k hk]
 exact⟨Rw k,(R.usd k hk).1,if_pos rfl⟩
def Run.out(R:Run T J Rw wt g N){k:Nat}(hk:k < N):¬ Bas (T k) (J k):=λ⟨i,hi,e⟩=>by
 obtain⟨e',h⟩:=R.ci k (by omega)
 exact enter_free h (R.ent k hk) hi e
def Run.stays(R:Run T J Rw wt g N){q a:Nat}:∀ d,a + d<=N->(∀ s,a<=s->s < a + d->(T s).c (Rw s) ≠ q)->Bas (T a) q->Bas (T (a + d)) q
 | 0,_,_,h=>h
 | d + 1,hN,hl,h=>R.stay (k:=a + d) (by omega) (R.stays d (by omega) (λs h1 h2=>hl s h1 (by omega)) h) (hl (a + d) (by omega) (by omega))
def Run.cames(R:Run T J Rw wt g N){q a:Nat}:∀ d,a + d<=N->(∀ s,a<=s->s < a + d->J s ≠ q)->Bas (T (a + d)) q->Bas (T a) q
 | 0,_,_,h=>h
 | d + 1,hN,hl,h=>R.cames d (by omega) (λs h1 h2=>hl s h1 (by omega)) (R.came (k:=a + d) (by omega) h (hl (a + d) (by omega) (by omega)))
def Zr(S:Cst)(q:Nat):Prop:=∀ i,i < S.n->S.c i=q->lev S i=0
def Run.zr(R:Run T J Rw wt g N){k q:Nat}(hk:k < N)(h0:lev (T k) (Rw k)=0):Zr (T (k + 1)) q ↔ Zr (T k) q:=by
 obtain⟨e,h⟩:=R.ci k (by omega)
 have hE:=R.ent k hk
 have hu:=R.usd k hk
 have hpos:=h.pv.pos
 have hp:=hu.2.1
 have l0:=lev_row h hE.1 hu.1 hu.2.1
 have l1:∀ i,i < (T k).n->i ≠ Rw k->((lev (cstC (T k) (J k) (Rw k)) i=0) ↔ lev (T k) i=0):=λi hi hne=>by
  have:=lev_else h hE.1 hu.1 hp hi hne
  rw [h0,Int.mul_zero,Int.sub_zero] at this
  constructor
  ·intro z
   rw [z,Int.mul_zero] at this
   rcases Int.mul_eq_zero.mp this.symm with z | z
   ·omega
   ·exact z
  ·intro z
   rw [z,Int.mul_zero] at this
   rcases Int.mul_eq_zero.mp this with z | z
   ·omega
   ·exact z
 rw [R.nxt k hk]
 constructor
 ·intro hz i hi hc
  by_cases c:i=Rw k
  ·rw [c]; exact h0
  ·exact (l1 i hi c).mp (hz i hi (by show (if i=Rw k then J k else (T k).c i)=q; rw [if_neg c]; exact hc))
 ·intro hz i hi hc
  by_cases c:i=Rw k
  ·rw [c,l0]; exact h0
  ·refine (l1 i hi c).mpr (hz i hi ?_)
   change (if i=Rw k then J k else (T k).c i)=q at hc
   rw [if_neg c] at hc
   exact hc
def Run.zrs(R:Run T J Rw wt g N){q a:Nat}:∀ d,a + d<=N->(∀ s,a<=s->s < a + d->lev (T s) (Rw s)=0)->(Zr (T (a + d)) q ↔ Zr (T a) q)
 | 0,_,_=>Iff.rfl
 | d + 1,hN,hl=>(R.zr (k:=a + d) (by omega) (hl (a + d) (by omega) (by omega))).trans (R.zrs d (by omega) λs h1 h2=>hl s h1 (by omega))
def max_at(J:Nat->Nat)(a:Nat):∀ d,∃ s,a<=s/\s < a + (d + 1)/\∀ s',a<=s'->s' < a + (d + 1)->J s'<=J s
 | 0=>⟨a,by omega,by omega,λs' h1 h2=>by rw [show s'=a by omega]; exact Ya _⟩
 | d + 1=>by
  obtain⟨s,h1,h2,h3⟩:=max_at J a d
  by_cases c:J s<=J (a + (d + 1))
  ·refine⟨a + (d + 1),by omega,by omega,λs' g1 g2=>?_⟩
   by_cases cs:s'=a + (d + 1)
   ·rw [cs]; exact Ya _
   ·exact Yh (h3 s' g1 (by omega)) c
  ·refine⟨s,h1,by omega,λs' g1 g2=>?_⟩
   by_cases cs:s'=a + (d + 1)
   ·rw [cs]; omega
   ·exact h3 s' g1 (by omega)
def dot_back{u:Int}{v p l:Nat->Int}{B:Nat->Nat->Int}(h:∀ t,t < n->u * v t=sumN n λi=>p i * B i t):u * dotN n l v=sumN n λi=>p i * dotN n l (B i):=by
 unfold dotN
 rw [<- sumN_times]
 have e1:sumN n (λt=>u * (l t * v t))=sumN n λt=>sumN n λi=>p i * (l t * B i t):=sumN_congr λt ht=>by
  rw [Int.mul_left_comm,h t ht,<- sumN_times]
  exact sumN_congr λi _=>Int.mul_left_comm ..
 rw [e1,sumN_comm]
 exact sumN_congr λi _=>sumN_times n (p i) _
def mrk_back(hn:S.n=n){wt:Nat->Int}{u:Int}{v p:Nat->Int}{B:Nat->Nat->Int}(h:∀ t,t < n->u * v t=sumN n λi=>p i * B i t):u * mrkC S wt v=sumN n λi=>p i * mrkC S wt (B i):=by
 subst hn
 unfold mrkC
 rw [<- sumN_times]
 have e1:sumN S.n (λk=>u * (wt (S.c k) * dotN S.n (S.L k) v))=sumN S.n λk=>sumN S.n λi=>p i * (wt (S.c k) * dotN S.n (S.L k) (B i)):=sumN_congr λk hk=>by
  rw [Int.mul_left_comm,dot_back (l:=S.L k) h,<- sumN_times]
  exact sumN_congr λi _=>Int.mul_left_comm ..
 rw [e1,sumN_comm]
 exact sumN_congr λi _=>sumN_times S.n (p i) _
def sumN_nonpos{f:Nat->Int}(h:∀ i,i < n->f i<=0):sumN n f<=0:=by
 induction n with
 | zero=>exact Int.le_refl _
 | succ n ih =>
  have h1:=ih λi hi=>h i (by omega)
  have h2:=h n (by omega)
  rw [sumN]
  omega
def Run.once(R:Run T J Rw wt g N)(hF:∀ k,k<=N->Feas (T k)){a d:Nat}(hN:a + (d + 1)<=N)(hc:∀ i,i < (T 0).n->(T (a + (d + 1))).c i=(T a).c i):False:=by
 obtain⟨na,ma,Aa,ra⟩:=R.dat a (by omega)
 obtain⟨nb,mb,Ab,rb⟩:=R.dat (a + (d + 1)) hN
 obtain⟨ea,ha⟩:=R.ci a (by omega)
 obtain⟨eb,hb⟩:=R.ci (a + (d + 1)) hN
 have hsame:=same_basis ha hb (by rw [nb,na]) (by rw [mb,ma]) (by rw [Ab,Aa]) (λi hi=>hc i (by rw [<- na]; exact hi))
 have hval:valR wt (T (a + (d + 1)))=valR wt (T a):=by
  unfold valR wth mrkC
  rw [hsame.1]
  congr 1
  rw [nb,na]
  refine sumN_congr λi hi=>?_
  rw [hc i hi,rb,ra]
  have:=hsame.2 i (by rw [na]; exact hi) (T 0).r
  rw [na] at this
  rw [this]
 have hdeg:∀ s,a<=s->s < a + (d + 1)->lev (T s) (Rw s)=0:=λs h1 h2=>by
  refine (R.down hF (k:=s) (by omega)).2 ?_
  have g1:=(R.down hF (k:=s) (by omega)).1
  have g2:=R.downs hF (a:=a) (s - a) (by omega)
  rw [show a + (s - a)=s by omega] at g2
  have g3:=R.downs hF (a:=s + 1) (a + (d + 1) - (s + 1)) (by omega)
  rw [show s + 1 + (a + (d + 1) - (s + 1))=a + (d + 1) by omega,hval] at g3
  exact Rat.le_antisymm g1 (Rat.le_trans g2 g3)
 obtain⟨s0,s01,s02,s03⟩:=max_at J a d
 have hbas:∀ q,Bas (T (a + (d + 1))) q ↔ Bas (T a) q:=λq=>by
  constructor
  ·rintro⟨i,hi,e⟩; exact⟨i,by rw [na]; rw [nb] at hi; exact hi,by rw [<- hc i (by rw [nb] at hi; exact hi)]; exact e⟩
  ·rintro⟨i,hi,e⟩; exact⟨i,by rw [nb]; rw [na] at hi; exact hi,by rw [hc i (by rw [na] at hi; exact hi)]; exact e⟩
 -- a step at which the greatest one goes out
 obtain⟨sl,sl1,sl2,sl3⟩:∃ sl,a<=sl/\sl < a + (d + 1)/\(T sl).c (Rw sl)=J s0:=by
  refine Classical.byContradiction λhno=>?_
  have hl:∀ s,a<=s->s < a + (d + 1)->(T s).c (Rw s) ≠ J s0:=λs h1 h2 h3=>hno ⟨s,h1,h2,h3⟩
  have g1:=R.in_ (k:=s0) (by omega)
  have g2:=R.stays (a:=s0 + 1) (a + (d + 1) - (s0 + 1)) (by omega) (λs h1 h2=>hl s (by omega) (by omega)) g1
  rw [show s0 + 1 + (a + (d + 1) - (s0 + 1))=a + (d + 1) by omega,hbas] at g2
  have g3:=R.stays (a:=a) (s0 - a) (by omega) (λs h1 h2=>hl s h1 (by omega)) g2
  rw [show a + (s0 - a)=s0 by omega] at g3
  exact R.out (k:=s0) (by omega) g3
 obtain⟨n0,m0,A0,_⟩:=R.dat s0 (by omega)
 obtain⟨nl,ml,Al,_⟩:=R.dat sl (by omega)
 obtain⟨e0,h0⟩:=R.ci s0 (by omega)
 obtain⟨el,hl⟩:=R.ci sl (by omega)
 have hE0:=R.ent s0 (by omega)
 have hEl:=R.ent sl (by omega)
 have hUl:=R.usd sl (by omega)
 have hcol:∀ q,colS (T s0) g q=colS (T sl) g q:=λq=>by unfold colS; rw [m0,ml,A0,Al]
 have ht:J s0 < (T 0).m:=by rw [<- m0]; exact hE0.1
 -- what comes in at sl is less
 have hs:J sl < J s0:=by
  have h1:=s03 sl sl1 sl2
  have h2:J sl ≠ J s0:=λz=>R.out (k:=sl) (by omega) ⟨Rw sl,hUl.1,by rw [sl3,z]⟩
  omega
 have rc_pos:∀ q,q < J s0->0<=wt q * (T s0).u - mrkC (T s0) wt (colS (T s0) g q):=λq hq=>by
  have:=hE0.2.2 q hq
  rw [show colS (T s0) g q=(T s0).A q from if_pos (by rw [m0]; omega)]
  omega
 have hsum:sumN (T sl).n (λi=>(wt ((T sl).c i) * (T s0).u - mrkC (T s0) wt (colS (T s0) g ((T sl).c i))) * prt (T sl) (J sl) i)<=0:=by
  refine sumN_nonpos λi hi=>?_
  by_cases ci:i=Rw sl
  ·subst ci
   rw [sl3,show colS (T s0) g (J s0)=(T s0).A (J s0) from if_pos hE0.1]
   have:=hE0.2.1
   exact Int.le_of_lt (Int.mul_neg_of_neg_of_pos (by omega) hUl.2.1)
  ·by_cases cf:∃ s,a<=s/\s < a + (d + 1)/\J s=(T sl).c i
   ·obtain⟨s,f1,f2,f3⟩:=cf
    have hq1:(T sl).c i ≠ J s0:=λz=>ci (ci_inj hl i (Rw sl) hi hUl.1 (by rw [z,ml]; exact ht) (by rw [z,sl3]))
    have hq2:(T sl).c i < J s0:=by have:=s03 s f1 f2; rw [f3] at this; omega
    have hp:prt (T sl) (J sl) i<=0:=by
     refine Int.not_lt.mp λhp=>?_
     have hz:lev (T sl) i=0:=by
      have z1:Zr (T s) ((T sl).c i):=λi' hi' e'=>absurd (⟨i',hi',by rw [e',f3]⟩:Bas (T s) (J s)) (R.out (k:=s) (by omega))
      have z2:Zr (T sl) ((T sl).c i):=by
       have y1:=R.zrs (q:=(T sl).c i) (a:=a) (s - a) (by omega) λs' g1 g2=>hdeg s' g1 (by omega)
       have y2:=R.zrs (q:=(T sl).c i) (a:=a) (sl - a) (by omega) λs' g1 g2=>hdeg s' g1 (by omega)
       rw [show a + (s - a)=s by omega] at y1
       rw [show a + (sl - a)=sl by omega] at y2
       exact y2.mpr (y1.mp z1)
      exact z2 i hi rfl
     have hz2:=hdeg sl sl1 sl2
     rcases hUl.2.2 i hi hp with g1 | ⟨_,g1⟩
     ·rw [hz,hz2,Int.zero_mul,Int.zero_mul] at g1; omega
     ·rw [sl3] at g1; omega
    have:=Int.mul_nonneg (rc_pos _ hq2) (show 0<=-prt (T sl) (J sl) i by omega)
    rw [Int.mul_neg] at this
    omega
   ·have hb1:Bas (T s0) ((T sl).c i):=by
     have hno:∀ s,a<=s->s < a + (d + 1)->J s ≠ (T sl).c i:=λs h1 h2 h3=>cf ⟨s,h1,h2,h3⟩
     have b0:Bas (T sl) ((T sl).c i):=⟨i,hi,rfl⟩
     have b1:=R.cames (a:=a) (sl - a) (by omega) (λs h1 h2=>hno s h1 (by omega)) (by rw [show a + (sl - a)=sl by omega]; exact b0)
     rw [<- hbas] at b1
     exact R.cames (a:=s0) (a + (d + 1) - s0) (by omega) (λs h1 h2=>hno s (by omega) (by omega)) (by rw [show s0 + (a + (d + 1) - s0)=a + (d + 1) by omega]; exact b1)
    obtain⟨i',hi',e'⟩:=hb1
    have:=mrk_basic h0 wt hi'
    rw [e'] at this
    rw [this,Int.sub_self,Int.zero_mul]
    exact Int.le_refl _
 have hback:=mrk_back (S:=T s0) (wt:=wt) (v:=(T sl).A (J sl)) (n:=(T sl).n) (by rw [n0,nl]) (hl.pv.back ((T sl).A (J sl)))
 have e1:sumN (T sl).n (λi=>(wt ((T sl).c i) * (T s0).u - mrkC (T s0) wt (colS (T s0) g ((T sl).c i))) * prt (T sl) (J sl) i)=(T s0).u * mrkC (T sl) wt ((T sl).A (J sl)) - (T sl).u * mrkC (T s0) wt ((T sl).A (J sl)):=by
  rw [hback]
  unfold mrkC
  rw [<- sumN_times,<- sumN_sub]
  refine sumN_congr λi hi=>?_
  rw [hcol]
  show _=_ - prt (T sl) (J sl) i * _
  show (wt ((T sl).c i) * (T s0).u - _) * prt (T sl) (J sl) i=(T s0).u * (wt ((T sl).c i) * prt (T sl) (J sl) i) - _
  generalize prt (T sl) (J sl) i=x
  generalize sumN (T s0).n _=y
  grind
 rw [e1] at hsum
 have r1:=rc_pos (J sl) hs
 rw [show colS (T s0) g (J sl)=(T sl).A (J sl) from by rw [hcol]; exact if_pos hEl.1] at r1
 have ul:=hl.pv.pos
 have u0:=h0.pv.pos
 have hlt:=hEl.2.1
 have f1:=Int.mul_pos u0 (show 0 < mrkC (T sl) wt ((T sl).A (J sl)) - wt (J sl) * (T sl).u by omega)
 have f2:=Int.mul_nonneg (Int.le_of_lt ul) r1
 rw [Int.mul_sub] at f1 f2
 have f3:(T s0).u * (wt (J sl) * (T sl).u)=(T sl).u * (wt (J sl) * (T s0).u):=by ac_rfl
 omega
end
def pigeon:∀ (N:Nat) (f:Nat->Nat),(∀ i,i<=N->f i < N)->∃ i j,i < j/\j<=N/\f i=f j
 | 0,f,h=>absurd (h 0 (Ya _)) (by omega)
 | N + 1,f,h=>by
  by_cases c:∃ i,i<=N/\f i=f (N + 1)
  ·obtain⟨i,hi,e⟩:=c
   exact⟨i,N + 1,by omega,Ya _,e⟩
  ·have hne:∀ i,i<=N->f i ≠ f (N + 1):=λi hi e=>c ⟨i,hi,e⟩
   obtain⟨i,j,h1,h2,h3⟩:=pigeon N (λi=>if f i=N then f (N + 1) else f i) λi hi=>by
    have a1:=h i (by omega)
    have a2:=h (N + 1) (Ya _)
    have a3:=hne i hi
    split <;> omega
   refine⟨i,j,h1,by omega,?_⟩
   have a3:=hne i (by omega)
   have a4:=hne j h2
   split at h3 <;> split at h3 <;> omega
def codeN(M:Nat)(c:Nat->Nat):Nat->Nat
 | 0=>0
 | n + 1=>codeN M c n + c n * M ^ n
def code_lt{M:Nat}{c:Nat->Nat}:∀ n,(∀ i,i < n->c i < M)->codeN M c n < M ^ n
 | 0,_=>by show 0 < 1; decide
 | n + 1,h=>by
  have h1:=code_lt n λi hi=>h i (by omega)
  have h2:=h n (by omega)
  unfold codeN
  rw [Nat.pow_succ]
  calc codeN M c n + c n * M ^ n < M ^ n + c n * M ^ n:=by omega
   _=(c n + 1) * M ^ n:=by rw [Nat.succ_mul]; omega
   _<=M * M ^ n:=Nat.mul_le_mul_right _ h2
   _=M ^ n * M:=Nat.mul_comm _ _
def code_inj{M:Nat}{c d:Nat->Nat}:∀ n,(∀ i,i < n->c i < M)->(∀ i,i < n->d i < M)->codeN M c n=codeN M d n->∀ i,i < n->c i=d i
 | 0,_,_,_,i,hi=>by omega
 | n + 1,hc,hd,e,i,hi=>by
  have c1:=code_lt n λi hi=>hc i (by omega)
  have d1:=code_lt n λi hi=>hd i (by omega)
  unfold codeN at e
  have hp:0 < M ^ n:=Ye (Ys _) c1
  have e1:c n=d n:=by
   have:=congrArg (· / M ^ n) e
   simp only [Nat.add_mul_div_right _ _ hp,Nat.div_eq_of_lt c1,Nat.div_eq_of_lt d1,Nat.zero_add] at this
   exact this
  by_cases ci:i=n
  ·rw [ci]; exact e1
  ·rw [e1] at e
   exact code_inj n (λi hi=>hc i (by omega)) (λi hi=>hd i (by omega)) (by omega) i (by omega)
def Run.short{T:Nat->Cst}{J Rw:Nat->Nat}{wt g:Nat->Int}{N:Nat}(R:Run T J Rw wt g N)(hF:∀ k,k<=N->Feas (T k)):N < ((T 0).m + (T 0).n) ^ (T 0).n:=by
 refine Nat.lt_of_not_le λh=>?_
 have R':=R.le h
 obtain⟨i,j,h1,h2,h3⟩:=pigeon (((T 0).m + (T 0).n) ^ (T 0).n) (λk=>codeN ((T 0).m + (T 0).n) (T k).c (T 0).n) λk hk=>code_lt _ λi hi=>R'.cb k i hk hi
 have:=code_inj _ (λi' hi=>R'.cb i i' (by omega) hi) (λi' hi=>R'.cb j i' h2 hi) h3
 refine R'.once (λk hk=>hF k (by omega)) (a:=i) (d:=j - i - 1) (by omega) λi' hi=>?_
 rw [show i + (j - i - 1 + 1)=j by omega]
 exact (this i' hi).symm
def mrk(S:Cst)(wt:Nat->Int)(t:Nat):Int:=sumN S.n λi=>wt (S.c i) * S.L i t
def mrk_dot(S:Cst)(wt v:Nat->Int):dotN S.n (mrk S wt) v=mrkC S wt v:=by
 unfold dotN mrk mrkC
 have e1:(λt=>sumN S.n (λi=>wt (S.c i) * S.L i t) * v t)=λt=>sumN S.n λi=>wt (S.c i) * (S.L i t * v t):=by
  funext t
  rw [Int.mul_comm,<- sumN_times]
  refine sumN_congr λi _=>?_
  rw [Int.mul_left_comm,Int.mul_comm (v t)]
 rw [e1,sumN_comm]
 refine sumN_congr λi _=>?_
 rw [sumN_times]
 rfl
def col_sum{q:Nat->Rat}(O:Of S R q)(wt:Nat->Int){u:Int}(hu:0 < u){j:Nat}(hj:j < S.m){i:Nat}(hi:i<=S.n):sumQ i (λt=>R t j * Rat.divInt (mrk S wt t) u)=Rat.divInt (sumN i λt=>mrk S wt t * S.A j t) (S.sc j * u):=by
 have hs:=O.s0 j hj
 rw [<- sumQ_div (Int.ne_of_gt (Int.mul_pos hs hu))]
 refine sumQ_congr λt ht=>?_
 rw [O.A j t hj (by omega)]
 conv=>lhs; lhs; rw [<- top_frac (q:=R t j) (b:=S.sc j) (by omega) (O.sd j t hj (by omega))]
 rw [Rat.divInt_mul_divInt,Int.mul_comm (topI _ _)]
def right_sum{q:Nat->Rat}(O:Of S R q)(wt:Nat->Int){u:Int}(hu:0 < u){i:Nat}(hi:i<=S.n):sumQ i (λt=>q t * Rat.divInt (mrk S wt t) u)=Rat.divInt (sumN i λt=>mrk S wt t * S.r t) (u * S.bt):=by
 have hb:=O.b0
 rw [<- sumQ_div (Int.ne_of_gt (Int.mul_pos hu hb))]
 refine sumQ_congr λt ht=>?_
 rw [O.r t (by omega)]
 conv=>lhs; lhs; rw [<- top_frac (q:=q t) (b:=S.bt) (by omega) (O.bd t (by omega))]
 rw [Rat.divInt_mul_divInt,Int.mul_comm (topI _ _),Int.mul_comm S.bt]
def cost_sum{cs x:Nat->Rat}{w2 a:Nat->Int}{D:Int}(hD:D ≠ 0)(hs:∀ j,j < S.m->0 < S.sc j)(hd:∀ j,j < S.m->((cs j).den:Int) ∣ S.sc j)(hw:∀ j,j < S.m->w2 j=topI (cs j) (S.sc j))(hx:∀ j,j < S.m->x j=Rat.divInt (a j * S.sc j) D){i:Nat}(hi:i<=S.m):sumQ i (λj=>cs j * x j)=Rat.divInt (sumN i λj=>a j * w2 j) D:=by
 rw [<- sumQ_div hD]
 refine sumQ_congr λj hj=>?_
 rw [hx j (by omega),row_term (by have:=hs j (by omega); omega) hD (hd j (by omega)),hw j (by omega)]
def amt_cost{am w2:Nat->Int}(h0:∀ k,k < S.n->S.m<=S.c k->am k * w2 (S.c k)=0):sumN S.m (λj=>amt S am j * w2 j)=sumN S.n λk=>am k * w2 (S.c k):=by
 have e1:(λj=>amt S am j * w2 j)=λj=>sumN S.n λk=>w2 j * (if S.c k=j then am k else 0):=by
  funext j
  unfold amt
  rw [sumN_times,Int.mul_comm]
 rw [e1,sumN_comm]
 refine sumN_congr λk hk=>?_
 by_cases c:S.c k < S.m
 ·rw [sumN_one c λj hj hn=>by rw [if_neg (Ne.symm hn),Int.mul_zero],if_pos rfl,Int.mul_comm]
 ·rw [h0 k hk (by omega)]
  exact sumN_zero λj hj=>by rw [if_neg (by omega),Int.mul_zero]
theorem wth_eq(S:Cst)(wt:Nat->Int):wth S wt=sumN S.n λk=>lev S k * wt (S.c k):=by
 unfold wth mrkC
 exact sumN_congr λi _=>Int.mul_comm _ _
def amt_nonneg{am:Nat->Int}(h:∀ k,k < S.n->0<=am k)(j:Nat):0<=amt S am j:=by
 unfold amt
 have:∀ n,n<=S.n->0<=sumN n λk=>if S.c k=j then am k else 0:=λn hn=>by
  induction n with
  | zero=>exact Int.le_refl _
  | succ n ih =>
   rw [sumN]
   have h1:=ih (by omega)
   have h2:=h n (by omega)
   split <;> omega
 exact this S.n (Ya _)
theorem sumN_nonneg0{f:Nat->Int}(h:∀ i,i < n->0<=f i)(h0:sumN n f<=0):∀ i,i < n->f i=0:=by
 induction n with
 | zero=>intro i hi; omega
 | succ n ih =>
  have h1:0<=sumN n f:=by
   have:=sumN_nonpos (n:=n) (f:=λi=>- f i) λi hi=>by have:=h i (by omega); omega
   have e:=sumN_times n (-1) f
   have e2:(λi=>-1 * f i)=λi=>- f i:=by funext i; omega
   rw [e2] at e
   omega
  have h2:=h n (by omega)
  rw [sumN] at h0
  intro i hi
  by_cases c:i=n
  ·subst c; omega
  ·exact ih (λi hi=>h i (by omega)) (by omega) i (by omega)
def sp_columnI:Sp:=λvs H Q _=>∃ (v:V) (j n m:Nat) (r:Nat->Nat->Int),vs=[v,.int (j:Int)]/\LsV (LsV IntR) H v (tab n λi=>tab m (r i))/\n < 1000/\j < m/\∀ x H',Same H H'->LsV IntR (Nw H H') x (tab n λi=>r i j)->Q x H'
structure Wt(S:Cst)(wt:Nat->Int):Prop where
 cb:∀ i,i < S.n->S.c i < S.m + S.n
 sz:∀ j,j < S.m + S.n->(wt j).natAbs < 2 ^ 1000
def mrk_lt{wt:Nat->Int}(hS:Szs S)(hW:Wt S wt){t:Nat}(ht:t < S.n):(mrk S wt t).natAbs < 2 ^ 3510:=by
 have:=dotN_lt (n:=S.n) (f:=λi=>wt (S.c i)) (g:=λi=>S.L i t) (a:=1000) (b:=2500) (by have:=hS.n; omega) (λi hi=>hW.sz _ (hW.cb i hi)) λi hi=>hS.L i t hi ht
 exact this
def sp_marks(C:Addr):Sp:=λvs H Q _=>∃ (o ch:Addr) (S:Cst) (wv:V) (wt:Nat->Int),vs=[.ref o,wv]/\ChV C H o ch S/\Szs S/\Wt S wt/\LsV IntR H wv (tab (S.m + S.n) wt)/\∀ y H',Same H H'->LsV IntR (Nw H H') y (tab S.n (mrk S wt))->Q y H'
def sp_prices(C:Addr):Sp:=λvs H Q _=>∃ (o ch:Addr) (S:Cst) (wv:V) (wt:Nat->Int),vs=[.ref o,wv]/\ChV C H o ch S/\Szs S/\Wt S wt/\LsV IntR H wv (tab (S.m + S.n) wt)/\∀ y H',Same H H'->LsV RatV (Nw H H') y (tab S.n λt=>Rat.divInt (mrk S wt t) S.u)->Q y H'
def sp_worth(C:Addr):Sp:=λvs H Q _=>∃ (o ch:Addr) (S:Cst) (wv:V) (wt:Nat->Int),vs=[.ref o,wv]/\ChV C H o ch S/\Szs S/\Wt S wt/\LsV IntR H wv (tab (S.m + S.n) wt)/\∀ y H',Same H H'->RatV H' y (Rat.divInt (wth S wt) (S.u * S.bt))->Q y H'
def sp_cheaper(C:Addr):Sp:=λvs H Q _=>∃ (o ch:Addr) (S:Cst) (wv:V) (wt:Nat->Int),vs=[.ref o,wv]/\ChV C H o ch S/\Szs S/\Wt S wt/\LsV IntR H wv (tab (S.m + S.n) wt)/\(∀ H',Same H H'->(∀ j,j < S.m->mrkC S wt (S.A j)<=wt j * S.u)->Q .non H')/\∀ (j:Nat) H',Same H H'->Enter S wt j->Q (.int (j:Int)) H'
def sp_usedup(C:Addr):Sp:=λvs H Q _=>∃ (o ch:Addr) (S:Cst) (j:Nat),vs=[.ref o,.int (j:Int)]/\ChV C H o ch S/\Szs S/\j < S.m/\(∀ H',Same H H'->(∀ i,i < S.n->prt S j i<=0)->Q .non H')/\∀ (k:Nat) H',Same H H'->Used S j k->Q (.int (k:Int)) H'
section
variable {P:Program}{w:World}{K:PySem.W.Frag}{mg:Str->Option Value}{base:Heap}{f:Addr}{fd:FuncData}{C:Addr}
def ok_columnI(F:Fun K "column_of" "column_of" s_column_of f fd):FnOk P w K mg base CX0 1 f fd ["rows","j"] sp_columnI:=by
 refine okR F sc_column_of λcdv A outer s H vs Q E hr h=>?_
 obtain⟨v,j,n,m,r,rfl,hv,hn,hj,q⟩:=h
 refine⟨_,(b_one (s_ret (q_comp (blkC ["row"] [1] ["j"]) (i_list (q_v 0)) (by exact λs H fp=>(g_name 0 (show List.Nodup (["row","j"]:List Str) from by decide +kernel))) (by exact λs H fp=>(q_ixL (q_v 0) (q_v 1)))))),?_⟩
 rw [show start ["rows","j"] [v,.int (j:Int)]=[some (v),some (.int (j:Int))] from rfl]
 obtain⟨p,ys,rfl,hp,hl,hy⟩:=hv.at
 walk_at "rd"
 simp only [tComp,iList,cxK]
 walk_at "rd"
 refine⟨⟨_,.of hp⟩,?_⟩
 refine blkA_list (B:=noH) IntR (λi=>r i j) int_mono noH_same hp hl hn (λi x hin hx H' k os sm ho hk=>?_) (λp' H' _ s' h'=>q _ _ s' h')
 obtain⟨o,rfl⟩:∃ o,os=[o]:=List.length_eq_one_iff.mp ho
 obtain⟨_,hrow⟩:=hy i x hx
 obtain⟨c,zs,y,rfl,h1,_,h3,h4⟩:=hrow.ix hj
 cases h4
 walk_at "rd"
 exact⟨[_],rfl,rfl,_,sm _ _ (del_sub _ _ h1),_,h3,hk _ _ (λ_ _ z=>z) rfl⟩
def ok_marks(F:Fun K "marks" "Choice.marks" s_Choice_marks f fd)(n_len:mg "len"=none)(n_range:mg "range"=none)(cls_Choice:Cls K C)(nf_chosen:NoAttr K C "chosen")(nf_lines:NoAttr K C "lines")(F_column_of:Fn P w K mg base CX0 1 "column_of" ["rows","j"] sp_columnI)(F_times:Fn P w K mg base CX0 1 "times" ["ones","others"] sp_times):FnOk P w K mg base CX0 2 f fd ["self","costs"] (sp_marks C):=by
 refine okR F sc_Choice_marks λcdv A outer s H vs Q E hr h=>?_
 obtain⟨o,ch,S,wv,wt,rfl,hC,hS,hW,hw,q⟩:=h
 refine⟨_,(b_cons (s_set 2 sc_Choice_marks.nd (q_comp (blkC ["j"] [1] ["costs"]) (i_list (q_fld (q_v 0))) (by exact λs H fp=>(g_name 0 (show List.Nodup (["j","costs"]:List Str) from by decide +kernel))) (by exact λs H fp=>(q_ixL (q_v 1) (q_v 0)))))
   (b_one (s_ret (q_comp (blkC ["k"] [0,2] ["self","own"]) (i_rng1 rfl n_range (a_c (q_len rfl n_len (a_c (q_fld (q_v 0)) a_nil)) a_nil)) (by exact λs H fp=>(g_name 0 (show List.Nodup (["k","self","own"]:List Str) from by decide +kernel))) (by exact λs H fp=>(qfn F_times hr (a_c (q_v 2) (a_c (qfn F_column_of hr (a_c (q_fldK K (q_v 1)) (a_c (q_v 0) a_nil))) a_nil)))))))),?_⟩
 rw [show start ["self","costs","own"] [.ref o,wv]=[some (.ref o),some (wv),none] from rfl]
 have hn:=hS.n
 have hm:=hS.m
 obtain⟨dx,sv,cv,rv,lv,h1,h2,h3,h4,h5,h6⟩:=id hC
 obtain⟨pw,rfl,hpw⟩:=hw.ints
 rw [tab_ints] at hpw
 walk_at "rd"
 simp only [tComp,iList,iRng1,cxK]
 walk_at "rd"
 refine⟨C,dx,_,h1,cls_Choice,nf_chosen,_,rfl,ch,rfl,⟨_,.of h2⟩,?_⟩
 refine blkA_list (B:=noH) IntR (λi=>wt (S.c i)) int_mono noH_same h2 (tab_len _ _) (by omega) (λi x hi hx H' k os sm ho hk=>?_) (λpo H1 hpo s1 ho1=>?_)
 ·obtain⟨o',rfl⟩:∃ o,os=[o]:=List.length_eq_one_iff.mp ho
  obtain⟨_,rfl⟩:=tab_get hx
  walk_at "rd"
  exact⟨[_],rfl,rfl,_,sm _ _ hpw,_,atI_tab (hW.cb i hi),hk _ _ (λ_ _ z=>z) rfl⟩
 have h6':=msI_mono _ _ _ _ h6 (offC_sub (o:=o) (ch:=ch))
 obtain⟨pl,ls,rfl,hpl,hll,hls⟩:=h6'.at
 refine⟨C,dx,_,s1 _ _ h1,cls_Choice,nf_lines,_,rfl,pl,rfl,_,.inl (s1 _ _ hpl),?_⟩
 rw [hll]
 refine⟨by omega,by omega,?_⟩
 rw [Yu]
 refine blkA_rng (B:=noH) IntR (mrk S wt) int_mono noH_same (by omega) (λt ht H' k os sm hos hk=>?_) (λp' H' _ s' h'=>q _ _ (s1.trans s') (lsI_mono _ _ _ _ h' (nw_back s1 s')))
 obtain⟨o',rfl⟩:∃ o,os=[o]:=List.length_eq_one_iff.mp hos
 have s1':=s1.trans sm
 walk_at "rd"
 refine⟨[_],rfl,rfl,C,dx,_,s1' _ _ h1,cls_Choice,nf_lines,_,rfl,.ref pl,t,S.n,S.n,S.L,rfl,msI_mono _ _ _ _ h6' s1',by omega,ht,λx H2 s2 hx2=>?_⟩
 refine⟨.ref po,x,S.n,_,_,rfl,lsI_mono _ _ _ _ ho1 ((nw_sub s1).trans (sm.trans s2)),lsI_mono _ _ _ _ hx2 (nw_sub s2),by omega,λi hi=>⟨pow_mono (hW.sz _ (hW.cb i hi)) (by decide),pow_mono (hS.L i t hi ht) (by decide)⟩,λH3 s3=>hk _ _ (s2.trans s3) rfl⟩
def ok_prices(F:Fun K "prices" "Choice.prices" s_Choice_prices f fd)(cls_Choice:Cls K C)(nf_under:NoAttr K C "under")(M_marks:Mth P w K mg base CX0 2 C "marks" ["self","costs"] (sp_marks C))(F_ratio:Fn P w K mg base CX0 2 "ratio" ["top","bottom"] sp_ratio0):FnOk P w K mg base CX0 3 f fd ["self","costs"] (sp_prices C):=by
 refine okR F sc_Choice_prices λcdv A outer s H vs Q E hr h=>?_
 obtain⟨o,ch,S,wv,wt,rfl,hC,hS,hW,hw,q⟩:=h
 refine⟨_,(b_one (s_ret (q_comp (blkC ["mark"] [0] ["self"]) (i_list (q_meth M_marks hr (by decide) (q_v 0) (a_c (q_v 1) a_nil))) (by exact λs H fp=>(g_name 0 (show List.Nodup (["mark","self"]:List Str) from by decide +kernel))) (by exact λs H fp=>(qfn F_ratio hr (a_c (q_v 0) (a_c (q_fldK K (q_v 1)) a_nil))))))),?_⟩
 rw [show start ["self","costs"] [.ref o,wv]=[some (.ref o),some (wv)] from rfl]
 have hn:=hS.n
 obtain⟨dx,sv,cv,rv,lv,h1,h2,h3,h4,h5,h6⟩:=id hC
 walk_at "rd"
 simp only [tComp,iList,cxK]
 walk_at "rd"
 refine⟨dx,_,h1,rfl,o,ch,S,wv,wt,rfl,hC,hS,hW,hw,λmv H1 s1 hm1=>?_⟩
 obtain⟨pm,rfl,hpm'⟩:=hm1.ints
 rw [tab_ints] at hpm'
 have hpm:=nw_sub s1 _ _ hpm'
 refine⟨pm,rfl,⟨_,.of hpm⟩,?_⟩
 refine blkA_list (B:=noH) RatV (λt=>Rat.divInt (mrk S wt t) S.u) rat_mono noH_same hpm (tab_len _ _) (by omega) (λt x ht hx H' k os sm ho hk=>?_) (λp' H' _ s' h'=>q _ _ (s1.trans s') (lsQ_mono _ _ _ _ h' (nw_back s1 s')))
 obtain⟨o',rfl⟩:∃ o,os=[o]:=List.length_eq_one_iff.mp ho
 obtain⟨_,rfl⟩:=tab_get hx
 have s1':=s1.trans sm
 walk_at "rd"
 refine⟨[_],rfl,rfl,C,dx,_,s1' _ _ h1,cls_Choice,nf_under,_,rfl,_,_,rfl,Big.of hS.u (by decide),by have:=hS.u0; omega,λr H2 s2 hr2=>hk _ _ s2 ?_⟩
 obtain⟨b,rfl,hb⟩:=hr2
 exact⟨b,rfl,tup_nw s2 hb⟩
def ok_worth(F:Fun K "worth" "Choice.worth" s_Choice_worth f fd)(cls_Choice:Cls K C)(nf_under:NoAttr K C "under")(nf_bottom:NoAttr K C "bottom")(nf_rights:NoAttr K C "rights")(M_marks:Mth P w K mg base CX0 2 C "marks" ["self","costs"] (sp_marks C))(F_times:Fn P w K mg base CX0 1 "times" ["ones","others"] sp_times)(F_ratio:Fn P w K mg base CX0 2 "ratio" ["top","bottom"] sp_ratio0):FnOk P w K mg base CX0 3 f fd ["self","costs"] (sp_worth C):=by
 refine okR F sc_Choice_worth λcdv A outer s H vs Q E hr h=>?_
 obtain⟨o,ch,S,wv,wt,rfl,hC,hS,hW,hw,q⟩:=h
 refine⟨_,(b_one (s_ret (qfn F_ratio hr (a_c (qfn F_times hr (a_c (q_meth M_marks hr (by decide) (q_v 0) (a_c (q_v 1) a_nil)) (a_c (q_fld (q_v 0)) a_nil))) (a_c (q_mulL (q_fld (q_v 0)) (q_fld (q_v 0))) a_nil))))),?_⟩
 rw [show start ["self","costs"] [.ref o,wv]=[some (.ref o),some (wv)] from rfl]
 have hn:=hS.n
 obtain⟨dx,sv,cv,rv,lv,h1,h2,h3,h4,h5,h6⟩:=id hC
 walk_at "rd"
 refine⟨dx,_,h1,rfl,o,ch,S,wv,wt,rfl,hC,hS,hW,hw,λmv H1 s1 hm1=>?_⟩
 refine⟨C,dx,_,s1 _ _ h1,cls_Choice,nf_rights,_,rfl,mv,rv,S.n,mrk S wt,S.r,rfl,lsI_mono _ _ _ _ hm1 (nw_sub s1),lsI_mono _ _ _ _ h5 λb u e=>s1 _ _ (offC_sub _ _ e),by omega,λt ht=>⟨pow_mono (mrk_lt hS hW ht) (by decide),pow_mono (hS.r t ht) (by decide)⟩,λH2 s2=>?_⟩
 have s12:=s1.trans s2
 refine⟨C,dx,_,s12 _ _ h1,cls_Choice,nf_under,_,rfl,C,dx,_,s12 _ _ h1,cls_Choice,nf_bottom,_,rfl,_,rfl,_,rfl,mulOk hS.u hS.bt (by decide),_,_,rfl,Big.of (mul_lt_pow hS.u hS.bt) (by decide),Int.ne_of_gt (Int.mul_pos hS.u0 hS.bt0),λr H3 s3 hr3=>q r H3 (s12.trans s3) ?_⟩
 rw [mrk_dot] at hr3
 exact hr3
end
def Reach(wt g:Nat->Int)(S:Cst)(N:Nat)(S':Cst):Prop:=∃ (T:Nat->Cst) (J Rw:Nat->Nat),Run T J Rw wt g N/\(∀ k,k<=N->Feas (T k))/\T 0=S/\T N=S'
def Reach.refl{wt g:Nat->Int}(h:CI S g e)(hF:Feas S)(hc:∀ i,i < S.n->S.c i < S.m + S.n):Reach wt g S 0 S:=⟨λ_=>S,λ_=>0,λ_=>0,⟨λk hk=>by omega,λk hk=>by omega,λk hk=>by omega,λ_ _=>⟨e,h⟩,λ_ i _ hi=>hc i hi⟩,λ_ _=>hF,rfl,rfl⟩
theorem Reach.step{wt g:Nat->Int}{S S':Cst}{N j k:Nat}(h:Reach wt g S N S')(hE:Enter S' wt j)(hU:Used S' j k):Reach wt g S (N + 1) (cstC S' j k):=by
 obtain⟨T,J,Rw,R,hF,h0,hN⟩:=h
 obtain⟨e,hI⟩:=R.ci N (Ya _)
 have hFN:=hF N (Ya _)
 rw [hN] at hI hFN
 have lt:∀ i,i < N + 1->(if i<=N then T i else cstC S' j k)=T i:=λi hi=>if_pos (by omega)
 have eN:(if N + 1<=N then T (N + 1) else cstC S' j k)=cstC S' j k:=if_neg (by omega)
 have d:=R.dat N (Ya _)
 rw [hN] at d
 refine⟨λi=>if i<=N then T i else cstC S' j k,λi=>if i=N then j else J i,λi=>if i=N then k else Rw i,⟨λi hi=>?_,λi hi=>?_,λi hi=>?_,λi hi=>?_,λi i' hi hi'=>?_⟩,λi hi=>?_,?_,eN⟩
 ·rw [lt i hi]
  by_cases c:i=N
  ·rw [if_pos c,c,hN]; exact hE
  ·rw [if_neg c]; exact R.ent i (by omega)
 ·rw [lt i hi]
  by_cases c:i=N
  ·rw [if_pos c,if_pos c,c,hN]; exact hU
  ·rw [if_neg c,if_neg c]; exact R.usd i (by omega)
 ·rw [lt i hi]
  by_cases c:i=N
  ·subst c; rw [if_neg (by omega),if_pos rfl,if_pos rfl,hN]
  ·rw [if_pos (by omega),if_neg c,if_neg c]; exact R.nxt i (by omega)
 ·by_cases c:i<=N
  ·rw [if_pos c]; exact R.ci i c
  ·rw [if_neg c]; exact⟨_,ci_next hI hE.1 hU.1 (Int.ne_of_gt hU.2.1)⟩
 ·rw [if_pos (Ys _)] at hi' ⊢
  by_cases c:i<=N
  ·rw [if_pos c]; exact R.cb i i' c hi'
  ·rw [if_neg c]
   show (if i'=k then j else S'.c i') < _
   split
   ·have:=hE.1; rw [d.2.1] at this; omega
   ·have:=R.cb N i' (Ya _) hi'
    rw [hN] at this
    exact this
 ·show Feas (if i<=N then T i else cstC S' j k)
  by_cases c:i<=N
  ·rw [if_pos c]; exact hF i c
  ·rw [if_neg c]; exact feas_next hI hFN hE.1 hU
 ·dsimp only
  rw [if_pos (Ys _)]; exact h0
def Reach.short{wt g:Nat->Int}{S S':Cst}{N:Nat}(h:Reach wt g S N S'):N < (S.m + S.n) ^ S.n:=by
 obtain⟨T,J,Rw,R,hF,h0,hN⟩:=h
 have:=R.short hF
 rw [h0] at this
 exact this
def Reach.ci{wt g:Nat->Int}{S S':Cst}{N:Nat}(h:Reach wt g S N S'):∃ e,CI S' g e:=by
 obtain⟨T,J,Rw,R,hF,h0,hN⟩:=h
 rw [<- hN]; exact R.ci N (Ya _)
def Reach.fe{wt g:Nat->Int}{S S':Cst}{N:Nat}(h:Reach wt g S N S'):Feas S':=by
 obtain⟨T,J,Rw,R,hF,h0,hN⟩:=h
 rw [<- hN]; exact hF N (Ya _)
theorem Reach.cb{wt g:Nat->Int}{S S':Cst}{N:Nat}(h:Reach wt g S N S'):∀ i,i < S.n->S'.c i < S.m + S.n:=by
 obtain⟨T,J,Rw,R,hF,h0,hN⟩:=h
 rw [<- hN,<- h0]; exact λi hi=>R.cb N i (Ya _) hi
def lev_lt(h:Szs S){i:Nat}(hi:i < S.n):(lev S i).natAbs < 2 ^ 5010:=dotN_lt (a:=2500) (b:=2500) (by have:=h.n; omega) (λt ht=>h.L i t hi ht) λt ht=>h.r t ht
def UsedI(S:Cst)(j i f:Nat):Prop:=f < i/\0 < prt S j f/\∀ i',i' < i->0 < prt S j i'->lev S f * prt S j i' < lev S i' * prt S j f\/(lev S f * prt S j i'=lev S i' * prt S j f/\S.c f<=S.c i')
def cross_lt{a b c p q r:Int}(hp:0 < p)(hq:0 < q)(hr:0 < r)(h1:a * q < b * p)(h2:b * r<=c * q):a * r < c * p:=by
 have g1:=Int.mul_lt_mul_of_pos_right h1 hr
 have g2:=Int.mul_le_mul_of_nonneg_right h2 (Int.le_of_lt hp)
 have g3:b * p * r=b * r * p:=by ac_rfl
 have g4:a * q * r=(a * r) * q:=by ac_rfl
 have g5:c * q * p=(c * p) * q:=by ac_rfl
 rw [g3,g4] at g1
 rw [g5] at g2
 exact Int.lt_of_mul_lt_mul_right (Int.lt_of_lt_of_le g1 g2) (Int.le_of_lt hq)
def cross_eq{a b c p q r:Int}(hq:0 < q)(h1:a * q=b * p)(h2:b * r=c * q):a * r=c * p:=by
 have g4:a * r * q=(a * q) * r:=by ac_rfl
 have g5:c * p * q=(c * q) * p:=by ac_rfl
 refine Int.eq_of_mul_eq_mul_right (by omega) (a:=q) ?_
 rw [g4,g5,h1,<- h2]
 ac_rfl
def cross_le{a b c p q r:Int}(hp:0 < p)(hq:0 < q)(hr:0 < r)(h1:a * q=b * p)(h2:b * r < c * q):a * r < c * p:=by
 have g2:=Int.mul_lt_mul_of_pos_right h2 hp
 have g4:a * r * q=(a * q) * r:=by ac_rfl
 have g5:c * q * p=(c * p) * q:=by ac_rfl
 have g3:b * p * r=b * r * p:=by ac_rfl
 rw [g5] at g2
 refine Int.lt_of_mul_lt_mul_right (a:=q) ?_ (Int.le_of_lt hq)
 rw [g4,h1,g3]
 exact g2
section
variable {P:Program}{w:World}{K:PySem.W.Frag}{mg:Str->Option Value}{base:Heap}{f:Addr}{fd:FuncData}{C:Addr}
def ok_cheaper(F:Fun K "cheaper_column" "cheaper_column" s_cheaper_column f fd)(n_enumerate:mg "enumerate"=none)(cls_Choice:Cls K C)(nf_columns:NoAttr K C "columns")(nf_under:NoAttr K C "under")(M_marks:Mth P w K mg base CX0 2 C "marks" ["self","costs"] (sp_marks C))(F_times:Fn P w K mg base CX0 1 "times" ["ones","others"] sp_times):FnOk P w K mg base CX0 3 f fd ["choice","costs"] (sp_cheaper C):=by
 refine okR F sc_cheaper_column λcdv A outer s H vs Q E hr h=>?_
 obtain⟨o,ch,S,wv,wt,rfl,hC,hS,hW,hw,q1,q2⟩:=h
 refine⟨_,(b_cons (s_set 2 sc_cheaper_column.nd (q_meth M_marks hr (by decide) (q_v 0) (a_c (q_v 1) a_nil)))
   (b_cons (s_for Yj (i_enum rfl n_enumerate (a_c (q_fld (q_v 0)) a_nil)) (g_tup (n:=2) (gs_cons (g_name 3 sc_cheaper_column.nd) (gs_cons (g_name 4 sc_cheaper_column.nd) gs_nil))) (b_one (s_if (t_lt (q_mulL (q_ixL (q_v 1) (q_v 3)) (q_fld (q_v 0))) (qfn F_times hr (a_c (q_v 2) (a_c (q_v 4) a_nil)))) (b_one (s_ret (q_v 3))) b_nil)))
   (b_one (s_ret q_non)))),?_⟩
 rw [show start ["choice","costs","marks","j","column"] [.ref o,wv]=[some (.ref o),some (wv),none,none,none] from rfl]
 have hn:=hS.n
 have hm:=hS.m
 obtain⟨dx,sv,cv,rv,lv,h1,h2,h3,h4,h5,h6⟩:=id hC
 obtain⟨pw,rfl,hpw⟩:=hw.ints
 rw [tab_ints] at hpw
 obtain⟨pc,cs,rfl,hpc,hcl,hcs⟩:=h4.at
 walk_at "rd"
 refine⟨dx,_,h1,rfl,o,ch,S,.ref pw,wt,rfl,hC,hS,hW,hw,λmv H1 s1 hm1=>?_⟩
 simp only [tFor_enum]
 walk_at "rd"
 refine⟨C,dx,_,s1 _ _ h1,cls_Choice,nf_columns,_,rfl,?_⟩
 refine enumK_of (xs:=cs) (λi Z H'=>∃ (o1 o2:Option V),Z=[some (.ref o),some (.ref pw),some mv,o1,o2]/\Same H1 H'/\∀ j,j < i->mrkC S wt (S.A j)<=wt j * S.u)
  ⟨_,_,rfl,λ_ _ z=>z,λj hj=>by omega⟩ (λi Z H' _ ⟨_,_,_,sm,_⟩=>.of (sm _ _ (s1 _ _ (offC_sub _ _ hpc)))) (λi y Z H4 pb H5 hi hP hpb s5 e5=>?_) (λZ H4 hP=>?_)
 ·obtain⟨o1,o2,rfl,sm,h0⟩:=hP
  obtain⟨hin,hcol⟩:=hcs i y hi
  have sm5:=sm.trans s5
  have s15:=s1.trans sm5
  walk_at "rd"
  simp only [e5]
  walk_at "rd"
  refine⟨_,s15 _ _ hpw,_,atI_tab (show i < S.m + S.n by omega),C,dx,_,s15 _ _ h1,cls_Choice,nf_under,_,rfl,_,rfl,_,rfl,mulOk (hW.sz i (by omega)) hS.u (by decide),?_⟩
  refine⟨mv,y,S.n,mrk S wt,S.A i,rfl,lsI_mono _ _ _ _ hm1 ((nw_sub s1).trans sm5),lsI_mono _ _ _ _ hcol λb u e=>s15 _ _ (offC_sub _ _ (del_sub _ _ e)),by omega,λt ht=>⟨pow_mono (mrk_lt hS hW ht) (by decide),pow_mono (hS.A i t hin ht) (by decide)⟩,λH6 s6=>⟨_,rfl,?_⟩⟩
  rw [mrk_dot]
  by_cases c:wt i * S.u < mrkC S wt (S.A i)
  ·rw [if_pos c]
   exact q2 i H6 (s15.trans s6) ⟨hin,c,h0⟩
  ·rw [if_neg c]
   refine⟨sm5.trans s6,λj hj=>?_⟩
   by_cases cj:j=i
   ·subst cj; omega
   ·exact h0 j (by omega)
 ·obtain⟨o1,o2,rfl,sm,h0⟩:=hP
  walk_at "rd"
  rw [hcl] at h0
  exact q1 _ (s1.trans sm) h0
def ok_usedup(F:Fun K "row_used_up" "row_used_up" s_row_used_up f fd)(n_len:mg "len"=none)(n_range:mg "range"=none)(cls_Choice:Cls K C)(nf_columns:NoAttr K C "columns")(nf_chosen:NoAttr K C "chosen")(M_parts:Mth P w K mg base CX0 2 C "parts" ["self","column"] (sp_parts C))(M_levels:Mth P w K mg base CX0 3 C "levels" ["self"] (sp_levels C)):FnOk P w K mg base CX0 4 f fd ["choice","j"] (sp_usedup C):=by
 refine okR F sc_row_used_up λcdv A outer s H vs Q E hr h=>?_
 obtain⟨o,ch,S,j,rfl,hC,hS,hj,q1,q2⟩:=h
 refine⟨_,(b_cons (s_set 2 sc_row_used_up.nd (q_meth M_parts hr (by decide) (q_v 0) (a_c (q_ixL (q_fld (q_v 0)) (q_v 1)) a_nil)))
   (b_cons (s_set 3 sc_row_used_up.nd (q_meth0 M_levels hr (by decide) (q_v 0)))
   (b_cons (s_set 4 sc_row_used_up.nd q_non)
   (b_cons (s_for Yj (i_rng1 rfl n_range (a_c (q_len rfl n_len (a_c (q_v 2) a_nil)) a_nil)) (g_name 5 sc_row_used_up.nd) (b_one (s_if (t_gt (q_ixL (q_v 2) (q_v 5)) q_int) (b_cons (s_if (t_isN (q_v 4) q_non) (b_one (s_set 4 sc_row_used_up.nd (q_v 5))) b_nil)
   (b_cons (s_set 6 sc_row_used_up.nd (q_mulL (q_ixL (q_v 3) (q_v 5)) (q_ixL (q_v 2) (q_v 4))))
   (b_cons (s_set 7 sc_row_used_up.nd (q_mulL (q_ixL (q_v 3) (q_v 4)) (q_ixL (q_v 2) (q_v 5))))
   (b_one (s_if (t_w (w_or (t_lt (q_v 6) (q_v 7)) (w_or1 (t_w (w_and (t_eq (q_v 6) (q_v 7)) (w_and1 (t_lt (q_ixL (q_fld (q_v 0)) (q_v 5)) (q_ixL (q_fld (q_v 0)) (q_v 4))))))))) (b_one (s_set 4 sc_row_used_up.nd (q_v 5))) b_nil))))) b_nil)))
   (b_one (s_ret (q_v 4))))))),?_⟩
 rw [show start ["choice","j","parts","levels","found","k","one","other"] [.ref o,.int (j:Int)]=[some (.ref o),some (.int (j:Int)),none,none,none,none,none,none] from rfl]
 have hn:=hS.n
 obtain⟨dx,sv,cv,rv,lv,h1,h2,h3,h4,h5,h6⟩:=id hC
 obtain⟨pc,ys,yc,rfl,hp,hl,hx,hyc⟩:=h4.ix hj
 walk_at "rd"
 refine⟨dx,_,h1,rfl,C,dx,_,h1,cls_Choice,nf_columns,_,rfl,pc,rfl,_,offC_sub _ _ hp,_,hx,o,ch,S,yc,S.A j,rfl,hC,hS,lsI_mono _ _ _ _ hyc λb u e=>offC_sub _ _ (del_sub _ _ e),λt ht=>hS.A j t hj ht,λpv H1 s1 hpv=>?_⟩
 obtain⟨pp,rfl,hpp'⟩:=hpv.ints
 rw [tab_ints] at hpp'
 have hpp1:=nw_sub s1 _ _ hpp'
 change H1 pp=some (.lst (tab S.n λi=>V.int (prt S j i))) at hpp1
 refine⟨dx,_,s1 _ _ h1,rfl,o,ch,S,rfl,hC.same s1,hS,λlvv H2 s2 hlv=>?_⟩
 obtain⟨pl,rfl,hpl'⟩:=hlv.ints
 rw [tab_ints] at hpl'
 have hpl:=nw_sub s2 _ _ hpl'
 change H2 pl=some (.lst (tab S.n λi=>V.int (lev S i))) at hpl
 have hpp:=s2 _ _ hpp1
 have s12:=s1.trans s2
 simp only [tFor_rng1]
 walk_at "rd"
 refine⟨_,.inl hpp,?_⟩
 rw [tab_len]
 refine⟨by omega,by omega,?_⟩
 rw [Yu]
 refine rngK_of (λi Z H'=>∃ (fv:V) (o1 o2 o3:Option V),Z=[some (.ref o),some (.int (j:Int)),some (.ref pp),some (.ref pl),some fv,o1,o2,o3]/\H'=H2/\((fv=.non/\∀ k,k < i->prt S j k<=0)\/∃ f:Nat,fv=.int (f:Int)/\UsedI S j i f)) ⟨_,_,_,_,rfl,rfl,.inl ⟨rfl,λk hk=>by omega⟩⟩ (λi Z H' hi hP=>?_) (λZ H' hP=>?_)
 ·obtain⟨fv,o1,o2,o3,rfl,rfl,hf⟩:=hP
  walk_at "rd"
  refine⟨_,hpp,_,atI_tab hi,_,rfl,?_⟩
  by_cases cp:0 < prt S j i
  ·rw [if_pos cp]
   rcases hf with ⟨rfl,hf⟩ | ⟨f,rfl,hf⟩
   ·have hu:UsedI S j (i + 1) i:=⟨by omega,cp,λi' hi' hp'=>by
     by_cases c:i'=i
     ·subst c; exact .inr ⟨rfl,Ya _⟩
     ·have:=hf i' (by omega); omega⟩
    rw [if_pos rfl]
    refine⟨_,hpl,_,atI_tab hi,_,hpp,_,atI_tab hi,_,rfl,_,rfl,mulOk (lev_lt hS hi) (prt_lt hS hj hi) (by decide),_,hpl,_,atI_tab hi,_,hpp,_,atI_tab hi,_,rfl,_,rfl,mulOk (lev_lt hS hi) (prt_lt hS hj hi) (by decide),?_⟩
    rw [if_neg (by omega),if_pos rfl]
    refine⟨C,dx,_,s12 _ _ h1,cls_Choice,nf_chosen,_,rfl,ch,rfl,_,s12 _ _ h2,_,atI_tab hi,C,dx,_,s12 _ _ h1,cls_Choice,nf_chosen,_,rfl,ch,rfl,_,s12 _ _ h2,_,atI_tab hi,⟨_,rfl⟩,⟨_,rfl⟩,i,rfl,hu⟩
   ·have hfn:f < S.n:=by have:=hf.1; omega
    rw [if_neg (by intro z; cases z)]
    have hpf:=hf.2.1
    refine⟨_,hpl,_,atI_tab hi,_,_,rfl,hpp,_,atI_tab hfn,_,rfl,_,rfl,mulOk (lev_lt hS hi) (prt_lt hS hj hfn) (by decide),_,_,rfl,hpl,_,atI_tab hfn,_,hpp,_,atI_tab hi,_,rfl,_,rfl,mulOk (lev_lt hS hfn) (prt_lt hS hj hi) (by decide),?_⟩
    have stay:lev S f * prt S j i < lev S i * prt S j f\/(lev S f * prt S j i=lev S i * prt S j f/\S.c f<=S.c i)->UsedI S j (i + 1) f:=λhs=>⟨by have:=hf.1; omega,hpf,λi' hi' hp'=>by
     by_cases c:i'=i
     ·subst c; exact hs
     ·exact hf.2.2 i' (by omega) hp'⟩
    by_cases c1:lev S i * prt S j f < lev S f * prt S j i
    ·rw [if_pos c1]
     refine⟨i,rfl,by omega,cp,λi' hi' hp'=>?_⟩
     by_cases c:i'=i
     ·subst c; exact .inr ⟨rfl,Ya _⟩
     ·have:=hf.2.2 i' (by omega) hp'
      exact .inl (cross_lt cp hpf hp' c1 (by rcases this with h | ⟨h,_⟩ <;> omega))
    ·rw [if_neg c1]
     by_cases c2:lev S i * prt S j f=lev S f * prt S j i
     ·rw [if_pos c2]
      refine⟨C,dx,_,s12 _ _ h1,cls_Choice,nf_chosen,_,rfl,ch,rfl,_,s12 _ _ h2,_,atI_tab hi,C,dx,_,s12 _ _ h1,cls_Choice,nf_chosen,_,rfl,ch,rfl,_,_,rfl,s12 _ _ h2,_,atI_tab hfn,_,rfl,_,rfl,?_⟩
      by_cases c3:(S.c i:Int) < (S.c f:Int)
      ·rw [if_pos c3]
       refine⟨i,rfl,by omega,cp,λi' hi' hp'=>?_⟩
       by_cases c:i'=i
       ·subst c; exact .inr ⟨rfl,Ya _⟩
       ·rcases hf.2.2 i' (by omega) hp' with h | ⟨h,h'⟩
        ·exact .inl (cross_le cp hpf hp' c2 h)
        ·exact .inr ⟨cross_eq hpf c2 h,by omega⟩
      ·rw [if_neg c3]
       exact .inr ⟨f,rfl,stay (.inr ⟨c2.symm,by omega⟩)⟩
     ·rw [if_neg c2]
      exact .inr ⟨f,rfl,stay (.inl (by omega))⟩
  ·rw [if_neg cp]
   rcases hf with ⟨rfl,hf⟩ | ⟨f,rfl,hf⟩
   ·refine .inl ⟨rfl,λk hk=>?_⟩
    by_cases c:k=i
    ·subst c; omega
    ·exact hf k (by omega)
   ·refine .inr ⟨f,rfl,by have:=hf.1; omega,hf.2.1,λi' hi' hp'=>?_⟩
    by_cases c:i'=i
    ·subst c; omega
    ·exact hf.2.2 i' (by omega) hp'
 ·obtain⟨fv,o1,o2,o3,rfl,rfl,hf⟩:=hP
  walk_at "rd"
  rcases hf with ⟨rfl,hf⟩ | ⟨f,rfl,hf⟩
  ·exact q1 _ s12 hf
  ·exact q2 f _ s12 hf
end
def Opt(S:Cst)(wt:Nat->Int):Prop:=∀ j,j < S.m->mrkC S wt (S.A j)<=wt j * S.u
def sp_go(C:Addr):Sp:=λvs H Q _=>∃ (o ch:Addr) (S:Cst) (g:Nat->Int) (e:Int) (c:Nat) (wv:V) (wt:Nat->Int) (Φ:Cst->Prop),vs=[.ref o,wv]/\ChV C H o ch S/\Szb S c/\CI S g e/\Feas S/\Wt S wt/\LsV IntR (offC o ch H) wv (tab (S.m + S.n) wt)/\Φ S/\(∀ S' e' j k,SameD S S'->CI S' g e'->Feas S'->Enter S' wt j->Used S' j k->Φ S'->Φ (cstC S' j k)) /\
 (∀ H' S' e',KeepC o ch H H'->ChV C H' o ch S'->SameD S S'->Szb S' c->CI S' g e'->Feas S'->Wt S' wt->Φ S'->Opt S' wt->Q .non H') /\
 ∀ H' S' e' (j:Nat),KeepC o ch H H'->ChV C H' o ch S'->SameD S S'->Szb S' c->CI S' g e'->Feas S'->Wt S' wt->Φ S'->Enter S' wt j->(∀ i,i < S'.n->prt S' j i<=0)->Q (.int (j:Int)) H'
def SameD.refl(S:Cst):SameD S S:=⟨rfl,rfl,rfl,rfl,rfl,rfl⟩
theorem SameD.next{S S':Cst}(h:SameD S S')(j k:Nat):SameD S (cstC S' j k):=h
def Pgo(C:Addr)(H:Hp)(o ch:Addr)(S:Cst)(g:Nat->Int)(c:Nat)(wv:V)(wt:Nat->Int)(Φ:Cst->Prop)(m:Nat)(Z:St)(H':Hp):Prop:=∃ (N:Nat) (S':Cst) (jv:V) (o1:Option V),Z=[some (.ref o),some wv,some jv,o1]/\m + N=(S.m + S.n) ^ S.n/\KeepC o ch H H'/\ChV C H' o ch S'/\SameD S S'/\Szb S' c/\Reach wt g S N S'/\Φ S'/\((jv=.non/\Opt S' wt)\/∃ j:Nat,jv=.int (j:Int)/\Enter S' wt j)
def wt_of{S S':Cst}{wt g:Nat->Int}{N:Nat}(hW:Wt S wt)(hD:SameD S S')(h:Reach wt g S N S'):Wt S' wt:=⟨λi hi=>by have:=h.cb i (by rw [<- hD.1]; exact hi); rw [hD.1,hD.2.1]; exact this,λj hj=>hW.sz j (by rw [hD.1,hD.2.1] at hj; exact hj)⟩
section
variable {P:Program}{w:World}{K:PySem.W.Frag}{mg:Str->Option Value}{base:Heap}{f:Addr}{fd:FuncData}{C:Addr}
def ok_go(F:Fun K "go_down" "go_down" s_go_down f fd)(F_cheaper_column:Fn P w K mg base CX0 3 "cheaper_column" ["choice","costs"] (sp_cheaper C))(F_row_used_up:Fn P w K mg base CX0 4 "row_used_up" ["choice","j"] (sp_usedup C))(M_choose:Mth P w K mg base CX0 3 C "choose" ["self","j","k"] (sp_choose C)):FnOk P w K mg base CX0 5 f fd ["choice","costs"] (sp_go C):=by
 refine okR F sc_go_down λcdv A outer s H vs Q E hr h=>?_
 obtain⟨o,ch,S,g,e,c,wv,wt,Φ,rfl,hC,hZ,hI,hF,hW,hw,hΦ,hΦn,q1,q2⟩:=h
 refine⟨_,(b_cons (s_set 2 sc_go_down.nd (qfn F_cheaper_column hr (a_c (q_v 0) (a_c (q_v 1) a_nil))))
   (b_cons (s_while Yj (t_notN (q_v 2) q_non) (b_cons (s_set 3 sc_go_down.nd (qfn F_row_used_up hr (a_c (q_v 0) (a_c (q_v 2) a_nil))))
   (b_cons (s_if (t_isN (q_v 3) q_non) (b_one (s_ret (q_v 2))) b_nil)
   (b_cons (s_expr (q_meth M_choose hr (by decide) (q_v 0) (a_c (q_v 2) (a_c (q_v 3) a_nil))))
   (b_one (s_set 2 sc_go_down.nd (qfn F_cheaper_column hr (a_c (q_v 0) (a_c (q_v 1) a_nil)))))))))
   (b_one (s_ret q_non)))),?_⟩
 rw [show start ["choice","costs","j","k"] [.ref o,wv]=[some (.ref o),some (wv),none,none] from rfl]
 refine seq_go λB hB=>?_
 walk_at "rd"
 suffices key:∀ (H1:Hp) (jv:V),Same H H1->((jv=.non/\Opt S wt)\/∃ j:Nat,jv=.int (j:Int)/\Enter S wt j)->B [some (.ref o),some wv,some jv,none] H1 from
  ⟨o,ch,S,wv,wt,rfl,hC,hZ.szs hI,hW,lsI_mono _ _ _ _ hw offC_sub,λH1 s1 h1=>key H1 .non s1 (.inl ⟨rfl,h1⟩),λj H1 s1 h1=>key H1 _ s1 (.inr ⟨j,rfl,h1⟩)⟩
 subst hB
 intro H1 jv s1 hj
 try dsimp only
 refine seq_go λB hB=>?_
 have hR0:=Reach.refl (wt:=wt) hI hF hW.cb
 have hsh:=hR0.short
 refine⟨Pgo C H o ch S g c wv wt Φ,⟨(S.m + S.n) ^ S.n,0,S,jv,_,rfl,rfl,.of s1,hC.same s1,SameD.refl S,hZ,hR0,hΦ,hj⟩,?_⟩
 rintro m Z H2 ⟨N,S',jv,o1,rfl,hm,kp,hC2,hD,hZ2,hR,hΦ2,hj2⟩
 have hsh2:=hR.short
 obtain⟨e',hI2⟩:=hR.ci
 have hF2:=hR.fe
 have hW2:=wt_of hW hD hR
 have hw2:LsV IntR (offC o ch H2) wv (tab (S'.m + S'.n) wt):=by rw [hD.1,hD.2.1]; exact lsI_mono _ _ _ _ hw kp.off
 walk_at "rd"
 rcases hj2 with ⟨rfl,hO⟩ | ⟨j,rfl,hE⟩
 ·rw [if_neg (by intro z; exact z rfl)]
  subst hB
  try dsimp only
  walk_at "rd"
  exact q1 H2 S' e' kp hC2 hD hZ2 hI2 hF2 hW2 hΦ2 hO
 ·rw [if_pos (by intro z; cases z)]
  obtain⟨m',rfl⟩:∃ m',m=m' + 1:=⟨m - 1,by omega⟩
  refine⟨Pgo C H o ch S g c wv wt Φ m',λZ' H' h=>⟨m',by omega,h⟩,o,ch,S',j,rfl,hC2,hZ2.szs hI2,hE.1,λH3 s3 hno=>?_,λk H3 s3 hU=>?_⟩
  ·show (if V.non=V.non then _ else _)
   rw [if_pos rfl]
   exact q2 H3 S' e' j (kp.trans (.of s3)) (hC2.same s3) hD hZ2 hI2 hF2 hW2 hΦ2 hE hno
  ·show (if (V.int (k:Int))=V.non then _ else _)
   rw [if_neg (by intro z; cases z)]
   obtain⟨dx',sv',cv',rv',lv',g1,_⟩:=id hC2
   refine⟨dx',_,s3 _ _ g1,rfl,o,ch,S',j,k,rfl,hC2.same s3,hZ2.szs hI2,hE.1,hU.1,λH4 k4 hC4=>?_⟩
   have hR4:=hR.step hE hU
   obtain⟨e4,hI4⟩:=hR4.ci
   have hZ4:=hZ2.next j k
   have kp4:=(kp.trans (.of s3)).trans k4
   have hW4:=wt_of hW (hD.next j k) hR4
   have hw4:LsV IntR (offC o ch H4) wv (tab ((cstC S' j k).m + (cstC S' j k).n) wt):=by
    rw [show (cstC S' j k).m=S.m from hD.2.1,show (cstC S' j k).n=S.n from hD.1]
    exact lsI_mono _ _ _ _ hw kp4.off
   have hΦ4:=hΦn S' e' j k hD hI2 hF2 hE hU hΦ2
   exact⟨o,ch,cstC S' j k,wv,wt,rfl,hC4,hZ4.szs hI4,hW4,lsI_mono _ _ _ _ hw4 offC_sub,λH5 s5 hO=>⟨N + 1,_,.non,_,rfl,by omega,kp4.trans (.of s5),hC4.same s5,hD.next j k,hZ4,hR4,hΦ4,.inl ⟨rfl,hO⟩⟩,λj5 H5 s5 hE5=>⟨N + 1,_,_,_,rfl,by omega,kp4.trans (.of s5),hC4.same s5,hD.next j k,hZ4,hR4,hΦ4,.inr ⟨j5,rfl,hE5⟩⟩⟩
def sp_way(C:Addr):Sp:=λvs H Q _=>∃ (o ch:Addr) (S:Cst) (j:Nat),vs=[.ref o,.int (j:Int)]/\ChV C H o ch S/\Szs S/\InjC S/\j < S.m/\∀ y H' x,Same H H'->LsV RatV (Nw H H') y (tab S.m λi=>if i=j then Rat.divInt (S.sc j) 1 else x i)->Spr S (λi=>-prt S j i) S.u S.n x->Q y H'
def ok_way(F:Fun K "way_along" "Choice.way_along" s_Choice_way_along f fd)(cls_Choice:Cls K C)(nf_columns:NoAttr K C "columns")(nf_under:NoAttr K C "under")(nf_scales:NoAttr K C "scales")(M_parts:Mth P w K mg base CX0 2 C "parts" ["self","column"] (sp_parts C))(M_spread:Mth P w K mg base CX0 3 C "spread" ["self","amounts","bottom"] (sp_spread C))(F_ratio_d:FnD P w K mg base CX0 2 "ratio" ["top","bottom"] [.int 1] sp_ratio0):FnOk P w K mg base CX0 4 f fd ["self","j"] (sp_way C):=by
 refine okR F sc_Choice_way_along λcdv A outer s H vs Q E hr h=>?_
 obtain⟨o,ch,S,j,rfl,hC,hS,hI,hj,q⟩:=h
 refine⟨_,(b_cons (s_set 2 sc_Choice_way_along.nd (q_meth M_spread hr (by decide) (q_v 0) (a_c (q_comp (blk0 ["part"]) (i_list (q_meth M_parts hr (by decide) (q_v 0) (a_c (q_ixL (q_fld (q_v 0)) (q_v 1)) a_nil))) (by exact λs H fp=>(g_name 0 (show List.Nodup (["part"]:List Str) from by decide +kernel))) (by exact λs H fp=>(q_neg (q_v 0)))) (a_c (q_fld (q_v 0)) a_nil))))
   (b_cons (s_asg (q_fnD F_ratio_d hr (by decide) rfl (a_c (q_ixL (q_fld (q_v 0)) (q_v 1)) a_nil)) (g_sub (q_v 2) (q_v 1)))
   (b_one (s_ret (q_v 2))))),?_⟩
 rw [show start ["self","j","way"] [.ref o,.int (j:Int)]=[some (.ref o),some (.int (j:Int)),none] from rfl]
 have hn:=hS.n
 obtain⟨dx,sv,cv,rv,lv,h1,h2,h3,h4,h5,h6⟩:=id hC
 obtain⟨pc,ys,yc,rfl,hp,hl,hx,hyc⟩:=h4.ix hj
 obtain⟨psc,rfl,hpsc⟩:=h3.ints
 rw [tab_ints] at hpsc
 walk_at "rd"
 simp only [tComp,iList,cxK]
 walk_at "rd"
 refine⟨dx,_,h1,rfl,dx,_,h1,rfl,C,dx,_,h1,cls_Choice,nf_columns,_,rfl,pc,rfl,_,offC_sub _ _ hp,_,hx,o,ch,S,yc,S.A j,rfl,hC,hS,lsI_mono _ _ _ _ hyc λb u e=>offC_sub _ _ (del_sub _ _ e),λt ht=>hS.A j t hj ht,λpv H1 s1 hpv=>?_⟩
 obtain⟨pp,rfl,hpp'⟩:=hpv.ints
 rw [tab_ints] at hpp'
 have hpp1:=nw_sub s1 _ _ hpp'
 change H1 pp=some (.lst (tab S.n λi=>V.int (prt S j i))) at hpp1
 refine⟨pp,rfl,⟨_,.of hpp1⟩,?_⟩
 refine blkA_list (B:=noH) IntR (λi=>-prt S j i) int_mono noH_same hpp1 (tab_len _ _) (by omega) (λi x hi hx H' k os sm ho hk=>?_) (λpn H2 hpn s2 hn2=>?_)
 ·obtain⟨o',rfl⟩:∃ o,os=[o]:=List.length_eq_one_iff.mp ho
  obtain⟨_,rfl⟩:=tab_get hx
  walk_at "rd"
  exact⟨[_],rfl,rfl,hk _ _ (λ_ _ z=>z) rfl⟩
 have s12:=s1.trans s2
 refine⟨C,dx,_,s12 _ _ h1,cls_Choice,nf_under,_,rfl,o,ch,S,.ref pn,_,S.u,rfl,hC.same s12,hS,hI,lsI_mono _ _ _ _ hn2 (nw_sub s2),λi hi=>?_,by have:=hS.u0; omega,Big.of hS.u (by decide),λy H3 x s3 hy hsp=>?_⟩
 ·rw [Int.natAbs_neg]; exact pow_mono (prt_lt hS hj hi) (by decide)
 have s13:=s12.trans s3
 obtain⟨py,zs,rfl,hpy,hzl,hzs⟩:=hy.at
 obtain⟨hpy2,hpy3⟩:=nw_lst hpy
 have hpy0:H py=none:=s12.free hpy2
 refine⟨C,dx,_,s13 _ _ h1,cls_Choice,nf_scales,_,rfl,psc,rfl,_,s13 _ _ (offC_sub _ _ hpsc),_,atI_tab hj,_,_,rfl,Big.of (n:=1) (by decide) (by decide),by decide,λr H4 s4 hr4=>?_⟩
 have hpy4:=s4 _ _ hpy3
 have hz4:ListV RatV H4 zs (tab S.m x):=⟨by rw [hzl,tab_len],λi y aa g1 g2=>by
  obtain⟨_,rfl⟩:=tab_get g2
  exact ((hzs i y g1).2.same del_sub).same ((nw_sub s3).trans s4)⟩
 refine⟨_,rfl,_,hpy4,j,by rw [hzl]; exact ixN_nat hj,q _ _ x (same_upd hpy0 (s13.trans s4)) (rat_ls hpy0 (same_upd hpy0 (s13.trans s4)) upd_same (ratL_upd hpy4 (ratL_set hz4 hr4))) hsp⟩
end
def sp_dropF(C:Addr):Sp:=λvs H Q _=>∃ (o ch:Addr) (S:Cst) (g:Nat->Int) (e:Int) (c:Nat) (Φ:Cst->Prop),vs=[.ref o]/\ChV C H o ch S/\Szb S c/\CI S g e/\Φ S/\(∀ S' e' j k,SameD S S'->CI S' g e'->j < S'.m->k < S'.n->S'.m<=S'.c k->prt S' j k ≠ 0->Φ S'->Φ (cstC S' j k))/\∀ H' S' e',KeepC o ch H H'->ChV C H' o ch S'->SameD S S'->Szb S' c->CI S' g e'->Φ S'->Drp S' S'.n->Q .non H'
section
variable {P:Program}{w:World}{K:PySem.W.Frag}{mg:Str->Option Value}{base:Heap}{f:Addr}{fd:FuncData}{C:Addr}
def ok_dropF(F:Fun K "drop_made_up" "drop_made_up" s_drop_made_up f fd)(n_len:mg "len"=none)(n_range:mg "range"=none)(cls_Choice:Cls K C)(nf_chosen:NoAttr K C "chosen")(M_is_made_up:Mth P w K mg base CX0 1 C "is_made_up" ["self","k"] (sp_made C))(F_column_with_part:Fn P w K mg base CX0 2 "column_with_part" ["choice","k"] (sp_withpart C))(M_choose:Mth P w K mg base CX0 3 C "choose" ["self","j","k"] (sp_choose C)):FnOk P w K mg base CX0 4 f fd ["choice"] (sp_dropF C):=by
 refine okR F sc_drop_made_up λcdv A outer s H vs Q E hr h=>?_
 obtain⟨o,ch,S,g,e,c,Φ,rfl,hC,hZ,hI,hΦ,hΦn,q⟩:=h
 refine⟨_,(b_one (s_for Yj (i_rng1 rfl n_range (a_c (q_len rfl n_len (a_c (q_fld (q_v 0)) a_nil)) a_nil)) (g_name 1 sc_drop_made_up.nd) (b_one (s_if (t_val (q_meth M_is_made_up hr (by decide) (q_v 0) (a_c (q_v 1) a_nil))) (b_cons (s_set 2 sc_drop_made_up.nd (qfn F_column_with_part hr (a_c (q_v 0) (a_c (q_v 1) a_nil))))
   (b_one (s_if (t_notN (q_v 2) q_non) (b_one (s_expr (q_meth M_choose hr (by decide) (q_v 0) (a_c (q_v 2) (a_c (q_v 1) a_nil))))) b_nil))) b_nil)))),?_⟩
 rw [show start ["choice","k","j"] [.ref o]=[some (.ref o),none,none] from rfl]
 have hn:=hZ.n
 obtain⟨dx,sv,cv,rv,lv,h1,h2,h3,h4,h5,h6⟩:=id hC
 walk_at "rd"
 simp only [tFor_rng1]
 walk_at "rd"
 refine⟨C,dx,_,h1,cls_Choice,nf_chosen,_,rfl,ch,rfl,_,.inl h2,?_⟩
 rw [tab_len,Yu]
 refine⟨by omega,by omega,?_⟩
 refine rngK_of (λi Z H'=>∃ (o1 o2:Option V) (S':Cst) (e':Int),Z=[some (.ref o),o1,o2]/\KeepC o ch H H'/\ChV C H' o ch S'/\SameD S S'/\Szb S' c/\CI S' g e'/\Φ S'/\Drp S' i) ⟨_,_,S,e,rfl,.of λ_ _ z=>z,hC,⟨rfl,rfl,rfl,rfl,rfl,rfl⟩,hZ,hI,hΦ,λk hk=>by omega⟩ (λi Z H' hi hP=>?_) (λZ H' hP=>?_)
 ·obtain⟨o1,o2,S',e',rfl,kp,hC',hD,hZ',hI',hΦ',hd⟩:=hP
  have hi':i < S'.n:=by rw [hD.1]; exact hi
  obtain⟨dx',sv',cv',rv',lv',g1,g2,_⟩:=id hC'
  walk_at "rd"
  refine⟨dx',_,g1,rfl,o,ch,S',i,rfl,hC',hi',_,rfl,?_⟩
  refine ite2 (λcm=>?_) (λcm=>?_)
  ·refine⟨o,ch,S',i,rfl,hC',hZ'.szs hI',hi',λj H2 s2 hj hp=>?_,λH2 s2 h0=>?_⟩
   ·show (if ¬ (V.int (j:Int))=V.non then _ else _)
    rw [if_pos (by intro z; cases z)]
    refine⟨dx',_,s2 _ _ g1,rfl,o,ch,S',j,i,rfl,hC'.same s2,hZ'.szs hI',hj,hi',λH3 k3 hC3=>?_⟩
    refine⟨(kp.trans (.of s2)).trans k3,_,hC3,hD,hZ'.next j i,⟨_,ci_next hI' hj hi' hp⟩,hΦn S' e' j i hD hI' hj hi' (by simpa using cm) hp hΦ',λk hk hck j' hj'=>?_⟩
    by_cases ck:k=i
    ·subst ck
     exfalso
     change S'.m<=(if k=k then j else S'.c k) at hck
     rw [if_pos rfl] at hck
     omega
    ·change S'.m<=(if k=i then j else S'.c k) at hck
     rw [if_neg ck] at hck
     exact ci_bare hI' hj hi' (by omega) ck (hd k (by omega) hck j hj) (hd k (by omega) hck j' hj')
   ·show (if ¬ V.non=V.non then _ else _)
    rw [if_neg (by intro z; exact z rfl)]
    refine⟨kp.trans (.of s2),S',hC'.same s2,hD,hZ',⟨_,hI'⟩,hΦ',λk hk hck j' hj'=>?_⟩
    by_cases ck:k=i
    ·subst ck; exact h0 j' hj'
    ·exact hd k (by omega) hck j' hj'
  ·refine⟨kp,S',hC',hD,hZ',⟨_,hI'⟩,hΦ',λk hk hck j' hj'=>?_⟩
   by_cases ck:k=i
   ·subst ck
    exact absurd (decide_eq_true hck) (by simpa using cm)
   ·exact hd k (by omega) hck j' hj'
 ·obtain⟨o1,o2,S',e',rfl,kp,hC',hD,hZ',hI',hΦ',hd⟩:=hP
  walk_at "rd"
  exact q H' S' e' kp hC' hD hZ' hI' hΦ' (by rw [hD.1]; exact hd)
end
theorem den_lt(h:SzQ n q):(q.den:Int).natAbs < 2 ^ n:=by simpa using h.2
def SzQ.le{n m:Nat}(h:SzQ n q)(hm:n<=m):SzQ m q:=h.mono hm
def SzQ.plus{n m:Nat}{p q:Rat}(hp:SzQ n p)(hq:SzQ m q):SzQ (n + m + 1) (p + q):=by
 rw [add_divInt]
 refine SzQ.of (den_mul_ne p q) (add_lt_pow (mul_lt_pow hp.1 (den_lt hq)) (mul_lt_pow hq.1 (den_lt hp)) (Ya _) (by omega)) (pow_mono (mul_lt_pow (den_lt hp) (den_lt hq)) (by omega))
def SzQ.less{n m:Nat}{p q:Rat}(hp:SzQ n p)(hq:SzQ m q):SzQ (n + m + 1) (p - q):=by
 rw [sub_divInt]
 refine SzQ.of (den_mul_ne p q) (sub_lt_pow (mul_lt_pow hp.1 (den_lt hq)) (mul_lt_pow hq.1 (den_lt hp)) (Ya _) (by omega)) (pow_mono (mul_lt_pow (den_lt hp) (den_lt hq)) (by omega))
def SzQ.prod{n m:Nat}{p q:Rat}(hp:SzQ n p)(hq:SzQ m q):SzQ (n + m) (p * q):=by
 rw [mul_divInt]
 exact SzQ.of (den_mul_ne p q) (mul_lt_pow hp.1 hq.1) (mul_lt_pow (den_lt hp) (den_lt hq))
def sz_zero(h:n ≠ 0):SzQ n 0:=⟨YQ n,Nat.one_lt_two_pow h⟩
def SzE(a:Nat)(q:Rat):Prop:=q.num.natAbs < 2 ^ 20000/\q.den < 2 ^ a
def SzQ.toE{a:Nat}(h:SzQ a q)(ha:a<=20000):SzE a q:=⟨pow_mono h.1 ha,h.2⟩
theorem SzE.of{t b:Int}(hb:b ≠ 0)(ht:t.natAbs < 2 ^ 20000)(hb2:b.natAbs < 2 ^ n):SzE n (Rat.divInt t b):=⟨Ye (divInt_num_le hb) ht,Ye (divInt_den_le hb) hb2⟩
def SzF(a:Nat)(q:Rat):Prop:=q.num.natAbs < 2 ^ 100000/\q.den < 2 ^ a
def SzE.toF{a:Nat}(h:SzE a q):SzF a q:=⟨pow_mono h.1 (by decide),h.2⟩
def SzQ.toF{a:Nat}(h:SzQ a q)(ha:a<=20000):SzF a q:=(h.toE ha).toF
def SzE.prodF{a b:Nat}{p q:Rat}(hp:SzE a p)(hq:SzE b q):SzF (a + b) (p * q):=by
 rw [mul_divInt]
 exact⟨Nat.lt_of_le_of_lt (divInt_num_le (den_mul_ne p q)) (pow_mono (mul_lt_pow hp.1 hq.1) (by decide)),Nat.lt_of_le_of_lt (divInt_den_le (den_mul_ne p q)) (mul_lt_pow (a:=a) (b:=b) (by simpa using hp.2) (by simpa using hq.2))⟩
theorem den_ltF(h:SzF n q):(q.den:Int).natAbs < 2 ^ n:=by simpa using h.2
theorem den_ltE(h:SzE n q):(q.den:Int).natAbs < 2 ^ n:=by simpa using h.2
def DotSz(n:Nat)(a b:Nat->Rat):Prop:=∀ i,i < n->∃ x y z,SzE x (sumQ i λj=>a j * b j)/\SzE y (a i)/\SzE z (b i)/\x + y + z<=8000
structure Prc(n m:Nat)(R:Nat->Nat->Rat)(q y:Nat->Rat):Prop where
 d1:∀ j,j < m->DotSz n (λt=>R t j) y
 d2:DotSz n q y
 den:∀ t,t < n->(y t).den < 2 ^ 8000
structure Sol(n m:Nat)(R:Nat->Nat->Rat)(q cs x:Nat->Rat):Prop where
 eq:Solv n m R q x
 nn:∀ j,j < m->0<=x j
 d1:∀ t,t < n->DotSz m (R t) x
 d2:DotSz m cs x
 den:∀ j,j < m->(x j).den < 2 ^ 8000
def LeastT(n m:Nat)(R:Nat->Nat->Rat)(q cs x y:Nat->Rat)(v:Rat):Prop:=Sol n m R q cs x/\Prc n m R q y/\v.den < 2 ^ 8000/\sumQ m (λj=>cs j * x j)=v/\(∀ j,j < m->sumQ n (λt=>R t j * y t)<=cs j)/\sumQ n (λt=>q t * y t)=v
def NoneT(n m:Nat)(R:Nat->Nat->Rat)(q y:Nat->Rat):Prop:=Prc n m R q y/\(∀ j,j < m->sumQ n (λt=>R t j * y t)<=0)/\0 < sumQ n λt=>q t * y t
def EndT(n m:Nat)(R:Nat->Nat->Rat)(q cs x d:Nat->Rat):Prop:=Sol n m R q cs x/\Sol n m R (λ_=>0) cs d/\sumQ m (λj=>cs j * d j) < 0
structure SzIn(n m s z v:Nat)(R:Nat->Nat->Rat)(q cs:Nat->Rat):Prop where
 n8:n<=8
 m9:m < 900
 zR:∀ i j,i < n->j < m->SzQ s (R i j)
 zq:∀ i,i < n->SzQ z (q i)
 zc:∀ j,j < m->SzQ v (cs j)
 s2:s<=250
 v2:v<=250
 b0:s * n + v < 699
 b1:s + (s * n + v) < 899
 b2:(s + (s * n + v) + 4) * n < 2400
 b3:z + z * n < 1999
 b4:z * n < 1299
 z2:z<=1300
section
variable {S:Cst}{R:Nat->Nat->Rat}{q cs:Nat->Rat}{g wt:Nat->Int}{e:Int}{c s z v:Nat}
def mrk_ltb(hZ:Szb S c)(hI:CI S g e)(hW:Wt S wt){t:Nat}(ht:t < S.n):(mrk S wt t).natAbs < 2 ^ 3410 :=
 dotN_lt (n:=S.n) (f:=λi=>wt (S.c i)) (g:=λi=>S.L i t) (a:=1000) (b:=2400) (by have:=hZ.n; omega) (λi hi=>hW.sz _ (hW.cb i hi)) λi hi=>hZ.L hI i t hi ht
def sum_lt{i n a:Nat}{f:Nat->Int}(hn:n < 1000)(hi:i<=n)(h:∀ t,t < n->(f t).natAbs < 2 ^ a):(sumN i f).natAbs < 2 ^ (a + 10):=by
 refine Ye (sumN_lt (a:=a) λt ht=>h t (by omega)) ?_
 rw [YK,Nat.mul_comm]
 exact Nat.mul_lt_mul_of_pos_left (show i < 2 ^ 10 by omega) (YQ _)
def prc_of(I:SzIn S.n S.m s z v R q cs)(O:Of S R q)(hZ:Szb S c)(hI:CI S g e)(hW:Wt S wt):Prc S.n S.m R q λt=>Rat.divInt (mrk S wt t) S.u:=by
 have hu:=hI.pv.pos
 have hn:=hZ.n
 have hy:∀ t,t < S.n->SzE 2400 (Rat.divInt (mrk S wt t) S.u):=λt ht=>SzE.of (by omega) (pow_mono (mrk_ltb hZ hI hW ht) (by decide)) (hZ.u hI)
 have s2:=I.s2
 have z2:=I.z2
 refine⟨λj hj i hi=>?_,λi hi=>?_,λt ht=>pow_mono (hy t ht).2 (by decide)⟩
 ·refine⟨3100,s,2400,?_,(I.zR i j hi hj).toE (by omega),hy i hi,by omega⟩
  rw [col_sum O wt hu hj (by omega)]
  refine SzE.of (Int.ne_of_gt (Int.mul_pos (O.s0 j hj) hu)) (pow_mono (sum_lt (n:=S.n) (a:=4310) (by omega) (by omega) λt ht=>?_) (by decide)) (pow_mono (mul_lt_pow (hZ.sc j hj) (hZ.u hI)) (by decide))
  exact pow_mono (mul_lt_pow (mrk_ltb hZ hI hW ht) (hZ.A j t hj ht)) (by have:=hZ.c1; omega)
 ·refine⟨3700,z,2400,?_,(I.zq i hi).toE (by omega),hy i hi,by omega⟩
  rw [right_sum O wt hu (by omega)]
  refine SzE.of (Int.ne_of_gt (Int.mul_pos hu O.b0)) (pow_mono (sum_lt (n:=S.n) (a:=5410) (by omega) (by omega) λt ht=>?_) (by decide)) (pow_mono (mul_lt_pow (hZ.u hI) hZ.bt) (by decide))
  exact mul_lt_pow (mrk_ltb hZ hI hW ht) (hZ.r t ht)
def mrk_dot'{wt v:Nat->Int}:sumN S.n (λt=>mrk S wt t * v t)=mrkC S wt v:=mrk_dot S wt v
def divInt_pos{a b:Int}(hb:0 < b):0 < Rat.divInt a b ↔ 0 < a:=by
 rw [<- Rat.not_le,show (0:Rat)=Rat.divInt 0 1 from rfl,divInt_le hb (by decide)]
 omega
def divInt_le0{a b:Int}(hb:0 < b):Rat.divInt a b<=0 ↔ a<=0:=by
 rw [show (0:Rat)=Rat.divInt 0 1 from rfl,divInt_le hb (by decide)]
 omega
def none_math(I:SzIn S.n S.m s z v R q cs)(O:Of S R q)(hZ:Szb S c)(hI:CI S g e)(hW:Wt S wt)(h0:∀ j,j < S.m->wt j=0)(hO:Opt S wt)(hw:0 < wth S wt):NoneT S.n S.m R q λt=>Rat.divInt (mrk S wt t) S.u:=by
 have hu:=hI.pv.pos
 refine⟨prc_of I O hZ hI hW,λj hj=>?_,?_⟩
 ·rw [col_sum O wt hu hj (Ya _),mrk_dot' ,divInt_le0 (Int.mul_pos (O.s0 j hj) hu)]
  have:=hO j hj
  rw [h0 j hj,Int.zero_mul] at this
  exact this
 ·rw [right_sum O wt hu (Ya _),mrk_dot',divInt_pos (Int.mul_pos hu O.b0)]
  exact hw
def divInt_nn{a b:Int}(hb:0 < b)(ha:0<=a):0<=Rat.divInt a b:=by
 rw [Rat.divInt_nonneg_iff_of_pos_right hb]; exact ha
def sol_of(I:SzIn S.n S.m s z v R q cs)(O:Of S R q)(hZ:Szb S c){q' x:Nat->Rat}{a w2:Nat->Int}{D:Int}(hD:0 < D)(zD:D.natAbs < 2 ^ 3700)(ha:∀ j,j < S.m->(a j).natAbs < 2 ^ 4410)(ha0:∀ j,j < S.m->0<=a j)(hx:∀ j,j < S.m->x j=Rat.divInt (a j * S.sc j) D)
  (hd:∀ j,j < S.m->((cs j).den:Int) ∣ S.sc j) (hw:∀ j,j < S.m->w2 j=topI (cs j) (S.sc j)) (zw:∀ j,j < S.m->(w2 j).natAbs < 2 ^ 1000) (hs:Solv S.n S.m R q' x):Sol S.n S.m R q' cs x:=by
 have hxz:∀ j,j < S.m->SzE 3700 (x j):=λj hj=>by
  rw [hx j hj]
  exact SzE.of (by omega) (pow_mono (mul_lt_pow (ha j hj) (hZ.sc j hj)) (by decide)) zD
 have s2:=I.s2
 have v2:=I.v2
 have hm:=hZ.m
 refine⟨hs,λj hj=>?_,λt ht i hi=>⟨3700,s,3700,?_,(I.zR t i ht hi).toE (by omega),hxz i hi,by omega⟩,λi hi=>⟨3700,v,3700,?_,(I.zc i hi).toE (by omega),hxz i hi,by omega⟩,λj hj=>pow_mono (hxz j hj).2 (by decide)⟩
 ·rw [hx j hj]
  exact divInt_nn hD (Int.mul_nonneg (ha0 j hj) (Int.le_of_lt (O.s0 j hj)))
 ·rw [row_sum O (by omega) hx ht (by omega)]
  refine SzE.of (by omega) (pow_mono (sum_lt (n:=S.m) (a:=5310) (by omega) (by omega) λj hj=>?_) (by decide)) zD
  exact pow_mono (mul_lt_pow (ha j hj) (hZ.A j t hj ht)) (by have:=hZ.c1; omega)
 ·rw [cost_sum (S:=S) (by omega) O.s0 hd hw hx (by omega)]
  refine SzE.of (by omega) (pow_mono (sum_lt (n:=S.m) (a:=5410) (by omega) (by omega) λj hj=>?_) (by decide)) zD
  exact mul_lt_pow (ha j hj) (zw j hj)
def lev_ltb(hZ:Szb S c)(hI:CI S g e){k:Nat}(hk:k < S.n):(lev S k).natAbs < 2 ^ 4410:=dotN_lt (a:=2400) (b:=2000) (by have:=hZ.n; omega) (λt ht=>hZ.L hI k t hk ht) hZ.r
def sol_now(I:SzIn S.n S.m s z v R q cs)(O:Of S R q)(hZ:Szb S c)(hI:CI S g e)(hF:Feas S)(h0:∀ k,k < S.n->S.m<=S.c k->lev S k=0){x:Nat->Rat}{w2:Nat->Int}(hx:Spr S (λi=>dotN S.n (S.L i) S.r) (S.u * S.bt) S.n x)
  (hd:∀ j,j < S.m->((cs j).den:Int) ∣ S.sc j) (hw:∀ j,j < S.m->w2 j=topI (cs j) (S.sc j)) (zw:∀ j,j < S.m->(w2 j).natAbs < 2 ^ 1000):Sol S.n S.m R q cs x :=
 sol_of I O hZ (a:=amt S λi=>lev S i) (D:=S.u * S.bt) (Int.mul_pos hI.pv.pos O.b0) (pow_mono (mul_lt_pow (hZ.u hI) hZ.bt) (by decide)) (λj hj=>amt_lt (ci_inj hI) (λk hk=>lev_ltb hZ hI hk) hj) (λj _=>amt_nonneg hF j) (λj hj=>spr_amt (ci_inj hI) hx hj) hd hw zw (λi hi=>solves O hI h0 hx hi)
def least_math(I:SzIn S.n S.m s z v R q cs)(O:Of S R q)(hZ:Szb S c)(hI:CI S g e)(hF:Feas S)(h0:∀ k,k < S.n->S.m<=S.c k->lev S k=0){x:Nat->Rat}(hx:Spr S (λi=>dotN S.n (S.L i) S.r) (S.u * S.bt) S.n x)(hW:Wt S wt)
  (hd:∀ j,j < S.m->((cs j).den:Int) ∣ S.sc j) (hw:∀ j,j < S.m->wt j=topI (cs j) (S.sc j)) (hO:Opt S wt):LeastT S.n S.m R q cs x (λt=>Rat.divInt (mrk S wt t) S.u) (Rat.divInt (wth S wt) (S.u * S.bt)):=by
 have hu:=hI.pv.pos
 have hD:=Int.mul_pos hu O.b0
 refine⟨sol_now I O hZ hI hF h0 hx hd hw λj hj=>hW.sz j (by omega),prc_of I O hZ hI hW,?_,?_,λj hj=>?_,?_⟩
 ·exact Ye (divInt_den_le (Int.ne_of_gt hD)) (pow_mono (mul_lt_pow (hZ.u hI) hZ.bt) (by decide))
 ·rw [cost_sum (S:=S) (a:=amt S λi=>lev S i) (Int.ne_of_gt hD) O.s0 hd hw (λj hj=>spr_amt (ci_inj hI) hx hj) (Ya _),amt_cost λk hk hc=>by rw [h0 k hk hc,Int.zero_mul],<- wth_eq]
 ·rw [col_sum O wt hu hj (Ya _),mrk_dot']
  conv=>rhs; rw [<- top_frac (q:=cs j) (b:=S.sc j) (by have:=O.s0 j hj; omega) (hd j hj)]
  rw [divInt_le (Int.mul_pos (O.s0 j hj) hu) (O.s0 j hj),<- hw j hj]
  have:=Int.mul_le_mul_of_nonneg_right (hO j hj) (Int.le_of_lt (O.s0 j hj))
  rw [show wt j * (S.sc j * S.u)=wt j * S.u * S.sc j by ac_rfl]
  exact this
 ·rw [right_sum O wt hu (Ya _),mrk_dot']
  rfl
def end_math(I:SzIn S.n S.m s z v R q cs)(O:Of S R q)(hZ:Szb S c)(hI:CI S g e)(hF:Feas S)(h0:∀ k,k < S.n->S.m<=S.c k->lev S k=0)(hB:Drp S S.n){x d:Nat->Rat}(hx:Spr S (λi=>dotN S.n (S.L i) S.r) (S.u * S.bt) S.n x)(hW:Wt S wt)
  (hd:∀ j,j < S.m->((cs j).den:Int) ∣ S.sc j) (hw:∀ j,j < S.m->wt j=topI (cs j) (S.sc j)) {j:Nat}(hE:Enter S wt j) (hp:∀ i,i < S.n->prt S j i<=0) (hdd:Spr S (λi=>-prt S j i) S.u S.n d):EndT S.n S.m R q cs x λi=>if i=j then Rat.divInt (S.sc j) 1 else d i:=by
 have hu:=hI.pv.pos
 have hj:=hE.1
 have hI':=ci_inj hI
 have hfree:∀ k,k < S.n->S.c k ≠ j:=λk hk=>enter_free hI hE hk
 have haj:amt S (λi=>-prt S j i) j=0:=amt_none hfree
 have hxx:∀ i,i < S.m->(if i=j then Rat.divInt (S.sc j) 1 else d i)=Rat.divInt ((if i=j then S.u else amt S (λi=>-prt S j i) i) * S.sc i) S.u:=λi hi=>by
  by_cases ci:i=j
  ·subst ci
   rw [if_pos rfl,if_pos rfl,Rat.divInt_eq_divInt_iff (by decide) (by omega)]
   rw [Int.mul_one,Int.mul_comm]
  ·rw [if_neg ci,if_neg ci]
   exact spr_amt hI' hdd hi
 have hsum:∀ f:Nat->Int,sumN S.m (λi=>(if i=j then S.u else amt S (λi=>-prt S j i) i) * f i)=sumN S.m (λi=>amt S (λi=>-prt S j i) i * f i) + S.u * f j:=λf=>by
  have e1:(λi=>(if i=j then S.u else amt S (λi=>-prt S j i) i) * f i)=λi=>if i=j then S.u * f j else amt S (λi=>-prt S j i) i * f i:=by
   funext i
   by_cases ci:i=j
   ·subst ci; rw [if_pos rfl,if_pos rfl]
   ·rw [if_neg ci,if_neg ci]
  rw [e1,sumN_pick hj,haj,Int.zero_mul]
  omega
 have hbare:∀ k,k < S.n->S.m<=S.c k->-prt S j k=0:=λk hk hc=>by rw [hB k hk hc j hj]; rfl
 have hsolv:Solv S.n S.m R (λ_=>0) λi=>if i=j then Rat.divInt (S.sc j) 1 else d i:=λt ht=>by
  rw [row_sum O (by omega) hxx ht (Ya _),hsum λi=>S.A i t,amt_sum (g:=g) hbare t]
  have h1:=hI.pv.back (S.A j) t ht
  have e1:sumN S.n (λk=>-prt S j k * colS S g (S.c k) t)=-(S.u * S.A j t):=by
   rw [h1]
   have:=sumN_times S.n (-1) λk=>prt S j k * colS S g (S.c k) t
   rw [show (λk=>-prt S j k * colS S g (S.c k) t)=λk=>-1 * (prt S j k * colS S g (S.c k) t) from by funext k; rw [<- Int.mul_assoc,Int.neg_one_mul],this]
   show -1 * _=-_
   rw [Int.neg_one_mul]
   rfl
  rw [e1,show -(S.u * S.A j t) + S.u * S.A j t=0 by omega,Rat.zero_divInt]
 refine⟨sol_now I O hZ hI hF h0 hx hd hw λj hj=>hW.sz j (by omega),?_,?_⟩
 ·refine sol_of I O hZ hu (pow_mono (hZ.u hI) (by decide)) (λi hi=>?_) (λi hi=>?_) hxx hd hw (λj hj=>hW.sz j (by omega)) hsolv
  ·split
   ·exact pow_mono (hZ.u hI) (by decide)
   ·refine amt_lt hI' (λk hk=>?_) hi
    rw [Int.natAbs_neg]
    exact pow_mono (dotN_lt (a:=2400) (b:=900) (by have:=hZ.n; omega) (λt ht=>hZ.L hI k t hk ht) λt ht=>pow_mono (hZ.A j t hj ht) hZ.c1) (by decide)
  ·split
   ·omega
   ·exact amt_nonneg (λk hk=>by have:=hp k hk; omega) i
 ·rw [cost_sum (S:=S) (by omega) O.s0 hd hw hxx (Ya _),hsum wt,amt_cost λk hk hc=>by rw [hbare k hk hc,Int.zero_mul]]
  have e1:sumN S.n (λk=>-prt S j k * wt (S.c k))=-mrkC S wt (S.A j):=by
   unfold mrkC
   have:=sumN_times S.n (-1) λk=>wt (S.c k) * dotN S.n (S.L k) (S.A j)
   rw [show (λk=>-prt S j k * wt (S.c k))=λk=>-1 * (wt (S.c k) * dotN S.n (S.L k) (S.A j)) from by funext k; show -prt S j k * wt (S.c k)=-1 * (wt (S.c k) * prt S j k); rw [Int.neg_one_mul,Int.neg_mul,Int.mul_comm],this,Int.neg_one_mul]
  rw [e1,<- Rat.not_le,show (0:Rat)=Rat.divInt 0 1 from rfl,divInt_le (by decide) hu]
  have:=hE.2.1
  rw [Int.mul_comm S.u]
  omega
end
def sumS:Nat->(Nat->Nat)->Nat
 | 0,_=>0
 | n + 1,f=>sumS n f + f n
def sp_bottomS:Sp:=λvs H Q _=>∃ (v:V) (n:Nat) (s:Nat->Nat) (q:Nat->Rat),vs=[v]/\LsV RatV H v (tab n q)/\n < 1000/\sumS n s<=8000/\(∀ i,i < n->(q i).den < 2 ^ s i/\s i<=8000)/\∀ b:Int,0 < b->b.natAbs<=2 ^ sumS n s->(∀ i,i < n->((q i).den:Int) ∣ b)->Q (.int b) H
def sumS_le{n i:Nat}{s:Nat->Nat}(h:i<=n):sumS i s<=sumS n s:=by
 induction n with
 | zero=>rw [show i=0 by omega]; exact Ya _
 | succ n ih =>
  by_cases c:i=n + 1
  ·rw [c]; exact Ya _
  ·have:=ih (by omega)
   show _<=sumS n s + s n
   omega
def tab_cat(m n:Nat)(f g:Nat->α):tab m f ++ tab n g=tab (m + n) λi=>if i < m then f i else g (i - m):=by
 refine YH λi=>?_
 by_cases c:i < m
 ·rw [YT (by rw [tab_len]; exact c),tab_at c,tab_at (by omega),if_pos c]
 ·rw [YL (by rw [tab_len]; omega),tab_len]
  by_cases c2:i < m + n
  ·rw [tab_at (by omega),tab_at c2,if_neg c]
  ·rw [Yp (by rw [tab_len]; omega),Yp (by rw [tab_len]; omega)]
def w1(m:Nat):Nat->Int:=λq=>if q < m then 0 else 1
def w2F(m:Nat)(cs:Nat->Rat)(sc:Nat->Int):Nat->Int:=λq=>if q < m then topI (cs q) (sc q) else 0
def Phi1(S:Cst):Prop:=Feas S/\(∀ k,k < S.n->S.m<=S.c k->lev S k=0)/\∀ i,i < S.n->S.c i < S.m + S.n
def Phi2(S:Cst):Prop:=(∀ k,k < S.n->S.m<=S.c k->lev S k=0)/\Drp S S.n
def phi1_next(h:CI S g e){j k:Nat}(hj:j < S.m)(hk:k < S.n)(hc:S.m<=S.c k)(hp:prt S j k ≠ 0)(hP:Phi1 S):Phi1 (cstC S j k):=by
 obtain⟨hF,h0,hb⟩:=hP
 have hlk:=h0 k hk hc
 have hu:=h.pv.pos
 have lk:lev (cstC S j k) k=0:=by
  have:=ci_dot h hj hk hk S.r
  rw [if_pos rfl] at this
  show dotN S.n ((cstC S j k).L k) S.r=0
  rw [this,show dotN S.n (S.L k) S.r=0 from hlk,Int.mul_zero]
 have li:∀ i,i < S.n->i ≠ k->S.u * lev (cstC S j k) i=((prt S j k).natAbs:Int) * lev S i:=λi hi hne=>by
  have:=ci_dot h hj hk hi S.r
  rw [if_neg hne] at this
  show S.u * dotN S.n ((cstC S j k).L i) S.r=_
  rw [this,show dotN S.n (S.L k) S.r=0 from hlk,Int.mul_zero,Int.sub_zero,<- Int.mul_assoc,sgn_mul]
  rfl
 refine⟨λi hi=>?_,λi hi hci=>?_,λi hi=>?_⟩
 ·by_cases c:i=k
  ·rw [c,lk]; exact Int.le_refl _
  ·have h1:=li i hi c
   have h2:=Int.mul_nonneg (show (0:Int)<=(prt S j k).natAbs by omega) (hF i hi)
   rw [<- h1] at h2
   by_cases cl:0<=lev (cstC S j k) i
   ·exact cl
   ·have:=Int.mul_neg_of_pos_of_neg hu (show lev (cstC S j k) i < 0 by omega)
    omega
 ·by_cases c:i=k
  ·rw [c,lk]
  ·change S.m<=(if i=k then j else S.c i) at hci
   rw [if_neg c] at hci
   have h1:=li i hi c
   rw [h0 i hi hci,Int.mul_zero] at h1
   rcases Int.mul_eq_zero.mp h1 with z | z
   ·omega
   ·exact z
 ·show (if i=k then j else S.c i) < S.m + S.n
  split
  ·omega
  ·exact hb i hi
def phi2_next(h:CI S g e){wt:Nat->Int}{j k:Nat}(hE:Enter S wt j)(hU:Used S j k)(hP:Phi2 S):Phi2 (cstC S j k):=by
 obtain⟨h0,hB⟩:=hP
 have hj:=hE.1
 have hk:=hU.1
 have hp:=hU.2.1
 have hu:=h.pv.pos
 refine⟨λi hi hci=>?_,λi hi hci j' hj'=>?_⟩
 ·by_cases c:i=k
  ·subst c
   exfalso
   change S.m<=(if i=i then j else S.c i) at hci
   rw [if_pos rfl] at hci
   omega
  ·change S.m<=(if i=k then j else S.c i) at hci
   rw [if_neg c] at hci
   have:=lev_else h hj hk hp hi c
   rw [h0 i hi hci,hB i hi hci j hj,Int.mul_zero,Int.zero_mul,Int.sub_zero] at this
   rcases Int.mul_eq_zero.mp this with z | z
   ·omega
   ·exact z
 ·by_cases c:i=k
  ·subst c
   exfalso
   change S.m<=(if i=i then j else S.c i) at hci
   rw [if_pos rfl] at hci
   omega
  ·change S.m<=(if i=k then j else S.c i) at hci
   rw [if_neg c] at hci
   exact ci_bare h hj hk hi c (hB i hi hci j hj) (hB i hi hci j' hj')
def phase1(hF:Feas S){m:Nat}(hm:S.m=m)(hw:¬ 0 < wth S (w1 m)):∀ k,k < S.n->S.m<=S.c k->lev S k=0:=λk hk hc=>by
 have h:=sumN_nonneg0 (n:=S.n) (f:=λk=>lev S k * w1 m (S.c k)) (λi hi=>Int.mul_nonneg (hF i hi) (by unfold w1; split <;> decide)) (by rw [<- wth_eq]; omega) k hk
 rw [show w1 m (S.c k)=1 from if_neg (by omega),Int.mul_one] at h
 exact h
def no_end1{m:Nat}(hm:S.m=m){j:Nat}(hE:Enter S (w1 m) j)(hp:∀ i,i < S.n->prt S j i<=0):False:=by
 have h1:=hE.2.1
 rw [show w1 m j=0 from if_pos (by have:=hE.1; omega),Int.zero_mul] at h1
 have h2:mrkC S (w1 m) (S.A j)<=0:=sumN_nonpos λi hi=>by
  have h3:=hp i hi
  have h4:w1 m (S.c i)=0\/w1 m (S.c i)=1:=by unfold w1; split <;> simp
  show w1 m (S.c i) * prt S j i<=0
  rcases h4 with h4 | h4 <;> rw [h4] <;> omega
 omega
def feas0{n m:Nat}{sc:Nat->Int}{q:Nat->Rat}{b:Int}:Feas (cst0 n m sc R q b):=λi hi=>by
 show 0<=dotN n (λt=>if t=i then (if topI (q i) b < 0 then -1 else 1) else 0) λt=>topI (q t) b
 unfold dotN
 rw [sumN_one (show i < n from hi) λt ht hn=>by dsimp only; rw [if_neg hn,Int.zero_mul]]
 dsimp only
 rw [if_pos rfl]
 split <;> omega
def num_pos{a b:Int}(hb:0 < b):0 < (Rat.divInt a b).num ↔ 0 < a:=by
 have h:=num_cross (t:=a) (b:=b) (by omega)
 have hd:(0:Int) < (Rat.divInt a b).den:=by have:=(Rat.divInt a b).den_pos; omega
 constructor
 ·intro hp
  have h1:=Int.mul_pos hp hb
  rw [h] at h1
  by_cases c:0 < a
  ·exact c
  ·have:=Int.mul_nonneg (show 0<=-a by omega) (Int.le_of_lt hd)
   rw [Int.neg_mul] at this
   omega
 ·intro ha
  have h1:=Int.mul_pos ha hd
  rw [<- h] at h1
  by_cases c:0 < (Rat.divInt a b).num
  ·exact c
  ·have:=Int.mul_nonneg (show 0<=-(Rat.divInt a b).num by omega) (Int.le_of_lt hb)
   rw [Int.neg_mul] at this
   omega
def sp_least:Sp:=λvs H Q _=>∃ (rv qv cv:V) (n m s z v:Nat) (R:Nat->Nat->Rat) (q cs:Nat->Rat),vs=[rv,qv,cv]/\LsV (LsV RatV) H rv (tab n λi=>tab m (R i))/\LsV RatV H qv (tab n q)/\LsV RatV H cv (tab m cs)/\SzIn n m s z v R q cs /\
 (∀ p H' yv y,Same H H'->H' p=some (.tup [.str (Str.ofString "none"),yv])->LsV RatV (Nw H H') yv (tab n y)->NoneT n m R q y->Q (.ref p) H') /\
 (∀ p H' xv dv x d,Same H H'->H' p=some (.tup [.str (Str.ofString "endless"),xv,dv])->LsV RatV (Nw H H') xv (tab m x)->LsV RatV (Nw H H') dv (tab m d)->EndT n m R q cs x d->Q (.ref p) H') /\
 (∀ p H' wv xv yv x y u,Same H H'->H' p=some (.tup [.str (Str.ofString "least"),wv,xv,yv])->RatV H' wv u->LsV RatV (Nw H H') xv (tab m x)->LsV RatV (Nw H H') yv (tab n y)->LeastT n m R q cs x y u->Q (.ref p) H')
section
variable {P:Program}{w:World}{K:PySem.W.Frag}{mg:Str->Option Value}{base:Heap}{f:Addr}{fd:FuncData}{C:Addr}
def ok_bottomS(F:Fun K "common_bottom" "common_bottom" s_common_bottom f fd)(F_least_multiple:Fn P w K mg base CX0 2 "least_multiple" ["one","other"] sp_lcm):FnOk P w K mg base CX0 3 f fd ["some"] sp_bottomS:=by
 refine okR F sc_common_bottom λcdv A outer s H vs Q E hr h=>?_
 obtain⟨v,n,z,t,rfl,hv,hn,hzn,ht,q⟩:=h
 refine⟨_,(b_cons (s_set 1 sc_common_bottom.nd q_int)
   (b_cons (s_for Yj (i_list (q_v 0)) (g_name 2 sc_common_bottom.nd) (b_one (s_set 1 sc_common_bottom.nd (qfn F_least_multiple hr (a_c (q_v 1) (a_c (q_ixT (q_v 2) q_int) a_nil))))))
   (b_one (s_ret (q_v 1))))),?_⟩
 rw [show start ["some","bottom","one"] [v]=[some (v),none,none] from rfl]
 obtain⟨p,ys,rfl,hp,hl,hy⟩:=hv.at
 walk_at "rd"
 simp only [tFor_list]
 walk_at "rd"
 refine listK_of (xs:=ys) (λi Z H'=>∃ (o:Option V) (b:Int),Z=[some (.ref p),some (.int b),o]/\H'=H/\0 < b/\b.natAbs<=2 ^ sumS i z/\∀ j,j < i->((t j).den:Int) ∣ b) ⟨_,1,rfl,rfl,by decide,by simp [sumS],λj hj=>by omega⟩ (λi Z H' _ ⟨_,_,_,e,_⟩=>by rw [e]; exact .of hp) (λi x Z H' hi hP=>?_) (λZ H' hP=>?_)
 ·obtain⟨o,b,rfl,rfl,hb,hbz,hd⟩:=hP
  obtain⟨hin,a,rfl,ha⟩:=hy i x hi
  replace ha:=(del_some.mp ha).2
  walk_at "rd"
  simp only [ha,sp_lcm]
  walk_at "rd"
  obtain⟨hden,hz8⟩:=ht i hin
  have hzi:sumS i z<=8000:=Yh (sumS_le (YA hin)) hzn
  refine⟨hb,by have:=(t i).den_pos; omega,?_,?_,lcmI_pos hb (by have:=(t i).den_pos; omega),?_,λj hj=>?_⟩
  ·have:=pow_mono hden hz8
   simpa using this
  ·exact Ye (Yh hbz (YX (by decide) hzi)) (Nat.pow_lt_pow_right (by decide) (by decide))
  ·refine Yh lcmI_le ?_
   show _<=2 ^ (sumS i z + z i)
   rw [YK]
   exact Nat.mul_le_mul hbz (Nat.le_of_lt (by simpa using hden))
  ·by_cases c:j=i
   ·subst c; exact lcmI_right _ _
   ·exact Int.dvd_trans (hd j (by omega)) (lcmI_left _ _)
 ·obtain⟨o,b,rfl,rfl,hb,hbz,hd⟩:=hP
  walk_at "rd"
  rw [hl] at hbz hd
  exact q b hb hbz hd
end
def sumS_two{n s v:Nat}:∀ i,i<=n->sumS i (λk=>if k < n then s else v)=s * i
 | 0,_=>rfl
 | i + 1,h=>by
  show sumS i _ + (if i < n then s else v)=_
  rw [sumS_two i (by omega),if_pos (by omega),Nat.mul_succ]
def rat_here{as:List Rat}(e:H p=some (.lst ys))(hy:ListV RatV H ys as):LsV RatV H (.ref p) as:=by
 refine⟨p,ys,rfl,e,hy.1,λi x a h1 h2=>?_⟩
 obtain⟨b,rfl,hb⟩:=hy.2 i x a h1 h2
 exact⟨b,rfl,del_some.mpr ⟨(λz=>by rw [z,e] at hb; cases hb),hb⟩⟩
def Of.same{S S':Cst}{q:Nat->Rat}(O:Of S R q)(h:SameD S S'):Of S' R q:=by
 obtain⟨d1,d2,d3,d4,d5,d6⟩:=h
 exact⟨λj i hj hi=>by rw [d4,d3]; exact O.A j i (d2 ▸ hj) (d1 ▸ hi),λj i hj hi=>by rw [d3]; exact O.sd j i (d2 ▸ hj) (d1 ▸ hi),λj hj=>by rw [d3]; exact O.s0 j (d2 ▸ hj),λi hi=>by rw [d6,d5]; exact O.r i (d1 ▸ hi),λi hi=>by rw [d5]; exact O.bd i (d1 ▸ hi),by rw [d5]; exact O.b0⟩
theorem SameD.trans{S S' S'':Cst}(h:SameD S S')(h':SameD S' S''):SameD S S'':=⟨h'.1.trans h.1,h'.2.1.trans h.2.1,h'.2.2.1.trans h.2.2.1,h'.2.2.2.1.trans h.2.2.2.1,h'.2.2.2.2.1.trans h.2.2.2.2.1,h'.2.2.2.2.2.trans h.2.2.2.2.2⟩
section
variable {P:Program}{w:World}{K:PySem.W.Frag}{mg:Str->Option Value}{base:Heap}{f:Addr}{fd:FuncData}{C:Addr}
def ok_least(F:Fun K "least" "least" s_least f fd)(n_range:mg "range"=none)(n_len:mg "len"=none)(n_zip:mg "zip"=none)(F_common_bottom:Fn P w K mg base CX0 3 "common_bottom" ["some"] sp_bottomS)(F_column_of:Fn P w K mg base CX0 1 "column_of" ["rows","j"] sp_column)(F_top_over:Fn P w K mg base CX0 1 "top_over" ["one","bottom"] sp_topover)(K_Choice:Mkr P w K mg base CX0 4 C "Choice" ["self","rows","rights","scales"] (sp_initC C))(F_go_down:Fn P w K mg base CX0 5 "go_down" ["choice","costs"] (sp_go C))(F_drop_made_up:Fn P w K mg base CX0 4 "drop_made_up" ["choice"] (sp_dropF C))
  (cls_Choice:Cls K C) (nf_scales:NoAttr K C "scales") (M_worth:Mth P w K mg base CX0 3 C "worth" ["self","costs"] (sp_worth C)) (M_prices:Mth P w K mg base CX0 3 C "prices" ["self","costs"] (sp_prices C)) (M_solution:Mth P w K mg base CX0 4 C "solution" ["self"] (sp_solution C)) (M_way_along:Mth P w K mg base CX0 4 C "way_along" ["self","j"] (sp_way C)):FnOk P w K mg base CX0 6 f fd ["rows","rights","costs"] sp_least:=by
 refine okR F sc_least λcdv A outer s H vs Q E hr h=>?_
 obtain⟨rv,qv,cv,n,m,s',z,v,R,q,cs,rfl,hR,hq,hc,hIn,a1,a2,a3⟩:=h
 refine⟨_,(b_cons (s_set 3 sc_least.nd (q_make K_Choice hr (by decide) rfl (a_c (q_v 0) (a_c (q_v 1) (a_c (q_comp (blkC ["j"] [0,2] ["rows","costs"]) (i_rng1 rfl n_range (a_c (q_len rfl n_len (a_c (q_v 2) a_nil)) a_nil)) (by exact λs H fp=>(g_name 0 (show List.Nodup (["j","rows","costs"]:List Str) from by decide +kernel))) (by exact λs H fp=>(qfn F_common_bottom hr (a_c (q_cat (qfn F_column_of hr (a_c (q_v 1) (a_c (q_v 0) a_nil))) (q_lst (a_c (q_ixL (q_v 2) (q_v 0)) a_nil))) a_nil)))) a_nil)))))
   (b_cons (s_set 4 sc_least.nd (q_cat (q_rep (q_lst (a_c q_int a_nil)) (q_len rfl n_len (a_c (q_v 2) a_nil))) (q_rep (q_lst (a_c q_int a_nil)) (q_len rfl n_len (a_c (q_v 1) a_nil)))))
   (b_cons (s_expr (qfn F_go_down hr (a_c (q_v 3) (a_c (q_v 4) a_nil))))
   (b_cons (s_if (t_gt (q_ixT (q_meth M_worth hr (by decide) (q_v 3) (a_c (q_v 4) a_nil)) q_int) q_int) (b_one (s_ret (q_tup (a_c q_str (a_c (q_meth M_prices hr (by decide) (q_v 3) (a_c (q_v 4) a_nil)) a_nil))))) b_nil)
   (b_cons (s_expr (qfn F_drop_made_up hr (a_c (q_v 3) a_nil)))
   (b_cons (s_set 5 sc_least.nd (q_cat (q_comp (blk0 ["cost","scale"]) (i_zip rfl n_zip (a_c (q_v 2) (a_c (q_fld (q_v 3)) a_nil))) (by exact λs H fp=>(g_tup (n:=2) (gs_cons (g_name 0 (show List.Nodup (["cost","scale"]:List Str) from by decide +kernel)) (gs_cons (g_name 1 (show List.Nodup (["cost","scale"]:List Str) from by decide +kernel)) gs_nil)))) (by exact λs H fp=>(qfn F_top_over hr (a_c (q_v 0) (a_c (q_v 1) a_nil))))) (q_rep (q_lst (a_c q_int a_nil)) (q_len rfl n_len (a_c (q_v 1) a_nil)))))
   (b_cons (s_set 6 sc_least.nd (qfn F_go_down hr (a_c (q_v 3) (a_c (q_v 5) a_nil))))
   (b_cons (s_if (t_notN (q_v 6) q_non) (b_one (s_ret (q_tup (a_c q_str (a_c (q_meth0 M_solution hr (by decide) (q_v 3)) (a_c (q_meth M_way_along hr (by decide) (q_v 3) (a_c (q_v 6) a_nil)) a_nil)))))) b_nil)
   (b_one (s_ret (q_tup (a_c q_str (a_c (q_meth M_worth hr (by decide) (q_v 3) (a_c (q_v 5) a_nil)) (a_c (q_meth0 M_solution hr (by decide) (q_v 3)) (a_c (q_meth M_prices hr (by decide) (q_v 3) (a_c (q_v 5) a_nil)) a_nil))))))))))))))),?_⟩
 rw [show start ["rows","rights","costs","choice","made_up","own","j"] [rv,qv,cv]=[some (rv),some (qv),some (cv),none,none,none,none] from rfl]
 have hn:=hIn.n8
 have hm:=hIn.m9
 have b1:=hIn.b1
 have b0:=hIn.b0
 have s2:=hIn.s2
 have v2:=hIn.v2
 have b3:=hIn.b3
 obtain⟨pcs,ccs,rfl,hpcs,hcsl,hcss⟩:=hc.at
 obtain⟨pq,qs,rfl,hpq,hql,hqs⟩:=hq.at
 refine seq_go λB hB=>?_
 walk_at "rd"
 simp only [tComp,iRng1,cxK]
 walk_at "rd"
 refine⟨_,.inl hpcs,?_⟩
 rw [hcsl]
 refine⟨by omega,by omega,?_⟩
 rw [Yu]
 refine blkA_rng (B:=noH) (PickR λj b=>0 < b/\b.natAbs<=2 ^ (s' * n + v)/\(∀ i,i < n->((R i j).den:Int) ∣ b)/\((cs j).den:Int) ∣ b) (λj=>j) pick_mono noH_same (by omega) (λi hi H' k os sm hos hk=>?_) (λpv H1 hpv s1 hsc=>?_)
 ·obtain⟨o',rfl⟩:∃ o,os=[o]:=List.length_eq_one_iff.mp hos
  walk_at "rd"
  refine⟨[_],rfl,rfl,rv,i,n,m,R,rfl,msQ_mono _ _ _ _ hR sm,by omega,hi,λx H3 s3 hx3=>?_⟩
  obtain⟨px,us,rfl,hpx,hul,hus⟩:=hx3.at
  have hpx3:=nw_sub s3 _ _ hpx
  have s03:=sm.trans s3
  obtain⟨yc,hyc⟩:∃ y,ccs[i]?=some y:=⟨_,Yb (by omega)⟩
  have hycr:=((hcss i yc hyc).2.same del_sub).same s03
  refine⟨_,s03 _ _ hpcs,yc,atI_nat hyc,λpb H4 hpb s4 e4=>⟨px,rfl,us,s4 _ _ hpx3,_,e4,?_,λpc hpc=>?_⟩⟩
  ·have hsl:(1000:Nat)<=sizeLine:=by decide
   rw [hul]
   simp
   omega
  have s5:Same H4 (upd H4 pc (.lst (us ++ [yc]))):=same_new hpc _
  have hall:LsV RatV (upd H4 pc (.lst (us ++ [yc]))) (.ref pc) (tab (n + 1) λi'=>if i' < n then R i' i else cs i):=by
   refine rat_here upd_same ?_
   rw [tab_succ,if_neg (by omega),tab_congr (g:=λi'=>R i' i) λi' hi'=>if_pos hi']
   exact ListV.snoc ⟨by rw [hul,tab_len],λi' y aa g1 g2=>by
    obtain⟨_,rfl⟩:=tab_get g2
    exact ((hus i' y g1).2.same del_sub).same ((nw_sub s3).trans (s4.trans s5))⟩ (hycr.same (s4.trans s5))
  have hS:sumS (n + 1) (λi'=>if i' < n then s' else v)=s' * n + v:=by
   show sumS n _ + (if n < n then s' else v)=_
   rw [sumS_two n (Ya _),if_neg (by omega)]
  refine⟨.ref pc,n + 1,λi'=>if i' < n then s' else v,_,rfl,hall,by omega,by rw [hS]; omega,λi' hi'=>?_,λb hb0 hbz hbd=>hk _ _ (s3.trans (s4.trans s5)) ⟨b,rfl,hb0,by rw [hS] at hbz; exact hbz,λi' hi'=>?_,?_⟩⟩
  ·dsimp only
   by_cases hh:i' < n
   ·rw [if_pos hh,if_pos hh]
    exact⟨(hIn.zR i' i hh hi).2,by omega⟩
   ·rw [if_neg hh,if_neg hh]
    exact⟨(hIn.zc i hi).2,by omega⟩
  ·have:=hbd i' (by omega)
   rw [if_pos hi'] at this
   exact this
  ·have:=hbd n (by omega)
   rw [if_neg (by omega)] at this
   exact this
 intro o dx ho hdx hne
 obtain⟨sc,hsc,hscp⟩:=ls_pick (LsV.mono pick_mono _ _ _ _ hsc (nw_sub s1))
 generalize hH2:upd (upd H1 dx (HO.own o)) o (HO.ins C dx [])=H2
 have s2:Same H1 H2:=by rw [<- hH2]; exact (same_new hdx _).trans (same_new (by rw [upd_ne hne.symm]; exact ho) _)
 have o2:H2 o=some (.ins C dx []):=by rw [<- hH2]; exact upd_same
 have s12:=s1.trans s2
 have zn:z<=8000/\z * n<=8000:=⟨by omega,by have:=hIn.b4; omega⟩
 refine⟨o,dx,rv,.ref pq,_,n,m,z,sc,R,q,rfl,o2,msQ_mono _ _ _ _ hR s12,lsQ_mono _ _ _ _ hq s12,lsI_mono _ _ _ _ hsc s2,by omega,hm,λj hj=>?_,λi j hi hj=>⟨pow_mono (hIn.zR i j hi hj).1 (by omega),pow_mono (hIn.zR i j hi hj).2 (by omega)⟩,zn.1,zn.2,hIn.zq,λH3 ch bt kp hch hb hbz hbd hC=>⟨rfl,?_⟩⟩
 ·exact Ye (hscp j hj).2.1 (Nat.pow_lt_pow_right (by decide) (by omega))
 subst hB
 try dsimp only
 have zsc:∀ j,j < m->(sc j).natAbs < 2 ^ (s' * n + v + 1):=λj hj=>Ye (hscp j hj).2.1 (Nat.pow_lt_pow_right (by decide) (by omega))
 have hZ:Szb (cst0 n m sc R q bt) (s' + (s' * n + v) + 1):=by
  refine⟨hn,hm,by omega,hIn.b2,λj i hj hi=>?_,λi hi=>?_,?_,hb,λj hj=>pow_mono (zsc j hj) (by omega),λj hj=>(hscp j hj).1⟩
  ·exact pow_mono (topI_lt (s:=s') (t:=s' * n + v + 1) (hIn.zR i j hi hj).1 (zsc j hj)) (by omega)
  ·exact pow_mono (topI_lt (s:=z) (t:=z * n + 1) (hIn.zq i hi).1 (Ye hbz (Nat.pow_lt_pow_right (by decide) (by omega)))) (by omega)
  ·exact Ye hbz (Nat.pow_lt_pow_right (by decide) (by have:=hIn.b4; omega))
 have hI:=ci_start (n:=n) (m:=m) (sc:=sc) (R:=R) (q:=q) (b:=bt)
 have hO:Of (cst0 n m sc R q bt) R q:=⟨λ_ _ _ _=>rfl,λj i hj hi=>(hscp j hj).2.2.1 i hi,λj hj=>(hscp j hj).1,λ_ _=>rfl,hbd,hb⟩
 have sm03:Same H (offC o ch H3):=λb u e=>by
  have h12:=s12 _ _ e
  have n1:b ≠ o:=λz=>by rw [z] at e; rw [s1 _ _ e] at ho; cases ho
  have n2:b ≠ ch:=λz=>by rw [z] at h12; rw [h12] at hch; cases hch
  exact offC_some.mpr ⟨n1,n2,kp b u n1 h12⟩
 obtain⟨dx3,sv3,cv3,rv3,lv3,g1,g2,_⟩:=id hC
 refine seq_go λB hB=>?_
 walk_at "rd"
 intro pa H4 hpa s4 e4
 have sl:(2000:Nat)<=sizeLine:=by decide
 have s04:Same H H4:=λb u e=>s4 _ _ (offC_sub _ _ (sm03 _ _ e))
 refine⟨_,.inl (s04 _ _ hpcs),_,e4,by omega,by omega,by rw [hcsl]; simp; omega,λpb hpb pc H5 hpc s5 e5=>?_⟩
 rw [hcsl,rep_tab] at hpc s5
 have s45:Same H4 H5:=(same_new hpb _).trans s5
 refine⟨_,.inl (s45 _ _ (s04 _ _ hpq)),_,e5,by omega,by omega,by rw [hql]; simp; omega,λpd hpd=>?_⟩
 rw [hql,rep_tab]
 have hpb5:H5 pb=some (.lst (tab m λ_=>V.int 0)):=s5 _ _ upd_same
 have npd:pb ≠ pd:=λz=>by rw [z,hpd] at hpb5; cases hpb5
 refine⟨_,by rw [upd_ne npd]; exact hpb5,_,upd_same,by rw [tab_len,tab_len]; omega,λpe hpe=>?_⟩
 rw [tab_cat]
 generalize hH8:upd (upd H5 pd (HO.lst (tab n λ_=>V.int 1))) pe _=H8
 have s58:Same H5 H8:=by rw [<- hH8]; exact (same_new hpd _).trans (same_new hpe _)
 have s38:Same H3 H8:=s4.trans (s45.trans s58)
 have e8:H8 pe=some (.lst ((tab (m + n) (w1 m)).map V.int)):=by
  rw [<- hH8,upd_same,tab_ints]
  congr 2
  refine tab_congr λi _=>?_
  unfold w1
  split <;> rfl
 have hpe3:H3 pe=none:=by
  cases e:H3 pe with
  | none=>rfl
  | some u=>rw [((s4.trans s45).trans (same_new hpd _)) _ _ e] at hpe; cases hpe
 have npo:pe ≠ o:=λz=>by rw [z,g1] at hpe3; cases hpe3
 have npc:pe ≠ ch:=λz=>by rw [z,g2] at hpe3; cases hpe3
 have hw8:LsV IntR (offC o ch H8) (.ref pe) (tab (m + n) (w1 m)):=ints_ls (offC_some.mpr ⟨npo,npc,e8⟩)
 have hC8:=hC.same s38
 clear hH8 e5 hpc s5 hpb5 npd hpd hpe hpb e4 hpa
 subst hB
 try dsimp only
 refine seq_go λB hB=>?_
 walk_at "rd"
 have hW1:Wt (cst0 n m sc R q bt) (w1 m):=⟨λi hi=>(by show m + i < m + n; have:i < n:=hi; omega),λj _=>by unfold w1; split <;> exact Nat.lt_of_le_of_lt (show _<=1 by decide) (Nat.one_lt_two_pow (by decide))⟩
 suffices key1:∀ H9 S e',KeepC o ch H8 H9->ChV C H9 o ch S->SameD (cst0 n m sc R q bt) S->Szb S (s' + (s' * n + v) + 1)->CI S (λi=>if topI (q i) bt < 0 then -1 else 1) e'->Feas S->Wt S (w1 m)->Opt S (w1 m)->B [some rv,some (.ref pq),some (.ref pcs),some (.ref o),some (.ref pe),none,none] H9 from
  ⟨o,ch,_,_,_,_,.ref pe,w1 m,λ_=>True,rfl,hC8,hZ,hI,feas0,hW1,hw8,trivial,λ_ _ _ _ _ _ _ _ _ _=>trivial,λH9 S e' k1 k2 k3 k4 k5 k6 k7 _ k8=>key1 H9 S e' k1 k2 k3 k4 k5 k6 k7 k8,λH9 S e' j k1 k2 k3 k4 k5 k6 k7 _ k8 k9=>(no_end1 (show S.m=m from k3.2.1) k8 k9).elim⟩
 subst hB
 intro H9 S e' kp9 hC9 hD9 hZ9 hI9 hF9 hW9 hO9
 try dsimp only
 have o9:Same H (offC o ch H9):=λb u e=>kp9.off _ _ (offC_same s38 _ _ (sm03 _ _ e))
 have sn:S.n=n:=hD9.1
 have sm_:S.m=m:=hD9.2.1
 have hw9:LsV IntR (offC o ch H9) (.ref pe) (tab (S.m + S.n) (w1 m)):=by rw [sm_,sn]; exact lsI_mono _ _ _ _ hw8 kp9.off
 have hS9:=hZ9.szs hI9
 have hO9':=hO.same hD9
 have hIn9:SzIn S.n S.m s' z v R q cs:=by rw [sn,sm_]; exact hIn
 obtain⟨dx9,sv9,cv9,rv9,lv9,g91,g92,_⟩:=id hC9
 have hDp:0 < S.u * S.bt:=Int.mul_pos hI9.pv.pos hZ9.bt0
 refine seq_go λB hB=>?_
 walk_at "rd"
 refine⟨dx9,_,g91,rfl,o,ch,S,.ref pe,w1 m,rfl,hC9,hS9,hW9,lsI_mono _ _ _ _ hw9 offC_sub,λwv H10 s10 hwv=>?_⟩
 obtain⟨pwv,rfl,ewv⟩:=hwv
 refine⟨_,rfl,_,ewv,_,atI0 _ _,_,rfl,?_⟩
 have hC10:=hC9.same s10
 have hw10:=lsI_mono _ _ _ _ hw9 (offC_same s10)
 refine ite2 (λc=>?_) (λc=>?_)
 ·have hpos:0 < wth S (w1 m):=(num_pos hDp).mp c
  refine⟨dx9,_,s10 _ _ g91,rfl,o,ch,S,.ref pe,w1 m,rfl,hC10,hS9,hW9,lsI_mono _ _ _ _ hw10 offC_sub,λyv H11 s11 hy=>?_⟩
  intro pt H12 hpt s12' e12
  have hfr:Same H H10:=λb u e=>s10 _ _ (offC_sub _ _ (o9 _ _ e))
  have:=none_math (cs:=cs) hIn9 hO9' hZ9 hI9 hW9 (λj hj=>if_pos (by omega)) hO9 hpos
  rw [sn,sm_] at this
  rw [sn] at hy
  exact a1 pt H12 yv _ (hfr.trans (s11.trans s12')) e12 (lsQ_mono _ _ _ _ hy λb u e=>nw_fwd s12' _ _ (nw_back hfr s11 _ _ e)) this
 have hneg:¬ 0 < wth S (w1 m):=λz=>c ((num_pos hDp).mpr z)
 have h0:=phase1 hF9 sm_ hneg
 subst hB
 try dsimp only
 refine seq_go λB hB=>?_
 walk_at "rd"
 refine⟨o,ch,S,_,_,_,Phi1,rfl,hC10,hZ9,hI9,⟨hF9,h0,hW9.cb⟩,λS' e'' j k _ h1 h2 h3 h4 h5 h6=>phi1_next h1 h2 h3 h4 h5 h6,λH11 S1 e1 kp11 hC11 hD11 hZ11 hI11 hP11 hB11=>?_⟩
 have o11:Same H (offC o ch H11):=λb u e=>kp11.off _ _ (offC_same s10 _ _ (o9 _ _ e))
 have hD1:=hD9.trans hD11
 clear hC10 hw10 hw9 hC9 hO9 hW9 hF9 hI9 hZ9 hIn9 hO9' hDp hS9 g91 g92 ewv c hneg h0
 subst hB
 try dsimp only
 refine seq_go λB hB=>?_
 walk_at "rd"
 simp only [tComp,iZip,cxK]
 walk_at "rd"
 obtain⟨dx1,sv1,cv1,rv1,lv1,g11,g12,g13,_⟩:=id hC11
 have sn1:S1.n=n:=hD1.1
 have sm1:S1.m=m:=hD1.2.1
 have sc1:S1.sc=sc:=hD1.2.2.1
 obtain⟨psc,rfl,hpsc⟩:=g13.ints
 rw [tab_ints,sm1,sc1] at hpsc
 have hpsc':=offC_sub _ _ hpsc
 have pcs11:=offC_sub _ _ (o11 _ _ hpcs)
 refine⟨C,dx1,_,g11,cls_Choice,nf_scales,_,rfl,psc,rfl,⟨_,.of pcs11⟩,⟨_,.of hpsc'⟩,?_⟩
 have h11:Same H H11:=λb u e=>offC_sub _ _ (o11 _ _ e)
 have zw:∀ j,j < m->(topI (cs j) (sc j)).natAbs < 2 ^ 1000:=λj hj=>pow_mono (topI_lt (s:=v) (t:=s' * n + v + 1) (hIn.zc j hj).1 (zsc j hj)) (by omega)
 refine blkA_zip (B:=noH) IntR (λj=>topI (cs j) (sc j)) int_mono noH_same pcs11 hpsc' hcsl (tab_len _ _) (by omega) (λj x y hj hx hy H' k os t' ht' sm ho' hk=>?_) (λpf H12 hpf s12' hf12=>?_)
 ·obtain⟨o1',o2',rfl⟩:=len_two ho'
  obtain⟨_,hxr⟩:=hcss j x hx
  obtain⟨_,rfl⟩:=tab_get hy
  walk_at "rd"
  simp only [ht']
  walk_at "rd"
  exact⟨[_,_],rfl,rfl,x,_,_,rfl,((hxr.same del_sub).same h11).same sm,pow_mono (hIn.zc j hj).1 (by omega),pow_mono (hIn.zc j hj).2 (by omega),pow_mono (zsc j hj) (by omega),hk _ _ (λ_ _ z=>z) rfl⟩
 obtain⟨_,e,hpf12'⟩:=hf12.ints
 cases e
 rw [tab_ints] at hpf12'
 have hpf12:=nw_sub s12' _ _ hpf12'
 intro pa H13 hpa s13 e13
 have s1113:=s12'.trans s13
 refine⟨_,.inl (s1113 _ _ (h11 _ _ hpq)),_,e13,by omega,by omega,by rw [hql]; simp; omega,λpb hpb=>?_⟩
 rw [hql,rep_tab]
 have hpf13:=s13 _ _ hpf12
 have nfb:pf ≠ pb:=λz=>by rw [z,hpb] at hpf13; cases hpf13
 refine⟨pf,rfl,_,by rw [upd_ne nfb]; exact hpf13,_,upd_same,by rw [tab_len,tab_len]; omega,λpg hpg=>?_⟩
 rw [tab_cat]
 generalize hH14:upd (upd H13 pb (HO.lst (tab n λ_=>V.int 0))) pg _=H14
 have s1314:Same H13 H14:=by rw [<- hH14]; exact (same_new hpb _).trans (same_new hpg _)
 have s14:Same H11 H14:=s1113.trans s1314
 have e14:H14 pg=some (.lst ((tab (m + n) (w2F m cs sc)).map V.int)):=by
  rw [<- hH14,upd_same,tab_ints]
  congr 2
  refine tab_congr λi _=>?_
  unfold w2F
  split <;> rfl
 have hpg11:H11 pg=none:=by
  cases e:H11 pg with
  | none=>rfl
  | some u=>rw [(s1113.trans (same_new hpb _)) _ _ e] at hpg; cases hpg
 have npo2:pg ≠ o:=λz=>by rw [z,g11] at hpg11; cases hpg11
 have npc2:pg ≠ ch:=λz=>by rw [z,g12] at hpg11; cases hpg11
 have hw14:LsV IntR (offC o ch H14) (.ref pg) (tab (S1.m + S1.n) (w2F m cs sc)):=by rw [sm1,sn1]; exact ints_ls (offC_some.mpr ⟨npo2,npc2,e14⟩)
 have hC14:=hC11.same s14
 have o14:Same H (offC o ch H14):=λb u e=>offC_same s14 _ _ (o11 _ _ e)
 clear hH14 hpg hpb nfb hpf13 hpf12 hpf12' hf12 e13 hpa s13 s12' hpf s1314 s1113
 have hW2:Wt S1 (w2F m cs sc):=⟨hP11.2.2,λj hj=>by
  unfold w2F
  split
  ·exact zw j (by assumption)
  ·exact YQ _⟩
 subst hB
 try dsimp only
 refine seq_go λB hB=>?_
 walk_at "rd"
 suffices key2:∀ (H15:Hp) (S:Cst) (e':Int) (jv:V),KeepC o ch H14 H15->ChV C H15 o ch S->SameD S1 S->Szb S (s' + (s' * n + v) + 1)->CI S (λi=>if topI (q i) bt < 0 then -1 else 1) e'->Feas S->Wt S (w2F m cs sc)->Phi2 S->((jv=.non/\Opt S (w2F m cs sc))\/∃ j:Nat,jv=.int (j:Int)/\Enter S (w2F m cs sc) j/\∀ i,i < S.n->prt S j i<=0)->B [some rv,some (.ref pq),some (.ref pcs),some (.ref o),some (.ref pe),some (.ref pg),some jv] H15 from
  ⟨o,ch,S1,_,_,_,.ref pg,w2F m cs sc,Phi2,rfl,hC14,hZ11,hI11,hP11.1,hW2,hw14,⟨hP11.2.1,hB11⟩,λS' e'' j k _ h1 _ h3 h4 h5=>phi2_next h1 h3 h4 h5,λH15 S e' k1 k2 k3 k4 k5 k6 k7 k8 k9=>key2 H15 S e' .non k1 k2 k3 k4 k5 k6 k7 k8 (.inl ⟨rfl,k9⟩),λH15 S e' j k1 k2 k3 k4 k5 k6 k7 k8 k9 k10=>key2 H15 S e' _ k1 k2 k3 k4 k5 k6 k7 k8 (.inr ⟨j,rfl,k9,k10⟩)⟩
 subst hB
 intro H15 S2 e2 jv kp15 hC15 hD15 hZ15 hI15 hF15 hW15 hP15 hj15
 try dsimp only
 have hD2:=hD1.trans hD15
 have sn2:S2.n=n:=hD2.1
 have sm2:S2.m=m:=hD2.2.1
 have sc2:S2.sc=sc:=hD2.2.2.1
 have hO15:=hO.same hD2
 have hIn15:SzIn S2.n S2.m s' z v R q cs:=by rw [sn2,sm2]; exact hIn
 have h15:Same H H15:=λb u e=>offC_sub _ _ (kp15.off _ _ (o14 _ _ e))
 have hS15:=hZ15.szs hI15
 have hdd:∀ j,j < S2.m->((cs j).den:Int) ∣ S2.sc j:=λj hj=>by rw [sc2]; exact (hscp j (by omega)).2.2.2
 have hww:∀ j,j < S2.m->w2F m cs sc j=topI (cs j) (S2.sc j):=λj hj=>by rw [sc2]; exact if_pos (by omega)
 have hw15:LsV IntR H15 (.ref pg) (tab (S2.m + S2.n) (w2F m cs sc)):=by rw [sm2,sn2]; rw [sm1,sn1] at hw14; exact lsI_mono _ _ _ _ hw14 (kp15.off.trans offC_sub)
 obtain⟨dx5,sv5,cv5,rv5,lv5,g51,_⟩:=id hC15
 walk_at "rd"
 rcases hj15 with ⟨rfl,hOp⟩ | ⟨j,rfl,hE,hno⟩
 ·rw [if_neg (by intro z; exact z rfl)]
  refine⟨dx5,_,g51,rfl,o,ch,S2,.ref pg,_,rfl,hC15,hS15,hW15,hw15,λwv H16 s16 hwv=>⟨dx5,_,s16 _ _ g51,rfl,o,ch,S2,rfl,hC15.same s16,hS15,ci_inj hI15,λxv H17 x s17 hxv hsp=>⟨dx5,_,s17 _ _ (s16 _ _ g51),rfl,o,ch,S2,.ref pg,_,rfl,hC15.same (s16.trans s17),hS15,hW15,lsI_mono _ _ _ _ hw15 (s16.trans s17),λyv H18 s18 hyv pt H19 hpt s19 e19=>?_⟩⟩⟩
  have hm:=least_math hIn15 hO15 hZ15 hI15 hF15 hP15.1 hsp hW15 hdd hww hOp
  rw [sn2,sm2] at hm
  rw [sm2] at hxv
  rw [sn2] at hyv
  have h16:=h15.trans s16
  have h17:=h16.trans s17
  exact a3 pt H19 wv xv yv _ _ _ (h17.trans (s18.trans s19)) e19 (hwv.same (s17.trans (s18.trans s19))) (lsQ_mono _ _ _ _ hxv λb u e=>nw_fwd (s18.trans s19) _ _ (nw_back h16 s17 _ _ e)) (lsQ_mono _ _ _ _ hyv λb u e=>nw_fwd s19 _ _ (nw_back h17 s18 _ _ e)) hm
 ·rw [if_pos (by intro z; cases z)]
  refine⟨dx5,_,g51,rfl,o,ch,S2,rfl,hC15,hS15,ci_inj hI15,λxv H17 x s17 hxv hsp=>⟨dx5,_,s17 _ _ g51,rfl,o,ch,S2,j,rfl,hC15.same s17,hS15,ci_inj hI15,hE.1,λdv H18 d s18 hdv hds pt H19 hpt s19 e19=>?_⟩⟩
  have hm:=end_math hIn15 hO15 hZ15 hI15 hF15 hP15.1 hP15.2 hsp hW15 hdd hww hE hno hds
  rw [sn2,sm2] at hm
  rw [sm2] at hxv hdv
  have h17:=h15.trans s17
  exact a2 pt H19 xv dv _ _ (h17.trans (s18.trans s19)) e19 (lsQ_mono _ _ _ _ hxv λb u e=>nw_fwd (s18.trans s19) _ _ (nw_back h15 s17 _ _ e)) (lsQ_mono _ _ _ _ hdv λb u e=>nw_fwd s19 _ _ (nw_back h17 s18 _ _ e)) hm
end
def sp_lowS:Sp:=λvs H Q _=>∃ t b:Int,vs=[.int t,.int b]/\Big b/\b ≠ 0/\∀ r H',Same H H'->RatV H' r (Rat.divInt t b)->Q r H'
def Pl(a b:Int)(H:Hp)(Z:St)(H':Hp):Prop:=∃ l m:Int,Z=[some (.int a),some (.int b),some (.int l),some (.int m)]/\H'=H/\0<=l/\0<=m/\Int.gcd l m=Int.gcd a b
def sp_two(g:Rat->Rat->Rat):Sp:=λvs H Q _=>∃ (x y:V) (p q:Rat),vs=[x,y]/\RatV H x p/\RatV H y q/\(∃ a b,SzF a p/\SzF b q/\a + b<=8000)/\∀ r H',Same H H'->RatV H' r (g p q)->Q r H'
def sp_drawn:Sp:=λvs H Q _=>∃ (c:Int) (a:Addr) (bs:List Int),vs=[.int c,.ref a]/\H a=some (.lst (bs.map V.int))/\bs.length < 1000/\(∀ b∈bs,0 < b/\b.natAbs < 2 ^ 110) /\
 ∀ p H' (xs:List Int),H p=none->Same H H'->H' p=some (.lst (xs.map V.int))->xs.length=bs.length->(∀ (i:Nat) x b,xs[i]?=some x->bs[i]?=some b->0<=x/\x < b)->Q (.ref p) H'
def Pdr(H0:Hp)(c:Int)(a p:Addr)(bs:List Int)(i:Nat)(Z:St)(H:Hp):Prop:=∃ (r:Int) (o1 o2 o3:Option V) (xs:List Int),Z=[some (.int c),some (.ref a),some (.ref p),some (.int r),o1,o2,o3]/\Same H0 H/\H p=some (.lst (xs.map V.int))/\xs.length=i /\
 ∀ (i:Nat) x b,xs[i]?=some x->bs[i]?=some b->0<=x/\x < b
def ok_lowS(F:Fun K "_law_low" "_law_low" s_law_low f fd)(n_abs:mg "abs"=none):FnOk P w K mg base CX0 1 f fd ["_law_top","_law_bottom"] sp_lowS:=by
 refine okR F sc_law_low λcdv A outer s H vs Q E hr h=>?_
 obtain⟨a,b,rfl,hz,hb,q⟩:=h
 refine⟨_,(b_cons (s_set 2 sc_law_low.nd (q_abs rfl n_abs (a_c (q_v 0) a_nil)))
   (b_cons (s_set 3 sc_law_low.nd (q_abs rfl n_abs (a_c (q_v 1) a_nil)))
   (b_cons (s_while Yj (t_gt (q_v 3) q_int) (b_one (s_par 2 3 sc_law_low.nd (a_c (q_v 3) (a_c (q_mod (q_v 2) (q_v 3)) a_nil)))))
   (b_cons (s_if (t_lt (q_v 1) q_int) (b_one (s_set 2 sc_law_low.nd (q_neg (q_v 2)))) b_nil)
   (b_one (s_ret (q_tup (a_c (q_fdivL (q_v 0) (q_v 2)) (a_c (q_fdivL (q_v 1) (q_v 2)) a_nil))))))))),?_⟩
 rw [show start ["_law_top","_law_bottom","_law_one","_law_other"] [.int a,.int b]=[some (.int a),some (.int b),none,none] from rfl]
 walk_at "rd"
 simp only [abs_ite]
 refine while_w (Pl a b H) (λZ _=>(slotI Z 3).toNat) ⟨_,_,rfl,rfl,by omega,by omega,gcd_abs a b⟩ ?_
 rintro Z H' ⟨l,m,rfl,rfl,hl,hm,hg⟩
 walk_at "rd"
 refine ite2 (λc=>?_) (λc=>?_)
 ·refine⟨_,λZ' H' z=>z,c,_,emod_lt_nat c,rfl,m,l % m,rfl,rfl,hm,YU _ (by omega),?_⟩
  rw [gcd_turn]; exact hg
 ·have e:m=0:=by omega
  subst e
  have e2:l=(Int.gcd a b:Int):=by rw [<- hg]; simp; omega
  subst e2
  have hne:=sgcd_ne (t:=a) hb
  have hlog:(sgcd a b).natAbs.log2 < 9000:=by rw [sgcd_abs]; exact log2_lt_of (pow_mono (Ye (gcd_le_abs hb) hz) (by omega)) (by omega)
  have fin:∀ (p:Addr) (H2:Hp),H' p=none->Same H' H2->H2 p=some (.tup [.int (a.fdiv (sgcd a b)),.int (b.fdiv (sgcd a b))])->Q (.ref p) H2:=λp H2 _ hs e=>q _ _ hs ⟨p,rfl,by
   rw [fdiv_of_dvd (sgcd_dvd_left a b),fdiv_of_dvd (sgcd_dvd_right a b),(ratio_parts hb).1,(ratio_parts (t:=a) hb).2] at e
   exact e⟩
  refine ite2 (λcb=>?_) (λcb=>?_)
  ·have e:sgcd a b=-(Int.gcd a b:Int):=by unfold sgcd; rw [if_pos cb]
   rw [e] at hne hlog fin
   exact⟨hne,hlog,hne,hlog,fin⟩
  ·have e:sgcd a b=(Int.gcd a b:Int):=by unfold sgcd; rw [if_neg cb]
   rw [e] at hne hlog fin
   exact⟨hne,hlog,hne,hlog,fin⟩
def ok_lplus(F:Fun K "_law_plus" "_law_plus" s_law_plus f fd)(F_law_low:Fn P w K mg base CX0 1 "_law_low" ["_law_top","_law_bottom"] sp_lowS):FnOk P w K mg base CX0 2 f fd ["_law_one","_law_other"] (sp_two (· + ·)):=by
 refine okR F sc_law_plus λcdv A outer s H vs Q E hr h=>?_
 obtain⟨x,y,p,t,rfl,⟨a,rfl,ha⟩,⟨b,rfl,hb⟩,⟨na,nb,z1,z2,hab⟩,q⟩:=h
 refine⟨_,(b_one (s_ret (qfn F_law_low hr (a_c (q_add (q_mulL (q_ixT (q_v 0) q_int) (q_ixT (q_v 1) q_int)) (q_mulL (q_ixT (q_v 1) q_int) (q_ixT (q_v 0) q_int))) (a_c (q_mulL (q_ixT (q_v 0) q_int) (q_ixT (q_v 1) q_int)) a_nil))))),?_⟩
 rw [show start ["_law_one","_law_other"] [.ref a,.ref b]=[some (.ref a),some (.ref b)] from rfl]
 walk_at "rd"
 simp only [ha,hb,sp_lowS]
 walk_at "rd"
 refine⟨mulOk z1.1 (den_ltF z2) (by omega),mulOk z2.1 (den_ltF z1) (by omega),mulOk (den_ltF z1) (den_ltF z2) (by omega),Big.of (mul_lt_pow (den_ltF z1) (den_ltF z2)) hab,den_mul_ne p t,λr H' hs v=>q r H' hs ?_⟩
 rw [show (λx y:Rat=>x + y) p t=_ from add_divInt p t]
 exact v
def ok_ltimes(F:Fun K "_law_times" "_law_times" s_law_times f fd)(F_law_low:Fn P w K mg base CX0 1 "_law_low" ["_law_top","_law_bottom"] sp_lowS):FnOk P w K mg base CX0 2 f fd ["_law_one","_law_other"] (sp_two (· * ·)):=by
 refine okR F sc_law_times λcdv A outer s H vs Q E hr h=>?_
 obtain⟨x,y,p,t,rfl,⟨a,rfl,ha⟩,⟨b,rfl,hb⟩,⟨na,nb,z1,z2,hab⟩,q⟩:=h
 refine⟨_,(b_one (s_ret (qfn F_law_low hr (a_c (q_mulL (q_ixT (q_v 0) q_int) (q_ixT (q_v 1) q_int)) (a_c (q_mulL (q_ixT (q_v 0) q_int) (q_ixT (q_v 1) q_int)) a_nil))))),?_⟩
 rw [show start ["_law_one","_law_other"] [.ref a,.ref b]=[some (.ref a),some (.ref b)] from rfl]
 walk_at "rd"
 simp only [ha,hb,sp_lowS]
 walk_at "rd"
 refine⟨mulOk z1.1 z2.1 (by omega),mulOk (den_ltF z1) (den_ltF z2) (by omega),Big.of (mul_lt_pow (den_ltF z1) (den_ltF z2)) hab,den_mul_ne p t,λr H' hs v=>q r H' hs ?_⟩
 rw [show (λx y:Rat=>x * y) p t=_ from mul_divInt p t]
 exact v
def sp_ltotal:Sp:=λvs H Q _=>∃ (v:V) (n:Nat) (a:Nat->Rat),vs=[v]/\LsV RatV H v (tab n a)/\(∀ i,i < n->∃ x y,SzF x (sumQ i a)/\SzF y (a i)/\x + y<=8000)/\∀ r H',Same H H'->RatV H' r (sumQ n a)->Q r H'
def ok_ltotal(F:Fun K "_law_total" "_law_total" s_law_total f fd)(F_law_plus:Fn P w K mg base CX0 2 "_law_plus" ["_law_one","_law_other"] (sp_two (· + ·))):FnOk P w K mg base CX0 3 f fd ["_law_some"] sp_ltotal:=by
 refine okR F sc_law_total λcdv A outer s H vs Q E hr h=>?_
 obtain⟨v,n,a,rfl,hv,hz,q⟩:=h
 refine⟨_,(b_cons (s_set 1 sc_law_total.nd (q_tup (a_c q_int (a_c q_int a_nil))))
   (b_cons (s_for Yj (i_list (q_v 0)) (g_name 2 sc_law_total.nd) (b_one (s_set 1 sc_law_total.nd (qfn F_law_plus hr (a_c (q_v 1) (a_c (q_v 2) a_nil))))))
   (b_one (s_ret (q_v 1))))),?_⟩
 rw [show start ["_law_some","_law_total_here","_law_one"] [v]=[some (v),none,none] from rfl]
 obtain⟨p,ys,rfl,hp,hl,hy⟩:=hv.at
 walk_at "rd"
 intro p0 H1 hp0 s1 e1
 simp only [tFor_list]
 walk_at "rd"
 refine listK_of (xs:=ys) (λi Z H'=>∃ (o:Option V) (x:V),Z=[some (.ref p),some x,o]/\Same H H'/\RatV H' x (sumQ i a)) ⟨_,_,rfl,s1,p0,rfl,e1⟩ (λi Z H' _ ⟨_,_,_,sm,_⟩=>.of (sm _ _ hp)) (λi x Z H' hi hP=>?_) (λZ H' hP=>?_)
 ·obtain⟨o,z,rfl,sm,hs⟩:=hP
  obtain⟨hin,ha⟩:=hy i x hi
  walk_at "rd"
  exact⟨z,x,_,_,rfl,hs,(ha.same del_sub).same sm,hz i hin,λr H2 s2 hr2=>⟨sm.trans s2,hr2⟩⟩
 ·obtain⟨o,z,rfl,sm,hs⟩:=hP
  rw [hl] at hs
  walk_at "rd"
  exact q _ _ sm hs
def sp_ldot:Sp:=λvs H Q _=>∃ (v u:V) (n:Nat) (a b:Nat->Rat),vs=[v,u]/\LsV RatV H v (tab n a)/\LsV RatV H u (tab n b)/\n < 1000/\(∀ i,i < n->∃ x y z,SzE x (sumQ i λj=>a j * b j)/\SzE y (a i)/\SzE z (b i)/\x + y + z<=8000)/\∀ r H',Same H H'->RatV H' r (sumQ n λj=>a j * b j)->Q r H'
def ok_ldot(F:Fun K "_law_dot" "_law_dot" s_law_dot f fd)(n_zip:mg "zip"=none)(F_law_times:Fn P w K mg base CX0 2 "_law_times" ["_law_one","_law_other"] (sp_two (· * ·)))(F_law_total:Fn P w K mg base CX0 3 "_law_total" ["_law_some"] sp_ltotal):FnOk P w K mg base CX0 4 f fd ["_law_one","_law_other"] sp_ldot:=by
 refine okR F sc_law_dot λcdv A outer s H vs Q E hr h=>?_
 obtain⟨v,u,n,a,b,rfl,hv,hu,hn,hz,q⟩:=h
 refine⟨_,(b_one (s_ret (qfn F_law_total hr (a_c (q_comp (blk0 ["_law_first","_law_second"]) (i_zip rfl n_zip (a_c (q_v 0) (a_c (q_v 1) a_nil))) (by exact λs H fp=>(g_tup (n:=2) (gs_cons (g_name 0 (show List.Nodup (["_law_first","_law_second"]:List Str) from by decide +kernel)) (gs_cons (g_name 1 (show List.Nodup (["_law_first","_law_second"]:List Str) from by decide +kernel)) gs_nil)))) (by exact λs H fp=>(qfn F_law_times hr (a_c (q_v 0) (a_c (q_v 1) a_nil))))) a_nil)))),?_⟩
 rw [show start ["_law_one","_law_other"] [v,u]=[some (v),some (u)] from rfl]
 obtain⟨p,ys,rfl,hp,hl,hy⟩:=hv.at
 obtain⟨c,zs,rfl,hc,hlc,hzs⟩:=hu.at
 walk_at "rd"
 simp only [tComp,iZip,cxK]
 walk_at "rd"
 refine⟨⟨_,.of hp⟩,⟨_,.of hc⟩,?_⟩
 refine blkA_zip (B:=noH) RatV (λi=>a i * b i) rat_mono noH_same hp hc hl hlc hn (λi x z hin hx hz' H' k os t ht sm ho hk=>?_) (λp' H' _ s' h'=>?_)
 ·obtain⟨o1,o2,rfl⟩:=len_two ho
  obtain⟨_,hxa⟩:=hy i x hx
  obtain⟨_,hzb⟩:=hzs i z hz'
  walk_at "rd"
  simp only [ht]
  walk_at "rd"
  obtain⟨x1,y1,z1,_,g2,g3,g4⟩:=hz i hin
  refine⟨[_,_],rfl,rfl,x,z,_,_,rfl,(hxa.same del_sub).same sm,(hzb.same del_sub).same sm,⟨y1,z1,g2.toF,g3.toF,by omega⟩,λr H2 s2 hr2=>hk _ _ s2 ?_⟩
  obtain⟨pb,rfl,hb⟩:=hr2
  exact⟨pb,rfl,tup_nw s2 hb⟩
 ·refine⟨_,n,_,rfl,lsQ_mono _ _ _ _ h' (nw_sub s'),λi hi=>?_,λr H2 s2 hr2=>q r H2 (s'.trans s2) hr2⟩
  obtain⟨x1,y1,z1,g1,g2,g3,g4⟩:=hz i hi
  exact⟨x1,y1 + z1,g1.toF,g2.prodF g3,by omega⟩
def eqd_flat{a b:Int}:EqD H (.int a) (.int b) (decide (a=b)) 0:=by
 have z:=EqD.flat (H:=H) (x:=.int a) (y:=.int b) rfl rfl
 rw [show eqV (.int a) (.int b)=decide (a=b) by show (a == b)=decide (a=b); rfl] at z
 exact z
def eqd_ratD{x y:V}{p q:Rat}(hx:RatV H x p)(hy:RatV H y q):EqD H x y (decide (p=q)) 1:=by
 obtain⟨a,rfl,ha⟩:=hx
 obtain⟨b,rfl,hb⟩:=hy
 have h:=EqD.tup (e:=λj=>if j=0 then decide (p.num=q.num) else decide ((p.den:Int)=(q.den:Int))) (n:=0) ha hb λj x y h1 h2=>by
  match j,h1,h2 with
  | 0,h1,h2=>cases h1; cases h2; exact eqd_flat
  | 1,h1,h2=>cases h1; cases h2; exact eqd_flat
 have e:decide (p=q)=((List.range 2).all (λj=>if j=0 then decide (p.num=q.num) else decide ((p.den:Int)=(q.den:Int))) && (2 == 2:Bool)):=by
  rw [YI]
  simp only [List.range_succ,List.range_zero,List.nil_append,List.cons_append,List.all_cons,List.all_nil,if_true,Bool.and_true,beq_self_eq_true,Bool.and_eq_true,decide_eq_true_eq]
  constructor
  ·intro h; subst h; exact⟨rfl,by simp⟩
  ·intro ⟨h1,h2⟩
   have h2:p.den=q.den:=Int.ofNat_inj.mp (by simpa using h2)
   rw [<- Yw p,<- Yw q,h1,h2]
 rw [e]
 exact h
def eqd_ls[DecidableEq α]{R:Hp->V->α->Prop}{H:Hp}{d:Nat}(hR:∀ x y a b,R H x a->R H y b->EqD H x y (decide (a=b)) d)(mR:MonoS R){x y:V}{n:Nat}{f g:Nat->α}(hx:LsV R H x (tab n f))(hy:LsV R H y (tab n g)):EqD H x y (decide (tab n f=tab n g)) (d + 1):=by
 obtain⟨p,ys,rfl,hp,hl,hys⟩:=hx.at
 obtain⟨c,zs,rfl,hc,hlc,hzs⟩:=hy.at
 have h:=EqD.lst (e:=λj=>decide (f j=g j)) (n:=d) hp hc (by omega) λj x y h1 h2=>hR x y _ _ (mR _ _ _ _ (hys j x h1).2 del_sub) (mR _ _ _ _ (hzs j y h2).2 del_sub)
 have e:decide (tab n f=tab n g)=(List.range ys.length).all (λj=>decide (f j=g j)):=by
  rw [YI,hl,decide_eq_true_iff,List.all_eq_true]
  constructor
  ·intro e j hj
   have:=congrArg (λl=>l[j]?) e
   simp only [tab_at (List.mem_range.mp hj)] at this
   simpa using this
  ·intro e
   exact tab_congr λj hj=>by simpa using e j (List.mem_range.mpr hj)
 rw [e]
 exact h
def eqd_row{x y:V}{f g:Nat->Rat}(hx:LsV RatV H x (tab n f))(hy:LsV RatV H y (tab n g)):EqD H x y (decide (tab n f=tab n g)) 2:=eqd_ls (λ_ _ _ _ h1 h2=>eqd_ratD h1 h2) rat_mono hx hy
def eqd_same{x y:V}{f:Nat->Rat}(hx:LsV RatV H x (tab n f))(hy:LsV RatV H y (tab n f)):EqD H x y true 2:=by
 have:=eqd_row hx hy
 rw [Yz rfl] at this
 exact this
def eqd_mat{x y:V}{n m:Nat}{f:Nat->Nat->Rat}(hx:LsV (LsV RatV) H x (tab n λi=>tab m (f i)))(hy:LsV (LsV RatV) H y (tab n λi=>tab m (f i))):EqD H x y true 3:=by
 obtain⟨p,ys,rfl,hp,hl,hys⟩:=hx.at
 obtain⟨c,zs,rfl,hc,hlc,hzs⟩:=hy.at
 have h:=EqD.lst (e:=λ_=>true) (n:=2) hp hc (by omega) λj x y h1 h2=>eqd_same (lsQ_mono _ _ _ _ (hys j x h1).2 del_sub) (lsQ_mono _ _ _ _ (hzs j y h2).2 del_sub)
 rw [all_range λ_ _=>rfl] at h
 exact h
def ok_drawn(F:Fun K "_law_drawn" "_law_drawn" s_law_drawn f fd)(n_enumerate:mg "enumerate"=none):FnOk P w K mg base CX0 1 f fd ["_law_cell","_law_bases"] sp_drawn:=by
 refine okR F sc_law_drawn λcdv A outer s H vs Q E hr h=>?_
 obtain⟨c,a,bs,rfl,ha,hbl,hb,q⟩:=h
 refine⟨_,(b_cons (s_set 2 sc_law_drawn.nd (q_lst a_nil))
   (b_cons (s_set 3 sc_law_drawn.nd (q_v 0))
   (b_cons (s_for Yj (i_enum rfl n_enumerate (a_c (q_v 1) a_nil)) (g_tup (n:=2) (gs_cons (g_name 4 sc_law_drawn.nd) (gs_cons (g_name 5 sc_law_drawn.nd) gs_nil))) (b_one (s_if (t_ge (q_v 0) (q_pow q_int q_int)) (b_cons (s_expr (q_app (q_v 2) (a_c (q_mod (q_v 3) (q_v 5)) a_nil)))
   (b_one (s_set 3 sc_law_drawn.nd (q_fdivP (q_v 3) (q_v 5))))) (b_cons (s_set 6 sc_law_drawn.nd (q_mod (q_add (q_add (q_add (q_mul (q_v 0) q_int) (q_mul (q_mulL (q_v 4) (q_v 4)) q_int)) (q_mul q_int (q_v 4))) q_int) q_int))
   (b_one (s_expr (q_app (q_v 2) (a_c (q_mod (q_fdiv (q_mod (q_add (q_mul (q_v 6) q_int) (q_mulL (q_fdiv (q_v 6) q_int) (q_add (q_v 4) q_int))) q_int) q_int) (q_v 5)) a_nil))))))))
   (b_one (s_ret (q_v 2)))))),?_⟩
 rw [show start ["_law_cell","_law_bases","_law_row","_law_rest","_law_k","_law_base","_law_one"] [.int c,.ref a]=[some (.int c),some (.ref a),none,none,none,none,none] from rfl]
 walk_at "rd"
 intro p H1 hp s1 e1
 simp only [tFor_enum]
 walk_at "rd"
 have hap:a ≠ p:=λz=>by rw [z,hp] at ha; cases ha
 refine enumK_of (xs:=bs.map V.int) (Pdr H c a p bs) ⟨_,_,_,_,[],rfl,s1,e1,rfl,λi x b h=>by simp at h⟩ (λi Z H' _ ⟨_,_,_,_,_,_,sm,_⟩=>.of (sm _ _ ha)) (λi y Z H2 pb H' hi hP hpb s3 e3=>?_) (λZ H' hP=>?_)
 ·obtain⟨r,o1,o2,o3,xs,rfl,sm,e2,hl,hx⟩:=hP
  replace sm:=sm.trans s3
  replace e2:=s3 _ _ e2
  rw [Yt] at hi
  obtain⟨b,hb',rfl⟩:∃ b,bs[i]?=some b/\y=V.int b:=by cases h:bs[i]? with | none=>rw [h] at hi; cases hi | some z=>rw [h] at hi; cases hi; exact⟨z,rfl,rfl⟩
  obtain⟨b0,b1⟩:=hb b (YY hb')
  have hib:=(Yf.mp hb').1
  walk_at "rd"
  simp only [e3]
  walk_at "rd"
  have step:∀ (r v:Int) (o3:Option V),0<=v->v < b->Pdr H c a p bs (i + 1) [some (V.int c),some (V.ref a),some (V.ref p),some (V.int r),some (V.int (i:Int)),some (V.int b),o3] (upd H' p (.lst (xs.map V.int ++ [.int v]))):=λr v o3 v0 v1 =>
   ⟨r,_,_,_,xs ++ [v],rfl,same_upd hp sm,by rw [upd_same,List.map_append]; rfl,by simp [hl],λj x b' h1 h2=>by
    by_cases cj:j < xs.length
    ·rw [YT cj] at h1
     exact hx j x b' h1 h2
    ·have hj:j=i:=by have:=(List.getElem?_eq_some_iff.mp h1).1; simp at this; omega
     subst hj
     rw [YL (by omega),hl] at h1
     rw [hb'] at h2
     simp at h1 h2
     rw [<- h1,<- h2]
     exact⟨v0,v1⟩⟩
  have hlen:(xs.map V.int).length < 1000000:=by rw [Yy]; omega
  refine ite2 (λ_=>⟨⟨_,e2⟩,b0,_,e2,hlen,b0,log2_lt_of (pow_mono b1 (by decide)) (by decide),step _ _ _ (YU _ (by omega)) (Int.emod_lt_of_pos _ b0)⟩) (λ_=>⟨mulOk (a:=30) (b:=30) (by omega) (by omega) (by decide),⟨_,e2⟩,mulOk (a:=40) (b:=40) ?_ (by omega) (by decide),b0,_,e2,hlen,step _ _ _ (YU _ (by omega)) (Int.emod_lt_of_pos _ b0)⟩)
  generalize c * 48271 + (i:Int) * (i:Int) * 69621 + 7 * (i:Int) + 11=u
  omega
 ·obtain⟨r,o1,o2,o3,xs,rfl,sm,e2,hl,hx⟩:=hP
  walk_at "rd"
  exact q p H' xs hp sm e2 (by rw [Yy] at hl; exact hl) hx
def ok_lless(F:Fun K "_law_less" "_law_less" s_law_less f fd)(F_law_low:Fn P w K mg base CX0 1 "_law_low" ["_law_top","_law_bottom"] sp_lowS):FnOk P w K mg base CX0 2 f fd ["_law_one","_law_other"] (sp_two (· - ·)):=by
 refine okR F sc_law_less λcdv A outer s H vs Q E hr h=>?_
 obtain⟨x,y,p,t,rfl,⟨a,rfl,ha⟩,⟨b,rfl,hb⟩,⟨na,nb,z1,z2,hab⟩,q⟩:=h
 refine⟨_,(b_one (s_ret (qfn F_law_low hr (a_c (q_sub (q_mulL (q_ixT (q_v 0) q_int) (q_ixT (q_v 1) q_int)) (q_mulL (q_ixT (q_v 1) q_int) (q_ixT (q_v 0) q_int))) (a_c (q_mulL (q_ixT (q_v 0) q_int) (q_ixT (q_v 1) q_int)) a_nil))))),?_⟩
 rw [show start ["_law_one","_law_other"] [.ref a,.ref b]=[some (.ref a),some (.ref b)] from rfl]
 walk_at "rd"
 simp only [ha,hb,sp_lowS]
 walk_at "rd"
 refine⟨mulOk z1.1 (den_ltF z2) (by omega),mulOk z2.1 (den_ltF z1) (by omega),mulOk (den_ltF z1) (den_ltF z2) (by omega),Big.of (mul_lt_pow (den_ltF z1) (den_ltF z2)) hab,den_mul_ne p t,λr H' hs v=>q r H' hs ?_⟩
 rw [show (λx y:Rat=>x - y) p t=_ from sub_divInt p t]
 exact v
def sp_lratio:Sp:=λvs H Q _=>∃ (v:V) (q:Rat),vs=[v]/\RatV H v q/\q.den < 2 ^ 8000/\∀ H',Same H H'->Q (.bl true) H'
def sp_llist:Sp:=λvs H Q _=>∃ (v:V) (n:Nat) (a:Nat->Rat),vs=[v,.int (n:Int)]/\LsV RatV H v (tab n a)/\n < 1000/\(∀ i,i < n->(a i).den < 2 ^ 8000)/\∀ H',Same H H'->Q (.bl true) H'
def szW(b:Bool):Nat:=if b then 30 else 3
def sp_lnumbers:Sp:=λvs H Q _=>∃ (c:Int) (m:Nat) (b:Bool),vs=[.int c,.int (m:Int),.bl b]/\m < 100/\∀ x H' a,Same H H'->LsV RatV (Nw H H') x (tab m a)->(∀ i,i < m->SzQ (szW b) (a i))->Q x H'
def rat_nw{H H':Hp}{x:V}(s:Same H H')(h:RatV H' x q):RatV (Nw H H') x q:=let ⟨p,e,h⟩:=h; ⟨p,e,tup_nw s h⟩
def rep2_at{a b:α}:∀ {m k:Nat},k < m->((List.replicate m [a,b]).flatten)[2 * k]?=some a/\((List.replicate m [a,b]).flatten)[2 * k + 1]?=some b
 | 0,_,h=>by omega
 | m + 1,0,_=>by rw [List.replicate_succ]; exact⟨rfl,rfl⟩
 | m + 1,k + 1,h=>by
  have:=rep2_at (a:=a) (b:=b) (show k < m by omega)
  rw [List.replicate_succ,List.flatten_cons,show 2 * (k + 1)=2 * k + 1 + 1 by omega]
  exact this
def ok_lratio(F:Fun K "_law_ratio" "_law_ratio" s_law_ratio f fd)(n_isinstance:mg "isinstance"=none)(n_tuple:mg "tuple"=none)(n_len:mg "len"=none)(n_int:mg "int"=none)(n_bool:mg "bool"=none)(F_law_low:Fn P w K mg base CX0 1 "_law_low" ["_law_top","_law_bottom"] sp_lowS):FnOk P w K mg base CX0 2 f fd ["_law_found"] sp_lratio:=by
 refine okR F sc_law_ratio λcdv A outer s H vs Q E hr h=>?_
 obtain⟨v,t,rfl,⟨a,rfl,ha⟩,hz,q⟩:=h
 refine⟨_,(b_cons (s_if (t_w (w_or (t_not (t_val (q_inst rfl n_isinstance (a_c (q_v 0) (a_c (q_ty rfl n_tuple rfl) a_nil))))) (w_or1 (t_ne (q_len rfl n_len (a_c (q_v 0) a_nil)) q_int)))) (b_one (s_ret q_bl)) b_nil)
   (b_cons (s_for Yj (i_tup (q_v 0)) (g_name 1 sc_law_ratio.nd) (b_one (s_if (t_w (w_or (t_not (t_val (q_inst rfl n_isinstance (a_c (q_v 1) (a_c (q_ty rfl n_int rfl) a_nil))))) (w_or1 (t_val (q_inst rfl n_isinstance (a_c (q_v 1) (a_c (q_ty rfl n_bool rfl) a_nil))))))) (b_one (s_ret q_bl)) b_nil)))
   (b_one (s_ret (q_and (q_gt (q_ixT (q_v 0) q_int) q_int) (q_one (q_eqD hr (qfn F_law_low hr (a_c (q_ixT (q_v 0) q_int) (a_c (q_ixT (q_v 0) q_int) a_nil))) (q_v 0)))))))),?_⟩
 rw [show start ["_law_found","_law_part"] [.ref a]=[some (.ref a),none] from rfl]
 walk_at "rd"
 simp only [tFor_tup]
 walk_at "rd"
 refine⟨"tuple",kind_tup ha,?_⟩
 rw [if_neg (by decide)]
 refine⟨_,.inr ha,?_⟩
 rw [if_neg (by simp)]
 refine tupK_of (xs:=[.int t.num,.int (t.den:Int)]) (λi Z H'=>∃ o,Z=[some (.ref a),o]/\H'=H) ⟨_,rfl,rfl⟩ (λi Z H' _ ⟨_,_,e⟩=>by rw [e]; exact .of ha) (λi x Z H' hi hP=>?_) (λZ H' hP=>?_)
 ·obtain⟨o,rfl,rfl⟩:=hP
  obtain⟨z,rfl⟩:∃ z,x=V.int z:=by
   match i,hi with
   | 0,hi=>cases hi; exact⟨_,rfl⟩
   | 1,hi=>cases hi; exact⟨_,rfl⟩
  walk_at "rd"
 ·obtain⟨o,rfl,rfl⟩:=hP
  walk_at "rd"
  simp only [ha,sp_lowS]
  walk_at "rd"
  have hd:(0:Int) < t.den:=by have:=t.den_pos; omega
  rw [if_pos hd]
  refine⟨Big.of (n:=8000) (by simpa using hz) (Nat.le_refl _),by omega,λr H2 s2 hr2=>?_⟩
  rw [Yw] at hr2
  have he:=eqd_ratD hr2 (⟨a,rfl,s2 _ _ ha⟩:RatV H2 (.ref a) t)
  rw [Yz rfl] at he
  obtain⟨pr,rfl,_⟩:=id hr2
  exact⟨_,_,_,_,rfl,rfl,he,by decide,q H2 s2⟩
def ok_llist(F:Fun K "_law_list" "_law_list" s_law_list f fd)(n_isinstance:mg "isinstance"=none)(n_list:mg "list"=none)(n_len:mg "len"=none)(n_all:mg "all"=none)(F_law_ratio:Fn P w K mg base CX0 2 "_law_ratio" ["_law_found"] sp_lratio):FnOk P w K mg base CX0 3 f fd ["_law_found","_law_many"] sp_llist:=by
 refine okR F sc_law_list λcdv A outer s H vs Q E hr h=>?_
 obtain⟨v,n,a,rfl,hv,hn,hz,q⟩:=h
 refine⟨_,(b_cons (s_if (t_w (w_or (t_not (t_val (q_inst rfl n_isinstance (a_c (q_v 0) (a_c (q_ty rfl n_list rfl) a_nil))))) (w_or1 (t_ne (q_len rfl n_len (a_c (q_v 0) a_nil)) (q_v 1))))) (b_one (s_ret q_bl)) b_nil)
   (b_one (s_ret (q_allB rfl n_all (a_c (q_comp (blk0 ["_law_one"]) (i_list (q_v 0)) (by exact λs H fp=>(g_name 0 (show List.Nodup (["_law_one"]:List Str) from by decide +kernel))) (by exact λs H fp=>(qfn F_law_ratio hr (a_c (q_v 0) a_nil)))) a_nil))))),?_⟩
 rw [show start ["_law_found","_law_many"] [v,.int (n:Int)]=[some (v),some (.int (n:Int))] from rfl]
 obtain⟨p,ys,rfl,hp,hl,hy⟩:=hv.at
 walk_at "rd"
 refine⟨"list",kind_lst hp,?_⟩
 rw [if_neg (by decide)]
 refine⟨_,.inl hp,?_⟩
 rw [if_neg (by rw [hl]; simp)]
 simp only [tComp,iList,cxK]
 walk_at "rd"
 refine⟨⟨_,.of hp⟩,?_⟩
 refine blkA_list (B:=noH) (λ_ v (b:Bool)=>v=V.bl b) (λ_=>true) (λ_ _ _ _ h _=>h) noH_same hp hl hn (λi x hin hx H' k os sm ho hk=>?_) (λp' H' _ s' h'=>?_)
 ·obtain⟨o,rfl⟩:∃ o,os=[o]:=List.length_eq_one_iff.mp ho
  obtain⟨_,hxa⟩:=hy i x hx
  walk_at "rd"
  exact⟨[_],rfl,rfl,x,_,rfl,(hxa.same del_sub).same sm,hz i hin,λH2 s2=>hk _ _ s2 rfl⟩
 ·obtain⟨_,zs,e,h1,h2⟩:=h'
  cases e
  refine⟨_,rfl,tab n λ_=>true,?_,?_⟩
  ·rw [nw_sub s' _ _ h1]
   congr 2
   refine YH λi=>?_
   rw [tab_map]
   by_cases c:i < n
   ·have hx:=Yb (show i < zs.length by rw [h2.1,tab_len]; exact c)
    rw [tab_at c,hx,h2.2 i _ _ hx (tab_at c)]
   ·rw [Yp (by rw [h2.1,tab_len]; omega),Yp (by rw [tab_len]; omega)]
  ·rw [show (tab n λ_=>true).all id=true from by simp [tab]]
   exact q _ s'
def ok_lnumbers(F:Fun K "_law_numbers" "_law_numbers" s_law_numbers f fd)(n_range:mg "range"=none)(n_int:mg "int"=none)(F_law_drawn:Fn P w K mg base CX0 1 "_law_drawn" ["_law_cell","_law_bases"] sp_drawn)(F_law_low:Fn P w K mg base CX0 1 "_law_low" ["_law_top","_law_bottom"] sp_lowS):FnOk P w K mg base CX0 2 f fd ["_law_cell","_law_many","_law_wide"] sp_lnumbers:=by
 refine okR F sc_law_numbers λcdv A outer s H vs Q E hr h=>?_
 obtain⟨c,m,b,rfl,hm,q⟩:=h
 refine⟨_,(b_cons (s_if (t_val (q_v 2)) (b_cons (s_set 3 sc_law_numbers.nd (qfn F_law_drawn hr (a_c (q_v 0) (a_c (q_rep (q_lst (a_c (q_add (q_mul q_int (q_pow q_int q_int)) q_int) (a_c q_int a_nil))) (q_v 1)) a_nil))))
   (b_one (s_ret (q_comp (blkC ["_law_k"] [3] ["_law_row"]) (i_rng1 rfl n_range (a_c (q_v 1) a_nil)) (by exact λs H fp=>(g_name 0 (show List.Nodup (["_law_k","_law_row"]:List Str) from by decide +kernel))) (by exact λs H fp=>(qfn F_law_low hr (a_c (q_sub (q_ixL (q_v 1) (q_mul q_int (q_v 0))) (q_pow q_int q_int)) (a_c (q_add q_int (q_ixL (q_v 1) (q_add (q_mul q_int (q_v 0)) q_int))) a_nil)))))))) b_nil)
   (b_cons (s_set 3 sc_law_numbers.nd (qfn F_law_drawn hr (a_c (q_v 0) (a_c (q_rep (q_lst (a_c q_int a_nil)) (q_v 1)) a_nil))))
   (b_one (s_ret (q_comp (blk0 ["_law_one"]) (i_list (q_v 3)) (by exact λs H fp=>(g_name 0 (show List.Nodup (["_law_one"]:List Str) from by decide +kernel))) (by exact λs H fp=>(qfn F_law_low hr (a_c (q_mulL (q_sub (q_mod (q_v 0) q_int) q_int) (q_int1 rfl n_int (a_c (q_lt (q_v 0) q_int) a_nil))) (a_c (q_add q_int (q_mod (q_fdiv (q_v 0) q_int) q_int)) a_nil))))))))),?_⟩
 rw [show start ["_law_cell","_law_many","_law_wide","_law_row"] [.int c,.int (m:Int),.bl b]=[some (.int c),some (.int (m:Int)),some (.bl b),none] from rfl]
 walk_at "rd"
 refine ite2 (λcb=>?_) (λcb=>?_)
 ·have hb:b=true:=cb
  subst hb
  intro p1 H1 hp1 s1 e1
  have hsl:(1000:Nat)<=sizeLine:=by decide
  refine⟨_,e1,by omega,by omega,by simp; omega,λp2 hp2=>?_⟩
  rw [Int.toNat_natCast,show (List.replicate m [V.int (2000000000 + 1),V.int 60]).flatten=((List.replicate m [(2000000001:Int),60]).flatten).map V.int from by simp]
  have hp20:H p2=none:=s1.free hp2
  have s2:Same H (upd H1 p2 (.lst (((List.replicate m [(2000000001:Int),60]).flatten).map V.int))):=s1.trans (same_new hp2 _)
  have hbl:((List.replicate m [(2000000001:Int),60]).flatten).length=2 * m:=by simp; omega
  refine⟨c,p2,_,rfl,upd_same,by omega,λb hb=>?_,λpr H3 xs hpr s3 e3 hxl hxb=>?_⟩
  ·obtain⟨l,hl,hb⟩:=List.mem_flatten.mp hb
   obtain⟨_,rfl⟩:=List.mem_replicate.mp hl
   simp at hb
   omega
  have hxl2:xs.length=2 * m:=by rw [hxl,hbl]
  simp only [tComp,iRng1,cxK]
  walk_at "rd"
  refine⟨by omega,by omega,?_⟩
  rw [Yu]
  refine blkA_rng (B:=noH) RatV (λk=>Rat.divInt (xs.getD (2 * k) 0 - 1000000000) (1 + xs.getD (2 * k + 1) 0)) rat_mono noH_same (by omega) (λi hi H' k os sm hos hk=>?_) (λpz H' _ s' h'=>?_)
  ·obtain⟨o',rfl⟩:∃ o,os=[o]:=List.length_eq_one_iff.mp hos
   walk_at "rd"
   obtain⟨a0,a1⟩:=rep2_at (a:=(2000000001:Int)) (b:=60) hi
   have x0:=Yb (show 2 * i < xs.length by omega)
   have x1:=Yb (show 2 * i + 1 < xs.length by omega)
   have b0:=hxb _ _ _ x0 a0
   have b1:=hxb _ _ _ x1 a1
   have g0:xs.getD (2 * i) 0=xs[2 * i]'(by omega):=by rw [List.getD_eq_getElem?_getD,x0]; rfl
   have g1:xs.getD (2 * i + 1) 0=xs[2 * i + 1]'(by omega):=by rw [List.getD_eq_getElem?_getD,x1]; rfl
   rw [g0,g1] at hk
   have i0:atI (xs.map V.int) (2 * (i:Int))=some (V.int (xs[2 * i]'(by omega))):=by
    rw [show 2 * (i:Int)=((2 * i:Nat):Int) by omega]
    exact atI_nat (by rw [Yt,x0]; rfl)
   have i1:atI (xs.map V.int) (2 * (i:Int) + 1)=some (V.int (xs[2 * i + 1]'(by omega))):=by
    rw [show 2 * (i:Int) + 1=((2 * i + 1:Nat):Int) by omega]
    exact atI_nat (by rw [Yt,x1]; rfl)
   refine⟨[_],rfl,rfl,_,sm _ _ e3,_,i0,_,rfl,_,sm _ _ e3,_,i1,_,rfl,_,_,rfl,Big.of (n:=10) (by omega) (by decide),by omega,λr H4 s4 hr4=>hk _ _ s4 (rat_nw s4 hr4)⟩
  ·refine q _ H' _ ((s2.trans s3).trans s') (lsQ_mono _ _ _ _ h' (nw_back (s2.trans s3) s')) λi hi=>?_
   obtain⟨a0,a1⟩:=rep2_at (a:=(2000000001:Int)) (b:=60) hi
   have x0:=Yb (show 2 * i < xs.length by omega)
   have x1:=Yb (show 2 * i + 1 < xs.length by omega)
   have b0:=hxb _ _ _ x0 a0
   have b1:=hxb _ _ _ x1 a1
   rw [List.getD_eq_getElem?_getD,List.getD_eq_getElem?_getD,x0,x1]
   show SzQ 30 _
   generalize xs[2 * i]=u at *
   generalize xs[2 * i + 1]=v at *
   exact SzQ.of (by show 1 + v ≠ 0; omega) (by show (u - 1000000000).natAbs < 2 ^ 30; omega) (by show (1 + v).natAbs < 2 ^ 30; omega)
 ·have hb:b=false:=by simpa using cb
  subst hb
  intro p1 H1 hp1 s1 e1
  have hsl:(1000:Nat)<=sizeLine:=by decide
  refine⟨_,e1,by omega,by omega,by simp; omega,λp2 hp2=>?_⟩
  rw [rep_tab,<- tab_ints m λ_=>72]
  have s2:Same H (upd H1 p2 (.lst ((tab m λ_=>(72:Int)).map V.int))):=s1.trans (same_new hp2 _)
  refine⟨c,p2,_,rfl,upd_same,by rw [tab_len]; omega,λb hb=>?_,λpr H3 xs hpr s3 e3 hxl hxb=>?_⟩
  ·obtain⟨i,_,rfl⟩:=List.mem_map.mp hb
   omega
  rw [tab_len] at hxl
  simp only [tComp,iList,cxK]
  walk_at "rd"
  refine⟨⟨_,.of e3⟩,?_⟩
  refine blkA_list (n:=m) (B:=noH) RatV (λk=>Rat.divInt ((xs.getD k 0 % 9 - 3) * (if xs.getD k 0 < 54 then 1 else 0)) (1 + xs.getD k 0 / 9 % 4)) rat_mono noH_same e3 (by rw [Yy]; exact hxl) (by omega) (λi x hi hx H' k os sm hos hk=>?_) (λpz H' _ s' h'=>?_)
  ·obtain⟨o',rfl⟩:∃ o,os=[o]:=List.length_eq_one_iff.mp hos
   have x0:=Yb (show i < xs.length by omega)
   rw [Yt,x0] at hx
   cases hx
   have g0:xs.getD i 0=xs[i]'(by omega):=by rw [List.getD_eq_getElem?_getD,x0]; rfl
   rw [g0] at hk
   have b0:=hxb _ _ _ x0 (tab_at hi)
   walk_at "rd"
   refine⟨[_],rfl,rfl,mulOk (a:=10) (b:=2) (by omega) (by split <;> decide) (by decide),_,_,rfl,Big.of (n:=10) (by omega) (by decide),by omega,λr H4 s4 hr4=>hk _ _ s4 (rat_nw s4 hr4)⟩
  ·refine q _ H' _ ((s2.trans s3).trans s') (lsQ_mono _ _ _ _ h' (nw_back (s2.trans s3) s')) λi hi=>?_
   have x0:=Yb (show i < xs.length by omega)
   have b0:=hxb _ _ _ x0 (tab_at hi)
   rw [List.getD_eq_getElem?_getD,x0]
   show SzQ 3 _
   generalize xs[i]=u at *
   refine SzQ.of (by show 1 + u / 9 % 4 ≠ 0; omega) ?_ (by show (1 + u / 9 % 4).natAbs < 2 ^ 3; omega)
   show ((u % 9 - 3) * (if u < 54 then 1 else 0)).natAbs < 2 ^ 3
   split <;> omega
section
variable {α:Type}{R:Hp->V->α->Prop}{B H0 H H' H5:Hp}{p:Addr}{ys:List V}{n j:Nat}{g:Nat->α}{v:V}{b:α}
def Acc.set(mR:MonoS R)(h:Acc R B H0 p ys (tab n g) H')(s:Same H' H5)(hv:R (Rch B H' H5) v b):H5 p=some (.lst ys)/\Acc R B H0 p (ys.set j v) (tab n λi=>if i=j then b else g i) (upd H5 p (.lst (ys.set j v))):=by
 have e5:=s _ _ h.at_
 have hBp:B p=none:=by
  cases z:B p with
  | none=>rfl
  | some w=>have:=h.hB _ _ z; rw [h.hn] at this; cases this
 have g1:Same (del p (Rch B H0 H')) (del p (Rch B H0 (upd H5 p (.lst (ys.set j v))))):=λc u e=>by
  obtain⟨hc,e⟩:=del_some.mp e
  refine del_some.mpr ⟨hc,?_⟩
  rcases rch_some.mp e with q | ⟨q1,⟨q2,q3⟩ | q2⟩
  ·exact rch_some.mpr (.inl q)
  ·exact rch_some.mpr (.inr ⟨q1,.inl ⟨q2,by rw [upd_ne hc]; exact s _ _ q3⟩⟩)
  ·exact rch_some.mpr (.inr ⟨q1,.inr q2⟩)
 have g2:Same (Rch B H' H5) (del p (Rch B H0 (upd H5 p (.lst (ys.set j v))))):=λc u e=>by
  have hc:c ≠ p:=λz=>by
   subst z
   rcases rch_some.mp e with q | ⟨q1,⟨q2,q3⟩ | ⟨t,q2,_⟩⟩
   ·rw [hBp] at q; cases q
   ·rw [h.at_] at q2; cases q2
   ·rw [h.at_] at q2; cases q2
  refine del_some.mpr ⟨hc,?_⟩
  have e2:=rch_back (B:=B) h.sm s _ _ e
  rcases rch_some.mp e2 with q | ⟨q1,⟨q2,q3⟩ | q2⟩
  ·exact rch_some.mpr (.inl q)
  ·exact rch_some.mpr (.inr ⟨q1,.inl ⟨q2,by rw [upd_ne hc]; exact q3⟩⟩)
  ·exact rch_some.mpr (.inr ⟨q1,.inr q2⟩)
 refine⟨e5,h.hn,h.hB,same_upd h.hn (h.sm.trans s),upd_same,?_⟩
 refine⟨by rw [List.length_set,h.ls.1,tab_len,tab_len],λi x a h1 h2=>?_⟩
 obtain⟨hin,rfl⟩:=tab_get h2
 rw [List.getElem?_set] at h1
 by_cases c:j=i
 ·subst c
  rw [if_pos rfl,if_pos (by rw [h.ls.1,tab_len]; exact hin)] at h1
  cases h1
  rw [if_pos rfl]
  exact mR _ _ _ _ hv g2
 ·rw [if_neg c] at h1
  rw [if_neg (Ne.symm c)]
  exact mR _ _ _ _ (h.ls.2 i x _ h1 (tab_at hin)) g1
theorem Acc.at(h:Acc R B H0 p ys (tab n g) H):ys.length=n:=by rw [h.ls.1,tab_len]
end
def szT(b:Bool):Nat:=if b then 30 else 7
structure RowsN(H0 H:Hp)(pr:Addr)(cs:Nat->Addr)(n m:Nat)(R:Nat->Nat->Rat):Prop where
 p0:H0 pr=none
 at_:H pr=some (.lst (tab n λi=>V.ref (cs i)))
 c0:∀ i,i < n->H0 (cs i)=none/\cs i ≠ pr
 inj:∀ i j,i < n->j < n->cs i=cs j->i=j
 row:∀ i,i < n->∃ zs,H (cs i)=some (.lst zs)/\ListV RatV H zs (tab m (R i))
variable {cs:Nat->Addr}
def RowsN.same{H0 H H':Hp}{pr:Addr}{n m:Nat}(h:RowsN H0 H pr cs n m R)(s:Same H H'):RowsN H0 H' pr cs n m R:=⟨h.p0,s _ _ h.at_,h.c0,h.inj,λi hi=>let ⟨zs,h1,h2⟩:=h.row i hi; ⟨zs,s _ _ h1,h2.mono rat_mono s⟩⟩
def rat_hereN{as:List Rat}(e:H p=some (.lst ys))(hy:ListV RatV H ys as):LsV RatV H (.ref p) as:=by
 refine⟨p,ys,rfl,e,hy.1,λi x a h1 h2=>?_⟩
 obtain⟨b,rfl,hb⟩:=hy.2 i x a h1 h2
 exact⟨b,rfl,del_some.mpr ⟨(λz=>by rw [z,e] at hb; cases hb),hb⟩⟩
def RowsN.ls{H0 H:Hp}{pr:Addr}{n m:Nat}(h:RowsN H0 H pr cs n m R):LsV (LsV RatV) H (.ref pr) (tab n λi=>tab m (R i)):=by
 refine⟨pr,_,rfl,h.at_,by rw [tab_len,tab_len],λi x a h1 h2=>?_⟩
 obtain⟨hi,rfl⟩:=tab_get h1
 obtain⟨_,rfl⟩:=tab_get h2
 obtain⟨zs,g1,g2⟩:=h.row i hi
 refine rat_hereN (del_some.mpr ⟨(h.c0 i hi).2,g1⟩) ⟨g2.1,λk y b q1 q2=>?_⟩
 obtain⟨c,rfl,hc⟩:=g2.2 k y b q1 q2
 exact⟨c,rfl,del_some.mpr ⟨(λz=>by rw [z,h.at_] at hc; cases hc),hc⟩⟩
def rowsN_of{H H4:Hp}{pr:Addr}{n m:Nat}(hA:Acc (LsV RatV) noH H pr ys (tab n λi=>tab m (R i)) H4)(hN:ys.Nodup):∃ cs,RowsN H H4 pr cs n m R:=by
 have hl:ys.length=n:=by rw [hA.ls.1,tab_len]
 have key:∀ i,i < n->∃ c zs,ys[i]?=some (.ref c)/\H c=none/\c ≠ pr/\H4 c=some (.lst zs)/\ListV RatV H4 zs (tab m (R i)):=λi hi=>by
  have hx:=Yb (show i < ys.length by omega)
  obtain⟨c,zs,e,h1,h2⟩:=hA.ls.2 i _ _ hx (tab_at hi)
  obtain⟨n1,h1'⟩:=del_some.mp h1
  obtain⟨g1,g2⟩:=nw_lst h1'
  exact⟨c,zs,by rw [hx,e],g1,n1,g2,h2.mono rat_mono λb u e=>nw_sub hA.sm _ _ (del_sub _ _ (del_sub _ _ e))⟩
 refine⟨λi=>match ys[i]? with | some (.ref c)=>c | _=>0,hA.hn,?_,λi hi=>?_,λi j hi hj e=>?_,λi hi=>?_⟩
 ·rw [hA.at_]
  congr 2
  refine YH λi=>?_
  by_cases c:i < n
  ·obtain⟨c',zs,h1,_⟩:=key i c
   rw [tab_at c,h1]
  ·rw [Yp (by omega),Yp (by rw [tab_len]; omega)]
 ·obtain⟨c',zs,h1,h2,h3,_⟩:=key i hi
  rw [h1]
  exact⟨h2,h3⟩
 ·obtain⟨c1,z1,h1,_⟩:=key i hi
  obtain⟨c2,z2,h2,_⟩:=key j hj
  rw [h1,h2] at e
  dsimp only at e
  subst e
  have e1:=Yf.mp h1
  have e2:=Yf.mp h2
  obtain⟨a1,b1⟩:=e1
  obtain⟨a2,b2⟩:=e2
  rw [List.nodup_iff_pairwise_ne,List.pairwise_iff_getElem] at hN
  rcases Nat.lt_trichotomy i j with h | h | h
  ·exact absurd (b1.trans b2.symm) (hN i j a1 a2 h)
  ·exact h
  ·exact absurd (b2.trans b1.symm) (hN j i a2 a1 h)
 ·obtain⟨c',zs,h1,h2,h3,h4,h5⟩:=key i hi
  rw [h1]
  exact⟨zs,h4,h5⟩
def acc_fresh{H0 H' H5:Hp}{as:List (List Rat)}{v:V}{b:List Rat}(h:Acc (LsV RatV) noH H0 p ys as H')(s:Same H' H5)(hv:LsV RatV (Rch noH H' H5) v b):v ∉ ys:=λhm=>by
 obtain⟨c,zs,rfl,h1,_⟩:=hv
 obtain⟨g1,_⟩:=nw_lst h1
 obtain⟨i,hi⟩:=Y6 hm
 have hil:i < as.length:=by rw [<- h.ls.1]; exact (Yf.mp hi).1
 obtain⟨c',zs',e,h2,_⟩:=h.ls.2 i _ _ hi (Yb hil)
 cases e
 rw [nw_sub h.sm _ _ (del_sub _ _ h2)] at g1
 cases g1
def nodup_snoc{v:V}(h:ys.Nodup)(hv:v ∉ ys):(ys ++ [v]).Nodup:=by
 rw [List.nodup_append]
 exact⟨h,by simp,λa ha b hb e=>by rw [List.mem_singleton.mp hb] at e; rw [e] at ha; exact hv ha⟩
def nodup_set{v:V}{j:Nat}(h:ys.Nodup)(hv:v ∉ ys):(ys.set j v).Nodup:=by
 rw [List.nodup_iff_pairwise_ne,List.pairwise_iff_getElem] at *
 intro i k hi hk hik
 rw [List.getElem_set,List.getElem_set]
 rw [List.length_set] at hi hk
 split
 ·split
  ·omega
  ·exact λe=>hv (by rw [e]; exact List.getElem_mem _)
 ·split
  ·exact λe=>hv (by rw [<- e]; exact List.getElem_mem _)
  ·exact h i k hi hk hik
def sp_table(K:PySem.W.Frag):Sp:=λvs H Q _=>∃ (a:Addr) (ns:List Int),vs=[.ref a]/\SqL K H a (ns.map V.int)/\∀ (p:Addr) (H':Hp) (pr:Addr) (cs:Nat->Addr) (n m:Nat) (b:Bool) (R:Nat->Nat->Rat),Same H H'->H' p=some (.tup [.ref pr,.int (m:Int),.bl b])->RowsN H H' pr cs n m R->0 < m->m<=7->n<=(if b then 2 else 5)->(∀ i j,i < n->j < m->SzQ (szT b) (R i j))->Q (.ref p) H'
def ixN_last(h:0 < n):ixN n (-1)=some (n - 1):=by
 unfold ixN
 rw [if_neg (by omega),if_pos (by omega)]
 congr 1
 omega
def ok_table(F:Fun K "_law_table" "_law_table" s_law_table f fd)(n_range:mg "range"=none)(n_min:mg "min"=none)(n_int:mg "int"=none)(n_len:mg "len"=none)(n_list:mg "list"=none)(n_zip:mg "zip"=none)(F_law_cell_at:Fn P w K mg base CX0 1 "_law_cell_at" ["_law_script","_law_k"] (sp_cell K))(F_law_drawn:Fn P w K mg base CX0 1 "_law_drawn" ["_law_cell","_law_bases"] sp_drawn)(F_law_numbers:Fn P w K mg base CX0 2 "_law_numbers" ["_law_cell","_law_many","_law_wide"] sp_lnumbers)(F_law_plus:Fn P w K mg base CX0 2 "_law_plus" ["_law_one","_law_other"] (sp_two (· + ·))):FnOk P w K mg base CX0 3 f fd ["_law_script"] (sp_table K):=by
 refine okR F sc_law_table λcdv A outer s H vs Q E hr h=>?_
 obtain⟨a,ns,rfl,hS,q⟩:=h
 refine⟨_,(b_cons (s_set 1 sc_law_table.nd (qfn F_law_drawn hr (a_c (qfn F_law_cell_at hr (a_c (q_v 0) (a_c q_int a_nil))) (a_c (q_lst (a_c q_int (a_c q_int (a_c q_int a_nil)))) a_nil))))
   (b_cons (s_set 2 sc_law_table.nd (q_eq (q_ixL (q_v 1) q_int) q_int))
   (b_cons (s_set 3 sc_law_table.nd (q_add q_int (q_ixL (q_v 1) q_int)))
   (b_cons (s_set 4 sc_law_table.nd (q_lst a_nil))
   (b_cons (s_for Yj (i_rng1 rfl n_range (a_c (q_ixL (q_lst (a_c (q_ixL (q_v 1) q_int) (a_c (q_min rfl n_min (a_c (q_ixL (q_v 1) q_int) (a_c q_int a_nil))) a_nil))) (q_int1 rfl n_int (a_c (q_v 2) a_nil))) a_nil)) (g_name 5 sc_law_table.nd) (b_one (s_expr (q_app (q_v 4) (a_c (qfn F_law_numbers hr (a_c (qfn F_law_cell_at hr (a_c (q_v 0) (a_c (q_add q_int (q_v 5)) a_nil))) (a_c (q_v 3) (a_c (q_v 2) a_nil)))) a_nil)))))
   (b_cons (s_if (t_w (w_and (t_eq (q_ixL (q_v 1) q_int) q_int) (w_and1 (t_gt (q_len rfl n_len (a_c (q_v 4) a_nil)) q_int)))) (b_one (s_asg (q_list rfl n_list (a_c (q_ixL (q_v 4) q_int) a_nil)) (g_sub (q_v 4) (q_neg q_int)))) b_nil)
   (b_cons (s_if (t_w (w_and (t_eq (q_ixL (q_v 1) q_int) q_int) (w_and1 (t_gt (q_len rfl n_len (a_c (q_v 4) a_nil)) q_int)))) (b_one (s_asg (q_comp (blk0 ["_law_one","_law_other"]) (i_zip rfl n_zip (a_c (q_ixL (q_v 4) q_int) (a_c (q_ixL (q_v 4) q_int) a_nil))) (by exact λs H fp=>(g_tup (n:=2) (gs_cons (g_name 0 (show List.Nodup (["_law_one","_law_other"]:List Str) from by decide +kernel)) (gs_cons (g_name 1 (show List.Nodup (["_law_one","_law_other"]:List Str) from by decide +kernel)) gs_nil)))) (by exact λs H fp=>(qfn F_law_plus hr (a_c (q_v 0) (a_c (q_v 1) a_nil))))) (g_sub (q_v 4) (q_neg q_int)))) b_nil)
   (b_one (s_ret (q_tup (a_c (q_v 4) (a_c (q_v 3) (a_c (q_v 2) a_nil))))))))))))),?_⟩
 rw [show start ["_law_script","_law_head","_law_wide","_law_many","_law_rows","_law_k"] [.ref a]=[some (.ref a),none,none,none,none,none] from rfl]
 refine seq_go λB hB=>?_
 walk_at "rd"
 refine⟨a,ns,0,rfl,hS,λc0 p1 H1 hp1 s1 e1=>⟨c0,p1,[6,7,8],rfl,e1,by decide,λb hb=>?_,λph H2 xs hph s2 e2 hxl hxb=>?_⟩⟩
 ·simp at hb
  omega
 have hxl:xs.length=3:=hxl
 obtain⟨x0,x1,x2,rfl⟩:∃ x0 x1 x2,xs=[x0,x1,x2]:=by
  match xs,hxl with
  | [x0,x1,x2],_=>exact⟨x0,x1,x2,rfl⟩
 have b0:=hxb 0 x0 6 rfl rfl
 have b1:=hxb 1 x1 7 rfl rfl
 have b2:=hxb 2 x2 8 rfl rfl
 have s12:=s1.trans s2
 subst hB
 try dsimp only
 change H2 ph=some (.lst [.int x0,.int x1,.int x2]) at e2
 obtain⟨m,hm⟩:∃ m:Nat,1 + x1=(m:Int):=⟨(1 + x1).toNat,by omega⟩
 refine seq_go λB hB=>?_
 walk_at "rd"
 refine⟨_,e2,?_⟩
 walk_at "rd"
 subst hB
 try dsimp only
 refine seq_go λB hB=>?_
 walk_at "rd"
 refine⟨_,e2,?_⟩
 walk_at "rd"
 rw [hm]
 subst hB
 try dsimp only
 refine seq_go λB hB=>?_
 walk_at "rd"
 intro pr H3 hpr s3 e3
 have hpr0:H pr=none:=s12.free hpr
 have s123:=s12.trans s3
 subst hB
 try dsimp only
 have hpp:ph ≠ pr:=λz=>by rw [z,hpr] at e2; cases e2
 have b36:x2=6->decide (x2=3)=false:=λh=>by rw [h]; rfl
 generalize hbb:decide (x2=3)=bb at b36
 obtain⟨n,hn,hn2⟩:∃ n:Nat,(n:Int)=(if bb=true then (if 2 < x0 then 2 else x0) else x0)/\n<=(if bb then 2 else 5):=by
  refine⟨(if bb=true then (if 2 < x0 then 2 else x0) else x0).toNat,?_,?_⟩
  ·split
   ·split <;> omega
   ·omega
  ·cases bb <;> simp <;> (try split) <;> omega
 have hn5:n<=5:=by
  cases bb
  ·exact hn2
  ·exact Yh hn2 (by decide)
 refine seq_go λB hB=>?_
 suffices key:∀ (H4:Hp) (ys:List V) (R:Nat->Nat->Rat) (o:Option V),Acc (LsV RatV) noH H pr ys (tab n λi=>tab m (R i)) H4->ys.Nodup->(∀ i j,i < n->j < m->SzQ (szW bb) (R i j))->H4 ph=some (.lst [.int x0,.int x1,.int x2])->B [some (.ref a),some (.ref ph),some (.bl bb),some (.int (m:Int)),some (.ref pr),o] H4 by
  clear hB
  simp only [tFor_rng1]
  walk_at "rd"
  refine⟨_,s3 _ _ e2,?_⟩
  walk_at "rd"
  refine⟨_,s3 _ _ e2,?_⟩
  walk_at "rd"
  intro pb H4 hpb s4 e4
  have hat:∃ z,atI [V.int x0,V.int (if 2 < x0 then 2 else x0)] (if bb=true then (1:Int) else 0)=some z/\z=V.int (n:Int):=by
   cases bb
   ·exact⟨_,atI0 _ _,by rw [hn]; rfl⟩
   ·exact⟨_,atI1 _ _ _,by rw [hn]; rfl⟩
  obtain⟨z,hz1,rfl⟩:=hat
  refine⟨_,e4,_,hz1,_,rfl,by omega,by omega,?_⟩
  rw [Yu]
  have hpr4:H4 pr=some (.lst []):=s4 _ _ e3
  have A0:Acc (LsV RatV) noH H pr [] [] H4:=Acc.start noH_same hpr0 (s123.trans s4) hpr4
  refine rngK_of (λi Z H'=>∃ (o:Option V) (ys:List V) (R:Nat->Nat->Rat),Z=[some (.ref a),some (.ref ph),some (.bl bb),some (.int (m:Int)),some (.ref pr),o]/\Acc (LsV RatV) noH H pr ys (tab i λi=>tab m (R i)) H'/\ys.Nodup/\(∀ k j,k < i->j < m->SzQ (szW bb) (R k j))/\H' ph=some (.lst [.int x0,.int x1,.int x2])) ⟨_,[],λ_ _=>0,rfl,A0,List.nodup_nil,λk j hk=>by omega,s4 _ _ (s3 _ _ e2)⟩ (λi Z H' hi hP=>?_) (λZ H' hP=>?_)
  ·obtain⟨o,ys,R,rfl,hA,hND,hz,eh⟩:=hP
   walk_at "rd"
   refine⟨⟨_,hA.at_⟩,a,ns,1 + i,by congr 3,hA.sm.seq hS,λc=>⟨c,m,bb,rfl,by omega,λx H5 r s5 hx hr=>?_⟩⟩
   obtain⟨g1,g2⟩:=hA.push lsQ_mono s5 hx
   refine⟨_,g1,by rw [hA.at]; omega,ys ++ [x],λk=>if k=i then r else R k,?_,nodup_snoc hND (acc_fresh hA s5 hx),λk j hk hj=>?_,?_⟩
   ·rw [tab_succ]
    dsimp only
    rw [if_pos rfl]
    rw [tab_congr (g:=λi=>tab m (R i)) λk hk=>by rw [if_neg (by omega)]]
    exact g2
   ·dsimp only
    by_cases c:k=i
    ·rw [if_pos c]; exact hr j hj
    ·rw [if_neg c]; exact hz k j (by omega) hj
   ·rw [upd_ne hpp]
    exact s5 _ _ eh
  ·obtain⟨o,ys,R,rfl,hA,hND,hz,eh⟩:=hP
   exact key H' ys R o hA hND hz eh
 subst hB
 intro H4 ys R o hA hND hz eh
 try dsimp only
 refine seq_go λB hB=>?_
 suffices key:∀ (H4:Hp) (ys:List V) (R:Nat->Nat->Rat),Acc (LsV RatV) noH H pr ys (tab n λi=>tab m (R i)) H4->ys.Nodup->(∀ i j,i < n->j < m->SzQ (szW bb) (R i j))->H4 ph=some (.lst [.int x0,.int x1,.int x2])->B [some (.ref a),some (.ref ph),some (.bl bb),some (.int (m:Int)),some (.ref pr),o] H4 by
  clear hB
  walk_at "rd"
  refine⟨_,eh,?_⟩
  walk_at "rd"
  refine ite2 (λc5=>?_) (λ_=>key H4 ys R hA hND hz eh)
  refine⟨_,.inl hA.at_,?_⟩
  rw [hA.at]
  refine ite2 (λc1=>?_) (λ_=>key H4 ys R hA hND hz eh)
  have hn1:1 < n:=by omega
  obtain⟨_,ys',x,e,hp',hl',hx',hrow⟩:=hA.done.ix (i:=0) (by omega)
  cases e
  obtain⟨_,hp4⟩:=nw_lst hp'
  obtain⟨px,zs,rfl,hpx,hzl,hzs⟩:=hrow.at
  have hpx4:=nw_sub hA.sm _ _ (del_sub _ _ hpx)
  refine⟨_,hp4,_,hx',px,_,rfl,.inl (.of hpx4),λl H5 hl5 s5 e5=>?_⟩
  have hfr:LsV RatV (Nw H4 H5) (.ref l) (tab m (R 0)):=rat_ls hl5 s5 e5 ⟨by rw [tab_len,hzl],λi y a' h1 h2=>by
   obtain⟨hi,rfl⟩:=tab_get h2
   exact (((hzs i y h1).2.same del_sub).same del_sub).same (λb u e=>s5 _ _ (nw_sub hA.sm _ _ e))⟩
  obtain⟨g1,g2⟩:=hA.set (j:=n - 1) lsQ_mono s5 hfr
  refine⟨_,g1,n - 1,by rw [hA.at]; exact ixN_last (by omega),?_⟩
  have g2':Acc (LsV RatV) noH H pr (ys.set (n - 1) (V.ref l)) (tab n λi=>tab m ((λi=>if i=n - 1 then R 0 else R i) i)) (upd H5 pr (.lst (ys.set (n - 1) (V.ref l)))):=by
   rw [tab_congr (g:=λi=>if i=n - 1 then tab m (R 0) else tab m (R i)) λi _=>by dsimp only; split <;> rfl]
   exact g2
  refine key _ _ _ g2' (nodup_set hND (acc_fresh hA s5 hfr)) (λi j hi hj=>?_) (by rw [upd_ne hpp]; exact s5 _ _ eh)
  split
  ·exact hz 0 j (by omega) hj
  ·exact hz i j hi hj
 subst hB
 clear hA hND hz eh H4 ys R
 intro H4 ys R hA hND hz eh
 try dsimp only
 refine seq_go λB hB=>?_
 suffices key:∀ (H4:Hp) (ys:List V) (R:Nat->Nat->Rat),Acc (LsV RatV) noH H pr ys (tab n λi=>tab m (R i)) H4->ys.Nodup->(∀ i j,i < n->j < m->SzQ (szT bb) (R i j))->B [some (.ref a),some (.ref ph),some (.bl bb),some (.int (m:Int)),some (.ref pr),o] H4 by
  clear hB
  have hzT:∀ i j,i < n->j < m->SzQ (szT bb) (R i j):=λi j hi hj=>(hz i j hi hj).mono (by cases bb <;> decide)
  walk_at "rd"
  refine⟨_,eh,?_⟩
  walk_at "rd"
  refine ite2 (λc5=>?_) (λ_=>key H4 ys R hA hND hzT)
  refine⟨_,.inl hA.at_,?_⟩
  rw [hA.at]
  refine ite2 (λc1=>?_) (λ_=>key H4 ys R hA hND hzT)
  have hn1:2 < n:=by omega
  have hbf:bb=false:=b36 c5
  simp only [tComp,iZip,cxK]
  walk_at "rd"
  obtain⟨_,ys',x,e,hp',hl',hx',hrow⟩:=hA.done.ix (i:=0) (by omega)
  cases e
  obtain⟨_,hp4⟩:=nw_lst hp'
  obtain⟨px,zs,rfl,hpx,hzl,hzs⟩:=hrow.at
  have hpx4:=nw_sub hA.sm _ _ (del_sub _ _ hpx)
  obtain⟨_,ys'',x',e,hp'',hl'',hx'',hrow'⟩:=hA.done.ix (i:=1) (by omega)
  cases e
  obtain⟨_,hp5⟩:=nw_lst hp''
  obtain⟨px',zs',rfl,hpx',hzl',hzs'⟩:=hrow'.at
  have hpx5:=nw_sub hA.sm _ _ (del_sub _ _ hpx')
  refine⟨_,hp4,_,hx',_,hp5,_,hx'',px,rfl,px',rfl,⟨_,.of hpx4⟩,⟨_,.of hpx5⟩,?_⟩
  refine blkA_zip (B:=noH) RatV (λj=>R 0 j + R 1 j) rat_mono noH_same hpx4 hpx5 hzl hzl' (by omega) (λj x z hj hx hz' H' k os t' ht' sm ho hk=>?_) (λl H5 hl5 s5 hfr=>?_)
  ·obtain⟨o1,o2,rfl⟩:=len_two ho
   have h1:=((((hzs j x hx).2.same del_sub).same del_sub).same (nw_sub hA.sm)).same sm
   have h2:=((((hzs' j z hz').2.same del_sub).same del_sub).same (nw_sub hA.sm)).same sm
   walk_at "rd"
   simp only [ht']
   walk_at "rd"
   exact⟨[_,_],rfl,rfl,x,z,_,_,rfl,h1,h2,⟨_,_,(hz 0 j (by omega) hj).toF (by rw [hbf]; decide),(hz 1 j (by omega) hj).toF (by rw [hbf]; decide),by rw [hbf]; decide⟩,λr H6 s6 hr6=>hk _ _ s6 (rat_nw s6 hr6)⟩
  obtain⟨g1,g2⟩:=hA.set (j:=n - 1) lsQ_mono s5 hfr
  refine⟨_,g1,n - 1,by rw [hA.at]; exact ixN_last (by omega),?_⟩
  have g2':Acc (LsV RatV) noH H pr (ys.set (n - 1) (V.ref l)) (tab n λi=>tab m ((λi=>if i=n - 1 then (λj=>R 0 j + R 1 j) else R i) i)) (upd H5 pr (.lst (ys.set (n - 1) (V.ref l)))):=by
   rw [tab_congr (g:=λi=>if i=n - 1 then tab m (λj=>R 0 j + R 1 j) else tab m (R i)) λi _=>by dsimp only; split <;> rfl]
   exact g2
  refine key _ _ _ g2' (nodup_set hND (acc_fresh hA s5 hfr)) (λi j hi hj=>?_)
  split
  ·have:=(hz 0 j (by omega) hj).plus (hz 1 j (by omega) hj)
   rw [hbf] at this ⊢
   exact this
  ·exact hzT i j hi hj
 subst hB
 clear hA hND hz eh H4 ys R
 intro H4 ys R hA hND hz
 walk_at "rd"
 intro p H5 hp5 s5 e5
 obtain⟨cs,hRN⟩:=rowsN_of hA hND
 exact q p H5 _ cs n m bb R (hA.sm.trans s5) e5 (hRN.same s5) (by omega) (by omega) hn2 hz
def sp_lunder:Sp:=λvs H Q _=>∃ (x y:V) (p q:Rat),vs=[x,y]/\RatV H x p/\RatV H y q/\(∃ a b,SzF a p/\SzF b q/\a + b<=200000)/\Q (.bl (decide (p < q))) H
def sp_lcolumn:Sp:=λvs H Q _=>∃ (v:V) (j n m:Nat) (r:Nat->Nat->Rat),vs=[v,.int (j:Int)]/\LsV (LsV RatV) H v (tab n λi=>tab m (r i))/\n < 1000/\j < m/\∀ x H',Same H H'->LsV RatV (Nw H H') x (tab n λi=>r i j)->Q x H'
def sp_lsolves:Sp:=λvs H Q _=>∃ (rv qv xv:V) (n m:Nat) (R:Nat->Nat->Rat) (q cs x:Nat->Rat),vs=[rv,qv,xv,.int (m:Int)]/\LsV (LsV RatV) H rv (tab n λi=>tab m (R i))/\LsV RatV H qv (tab n q)/\LsV RatV H xv (tab m x)/\n < 1000/\m < 1000/\Sol n m R q cs x/\∀ H',Same H H'->Q (.bl true) H'
theorem DotSz.all{a b:Nat->Rat}(h:DotSz n a b):∀ i,i < n->∃ x y z,SzE x (sumQ i λj=>a j * b j)/\SzE y (a i)/\SzE z (b i)/\x + y + z<=8000:=h
def num_nn:0<=q ↔ 0<=q.num:=Rat.num_nonneg.symm
def lt_num{p q:Rat}:p < q ↔ p.num * q.den < q.num * p.den:=Rat.lt_iff p q
def num_pos_iff:0 < q.num ↔ 0 < q:=by
 rw [Rat.lt_iff]
 show _ ↔ 0 * _ < q.num * 1
 omega
def num_neg_iff:q.num < 0 ↔ q < 0:=by
 rw [Rat.lt_iff]
 show _ ↔ q.num * 1 < 0 * _
 omega
def ok_lunder(F:Fun K "_law_under" "_law_under" s_law_under f fd):FnOk P w K mg base CX0 1 f fd ["_law_one","_law_other"] sp_lunder:=by
 refine okR F sc_law_under λcdv A outer s H vs Q E hr h=>?_
 obtain⟨x,y,p,t,rfl,⟨a,rfl,ha⟩,⟨b,rfl,hb⟩,⟨na,nb,z1,z2,hab⟩,q⟩:=h
 refine⟨_,(b_one (s_ret (q_lt (q_mulL (q_ixT (q_v 0) q_int) (q_ixT (q_v 1) q_int)) (q_mulL (q_ixT (q_v 1) q_int) (q_ixT (q_v 0) q_int))))),?_⟩
 rw [show start ["_law_one","_law_other"] [.ref a,.ref b]=[some (.ref a),some (.ref b)] from rfl]
 walk_at "rd"
 simp only [ha,hb]
 walk_at "rd"
 refine⟨mulOk z1.1 (den_ltF z2) (by omega),mulOk z2.1 (den_ltF z1) (by omega),?_⟩
 rw [show decide (p < t)=decide (p.num * (t.den:Int) < t.num * (p.den:Int)) from decide_eq_decide.mpr lt_num] at q
 exact q
def ok_lcolumn(F:Fun K "_law_column" "_law_column" s_law_column f fd):FnOk P w K mg base CX0 1 f fd ["_law_rows","_law_k"] sp_lcolumn:=by
 refine okR F sc_law_column λcdv A outer s H vs Q E hr h=>?_
 obtain⟨v,j,n,m,r,rfl,hv,hn,hj,q⟩:=h
 refine⟨_,(b_one (s_ret (q_comp (blkC ["_law_row"] [1] ["_law_k"]) (i_list (q_v 0)) (by exact λs H fp=>(g_name 0 (show List.Nodup (["_law_row","_law_k"]:List Str) from by decide +kernel))) (by exact λs H fp=>(q_ixL (q_v 0) (q_v 1)))))),?_⟩
 rw [show start ["_law_rows","_law_k"] [v,.int (j:Int)]=[some (v),some (.int (j:Int))] from rfl]
 obtain⟨p,ys,rfl,hp,hl,hy⟩:=hv.at
 walk_at "rd"
 simp only [tComp,iList,cxK]
 walk_at "rd"
 refine⟨⟨_,.of hp⟩,?_⟩
 refine blkA_list (B:=noH) RatV (λi=>r i j) rat_mono noH_same hp hl hn (λi x hin hx H' k os sm ho hk=>?_) (λp' H' _ s' h'=>q _ _ s' h')
 obtain⟨o,rfl⟩:∃ o,os=[o]:=List.length_eq_one_iff.mp ho
 obtain⟨_,hrow⟩:=hy i x hx
 obtain⟨c,zs,y,rfl,h1,_,h3,h4⟩:=hrow.ix hj
 walk_at "rd"
 refine⟨[_],rfl,rfl,_,sm _ _ (del_sub _ _ h1),_,h3,hk _ _ (λ_ _ z=>z) ?_⟩
 obtain⟨b,rfl,hb⟩:=h4
 exact⟨b,rfl,rch_some.mpr (.inr ⟨rfl,.inr ⟨_,sm _ _ (del_sub _ _ (del_sub _ _ hb)),rfl⟩⟩)⟩
def bools_at{H H':Hp}{f:Nat->Bool}(h:LsV (λ_ v (b:Bool)=>v=V.bl b) (Nw H H') (.ref p) (tab n f))(s:Same H H'):H' p=some (.lst ((tab n f).map V.bl)):=by
 obtain⟨_,zs,e,h1,h2⟩:=h
 cases e
 rw [nw_sub s _ _ h1]
 congr 2
 refine YH λi=>?_
 rw [tab_map]
 by_cases c:i < n
 ·have hx:=Yb (show i < zs.length by rw [h2.1,tab_len]; exact c)
  rw [tab_at c,hx,h2.2 i _ _ hx (tab_at c)]
 ·rw [Yp (by rw [h2.1,tab_len]; omega),Yp (by rw [tab_len]; omega)]
def ok_lsolves(F:Fun K "_law_solves" "_law_solves" s_law_solves f fd)(n_all:mg "all"=none)(n_zip:mg "zip"=none)(F_law_list:Fn P w K mg base CX0 3 "_law_list" ["_law_found","_law_many"] sp_llist)(F_law_dot:Fn P w K mg base CX0 4 "_law_dot" ["_law_one","_law_other"] sp_ldot):FnOk P w K mg base CX0 5 f fd ["_law_rows","_law_rights","_law_found","_law_many"] sp_lsolves:=by
 refine okR F sc_law_solves λcdv A outer s H vs Q E hr h=>?_
 obtain⟨rv,qv,xv,n,m,R,t,cs,x,rfl,hR,hq,hx,hn,hm,hS,q⟩:=h
 refine⟨_,(b_cons (s_if (t_w (w_or (t_not (t_val (qfn F_law_list hr (a_c (q_v 2) (a_c (q_v 3) a_nil))))) (w_or1 (t_not (t_val (q_allB rfl n_all (a_c (q_comp (blk0 ["_law_one"]) (i_list (q_v 2)) (by exact λs H fp=>(g_name 0 (show List.Nodup (["_law_one"]:List Str) from by decide +kernel))) (by exact λs H fp=>(q_ge (q_ixT (q_v 0) q_int) q_int))) a_nil))))))) (b_one (s_ret q_bl)) b_nil)
   (b_one (s_ret (q_allB rfl n_all (a_c (q_comp (blkC ["_law_row","_law_right"] [2] ["_law_found"]) (i_zip rfl n_zip (a_c (q_v 0) (a_c (q_v 1) a_nil))) (by exact λs H fp=>(g_tup (n:=2) (gs_cons (g_name 0 (show List.Nodup (["_law_row","_law_right","_law_found"]:List Str) from by decide +kernel)) (gs_cons (g_name 1 (show List.Nodup (["_law_row","_law_right","_law_found"]:List Str) from by decide +kernel)) gs_nil)))) (by exact λs H fp=>(q_eqD hr (qfn F_law_dot hr (a_c (q_v 0) (a_c (q_v 2) a_nil))) (q_v 1)))) a_nil))))),?_⟩
 rw [show start ["_law_rows","_law_rights","_law_found","_law_many"] [rv,qv,xv,.int (m:Int)]=[some (rv),some (qv),some (xv),some (.int (m:Int))] from rfl]
 obtain⟨px,xs,rfl,hpx,hxl,hxs⟩:=hx.at
 obtain⟨pr,rs,rfl,hpr,hrl,hrs⟩:=hR.at
 obtain⟨pq,qs,rfl,hpq,hql,hqs⟩:=hq.at
 walk_at "rd"
 refine⟨.ref px,m,x,rfl,hx,hm,hS.den,λH1 s1=>⟨_,rfl,?_⟩⟩
 rw [if_neg (by decide)]
 simp only [tComp,iList,iZip,cxK]
 walk_at "rd"
 refine⟨⟨_,.of (s1 _ _ hpx)⟩,?_⟩
 refine blkA_list (B:=noH) (λ_ v (b:Bool)=>v=V.bl b) (λ_=>true) (λ_ _ _ _ h _=>h) noH_same (s1 _ _ hpx) hxl hm (λj y hj hy H' k os sm ho hk=>?_) (λpb H2 _ s2 hb=>?_)
 ·obtain⟨o,rfl⟩:∃ o,os=[o]:=List.length_eq_one_iff.mp ho
  obtain⟨_,c,rfl,hc⟩:=hxs j y hy
  walk_at "rd"
  refine⟨[_],rfl,rfl,_,sm _ _ (s1 _ _ (del_sub _ _ hc)),_,atI0 _ _,_,rfl,hk _ _ (λ_ _ z=>z) ?_⟩
  rw [Yz (num_nn.mp (hS.nn j hj))]
 refine⟨pb,rfl,_,bools_at hb s2,?_⟩
 rw [if_neg (by rw [show (tab m λ_=>true).all id=true from by simp [tab]]; decide)]
 have s12:=s1.trans s2
 refine⟨⟨_,.of (s12 _ _ hpr)⟩,⟨_,.of (s12 _ _ hpq)⟩,?_⟩
 refine blkA_zip (B:=noH) (λ_ v (b:Bool)=>v=V.bl b) (λ_=>true) (λ_ _ _ _ h _=>h) noH_same (s12 _ _ hpr) (s12 _ _ hpq) hrl hql hn (λj x' z hj hx' hz' H' k os t' ht' sm' ho hk=>?_) (λpb H3 hpb s3 hb3=>?_)
 ·obtain⟨o1',o2',rfl⟩:=len_two ho
  obtain⟨_,hrow⟩:=hrs j x' hx'
  obtain⟨_,hqt⟩:=hqs j z hz'
  have s12':=s12.trans sm'
  walk_at "rd"
  simp only [ht']
  walk_at "rd"
  refine⟨[_,_],rfl,rfl,x',.ref px,m,_,_,rfl,lsQ_mono _ _ _ _ hrow λb u e=>s12' _ _ (del_sub _ _ e),lsQ_mono _ _ _ _ hx s12',hm,hS.d1 j hj,λr H13 s13 hr13=>?_⟩
  rw [hS.eq j hj] at hr13
  have hz13:=(hqt.same del_sub).same (s12'.trans s13)
  have he:=eqd_ratD hr13 hz13
  rw [Yz rfl] at he
  obtain⟨pr',rfl,_⟩:=id hr13
  obtain⟨pz',rfl,_⟩:=id hz13
  exact⟨true,1,_,_,rfl,rfl,he,by decide,hk _ _ s13 rfl⟩
 ·refine⟨pb,rfl,_,bools_at hb3 s3,?_⟩
  rw [show (tab n λ_=>true).all id=true from by simp [tab]]
  exact q _ (s12.trans s3)
def DotSz.full{a b:Nat->Rat}(h:DotSz n a b):∃ s,s<=8001/\SzF s (sumQ n λj=>a j * b j):=by
 match n,h with
 | 0,_=>exact⟨1,by decide,YQ _,by show 1 < 2 ^ 1; decide⟩
 | n + 1,h =>
  obtain⟨x,y,z,h1,h2,h3,h4⟩:=h n (by omega)
  have h5:=h2.prodF h3
  refine⟨x + (y + z),by omega,?_⟩
  rw [sumQ]
  rw [add_divInt]
  have p40:(a n * b n).num.natAbs < 2 ^ 40000:=by
   rw [mul_divInt]
   exact Ye (divInt_num_le (den_mul_ne _ _)) (mul_lt_pow h2.1 h3.1)
  refine⟨Ye (divInt_num_le (den_mul_ne _ _)) (pow_mono (add_lt_pow (c:=60000) (mul_lt_pow (a:=20000) (b:=8000) h1.1 (pow_mono (den_ltF h5) (by omega))) (mul_lt_pow (a:=40000) (b:=8000) p40 (pow_mono (den_ltE h1) (by omega))) (by decide) (by decide)) (by decide)),Ye (divInt_den_le (den_mul_ne _ _)) (mul_lt_pow (den_ltE h1) (den_ltF h5))⟩
structure Given(H:Hp)(rv qv cv:V)(n m:Nat)(R:Nat->Nat->Rat)(q cs:Nat->Rat):Prop where
 R:LsV (LsV RatV) H rv (tab n λi=>tab m (R i))
 q:LsV RatV H qv (tab n q)
 c:LsV RatV H cv (tab m cs)
 n:n < 1000
 m:m < 1000
def Given.same{H H':Hp}{rv qv cv:V}{n m:Nat}{q cs:Nat->Rat}(h:Given H rv qv cv n m R q cs)(s:Same H H'):Given H' rv qv cv n m R q cs:=⟨msQ_mono _ _ _ _ h.1 s,lsQ_mono _ _ _ _ h.2 s,lsQ_mono _ _ _ _ h.3 s,h.4,h.5⟩
def sp_lleast:Sp:=λvs H Q _=>∃ (rv qv cv:V) (p:Addr) (n m:Nat) (R:Nat->Nat->Rat) (q cs x y:Nat->Rat) (u:Rat) (wv xv yv:V),vs=[rv,qv,cv,.ref p]/\Given H rv qv cv n m R q cs/\H p=some (.tup [.str (Str.ofString "least"),wv,xv,yv])/\RatV H wv u/\LsV RatV H xv (tab m x)/\LsV RatV H yv (tab n y)/\LeastT n m R q cs x y u/\∀ H',Same H H'->Q (.bl true) H'
def sp_lnone:Sp:=λvs H Q _=>∃ (rv qv cv:V) (p:Addr) (n m:Nat) (R:Nat->Nat->Rat) (q cs y:Nat->Rat) (yv:V),vs=[rv,qv,cv,.ref p]/\Given H rv qv cv n m R q cs/\H p=some (.tup [.str (Str.ofString "none"),yv])/\LsV RatV H yv (tab n y)/\NoneT n m R q y/\∀ H',Same H H'->Q (.bl true) H'
def sp_lend:Sp:=λvs H Q _=>∃ (rv qv cv:V) (p:Addr) (n m:Nat) (R:Nat->Nat->Rat) (q cs x d:Nat->Rat) (xv dv:V),vs=[rv,qv,cv,.ref p]/\Given H rv qv cv n m R q cs/\H p=some (.tup [.str (Str.ofString "endless"),xv,dv])/\LsV RatV H xv (tab m x)/\LsV RatV H dv (tab m d)/\EndT n m R q cs x d/\∀ H',Same H H'->Q (.bl true) H'
def ok_lleast(F:Fun K "_law_least" "_law_least" s_law_least f fd)(n_len:mg "len"=none)(n_range:mg "range"=none)(F_law_ratio:Fn P w K mg base CX0 2 "_law_ratio" ["_law_found"] sp_lratio)(F_law_solves:Fn P w K mg base CX0 5 "_law_solves" ["_law_rows","_law_rights","_law_found","_law_many"] sp_lsolves)(F_law_list:Fn P w K mg base CX0 3 "_law_list" ["_law_found","_law_many"] sp_llist)(F_law_dot:Fn P w K mg base CX0 4 "_law_dot" ["_law_one","_law_other"] sp_ldot)(F_law_under:Fn P w K mg base CX0 1 "_law_under" ["_law_one","_law_other"] sp_lunder)(F_law_column:Fn P w K mg base CX0 1 "_law_column" ["_law_rows","_law_k"] sp_lcolumn):FnOk P w K mg base CX0 6 f fd ["_law_rows","_law_rights","_law_costs","_law_told"] sp_lleast:=by
 refine okR F sc_law_least λcdv A outer s H vs Q E hr h=>?_
 obtain⟨rv,qv,cv,p,n,m,R,t,cs,x,y,u,wv,xv,yv,rfl,hG,hp,hw,hx,hy,⟨hS,hP,hud,he1,hle,he2⟩,q⟩:=h
 refine⟨_,(b_cons (s_if (t_w (w_or (t_ne (q_len rfl n_len (a_c (q_v 3) a_nil)) q_int) (w_or (t_not (t_val (qfn F_law_ratio hr (a_c (q_ixT (q_v 3) q_int) a_nil)))) (w_or1 (t_not (t_val (qfn F_law_solves hr (a_c (q_v 0) (a_c (q_v 1) (a_c (q_ixT (q_v 3) q_int) (a_c (q_len rfl n_len (a_c (q_v 2) a_nil)) a_nil))))))))))) (b_one (s_ret q_bl)) b_nil)
   (b_cons (s_if (t_w (w_or (t_not (t_val (qfn F_law_list hr (a_c (q_ixT (q_v 3) q_int) (a_c (q_len rfl n_len (a_c (q_v 0) a_nil)) a_nil))))) (w_or1 (t_neD hr (qfn F_law_dot hr (a_c (q_v 2) (a_c (q_ixT (q_v 3) q_int) a_nil))) (q_ixT (q_v 3) q_int))))) (b_one (s_ret q_bl)) b_nil)
   (b_cons (s_for Yj (i_rng1 rfl n_range (a_c (q_len rfl n_len (a_c (q_v 2) a_nil)) a_nil)) (g_name 4 sc_law_least.nd) (b_one (s_if (t_val (qfn F_law_under hr (a_c (q_ixL (q_v 2) (q_v 4)) (a_c (qfn F_law_dot hr (a_c (qfn F_law_column hr (a_c (q_v 0) (a_c (q_v 4) a_nil))) (a_c (q_ixT (q_v 3) q_int) a_nil))) a_nil)))) (b_one (s_ret q_bl)) b_nil)))
   (b_one (s_ret (q_eqD hr (qfn F_law_dot hr (a_c (q_v 1) (a_c (q_ixT (q_v 3) q_int) a_nil))) (q_ixT (q_v 3) q_int))))))),?_⟩
 rw [show start ["_law_rows","_law_rights","_law_costs","_law_told","_law_k"] [rv,qv,cv,.ref p]=[some (rv),some (qv),some (cv),some (.ref p),none] from rfl]
 have hn:=hG.n
 have hm:=hG.m
 obtain⟨pr,rs,rfl,hpr,hrl,hrs⟩:=hG.R.at
 obtain⟨pc,cs',rfl,hpc,hcl,hcs⟩:=hG.c.at
 obtain⟨pq,qs,rfl,hpq,hql,hqs⟩:=hG.q.at
 refine seq_go λB hB=>?_
 walk_at "rd"
 refine⟨_,.inr hp,?_⟩
 rw [if_neg (by simp)]
 simp only [hp]
 walk_at "rd"
 refine⟨wv,u,rfl,hw,hud,λH1 s1=>⟨true,rfl,?_⟩⟩
 rw [if_neg (by decide)]
 refine⟨_,s1 _ _ hp,xv,atI2 _ _ _ _,_,.inl (s1 _ _ hpc),?_⟩
 rw [hcl]
 have hG1:=hG.same s1
 refine⟨.ref pr,.ref pq,xv,n,m,R,t,cs,x,rfl,hG1.R,hG1.q,lsQ_mono _ _ _ _ hx s1,hn,hm,hS,λH2 s2=>⟨true,rfl,?_⟩⟩
 rw [if_neg (by decide)]
 have s12:=s1.trans s2
 have hG2:=hG.same s12
 have hp2:=s12 _ _ hp
 subst hB
 try dsimp only
 refine seq_go λB hB=>?_
 walk_at "rd"
 refine⟨_,hp2,yv,atI3 _ _ _ _ _,_,.inl (s12 _ _ hpr),?_⟩
 rw [hrl]
 refine⟨yv,n,y,rfl,lsQ_mono _ _ _ _ hy s12,hn,hP.den,λH3 s3=>⟨true,rfl,?_⟩⟩
 rw [if_neg (by decide)]
 have s13:=s12.trans s3
 have hG3:=hG.same s13
 refine⟨_,s13 _ _ hp,xv,atI2 _ _ _ _,.ref pc,xv,m,cs,x,rfl,hG3.c,lsQ_mono _ _ _ _ hx s13,hm,hS.d2,λr H4 s4 hr4=>?_⟩
 rw [he1] at hr4
 have s14:=s13.trans s4
 have hw4:=hw.same s14
 have he:=eqd_ratD hr4 hw4
 rw [Yz rfl] at he
 obtain⟨pr',rfl,_⟩:=id hr4
 obtain⟨pw,rfl,_⟩:=id hw4
 refine⟨_,s14 _ _ hp,_,atI1 _ _ _,true,1,_,_,rfl,rfl,he,by decide,false,rfl,?_⟩
 rw [if_neg (by decide)]
 subst hB
 try dsimp only
 refine seq_go λB hB=>?_
 simp only [tFor_rng1]
 walk_at "rd"
 refine⟨_,.inl (s14 _ _ hpc),?_⟩
 rw [hcl]
 refine⟨by omega,by omega,?_⟩
 rw [Yu]
 refine rngK_of (λi Z H'=>∃ o,Z=[some (.ref pr),some (.ref pq),some (.ref pc),some (.ref p),o]/\Same H4 H') ⟨_,rfl,λ_ _ z=>z⟩ (λj Z H5 hj hQ=>?_) (λZ H5 hQ=>?_)
 ·obtain⟨o,rfl,sm⟩:=hQ
  have s15:=s14.trans sm
  have hG5:=hG.same s15
  obtain⟨yc,hyc⟩:∃ y,cs'[j]?=some y:=⟨_,Yb (by omega)⟩
  walk_at "rd"
  refine⟨_,s15 _ _ hpc,yc,atI_nat hyc,.ref pr,j,n,m,R,rfl,hG5.R,hn,hj,λcv' H6 s6 hcv=>?_⟩
  have s16:=s15.trans s6
  refine⟨_,s16 _ _ hp,yv,atI3 _ _ _ _ _,cv',yv,n,_,_,rfl,lsQ_mono _ _ _ _ hcv (nw_sub s6),lsQ_mono _ _ _ _ hy s16,hn,hP.d1 j hj,λr H7 s7 hr7=>?_⟩
  have hyc7:=((hcs j yc hyc).2.same del_sub).same (s16.trans s7)
  have zc:=hS.d2 j hj
  obtain⟨x1,y1,z1,_,zc,_,zle⟩:=zc
  obtain⟨sf,hsf,zf⟩:=(hP.d1 j hj).full
  refine⟨yc,r,_,_,rfl,hyc7,hr7,⟨_,_,zc.toF,zf,by omega⟩,_,rfl,?_⟩
  rw [YE (Rat.not_lt.mpr (hle j hj)),if_neg (by decide)]
  exact sm.trans (s6.trans s7)
 ·obtain⟨o,rfl,sm⟩:=hQ
  have s15:=s14.trans sm
  have hG5:=hG.same s15
  subst hB
  try dsimp only
  walk_at "rd"
  refine⟨_,s15 _ _ hp,yv,atI3 _ _ _ _ _,.ref pq,yv,n,_,_,rfl,hG5.q,lsQ_mono _ _ _ _ hy s15,hn,hP.d2,λr H6 s6 hr6=>?_⟩
  rw [he2] at hr6
  have hw6:=hw.same (s15.trans s6)
  have he:=eqd_ratD hr6 hw6
  rw [Yz rfl] at he
  obtain⟨pr6,rfl,_⟩:=id hr6
  exact⟨_,s6 _ _ (s15 _ _ hp),_,atI1 _ _ _,true,1,_,_,rfl,rfl,he,by decide,q _ (s15.trans s6)⟩
def ok_lnone(F:Fun K "_law_none" "_law_none" s_law_none f fd)(n_len:mg "len"=none)(n_range:mg "range"=none)(F_law_list:Fn P w K mg base CX0 3 "_law_list" ["_law_found","_law_many"] sp_llist)(F_law_dot:Fn P w K mg base CX0 4 "_law_dot" ["_law_one","_law_other"] sp_ldot)(F_law_column:Fn P w K mg base CX0 1 "_law_column" ["_law_rows","_law_k"] sp_lcolumn):FnOk P w K mg base CX0 5 f fd ["_law_rows","_law_rights","_law_costs","_law_told"] sp_lnone:=by
 refine okR F sc_law_none λcdv A outer s H vs Q E hr h=>?_
 obtain⟨rv,qv,cv,p,n,m,R,t,cs,y,yv,rfl,hG,hp,hy,⟨hP,hle,hgt⟩,q⟩:=h
 refine⟨_,(b_cons (s_if (t_w (w_or (t_ne (q_len rfl n_len (a_c (q_v 3) a_nil)) q_int) (w_or1 (t_not (t_val (qfn F_law_list hr (a_c (q_ixT (q_v 3) q_int) (a_c (q_len rfl n_len (a_c (q_v 0) a_nil)) a_nil)))))))) (b_one (s_ret q_bl)) b_nil)
   (b_cons (s_for Yj (i_rng1 rfl n_range (a_c (q_len rfl n_len (a_c (q_v 2) a_nil)) a_nil)) (g_name 4 sc_law_none.nd) (b_one (s_if (t_gt (q_ixT (qfn F_law_dot hr (a_c (qfn F_law_column hr (a_c (q_v 0) (a_c (q_v 4) a_nil))) (a_c (q_ixT (q_v 3) q_int) a_nil))) q_int) q_int) (b_one (s_ret q_bl)) b_nil)))
   (b_one (s_ret (q_gt (q_ixT (qfn F_law_dot hr (a_c (q_v 1) (a_c (q_ixT (q_v 3) q_int) a_nil))) q_int) q_int))))),?_⟩
 rw [show start ["_law_rows","_law_rights","_law_costs","_law_told","_law_k"] [rv,qv,cv,.ref p]=[some (rv),some (qv),some (cv),some (.ref p),none] from rfl]
 have hn:=hG.n
 have hm:=hG.m
 obtain⟨pr,rs,rfl,hpr,hrl,hrs⟩:=hG.R.at
 obtain⟨pc,cs',rfl,hpc,hcl,hcs⟩:=hG.c.at
 obtain⟨pq,qs,rfl,hpq,hql,hqs⟩:=hG.q.at
 refine seq_go λB hB=>?_
 walk_at "rd"
 refine⟨_,.inr hp,?_⟩
 rw [if_neg (by simp)]
 simp only [hp]
 walk_at "rd"
 refine⟨_,.inl hpr,?_⟩
 rw [hrl]
 refine⟨yv,n,y,rfl,hy,hn,hP.den,λH1 s1=>⟨true,rfl,?_⟩⟩
 rw [if_neg (by decide)]
 subst hB
 try dsimp only
 refine seq_go λB hB=>?_
 simp only [tFor_rng1]
 walk_at "rd"
 refine⟨_,.inl (s1 _ _ hpc),?_⟩
 rw [hcl]
 refine⟨by omega,by omega,?_⟩
 rw [Yu]
 refine rngK_of (λi Z H'=>∃ o,Z=[some (.ref pr),some (.ref pq),some (.ref pc),some (.ref p),o]/\Same H1 H') ⟨_,rfl,λ_ _ z=>z⟩ (λj Z H5 hj hQ=>?_) (λZ H5 hQ=>?_)
 ·obtain⟨o,rfl,sm⟩:=hQ
  have s15:=s1.trans sm
  have hG5:=hG.same s15
  walk_at "rd"
  refine⟨.ref pr,j,n,m,R,rfl,hG5.R,hn,hj,λcv' H6 s6 hcv=>?_⟩
  have s16:=s15.trans s6
  refine⟨_,s16 _ _ hp,yv,atI1 _ _ _,cv',yv,n,_,_,rfl,lsQ_mono _ _ _ _ hcv (nw_sub s6),lsQ_mono _ _ _ _ hy s16,hn,hP.d1 j hj,λr H7 s7 hr7=>?_⟩
  obtain⟨b,rfl,hb⟩:=hr7
  refine⟨b,rfl,_,hb,_,atI0 _ _,_,rfl,?_⟩
  rw [if_neg (by intro z; exact absurd (num_pos_iff.mp z) (Rat.not_lt.mpr (hle j hj)))]
  exact sm.trans (s6.trans s7)
 ·obtain⟨o,rfl,sm⟩:=hQ
  have s15:=s1.trans sm
  have hG5:=hG.same s15
  subst hB
  try dsimp only
  walk_at "rd"
  refine⟨_,s15 _ _ hp,yv,atI1 _ _ _,.ref pq,yv,n,_,_,rfl,hG5.q,lsQ_mono _ _ _ _ hy s15,hn,hP.d2,λr H6 s6 hr6=>?_⟩
  obtain⟨b,rfl,hb⟩:=hr6
  refine⟨b,rfl,_,hb,_,atI0 _ _,_,rfl,?_⟩
  rw [Yz (num_pos_iff.mpr hgt)]
  exact q _ (s15.trans s6)
def ok_lend(F:Fun K "_law_endless" "_law_endless" s_law_endless f fd)(n_len:mg "len"=none)(F_law_solves:Fn P w K mg base CX0 5 "_law_solves" ["_law_rows","_law_rights","_law_found","_law_many"] sp_lsolves)(F_law_dot:Fn P w K mg base CX0 4 "_law_dot" ["_law_one","_law_other"] sp_ldot):FnOk P w K mg base CX0 6 f fd ["_law_rows","_law_rights","_law_costs","_law_told"] sp_lend:=by
 refine okR F sc_law_endless λcdv A outer s H vs Q E hr h=>?_
 obtain⟨rv,qv,cv,p,n,m,R,t,cs,x,d,xv,dv,rfl,hG,hp,hx,hd,⟨hS,hS2,hneg⟩,q⟩:=h
 refine⟨_,(b_cons (s_if (t_w (w_or (t_ne (q_len rfl n_len (a_c (q_v 3) a_nil)) q_int) (w_or1 (t_not (t_val (qfn F_law_solves hr (a_c (q_v 0) (a_c (q_v 1) (a_c (q_ixT (q_v 3) q_int) (a_c (q_len rfl n_len (a_c (q_v 2) a_nil)) a_nil)))))))))) (b_one (s_ret q_bl)) b_nil)
   (b_cons (s_setComp 4 (blk0 ["_law_row"]) (i_list (q_v 0)) (by exact λs H fp=>(g_name 0 (show List.Nodup (["_law_row"]:List Str) from by decide +kernel))) (by exact λs H fp=>(q_tup (a_c q_int (a_c q_int a_nil)))) (g_name 4 sc_law_endless.nd))
   (b_one (s_ret (q_and (qfn F_law_solves hr (a_c (q_v 0) (a_c (q_v 4) (a_c (q_ixT (q_v 3) q_int) (a_c (q_len rfl n_len (a_c (q_v 2) a_nil)) a_nil))))) (q_one (q_lt (q_ixT (qfn F_law_dot hr (a_c (q_v 2) (a_c (q_ixT (q_v 3) q_int) a_nil))) q_int) q_int))))))),?_⟩
 rw [show start ["_law_rows","_law_rights","_law_costs","_law_told","_law_noughts"] [rv,qv,cv,.ref p]=[some (rv),some (qv),some (cv),some (.ref p),none] from rfl]
 have hn:=hG.n
 have hm:=hG.m
 obtain⟨pr,rs,rfl,hpr,hrl,hrs⟩:=hG.R.at
 obtain⟨pc,cs',rfl,hpc,hcl,hcs⟩:=hG.c.at
 refine seq_go λB hB=>?_
 walk_at "rd"
 refine⟨_,.inr hp,?_⟩
 rw [if_neg (by simp)]
 simp only [hp]
 walk_at "rd"
 refine⟨_,.inl hpc,?_⟩
 rw [hcl]
 refine⟨.ref pr,qv,xv,n,m,R,t,cs,x,rfl,hG.R,hG.q,hx,hn,hm,hS,λH1 s1=>⟨true,rfl,?_⟩⟩
 rw [if_neg (by decide)]
 subst hB
 try dsimp only
 refine seq_go λB hB=>?_
 walk_at "rd"
 simp only [tComp,iList,cxK]
 walk_at "rd"
 refine⟨⟨_,.of (s1 _ _ hpr)⟩,?_⟩
 refine blkA_list (B:=noH) RatV (λ_=>0) rat_mono noH_same (s1 _ _ hpr) hrl hn (λi y hi hy H' k os sm ho hk=>?_) (λpz H2 hpz s2 hz=>?_)
 ·obtain⟨o,rfl⟩:∃ o,os=[o]:=List.length_eq_one_iff.mp ho
  walk_at "rd"
  refine⟨[_],rfl,rfl,λb H3 hb s3 e3=>hk _ _ s3 (rat_nw s3 ⟨b,rfl,e3⟩)⟩
 have s12:=s1.trans s2
 subst hB
 try dsimp only
 walk_at "rd"
 refine⟨_,s12 _ _ hp,dv,atI2 _ _ _ _,_,.inl (s12 _ _ hpc),?_⟩
 rw [hcl]
 refine⟨.ref pr,.ref pz,dv,n,m,R,_,cs,d,rfl,(hG.same s12).R,lsQ_mono _ _ _ _ hz (nw_sub s2),lsQ_mono _ _ _ _ hd s12,hn,hm,hS2,λH3 s3=>⟨true,rfl,?_⟩⟩
 rw [if_pos rfl]
 have s13:=s12.trans s3
 refine⟨_,s13 _ _ hp,dv,atI2 _ _ _ _,.ref pc,dv,m,cs,d,rfl,(hG.same s13).c,lsQ_mono _ _ _ _ hd s13,hm,hS2.d2,λr H6 s6 hr6=>?_⟩
 obtain⟨b,rfl,hb⟩:=hr6
 refine⟨b,rfl,_,hb,_,atI0 _ _,_,rfl,?_⟩
 rw [Yz (num_neg_iff.mpr hneg)]
 exact q _ (s13.trans s6)
def Told(H:Hp)(p:Addr)(n m:Nat)(R:Nat->Nat->Rat)(q cs:Nat->Rat):Prop :=
 (∃ yv y,H p=some (.tup [.str (Str.ofString "none"),yv])/\LsV RatV H yv (tab n y)/\NoneT n m R q y) \/
 (∃ xv dv x d,H p=some (.tup [.str (Str.ofString "endless"),xv,dv])/\LsV RatV H xv (tab m x)/\LsV RatV H dv (tab m d)/\EndT n m R q cs x d) \/
 ∃ wv xv yv x y u,H p=some (.tup [.str (Str.ofString "least"),wv,xv,yv])/\RatV H wv u/\LsV RatV H xv (tab m x)/\LsV RatV H yv (tab n y)/\LeastT n m R q cs x y u
def Told.same{H H':Hp}{n m:Nat}{q cs:Nat->Rat}(h:Told H p n m R q cs)(s:Same H H'):Told H' p n m R q cs:=by
 rcases h with ⟨yv,y,h1,h2,h3⟩ | ⟨xv,dv,x,d,h1,h2,h3,h4⟩ | ⟨wv,xv,yv,x,y,u,h1,h2,h3,h4,h5⟩
 ·exact .inl ⟨yv,y,s _ _ h1,lsQ_mono _ _ _ _ h2 s,h3⟩
 ·exact .inr (.inl ⟨xv,dv,x,d,s _ _ h1,lsQ_mono _ _ _ _ h2 s,lsQ_mono _ _ _ _ h3 s,h4⟩)
 ·exact .inr (.inr ⟨wv,xv,yv,x,y,u,s _ _ h1,h2.same s,lsQ_mono _ _ _ _ h3 s,lsQ_mono _ _ _ _ h4 s,h5⟩)
def sp_lholds:Sp:=λvs H Q _=>∃ (rv qv cv:V) (p:Addr) (n m:Nat) (R:Nat->Nat->Rat) (q cs:Nat->Rat),vs=[rv,qv,cv,.ref p]/\Given H rv qv cv n m R q cs/\Told H p n m R q cs/\∀ H',Same H H'->Q (.bl true) H'
def sp_lasked:Sp:=λvs H Q _=>∃ (rv qv cv:V) (n m s z v:Nat) (R:Nat->Nat->Rat) (q cs:Nat->Rat),vs=[rv,qv,cv]/\Given H rv qv cv n m R q cs/\SzIn n m s z v R q cs/\∀ p H',Same H H'->Told H' p n m R q cs->Q (.ref p) H'
def str_ln:Str.ofString "least" ≠ Str.ofString "none":=by decide +kernel
def str_le:Str.ofString "least" ≠ Str.ofString "endless":=by decide +kernel
def str_en:Str.ofString "endless" ≠ Str.ofString "none":=by decide +kernel
def ok_lholds(F:Fun K "_law_holds" "_law_holds" s_law_holds f fd)(n_isinstance:mg "isinstance"=none)(n_tuple:mg "tuple"=none)(n_len:mg "len"=none)(n_str:mg "str"=none)(F_law_least:Fn P w K mg base CX0 6 "_law_least" ["_law_rows","_law_rights","_law_costs","_law_told"] sp_lleast)(F_law_none:Fn P w K mg base CX0 5 "_law_none" ["_law_rows","_law_rights","_law_costs","_law_told"] sp_lnone)(F_law_endless:Fn P w K mg base CX0 6 "_law_endless" ["_law_rows","_law_rights","_law_costs","_law_told"] sp_lend):FnOk P w K mg base CX0 7 f fd ["_law_rows","_law_rights","_law_costs","_law_told"] sp_lholds:=by
 refine okR F sc_law_holds λcdv A outer s H vs Q E hr h=>?_
 obtain⟨rv,qv,cv,p,n,m,R,t,cs,rfl,hG,hT,q⟩:=h
 refine⟨_,(b_cons (s_if (t_w (w_or (t_not (t_val (q_inst rfl n_isinstance (a_c (q_v 3) (a_c (q_ty rfl n_tuple rfl) a_nil))))) (w_or (t_eq (q_len rfl n_len (a_c (q_v 3) a_nil)) q_int) (w_or1 (t_not (t_val (q_inst rfl n_isinstance (a_c (q_ixT (q_v 3) q_int) (a_c (q_ty rfl n_str rfl) a_nil))))))))) (b_one (s_ret q_bl)) b_nil)
   (b_cons (s_if (t_eq (q_ixT (q_v 3) q_int) q_str) (b_one (s_ret (qfn F_law_least hr (a_c (q_v 0) (a_c (q_v 1) (a_c (q_v 2) (a_c (q_v 3) a_nil))))))) b_nil)
   (b_cons (s_if (t_eq (q_ixT (q_v 3) q_int) q_str) (b_one (s_ret (qfn F_law_none hr (a_c (q_v 0) (a_c (q_v 1) (a_c (q_v 2) (a_c (q_v 3) a_nil))))))) b_nil)
   (b_one (s_ret (q_and (q_eq (q_ixT (q_v 3) q_int) q_str) (q_one (qfn F_law_endless hr (a_c (q_v 0) (a_c (q_v 1) (a_c (q_v 2) (a_c (q_v 3) a_nil)))))))))))),?_⟩
 rw [show start ["_law_rows","_law_rights","_law_costs","_law_told"] [rv,qv,cv,.ref p]=[some (rv),some (qv),some (cv),some (.ref p)] from rfl]
 obtain⟨st,rest,hp⟩:∃ st rest,H p=some (.tup (.str st :: rest)):=by
  rcases hT with ⟨yv,y,h1,_⟩ | ⟨xv,dv,x,d,h1,_⟩ | ⟨wv,xv,yv,x,y,u,h1,_⟩ <;> exact⟨_,_,h1⟩
 refine seq_go λB hB=>?_
 walk_at "rd"
 refine⟨"tuple",kind_tup hp,?_⟩
 rw [if_neg (by decide)]
 refine⟨_,.inr hp,?_⟩
 rw [if_neg (by simp; omega)]
 refine⟨_,hp,_,atI0 _ _,"str",rfl,?_⟩
 rw [if_neg (by decide)]
 clear hp
 subst hB
 try dsimp only
 rcases hT with ⟨yv,y,h1,h2,h3⟩ | ⟨xv,dv,x,d,h1,h2,h3,h4⟩ | ⟨wv,xv,yv,x,y,u,h1,h2,h3,h4,h5⟩
 ·walk_at "rd"
  simp only [h1]
  walk_at "rd"
  rw [if_neg (λz=>str_ln z.symm)]
  exact⟨rv,qv,cv,p,n,m,R,t,cs,y,yv,rfl,hG,h1,h2,h3,q⟩
 ·walk_at "rd"
  simp only [h1]
  walk_at "rd"
  rw [if_neg (λz=>str_le z.symm),if_neg str_en]
  exact⟨rv,qv,cv,p,n,m,R,t,cs,x,d,xv,dv,rfl,hG,h1,h2,h3,h4,q⟩
 ·walk_at "rd"
  simp only [h1]
  walk_at "rd"
  exact⟨rv,qv,cv,p,n,m,R,t,cs,x,y,u,wv,xv,yv,rfl,hG,h1,h2,h3,h4,h5,q⟩
def ok_lasked(F:Fun K "_law_asked" "_law_asked" s_law_asked f fd)(n_list:mg "list"=none)(F_least:Fn P w K mg base CX0 6 "least" ["rows","rights","costs"] sp_least)(F_law_holds:Fn P w K mg base CX0 7 "_law_holds" ["_law_rows","_law_rights","_law_costs","_law_told"] sp_lholds):FnOk P w K mg base CX0 8 f fd ["_law_rows","_law_rights","_law_costs"] sp_lasked:=by
 refine okR F sc_law_asked λcdv A outer s H vs Q E hr h=>?_
 obtain⟨rv,qv,cv,n,m,s',z,v,R,t,cs,rfl,hG,hI,q⟩:=h
 refine⟨_,(b_cons (s_set 3 sc_law_asked.nd (q_tup (a_c (q_comp (blk0 ["_law_row"]) (i_list (q_v 0)) (by exact λs H fp=>(g_name 0 (show List.Nodup (["_law_row"]:List Str) from by decide +kernel))) (by exact λs H fp=>(q_listK K rfl n_list (a_c (q_v 0) a_nil)))) (a_c (q_list rfl n_list (a_c (q_v 1) a_nil)) (a_c (q_list rfl n_list (a_c (q_v 2) a_nil)) a_nil)))))
   (b_cons (s_set 4 sc_law_asked.nd (qfn F_least hr (a_c (q_ixT (q_v 3) q_int) (a_c (q_ixT (q_v 3) q_int) (a_c (q_ixT (q_v 3) q_int) a_nil)))))
   (b_cons (s_if (t_w (w_or (t_neD hr (q_v 3) (q_tup (a_c (q_v 0) (a_c (q_v 1) (a_c (q_v 2) a_nil))))) (w_or1 (t_not (t_val (qfn F_law_holds hr (a_c (q_v 0) (a_c (q_v 1) (a_c (q_v 2) (a_c (q_v 4) a_nil)))))))))) (b_one (s_ret (q_tup (a_c q_str (a_c q_str a_nil))))) b_nil)
   (b_one (s_ret (q_v 4)))))),?_⟩
 rw [show start ["_law_rows","_law_rights","_law_costs","_law_handed","_law_told"] [rv,qv,cv]=[some (rv),some (qv),some (cv),none,none] from rfl]
 have hn:=hG.n
 have hm:=hG.m
 obtain⟨pr,rs,rfl,hpr,hrl,hrs⟩:=hG.R.at
 obtain⟨pc,cs',rfl,hpc,hcl,hcs⟩:=hG.c.at
 obtain⟨pq,qs,rfl,hpq,hql,hqs⟩:=hG.q.at
 refine seq_go λB hB=>?_
 walk_at "rd"
 simp only [tComp,iList,cxK]
 walk_at "rd"
 refine⟨⟨_,.of hpr⟩,?_⟩
 refine blkA_list (B:=noH) (LsV RatV) (λi=>tab m (R i)) lsQ_mono noH_same hpr hrl hn (λi x hi hx H' k os sm ho hk=>?_) (λph H1 hph s1 hh1=>?_)
 ·obtain⟨o,rfl⟩:∃ o,os=[o]:=List.length_eq_one_iff.mp ho
  obtain⟨_,hrow⟩:=hrs i x hx
  obtain⟨px,us,rfl,hpx,hul,hus⟩:=hrow.at
  walk_at "rd"
  refine⟨[_],rfl,rfl,px,us,rfl,.inl (.of (sm _ _ (del_sub _ _ hpx))),λl H6 hl6 s6 e6=>hk _ _ s6 (rat_ls hl6 s6 e6 ⟨by rw [hul,tab_len],λj y aa g1 g2=>?_⟩)⟩
  obtain⟨_,rfl⟩:=tab_get g2
  exact (((hus j y g1).2.same del_sub).same del_sub).same (sm.trans s6)
 refine⟨pq,qs,rfl,.inl (.of (s1 _ _ hpq)),λp2 H2 hp2 s2 e2=>⟨pc,cs',rfl,.inl (.of (s2 _ _ (s1 _ _ hpc))),λp3 H3 hp3 s3 e3 pt H4 hpt s4 e4=>?_⟩⟩
 have h1:=msQ_mono _ _ _ _ hh1 ((nw_sub s1).trans (s2.trans (s3.trans s4)))
 have h2:LsV RatV H4 (.ref p2) (tab n t):=lsQ_mono _ _ _ _ (rat_ls hp2 s2 e2 ⟨by rw [hql,tab_len],λj y aa g1 g2=>by
  obtain⟨_,rfl⟩:=tab_get g2
  exact ((hqs j y g1).2.same del_sub).same (s1.trans s2)⟩) ((nw_sub s2).trans (s3.trans s4))
 have h3:LsV RatV H4 (.ref p3) (tab m cs):=lsQ_mono _ _ _ _ (rat_ls hp3 s3 e3 ⟨by rw [hcl,tab_len],λj y aa g1 g2=>by
  obtain⟨_,rfl⟩:=tab_get g2
  exact ((hcs j y g1).2.same del_sub).same (s1.trans (s2.trans s3))⟩) ((nw_sub s3).trans s4)
 have s04:=s1.trans (s2.trans (s3.trans s4))
 have hG4:=hG.same s04
 clear hh1
 subst hB
 try dsimp only
 refine seq_go λB hB=>?_
 walk_at "rd"
 simp only [e4]
 walk_at "rd"
 suffices key:∀ (pa:Addr) (H5:Hp),Same H4 H5->Told H5 pa n m R t cs->B [some (.ref pr),some (.ref pq),some (.ref pc),some (.ref pt),some (.ref pa)] H5 from
  ⟨.ref ph,.ref p2,.ref p3,n,m,s',z,v,R,t,cs,rfl,h1,h2,h3,hI,λpa H5 yv y s5 e5 h5 h6=>key pa H5 s5 (.inl ⟨yv,y,e5,lsQ_mono _ _ _ _ h5 (nw_sub s5),h6⟩),λpa H5 xv dv x d s5 e5 h5 h6 h7=>key pa H5 s5 (.inr (.inl ⟨xv,dv,x,d,e5,lsQ_mono _ _ _ _ h5 (nw_sub s5),lsQ_mono _ _ _ _ h6 (nw_sub s5),h7⟩)),λpa H5 wv xv yv x y u s5 e5 h5 h6 h7 h8=>key pa H5 s5 (.inr (.inr ⟨wv,xv,yv,x,y,u,e5,h5,lsQ_mono _ _ _ _ h6 (nw_sub s5),lsQ_mono _ _ _ _ h7 (nw_sub s5),h8⟩))⟩
 subst hB
 intro pa H5 s5 hT
 try dsimp only
 walk_at "rd"
 intro pz H6 hpz s6 e6
 have s56:=s5.trans s6
 have he:EqD H6 (.ref pt) (.ref pz) true 4:=by
  have h:=EqD.tup (e:=λ_=>true) (n:=3) (s56 _ _ e4) e6 λj x y g1 g2=>by
   match j,g1,g2 with
   | 0,g1,g2=>cases g1; cases g2; exact eqd_mat (msQ_mono _ _ _ _ h1 s56) (msQ_mono _ _ _ _ hG4.R s56)
   | 1,g1,g2=>cases g1; cases g2; exact (eqd_same (lsQ_mono _ _ _ _ h2 s56) (lsQ_mono _ _ _ _ hG4.q s56)).up
   | 2,g1,g2=>cases g1; cases g2; exact (eqd_same (lsQ_mono _ _ _ _ h3 s56) (lsQ_mono _ _ _ _ hG4.c s56)).up
  exact h
 refine⟨true,4,pt,pz,rfl,rfl,he,by decide,false,rfl,?_⟩
 rw [if_neg (by decide)]
 refine⟨.ref pr,.ref pq,.ref pc,pa,n,m,R,t,cs,rfl,hG4.same s56,hT.same s6,λH7 s7=>⟨true,rfl,?_⟩⟩
 rw [if_neg (by decide)]
 exact q pa H7 (s04.trans (s56.trans s7)) (hT.same (s6.trans s7))
def sp_latleast:Sp:=λvs H Q _=>∃ (v:V) (n:Nat) (a:Nat->Rat),vs=[v]/\LsV RatV H v (tab n a)/\n < 1000/\∀ x H' b,Same H H'->LsV RatV (Nw H H') x (tab n b)->(∀ i,i < n->0<=b i/\∀ k,SzQ k (a i)->SzQ k (b i))->Q x H'
def absQ(q:Rat):Rat:=if 0<=q.num then q else -q
def absQ_nn(q:Rat):0<=absQ q:=by
 unfold absQ
 split
 ·exact num_nn.mpr (by assumption)
 ·exact num_nn.mpr (by rw [Rat.neg_num]; omega)
def absQ_parts(q:Rat):(absQ q).num=(q.num.natAbs:Int)/\(absQ q).den=q.den:=by
 unfold absQ
 split
 ·exact⟨by omega,rfl⟩
 ·exact⟨by rw [Rat.neg_num]; omega,Rat.neg_den q⟩
def ok_latleast(F:Fun K "_law_at_least" "_law_at_least" s_law_at_least f fd)(n_abs:mg "abs"=none):FnOk P w K mg base CX0 1 f fd ["_law_some"] sp_latleast:=by
 refine okR F sc_law_at_least λcdv A outer s H vs Q E hr h=>?_
 obtain⟨v,n,a,rfl,hv,hn,q⟩:=h
 refine⟨_,(b_one (s_ret (q_comp (blk0 ["_law_one"]) (i_list (q_v 0)) (by exact λs H fp=>(g_name 0 (show List.Nodup (["_law_one"]:List Str) from by decide +kernel))) (by exact λs H fp=>(q_tup (a_c (q_abs rfl n_abs (a_c (q_ixT (q_v 0) q_int) a_nil)) (a_c (q_ixT (q_v 0) q_int) a_nil))))))),?_⟩
 rw [show start ["_law_some"] [v]=[some (v)] from rfl]
 obtain⟨p,ys,rfl,hp,hl,hy⟩:=hv.at
 walk_at "rd"
 simp only [tComp,iList,cxK]
 walk_at "rd"
 refine⟨⟨_,.of hp⟩,?_⟩
 refine blkA_list (B:=noH) RatV (λi=>absQ (a i)) rat_mono noH_same hp hl hn (λi x hin hx H' k os sm ho hk=>?_) (λp' H' _ s' h'=>q _ _ _ s' h' λi hi=>⟨absQ_nn _,λk hk=>?_⟩)
 ·obtain⟨o,rfl⟩:∃ o,os=[o]:=List.length_eq_one_iff.mp ho
  obtain⟨_,c,rfl,hc⟩:=hy i x hx
  have hc':=sm _ _ (del_sub _ _ hc)
  walk_at "rd"
  simp only [hc']
  walk_at "rd"
  simp only [abs_ite]
  refine⟨[_],rfl,rfl,λb H3 hb s3 e3=>hk _ _ s3 (rat_nw s3 ⟨b,rfl,?_⟩)⟩
  rw [(absQ_parts (a i)).1,(absQ_parts (a i)).2]
  exact e3
 ·unfold SzQ at hk ⊢
  rw [(absQ_parts (a i)).1,(absQ_parts (a i)).2]
  exact⟨by simpa using hk.1,hk.2⟩
def sumQ_add(n:Nat)(f g:Nat->Rat):sumQ n (λi=>f i + g i)=sumQ n f + sumQ n g:=by
 induction n with
 | zero=>show (0:Rat)=0 + 0; grind
 | succ n ih=>rw [sumQ,sumQ,sumQ,ih]; grind
def sumQ_mulr(n:Nat)(f:Nat->Rat)(c:Rat):sumQ n f * c=sumQ n λi=>f i * c:=by
 induction n with
 | zero=>show (0:Rat) * c=0; grind
 | succ n ih=>rw [sumQ,sumQ,<- ih]; grind
def sumQ_zero(n:Nat):sumQ n (λ_=>0)=0:=by
 induction n with
 | zero=>rfl
 | succ n ih=>rw [sumQ,ih]; grind
def sumQ_comm(n m:Nat)(F:Nat->Nat->Rat):sumQ n (λt=>sumQ m λj=>F t j)=sumQ m λj=>sumQ n λt=>F t j:=by
 induction m with
 | zero=>exact sumQ_zero n
 | succ m ih =>
  show sumQ n (λt=>sumQ m (λj=>F t j) + F t m)=_
  rw [sumQ_add,ih]
  rfl
def sumQ_nonneg{f:Nat->Rat}(h:∀ i,i < n->0<=f i):0<=sumQ n f:=by
 induction n with
 | zero=>exact Rat.le_refl
 | succ n ih =>
  have h1:=ih λi hi=>h i (by omega)
  have h2:=h n (by omega)
  rw [sumQ]
  exact Rat.add_nonneg h1 h2
def sumQ_le{f g:Nat->Rat}(h:∀ i,i < n->f i<=g i):sumQ n f<=sumQ n g:=by
 have h1:=sumQ_nonneg (n:=n) (f:=λi=>g i - f i) λi hi=>(Rat.le_iff_sub_nonneg _ _).mp (h i hi)
 have h2:sumQ n g=sumQ n f + sumQ n λi=>g i - f i:=by
  rw [<- sumQ_add]
  exact sumQ_congr λi _=>by grind
 rw [h2]
 grind
section
variable {n m:Nat}{R:Nat->Nat->Rat}{q cs x y d:Nat->Rat}
def dual(h:Solv n m R q x)(y:Nat->Rat):sumQ n (λt=>q t * y t)=sumQ m λj=>(sumQ n λt=>R t j * y t) * x j:=by
 have e1:sumQ n (λt=>q t * y t)=sumQ n λt=>sumQ m λj=>R t j * x j * y t:=sumQ_congr λt ht=>by rw [<- h t ht,sumQ_mulr]
 rw [e1,sumQ_comm]
 refine sumQ_congr λj _=>?_
 rw [sumQ_mulr]
 exact sumQ_congr λt _=>by grind
def prod_le0{a b:Rat}(ha:a<=0)(hb:0<=b):a * b<=0:=by
 have:=Rat.mul_le_mul_of_nonneg_right ha hb
 rw [Rat.zero_mul] at this
 exact this
def no_none(hx:Solv n m R q x)(h0:∀ j,j < m->0<=x j)(hc:∀ j,j < m->sumQ n (λt=>R t j * y t)<=0)(hp:0 < sumQ n λt=>q t * y t):False:=by
 rw [dual hx y] at hp
 have:=sumQ_le (g:=λ_=>0) λj hj=>prod_le0 (hc j hj) (h0 j hj)
 rw [sumQ_zero] at this
 exact Rat.not_lt.mpr this hp
def no_end(hd:Solv n m R (λ_=>0) d)(h0:∀ j,j < m->0<=d j)(hc:∀ j,j < m->sumQ n (λt=>R t j * y t)<=cs j)(hn:sumQ m (λj=>cs j * d j) < 0):False:=by
 have h1:=dual hd y
 rw [sumQ_congr (g:=λ_=>0) λt _=>Rat.zero_mul _,sumQ_zero] at h1
 have h2:=sumQ_le λj (hj:j < m)=>Rat.mul_le_mul_of_nonneg_right (hc j hj) (h0 j hj)
 rw [<- h1] at h2
 exact Rat.not_lt.mpr h2 hn
end
def szsum{f:Nat->Rat}{u m:Nat}(h:∀ j,j < m->SzQ u (f j)):∀ i,i<=m->SzQ (1 + (u + 1) * i) (sumQ i f)
 | 0,_=>sz_zero (by omega)
 | i + 1,hi=>by
  have h1:=szsum h i (by omega)
  exact (h1.plus (h i (by omega))).mono (by rw [Nat.mul_succ]; omega)
def dot_sz{n u v:Nat}{a b:Nat->Rat}(ha:∀ i,i < n->SzQ u (a i))(hb:∀ i,i < n->SzQ v (b i))(h:1 + (u + v + 1) * n + u + v<=8000):DotSz n a b:=λi hi=>⟨_,u,v,(szsum (u:=u + v) (λj hj=>(ha j hj).prod (hb j hj)) i (by omega)).toE (by
  have:=Nat.mul_le_mul_left (u + v + 1) (YA hi)
  omega),(ha i hi).toE (by omega),(hb i hi).toE (by omega),by
 have:=Nat.mul_le_mul_left (u + v + 1) (YA hi)
 omega⟩
def RowsN.put{H0 H H2:Hp}{pr:Addr}{n m i k:Nat}{zs:List V}{v:V}{r:Rat}(h:RowsN H0 H pr cs n m R)(s:Same H H2)(hi:i < n)(e:H2 (cs i)=some (.lst zs))(hv:RatV H2 v r):RowsN H0 (upd H2 (cs i) (.lst (zs.set k v))) pr cs n m λt j=>if t=i/\j=k then r else R t j:=by
 refine⟨h.p0,?_,h.c0,h.inj,λt ht=>?_⟩
 ·rw [upd_ne (h.c0 i hi).2.symm]
  exact s _ _ h.at_
 ·obtain⟨ws,g1,g2⟩:=h.row t ht
  by_cases c:t=i
  ·subst c
   have:ws=zs:=by have:=s _ _ g1; rw [e] at this; cases this; rfl
   subst this
   refine⟨_,upd_same,?_⟩
   have:=ratL_upd (o:=.lst (ws.set k v)) e (ratL_set (j:=k) (g2.mono rat_mono s) hv)
   rw [show (tab m λj=>if t=t/\j=k then r else R t j)=tab m λj=>if j=k then r else R t j from tab_congr λj _=>by simp]
   exact this
  ·refine⟨ws,by rw [upd_ne (λz=>c (h.inj t i ht hi z))]; exact s _ _ g1,?_⟩
   rw [show (tab m λj=>if t=i/\j=k then r else R t j)=tab m (R t) from tab_congr λj _=>by simp [c]]
   exact ratL_upd e (g2.mono rat_mono s)
def rat_neg(h:H p=some (.tup [.int (0 - q.num),.int (q.den:Int)])):RatV H (.ref p) (-q):=⟨p,rfl,by rw [h,Rat.neg_num,Rat.neg_den,Int.zero_sub]⟩
def SzQ.neg(h:SzQ n q):SzQ n (-q):=by
 unfold SzQ at *
 rw [Rat.neg_num,Rat.neg_den,Int.natAbs_neg]
 exact h
structure Prw(H0 H:Hp)(pr pv:Addr)(cs:Nat->Addr)(n m l z:Nat)(R:Nat->Nat->Rat)(y:Nat->Rat)(ps:List V):Prop where
 sm:Same H0 H
 rows:RowsN H0 H pr cs n m R
 sz:∀ i j,i < n->j < m->SzQ z (R i j)
 p0:H0 pv=none
 pc:∀ i,i < n->pv ≠ cs i
 pp:pv ≠ pr
 at_:H pv=some (.lst ps)
 ls:ListV RatV H ps (tab l y)
def Prw.same{H0 H H':Hp}{pr pv:Addr}{n m l z:Nat}{y:Nat->Rat}{ps:List V}(h:Prw H0 H pr pv cs n m l z R y ps)(s:Same H H'):Prw H0 H' pr pv cs n m l z R y ps:=⟨h.sm.trans s,h.rows.same s,h.sz,h.p0,h.pc,h.pp,s _ _ h.at_,h.ls.mono rat_mono s⟩
def Prw.put{H0 H H2:Hp}{pr pv:Addr}{n m l z i k:Nat}{y:Nat->Rat}{ps zs:List V}{v:V}{r:Rat}(h:Prw H0 H pr pv cs n m l z R y ps)(s:Same H H2)(hi:i < n)(e:H2 (cs i)=some (.lst zs))(hv:RatV H2 v r)(hz:SzQ z r):Prw H0 (upd H2 (cs i) (.lst (zs.set k v))) pr pv cs n m l z (λt j=>if t=i/\j=k then r else R t j) y ps:=by
 refine⟨same_upd (h.rows.c0 i hi).1 (h.sm.trans s),h.rows.put s hi e hv,λt j ht hj=>?_,h.p0,h.pc,h.pp,by rw [upd_ne (h.pc i hi)]; exact s _ _ h.at_,ratL_upd e (h.ls.mono rat_mono s)⟩
 split
 ·exact hz
 ·exact h.sz t j ht hj
def Prw.prices{H0 H:Hp}{pr pv:Addr}{n m l z:Nat}{y:Nat->Rat}{ps:List V}(h:Prw H0 H pr pv cs n m l z R y ps):LsV RatV H (.ref pv) (tab l y):=rat_here h.at_ h.ls
def Prw.eq{H0 H:Hp}{pr pv:Addr}{n m l z:Nat}{R R':Nat->Nat->Rat}{y:Nat->Rat}{ps:List V}(h:Prw H0 H pr pv cs n m l z R y ps)(e:∀ i j,i < n->j < m->R' i j=R i j):Prw H0 H pr pv cs n m l z R' y ps:=⟨h.sm,⟨h.rows.p0,h.rows.at_,h.rows.c0,h.rows.inj,λi hi=>by
 obtain⟨zs,h1,h2⟩:=h.rows.row i hi
 refine⟨zs,h1,?_⟩
 rw [tab_congr λj hj=>e i j hi hj]
 exact h2⟩,λi j hi hj=>by rw [e i j hi hj]; exact h.sz i j hi hj,h.p0,h.pc,h.pp,h.at_,h.ls⟩
def cut_last{xs:List V}{k:Nat}(h:xs.length=k + 1):cutV xs none (some (-1))=xs.take k:=by
 unfold cutV
 rw [h]
 show (xs.drop 0).take (HT.sIx (k + 1) (k + 1) (some (-1)) - 0)=_
 rw [List.drop_zero,show HT.sIx (k + 1) (k + 1) (some (-1))=k from by simp [HT.sIx]; omega]
 rfl
def list_take{R:Hp->V->α->Prop}{G:Hp}{l k:Nat}{f:Nat->α}(h:ListV R G ys (tab l f))(hk:k<=l):ListV R G (ys.take k) (tab k f):=by
 have hl:ys.length=l:=by rw [h.1,tab_len]
 refine⟨by rw [YD,tab_len]; omega,λi x a h1 h2=>?_⟩
 obtain⟨hi,rfl⟩:=tab_get h2
 rw [List.getElem?_take,if_pos hi] at h1
 exact h.2 i x _ h1 (tab_at (by omega))
def szL(b:Bool):Nat:=if b then 205 else 67
def szZ(b:Bool):Nat:=if b then 603 else 138
def szV(b:Bool):Nat:=if b then 209 else 47
def bnds{b:Bool}(h:n<=if b then 2 else 5):szL b * n + szV b < 699/\szL b + (szL b * n + szV b) < 899/\(szL b + (szL b * n + szV b) + 4) * n < 2400/\szZ b + szZ b * n < 1999/\szZ b * n < 1299:=by
 cases b
 ·have:n=0\/n=1\/n=2\/n=3\/n=4\/n=5:=by simp at h; omega
  rcases this with rfl | rfl | rfl | rfl | rfl | rfl <;> decide
 ·have:n=0\/n=1\/n=2:=by simp at h; omega
  rcases this with rfl | rfl | rfl <;> decide
def bk{b:Bool}{k:Nat}(h:k<=6):1 + (szT b + 3 + 1) * k<=szL b/\1 + (szT b + szW b + 1) * k + (szL b + szW b) + 1<=szZ b/\1 + (szW b + 3 + 1) * k + 3 + 1<=szV b:=by
 have:k=0\/k=1\/k=2\/k=3\/k=4\/k=5\/k=6:=by omega
 cases b <;> rcases this with rfl | rfl | rfl | rfl | rfl | rfl | rfl <;> decide
def sp_law(K:PySem.W.Frag):Sp:=λvs H Q _=>∃ (a:Addr) (ns:List Int),vs=[.ref a]/\SqL K H a (ns.map V.int)/\∀ H',Q (.bl true) H'
def ok_law(F:Fun K "law" "law" s_law f fd)(F_law_table:Fn P w K mg base CX0 3 "_law_table" ["_law_script"] (sp_table K))(F_law_numbers:Fn P w K mg base CX0 2 "_law_numbers" ["_law_cell","_law_many","_law_wide"] sp_lnumbers)(F_law_cell_at:Fn P w K mg base CX0 1 "_law_cell_at" ["_law_script","_law_k"] (sp_cell K))(F_law_at_least:Fn P w K mg base CX0 1 "_law_at_least" ["_law_some"] sp_latleast)(F_law_dot:Fn P w K mg base CX0 4 "_law_dot" ["_law_one","_law_other"] sp_ldot)(F_law_less:Fn P w K mg base CX0 2 "_law_less" ["_law_one","_law_other"] (sp_two (· - ·)))(F_law_low:Fn P w K mg base CX0 1 "_law_low" ["_law_top","_law_bottom"] sp_lowS)(F_law_asked:Fn P w K mg base CX0 8 "_law_asked" ["_law_rows","_law_rights","_law_costs"] sp_lasked):FnOk P w K mg base CX0 9 f fd ["_law_script"] (sp_law K):=by
 refine okR F sc_law λcdv A outer s H vs Q E hr h=>?_
 obtain⟨a,ns,rfl,hS,q⟩:=h
 refine⟨_,(b_cons (s_asg (qfn F_law_table hr (a_c (q_v 0) a_nil)) (g_tup (n:=3) (gs_cons (g_name 1 sc_law.nd) (gs_cons (g_name 2 sc_law.nd) (gs_cons (g_name 3 sc_law.nd) gs_nil)))))
   (b_cons (s_set 4 sc_law.nd (q_cat (q_cutLL (qfn F_law_at_least hr (a_c (qfn F_law_numbers hr (a_c (qfn F_law_cell_at hr (a_c (q_v 0) (a_c q_int a_nil))) (a_c (q_v 2) (a_c q_bl a_nil)))) a_nil)) (q_neg q_int)) (q_lst (a_c (q_tup (a_c q_int (a_c q_int a_nil))) a_nil))))
   (b_cons (s_for Yj (i_list (q_v 1)) (g_name 5 sc_law.nd) (b_cons (s_set 6 sc_law.nd (qfn F_law_dot hr (a_c (q_cutLL (q_v 5) (q_neg q_int)) (a_c (q_cutLL (q_v 4) (q_neg q_int)) a_nil))))
   (b_one (s_asg (q_tup (a_c (q_sub q_int (q_ixT (q_v 6) q_int)) (a_c (q_ixT (q_v 6) q_int) a_nil))) (g_sub (q_v 5) (q_neg q_int))))))
   (b_cons (s_set 7 sc_law.nd (qfn F_law_at_least hr (a_c (qfn F_law_numbers hr (a_c (qfn F_law_cell_at hr (a_c (q_v 0) (a_c q_int a_nil))) (a_c (q_v 2) (a_c (q_v 3) a_nil)))) a_nil)))
   (b_cons (s_setComp 8 (blkC ["_law_row"] [7] ["_law_drawn_here"]) (i_list (q_v 1)) (by exact λs H fp=>(g_name 0 (show List.Nodup (["_law_row","_law_drawn_here"]:List Str) from by decide +kernel))) (by exact λs H fp=>(qfn F_law_dot hr (a_c (q_v 0) (a_c (q_v 1) a_nil)))) (g_name 8 sc_law.nd))
   (b_cons (s_set 9 sc_law.nd (qfn F_law_numbers hr (a_c (qfn F_law_cell_at hr (a_c (q_v 0) (a_c q_int a_nil))) (a_c (q_v 2) (a_c (q_v 3) a_nil)))))
   (b_cons (s_set 6 sc_law.nd (qfn F_law_dot hr (a_c (q_cutLL (q_v 9) (q_neg q_int)) (a_c (q_cutLL (q_v 4) (q_neg q_int)) a_nil))))
   (b_cons (s_set 10 sc_law.nd (q_tup (a_c (q_add q_int (q_mod (qfn F_law_cell_at hr (a_c (q_v 0) (a_c q_int a_nil))) q_int)) (a_c (q_add q_int (q_mod (q_fdiv (qfn F_law_cell_at hr (a_c (q_v 0) (a_c q_int a_nil))) q_int) q_int)) a_nil))))
   (b_cons (s_asg (qfn F_law_less hr (a_c (q_tup (a_c (q_sub q_int (q_ixT (q_v 6) q_int)) (a_c (q_ixT (q_v 6) q_int) a_nil))) (a_c (qfn F_law_low hr (a_c (q_ixT (q_v 10) q_int) (a_c (q_ixT (q_v 10) q_int) a_nil))) a_nil))) (g_sub (q_v 9) (q_neg q_int)))
   (b_one (s_ret (q_eq (q_ixT (qfn F_law_asked hr (a_c (q_v 1) (a_c (q_v 8) (a_c (q_v 9) a_nil)))) q_int) q_str)))))))))))),?_⟩
 rw [show start ["_law_script","_law_rows","_law_many","_law_wide","_law_way","_law_row","_law_rest","_law_drawn_here","_law_rights","_law_costs","_law_less_here"] [.ref a]=[some (.ref a),none,none,none,none,none,none,none,none,none,none] from rfl]
 refine seq_go λB hB=>?_
 walk_at "rd"
 refine⟨a,ns,rfl,hS,λp0 H1 pr cs n m b R s1 e1 hRN hm0 hm7 hn zR=>?_⟩
 refine⟨_,rfl,_,e1,rfl,_,_,rfl,_,_,rfl,_,_,rfl,rfl,?_⟩
 have hn5:n<=5:=by cases b <;> simp at hn <;> omega
 obtain⟨bd0,bd1,bd2,bd3,bd4⟩:=bnds hn
 obtain⟨k,rfl⟩:∃ k,m=k + 1:=⟨m - 1,by omega⟩
 obtain⟨bk1,bk2,bk3⟩:=bk (b:=b) (show k<=6 by omega)
 subst hB
 try dsimp only
 refine seq_go λB hB=>?_
 walk_at "rd"
 refine⟨a,ns,8,rfl,s1.seq hS,λc8=>⟨c8,k + 1,false,rfl,by omega,λav0 H2 a0 s2 ha2 za0=>⟨av0,k + 1,a0,rfl,lsQ_mono _ _ _ _ ha2 (nw_sub s2),by omega,λav H3 aw s3 ha3 haa=>?_⟩⟩⟩
 have za:∀ j,j < k + 1->SzQ 3 (aw j):=λj hj=>(haa j hj).2 _ (za0 j hj)
 have aw0:∀ j,j < k + 1->0<=aw j:=λj hj=>(haa j hj).1
 obtain⟨pa,as,rfl,hpa',hal,has⟩:=ha3.at
 have hpa:=nw_sub s3 _ _ hpa'
 simp only [rSlL,cxK]
 walk_at "rd"
 refine⟨as,.inl (.of hpa),λpb hpb pu H4 hpu s4 e4 pd H5 hpd s5 e5=>?_⟩
 rw [cut_last hal] at s4 hpu
 have s34:Same H3 H4:=(same_new hpb _).trans s4
 have s35:=s34.trans s5
 have s05:Same H H5:=(s1.trans (s2.trans s3)).trans s35
 refine⟨_,s5 _ _ (s4 _ _ upd_same),_,e5,by rw [sizeLine_eq,YD]; show _ + 1<=_; omega,λpw hpw=>?_⟩
 have hwl:ListV RatV H5 (as.take k ++ [V.ref pu]) (tab (k + 1) λj=>if j=k then 1 else aw j):=by
  refine⟨by rw [YG,YD,tab_len]; show _ + 1=_; omega,λi x aa g1 g2=>?_⟩
  obtain⟨hik,rfl⟩:=tab_get g2
  by_cases c:i=k
  ·subst c
   rw [YL (by rw [YD]; omega),YD,show i - min i as.length=0 by omega] at g1
   cases g1
   rw [if_pos rfl]
   exact⟨pu,rfl,s5 _ _ e4⟩
  ·rw [YT (by rw [YD]; omega),List.getElem?_take,if_pos (by omega)] at g1
   rw [if_neg c]
   exact (((has i x g1).2.same del_sub).same (nw_sub s3)).same s35
 have hpw0:H pw=none:=s05.free hpw
 have s15:=(s2.trans s3).trans s35
 have P5:Prw H (upd H5 pw (.lst (as.take k ++ [V.ref pu]))) pr pw cs n (k + 1) (k + 1) (szL b) R (λj=>if j=k then 1 else aw j) (as.take k ++ [V.ref pu]):=⟨same_upd hpw0 s05,(hRN.same s15).same (same_new hpw _),λi j hi hj=>(zR i j hi hj).mono (by cases b <;> decide),hpw0,(λi hi z=>by obtain⟨zs,g1,_⟩:=hRN.row i hi; have:=s15 _ _ g1; rw [<- z,hpw] at this; cases this),(λz=>by have:=s15 _ _ hRN.at_; rw [<- z,hpw] at this; cases this),upd_same,hwl.mono rat_mono (same_new hpw _)⟩
 generalize upd H5 pw (.lst (as.take k ++ [V.ref pu]))=G5 at P5 ⊢
 generalize as.take k ++ [V.ref pu]=ws at P5
 clear hwl has hpa hpa' hal ha3 hpb hpu s4 e4 hpd s5 e5 hpw s34 s35 s05 s15 hRN e1 s1 s2 s3 ha2
 subst hB
 try dsimp only
 refine seq_go λB hB=>?_
 simp only [tFor_list]
 walk_at "rd"
 have dz1:∀ t,t < n->DotSz k (R t) aw:=λt ht=>dot_sz (u:=szT b) (v:=3) (λj hj=>zR t j ht (by omega)) (λj hj=>za j (by omega)) (by
  have h1:szL b<=205:=by cases b <;> decide
  have h2:szT b<=30:=by cases b <;> decide
  omega)
 refine listK_of (xs:=tab n λi=>V.ref (cs i)) (λi Z H'=>∃ (o5 o6:Option V),Z=[some (.ref a),some (.ref pr),some (.int ((k + 1:Nat):Int)),some (.bl b),some (.ref pw),o5,o6,none,none,none,none]/\Prw H H' pr pw cs n (k + 1) (k + 1) (szL b) (λt j=>if t < i/\j=k then -(sumQ k λj=>R t j * aw j) else R t j) (λj=>if j=k then 1 else aw j) ws) ⟨_,_,rfl,P5.eq λi j _ _=>by rw [if_neg (by omega)]⟩ (λi Z H' _ ⟨_,_,_,P'⟩=>.of P'.rows.at_) (λi x Z H8 hi hP=>?_) (λZ H8 hP=>?_)
 ·obtain⟨o5,o6,rfl,P8⟩:=hP
  obtain⟨hin,rfl⟩:=tab_get hi
  obtain⟨zs,g1,g2⟩:=P8.rows.row i hin
  have hzl:zs.length=k + 1:=by rw [g2.1,tab_len]
  have hwl:ws.length=k + 1:=by rw [P8.ls.1,tab_len]
  walk_at "rd"
  simp only [rSlL,cxK]
  walk_at "rd"
  refine⟨zs,.inl (.of g1),λp1 hp1=>?_⟩
  rw [cut_last hzl]
  have sA:Same H8 (upd H8 p1 (.lst (zs.take k))):=same_new hp1 _
  refine⟨ws,.inl (.of (sA _ _ P8.at_)),λp2 hp2=>?_⟩
  rw [cut_last hwl]
  have sB:=sA.trans (same_new hp2 (.lst (ws.take k)))
  have e8:(tab k λj=>if i < i/\j=k then -(sumQ k λj=>R i j * aw j) else R i j)=tab k (R i):=tab_congr λj _=>if_neg (by omega)
  have e9:(tab k λj=>if j=k then 1 else aw j)=tab k aw:=tab_congr λj hj=>if_neg (by omega)
  refine⟨.ref p1,.ref p2,k,R i,aw,rfl,rat_here ((same_new hp2 _) _ _ upd_same) (e8 ▸ list_take (g2.mono rat_mono sB) (by omega)),rat_here upd_same (e9 ▸ list_take (P8.ls.mono rat_mono sB) (by omega)),by omega,dz1 i hin,λr H10 s10 hr10=>?_⟩
  obtain⟨pq,rfl,hpq⟩:=hr10
  refine⟨_,rfl,_,hpq,_,atI0 _ _,_,rfl,_,rfl,_,hpq,_,atI1 _ _ _,λpn H11 hpn s11 e11=>?_⟩
  have sC:=sB.trans (s10.trans s11)
  refine⟨zs,sC _ _ g1,k,by rw [hzl]; exact ixN_last (by omega),?_⟩
  refine (P8.put (k:=k) sC hin (sC _ _ g1) (rat_neg e11) (SzQ.neg ((szsum (λj hj=>(zR i j hin (by omega)).prod (za j (by omega))) k (Ya _)).mono bk1))).eq λt j ht hj=>?_
  by_cases ct:t=i
  ·subst ct
   by_cases cj:j=k
   ·rw [if_pos (by omega),if_pos (by omega)]
   ·rw [if_neg (by omega),if_neg (by omega),if_neg (by omega)]
  ·by_cases cj:t < i/\j=k
   ·rw [if_pos (by omega),if_neg (by omega),if_pos cj]
   ·rw [if_neg (by omega),if_neg (by omega),if_neg cj]
 obtain⟨o5,o6,rfl,P8⟩:=hP
 rw [tab_len] at P8
 obtain⟨R',hR'⟩:∃ R':Nat->Nat->Rat,R'=λt j=>if j=k then -(sumQ k λj=>R t j * aw j) else R t j:=⟨_,rfl⟩
 have P8:=P8.eq (R':=R') λt j ht hj=>by
  rw [hR']
  by_cases cj:j=k
  ·subst cj; show (if j=j then _ else _)=_; rw [if_pos rfl,if_pos ⟨ht,rfl⟩]
  ·show (if j=k then _ else _)=_; rw [if_neg cj,if_neg (by omega)]
 have hRk:∀ t,R' t k=-(sumQ k λj=>R t j * aw j):=λt=>by rw [hR']; exact if_pos rfl
 have hRj:∀ t j,j ≠ k->R' t j=R t j:=λt j hj=>by rw [hR']; exact if_neg hj
 clear hR'
 subst hB
 clear P5
 try dsimp only
 refine seq_go λB hB=>?_
 walk_at "rd"
 refine⟨a,ns,9,rfl,P8.sm.seq hS,λc9=>⟨c9,k + 1,b,rfl,by omega,λxv0 H9 x0 s9 hx9 zx0=>⟨xv0,k + 1,x0,rfl,lsQ_mono _ _ _ _ hx9 (nw_sub s9),by omega,λxv H10 x s10 hx10 hxx=>?_⟩⟩⟩
 have zx:∀ j,j < k + 1->SzQ (szW b) (x j):=λj hj=>(hxx j hj).2 _ (zx0 j hj)
 have x0':∀ j,j < k + 1->0<=x j:=λj hj=>(hxx j hj).1
 have P10:=P8.same (s9.trans s10)
 have xL:=lsQ_mono _ _ _ _ hx10 (nw_sub s10)
 have hL205:szL b<=205:=by cases b <;> decide
 have hW30:szW b<=30:=by cases b <;> decide
 have hT30:szT b<=30:=by cases b <;> decide
 have k6:(szL b + szW b + 1) * (k + 1)<=236 * 7:=Y4 (by omega) (by omega)
 have k7:(szW b + 3 + 1) * k<=34 * 7:=Y4 (by omega) (by omega)
 clear P8 hx9 hx10 hxx s9 s10
 subst hB
 try dsimp only
 refine seq_go λB hB=>?_
 walk_at "rd"
 simp only [tComp,iList,cxK]
 walk_at "rd"
 refine⟨⟨_,.of P10.rows.at_⟩,?_⟩
 refine blkA_list (B:=noH) RatV (λi=>sumQ (k + 1) λj=>R' i j * x j) rat_mono noH_same P10.rows.at_ (tab_len _ _) (by omega) (λi y hi hy H' kk os sm ho hk=>?_) (λpq H11 hpq s11 hq11=>?_)
 ·obtain⟨o,rfl⟩:∃ o,os=[o]:=List.length_eq_one_iff.mp ho
  obtain⟨_,rfl⟩:=tab_get hy
  obtain⟨zs,g1,g2⟩:=P10.rows.row i hi
  walk_at "rd"
  exact⟨[_],rfl,rfl,.ref (cs i),xv,k + 1,_,_,rfl,rat_here (sm _ _ g1) (g2.mono rat_mono sm),lsQ_mono _ _ _ _ xL sm,by omega,dot_sz (λj hj=>P10.sz i j hi hj) zx (by omega),λr H3 s3 h3=>hk _ _ s3 (rat_nw s3 h3)⟩
 have qL:=lsQ_mono _ _ _ _ hq11 (nw_sub s11)
 have zq:∀ i,i < n->SzQ (szZ b) (sumQ (k + 1) λj=>R' i j * x j):=λi hi=>by
  have h1:=szsum (f:=λj=>R' i j * x j) (m:=k) (λj hj=>(hRj i j (by omega) ▸ zR i j hi (by omega):SzQ (szT b) (R' i j)).prod (zx j (by omega))) k (Ya _)
  exact (h1.plus ((P10.sz i k hi (by omega)).prod (zx k (by omega)))).mono bk2
 have P11:=P10.same s11
 clear P10 hq11
 subst hB
 try dsimp only
 refine seq_go λB hB=>?_
 walk_at "rd"
 refine⟨a,ns,10,rfl,P11.sm.seq hS,λc10=>⟨c10,k + 1,b,rfl,by omega,λcv H12 c s12 hc12 zc=>?_⟩⟩
 obtain⟨pc,cl,rfl,hpc',hcl,hcs⟩:=hc12.at
 obtain⟨hpc11,hpc12⟩:=nw_lst hpc'
 have hpc0:H pc=none:=P11.sm.free hpc11
 have P12:=P11.same s12
 have cL:ListV RatV H12 cl (tab (k + 1) c):=⟨by rw [hcl,tab_len],λi x aa g1 g2=>by
  obtain⟨_,rfl⟩:=tab_get g2
  exact ((hcs i x g1).2.same del_sub).same (nw_sub s12)⟩
 have qL12:=lsQ_mono _ _ _ _ qL s12
 have npc:∀ i,i < n->cs i ≠ pc:=λi hi z=>by obtain⟨zs,g1,_⟩:=P11.rows.row i hi; rw [z,hpc11] at g1; cases g1
 have npp:pr ≠ pc:=λz=>by have:=P11.rows.at_; rw [z,hpc11] at this; cases this
 have npq:pq ≠ pc:=λz=>by obtain⟨_,_,e,h,_⟩:=qL.at; cases e; rw [z,hpc11] at h; cases h
 subst hB
 try dsimp only
 refine seq_go λB hB=>?_
 walk_at "rd"
 simp only [rSlL,cxK]
 walk_at "rd"
 have hwl:ws.length=k + 1:=by rw [P12.ls.1,tab_len]
 refine⟨cl,.inl (.of hpc12),λp1 hp1=>?_⟩
 rw [cut_last hcl]
 have sA:Same H12 (upd H12 p1 (.lst (cl.take k))):=same_new hp1 _
 refine⟨ws,.inl (.of (sA _ _ P12.at_)),λp2 hp2=>?_⟩
 rw [cut_last hwl]
 have sB:=sA.trans (same_new hp2 (.lst (ws.take k)))
 have e9:(tab k λj=>if j=k then 1 else aw j)=tab k aw:=tab_congr λj hj=>if_neg (by omega)
 refine⟨.ref p1,.ref p2,k,c,aw,rfl,rat_here ((same_new hp2 _) _ _ upd_same) (list_take (cL.mono rat_mono sB) (by omega)),rat_here upd_same (e9 ▸ list_take (P12.ls.mono rat_mono sB) (by omega)),by omega,dot_sz (λj hj=>zc j (by omega)) (λj hj=>za j (by omega)) (by omega),λr H13 s13 hr13=>?_⟩
 have zrest:SzQ (1 + (szW b + 3 + 1) * k) (sumQ k λj=>c j * aw j):=szsum (λj hj=>(zc j (by omega)).prod (za j (by omega))) k (Ya _)
 have sC:=sB.trans s13
 have P13:=P12.same sC
 have cL13:=cL.mono rat_mono sC
 have qL13:=lsQ_mono _ _ _ _ qL12 sC
 have hpc13:=sC _ _ hpc12
 obtain⟨pe,rfl,hpe⟩:=hr13
 clear P12 P11 qL12 qL cL hc12 hcs sB sA s13
 subst hB
 try dsimp only
 refine seq_go λB hB=>?_
 walk_at "rd"
 refine⟨a,ns,11,rfl,P13.sm.seq hS,λc11=>?_⟩
 refine⟨_,rfl,a,ns,11,rfl,P13.sm.seq hS,λc12=>⟨_,rfl,λpl H14 hpl s14 e14=>?_⟩⟩
 obtain⟨tt,htt,ht1,ht7⟩:∃ t:Int,1 + c11 % 7=t/\1<=t/\t<=7:=⟨_,rfl,by omega,by omega⟩
 obtain⟨bb,hbb,hb1,hb5⟩:∃ t:Int,1 + c12 / 7 % 5=t/\1<=t/\t<=5:=⟨_,rfl,by omega,by omega⟩
 rw [htt,hbb] at e14
 have zlow:SzQ 3 (Rat.divInt tt bb):=⟨Ye (divInt_num_le (by omega)) (by show _ < 8; omega),Ye (divInt_den_le (by omega)) (by show _ < 8; omega)⟩
 have hlow:0 < Rat.divInt tt bb:=(divInt_pos (by omega)).mpr (by omega)
 have P14:=P13.same s14
 have hpe14:=s14 _ _ hpe
 subst hB
 try dsimp only
 refine seq_go λB hB=>?_
 walk_at "rd"
 refine⟨_,hpe14,_,atI0 _ _,_,rfl,_,hpe14,_,atI1 _ _ _,λpn H15 hpn s15 e15=>?_⟩
 have e14':=s15 _ _ e14
 refine⟨_,e14',_,atI0 _ _,_,e14',_,atI1 _ _ _,tt,bb,rfl,Big.of (n:=3) (by show _ < 8; omega) (by decide),by omega,λlv H16 s16 hl16=>?_⟩
 refine⟨.ref pn,lv,_,_,rfl,(rat_neg e15).same s16,hl16,⟨_,_,zrest.neg.toF (by omega),zlow.toF (by omega),by omega⟩,λgv H17 s17 hg17=>?_⟩
 have s1317:=s14.trans (s15.trans (s16.trans s17))
 have P17:=P13.same s1317
 have hpc17:=s1317 _ _ hpc13
 refine⟨cl,hpc17,k,by rw [hcl]; exact ixN_last (by omega),?_⟩
 have cN:=ratL_upd (o:=.lst (cl.set k gv)) hpc17 (ratL_set (j:=k) (cL13.mono rat_mono s1317) hg17)
 have zcost:∀ j,j < k + 1->SzQ (szV b) (if j=k then -(sumQ k λj=>c j * aw j) - Rat.divInt tt bb else c j):=λj hj=>by
  split
  ·exact (zrest.neg.less zlow).mono bk3
  ·exact (zc j hj).mono (by cases b <;> decide)
 subst hB
 try dsimp only
 walk_at "rd"
 have rN:RowsN H (upd H17 pc (.lst (cl.set k gv))) pr cs n (k + 1) R':=⟨P17.rows.p0,by rw [upd_ne npp]; exact P17.rows.at_,P17.rows.c0,P17.rows.inj,λi hi=>by
  obtain⟨zs,g1,g2⟩:=P17.rows.row i hi
  exact⟨zs,by rw [upd_ne (npc i hi)]; exact g1,ratL_upd hpc17 g2⟩⟩
 have hpq17:=lsQ_mono _ _ _ _ qL13 s1317
 obtain⟨_,qs,e,hpq',hql,hqs⟩:=hpq17.at
 cases e
 have qN:LsV RatV (upd H17 pc (.lst (cl.set k gv))) (.ref pq) (tab n λi=>sumQ (k + 1) λj=>R' i j * x j):=rat_here (by rw [upd_ne npq]; exact hpq') (ratL_upd hpc17 ⟨by rw [hql,tab_len],λi x aa g1 g2=>by
  obtain⟨_,rfl⟩:=tab_get g2
  exact (hqs i x g1).2.same del_sub⟩)
 refine⟨.ref pr,.ref pq,.ref pc,n,k + 1,szL b,szZ b,szV b,R',_,_,rfl,⟨rN.ls,qN,rat_here upd_same cN,by omega,by omega⟩,⟨by omega,by omega,P17.sz,zq,zcost,by omega,by cases b <;> decide,bd0,bd1,bd2,bd3,bd4,by cases b <;> decide⟩,λpt H18 s18 hT=>?_⟩
 rcases hT with ⟨yv,y',h1,h2,h3⟩ | ⟨xv',dv',x',d',h1,h2,h3,h4⟩ | ⟨wv,xv',yv,x',y',u,h1,h2,h3,h4,h5'⟩
 ·exact (no_none (x:=x) (λi _=>rfl) x0' h3.2.1 h3.2.2).elim
 ·refine⟨pt,rfl,_,h1,_,atI0 _ _,rfl,?_⟩
  rw [Yz rfl]
  exact q _
 ·refine (no_end (d:=λj=>if j=k then 1 else aw j) (λi hi=>?_) (λj hj=>?_) h5'.2.2.2.2.1 ?_).elim
  ·show sumQ (k + 1) (λj=>R' i j * if j=k then 1 else aw j)=0
   rw [sumQ,sumQ_congr (g:=λj=>R i j * aw j) λj hj=>by rw [hRj i j (by omega),if_neg (by omega)],if_pos rfl,hRk]
   grind
  ·split
   ·decide
   ·exact aw0 j hj
  ·rw [sumQ,sumQ_congr (g:=λj=>c j * aw j) λj hj=>by rw [if_neg (by omega),if_neg (by omega)],if_pos rfl,if_pos rfl]
   grind
def len1{Pr:List Value->Prop}(us:List Value)(h:us.length=1)(k:∀ a,Pr [a]):Pr us:=by
 match us,h with
 | [a],_=>exact k a
def len2{Pr:List Value->Prop}(us:List Value)(h:us.length=2)(k:∀ a b,Pr [a,b]):Pr us:=by
 match us,h with
 | [a,b],_=>exact k a b
def len3{Pr:List Value->Prop}(us:List Value)(h:us.length=3)(k:∀ a b c,Pr [a,b,c]):Pr us:=by
 match us,h with
 | [a,b,c],_=>exact k a b c
def len4{Pr:List Value->Prop}(us:List Value)(h:us.length=4)(k:∀ a b c d,Pr [a,b,c,d]):Pr us:=by
 match us,h with
 | [a,b,c,d],_=>exact k a b c d
def fn_mk{P:Program}{w:World}{K:PySem.W.Frag}{base h:Heap}{k:Nat}{x:Str}{ps:List Str}{sp:Sp}{f:Addr}{fd:FuncData}(X:K.In h)(G:h.Ns mainGlobals mg)(a:nsIn K mainGlobals x=some (some (.ref f)))
  (kp:keepIn K (.ref f)=true) (b:Binds K fd ps []) (o:FnOk P w K mg base CX0 k f fd ps sp):Fn P w K mg base CX0 k x ps sp:=⟨f,fd,o,b,kp,mg_of X G a⟩
def all_mk{l:PySem.W.OpenLaw}{w:World}{K:PySem.W.Frag}{h:Heap}{fa:Addr}{f0:Addr}{od0 an0:Option Addr}{sl0:Array (Option Value)}{oc0 kV0 dc0 pm0 cd0 ct0:Value}{f1:Addr}{od1 an1:Option Addr}{sl1:Array (Option Value)}{oc1 kV1 dc1 pm1 cd1 ct1:Value}{f2:Addr}{od2 an2:Option Addr}{sl2:Array (Option Value)}{oc2 kV2 dc2 pm2 cd2 ct2:Value}{f3:Addr}{od3 an3:Option Addr}{sl3:Array (Option Value)}{oc3 kV3 dc3 pm3 cd3 ct3:Value}{T3 tn3:Nat}{tc3:Value}{td3:Option Addr}{ts3:Array (Option Value)}{tk3_0:Tok}{f5:Addr}{od5 an5:Option Addr}{sl5:Array (Option Value)}{oc5 kV5 dc5 pm5 cd5 ct5:Value}{f7:Addr}{od7 an7:Option Addr}{sl7:Array (Option Value)}{oc7 kV7 dc7 pm7 cd7 ct7:Value}{f8:Addr}{od8 an8:Option Addr}{sl8:Array (Option Value)}{oc8 kV8 dc8 pm8 cd8 ct8:Value}{f10:Addr}{od10 an10:Option Addr}{sl10:Array (Option Value)}{oc10 kV10 dc10 pm10 cd10 ct10:Value}{f11:Addr}{od11 an11:Option Addr}{sl11:Array (Option Value)}{oc11 kV11 dc11 pm11 cd11 ct11:Value}{cChoice:Addr}{f13:Addr}{od13 an13:Option Addr}{sl13:Array (Option Value)}{oc13 kV13 dc13 pm13 cd13 ct13:Value}{f14:Addr}{od14 an14:Option Addr}{sl14:Array (Option Value)}{oc14 kV14 dc14 pm14 cd14 ct14:Value}{f15:Addr}{od15 an15:Option Addr}{sl15:Array (Option Value)}{oc15 kV15 dc15 pm15 cd15 ct15:Value}{f16:Addr}{od16 an16:Option Addr}{sl16:Array (Option Value)}{oc16 kV16 dc16 pm16 cd16 ct16:Value}{f17:Addr}{od17 an17:Option Addr}{sl17:Array (Option Value)}{oc17 kV17 dc17 pm17 cd17 ct17:Value}{f18:Addr}{od18 an18:Option Addr}{sl18:Array (Option Value)}{oc18 kV18 dc18 pm18 cd18 ct18:Value}{f19:Addr}{od19 an19:Option Addr}{sl19:Array (Option Value)}{oc19 kV19 dc19 pm19 cd19 ct19:Value}{f20:Addr}{od20 an20:Option Addr}{sl20:Array (Option Value)}{oc20 kV20 dc20 pm20 cd20 ct20:Value}{f21:Addr}{od21 an21:Option Addr}{sl21:Array (Option Value)}{oc21 kV21 dc21 pm21 cd21 ct21:Value}{f22:Addr}{od22 an22:Option Addr}{sl22:Array (Option Value)}{oc22 kV22 dc22 pm22 cd22 ct22:Value}{f23:Addr}{od23 an23:Option Addr}{sl23:Array (Option Value)}{oc23 kV23 dc23 pm23 cd23 ct23:Value}{f24:Addr}{od24 an24:Option Addr}{sl24:Array (Option Value)}{oc24 kV24 dc24 pm24 cd24 ct24:Value}{f25:Addr}{od25 an25:Option Addr}{sl25:Array (Option Value)}{oc25 kV25 dc25 pm25 cd25 ct25:Value}{f26:Addr}{od26 an26:Option Addr}{sl26:Array (Option Value)}{oc26 kV26 dc26 pm26 cd26 ct26:Value}{f27:Addr}{od27 an27:Option Addr}{sl27:Array (Option Value)}{oc27 kV27 dc27 pm27 cd27 ct27:Value}{f28:Addr}{od28 an28:Option Addr}{sl28:Array (Option Value)}{oc28 kV28 dc28 pm28 cd28 ct28:Value}{f29:Addr}{od29 an29:Option Addr}{sl29:Array (Option Value)}{oc29 kV29 dc29 pm29 cd29 ct29:Value}{f30:Addr}{od30 an30:Option Addr}{sl30:Array (Option Value)}{oc30 kV30 dc30 pm30 cd30 ct30:Value}{f31:Addr}{od31 an31:Option Addr}{sl31:Array (Option Value)}{oc31 kV31 dc31 pm31 cd31 ct31:Value}{f32:Addr}{od32 an32:Option Addr}{sl32:Array (Option Value)}{oc32 kV32 dc32 pm32 cd32 ct32:Value}{f33:Addr}{od33 an33:Option Addr}{sl33:Array (Option Value)}{oc33 kV33 dc33 pm33 cd33 ct33:Value}{f34:Addr}{od34 an34:Option Addr}{sl34:Array (Option Value)}{oc34 kV34 dc34 pm34 cd34 ct34:Value}{f35:Addr}{od35 an35:Option Addr}{sl35:Array (Option Value)}{oc35 kV35 dc35 pm35 cd35 ct35:Value}{f36:Addr}{od36 an36:Option Addr}{sl36:Array (Option Value)}{oc36 kV36 dc36 pm36 cd36 ct36:Value}{f37:Addr}{od37 an37:Option Addr}{sl37:Array (Option Value)}{oc37 kV37 dc37 pm37 cd37 ct37:Value}{f38:Addr}{od38 an38:Option Addr}{sl38:Array (Option Value)}{oc38 kV38 dc38 pm38 cd38 ct38:Value}{f39:Addr}{od39 an39:Option Addr}{sl39:Array (Option Value)}{oc39 kV39 dc39 pm39 cd39 ct39:Value}{f40:Addr}{od40 an40:Option Addr}{sl40:Array (Option Value)}{oc40 kV40 dc40 pm40 cd40 ct40:Value}{f41:Addr}{od41 an41:Option Addr}{sl41:Array (Option Value)}{oc41 kV41 dc41 pm41 cd41 ct41:Value}{f42:Addr}{od42 an42:Option Addr}{sl42:Array (Option Value)}{oc42 kV42 dc42 pm42 cd42 ct42:Value}{f43:Addr}{od43 an43:Option Addr}{sl43:Array (Option Value)}{oc43 kV43 dc43 pm43 cd43 ct43:Value}{f44:Addr}{od44 an44:Option Addr}{sl44:Array (Option Value)}{oc44 kV44 dc44 pm44 cd44 ct44:Value}{f45:Addr}{od45 an45:Option Addr}{sl45:Array (Option Value)}{oc45 kV45 dc45 pm45 cd45 ct45:Value}{f46:Addr}{od46 an46:Option Addr}{sl46:Array (Option Value)}{oc46 kV46 dc46 pm46 cd46 ct46:Value}{f47:Addr}{od47 an47:Option Addr}{sl47:Array (Option Value)}{oc47 kV47 dc47 pm47 cd47 ct47:Value}{f48:Addr}{od48 an48:Option Addr}{sl48:Array (Option Value)}{oc48 kV48 dc48 pm48 cd48 ct48:Value}{f49:Addr}{od49 an49:Option Addr}{sl49:Array (Option Value)}{oc49 kV49 dc49 pm49 cd49 ct49:Value}{f50:Addr}{od50 an50:Option Addr}{sl50:Array (Option Value)}{oc50 kV50 dc50 pm50 cd50 ct50:Value}{f51:Addr}{od51 an51:Option Addr}{sl51:Array (Option Value)}{oc51 kV51 dc51 pm51 cd51 ct51:Value}{f52:Addr}{od52 an52:Option Addr}{sl52:Array (Option Value)}{oc52 kV52 dc52 pm52 cd52 ct52:Value}
  (X:K.In h) (G:h.Ns mainGlobals mg) (hfa:mg "law"=some (.ref fa))
  (a0:nsIn K mainGlobals "is_whole"=some (some (.ref f0)))
  (l0:K.lookup f0=some ⟨oc0,od0,.func (fnOf "is_whole" "is_whole" (defArgs s_is_whole) (defBody s_is_whole) (defScope s_is_whole) .none kV0 dc0 pm0 an0 cd0 ct0),sl0⟩)
  (c0:codeIn K cd0 "is_whole"=true)
  (k0:keepIn K (.ref f0)=true)
  (a1:nsIn K mainGlobals "greatest_divisor"=some (some (.ref f1)))
  (l1:K.lookup f1=some ⟨oc1,od1,.func (fnOf "greatest_divisor" "greatest_divisor" (defArgs s_greatest_divisor) (defBody s_greatest_divisor) (defScope s_greatest_divisor) .none kV1 dc1 pm1 an1 cd1 ct1),sl1⟩)
  (c1:codeIn K cd1 "greatest_divisor"=true)
  (k1:keepIn K (.ref f1)=true)
  (a2:nsIn K mainGlobals "least_multiple"=some (some (.ref f2)))
  (l2:K.lookup f2=some ⟨oc2,od2,.func (fnOf "least_multiple" "least_multiple" (defArgs s_least_multiple) (defBody s_least_multiple) (defScope s_least_multiple) .none kV2 dc2 pm2 an2 cd2 ct2),sl2⟩)
  (c2:codeIn K cd2 "least_multiple"=true)
  (k2:keepIn K (.ref f2)=true)
  (a3:nsIn K mainGlobals "ratio"=some (some (.ref f3)))
  (l3:K.lookup f3=some ⟨oc3,od3,.func (fnOf "ratio" "ratio" (defArgs s_ratio) (defBody s_ratio) (defScope s_ratio) (.ref T3) kV3 dc3 pm3 an3 cd3 ct3),sl3⟩)
  (c3:codeIn K cd3 "ratio"=true)
  (k3:keepIn K (.ref f3)=true)
  (t3:K.lookup T3=some ⟨tc3,td3,.seq #[.int 1 tk3_0] tn3,ts3⟩)
  (a5:nsIn K mainGlobals "common_bottom"=some (some (.ref f5)))
  (l5:K.lookup f5=some ⟨oc5,od5,.func (fnOf "common_bottom" "common_bottom" (defArgs s_common_bottom) (defBody s_common_bottom) (defScope s_common_bottom) .none kV5 dc5 pm5 an5 cd5 ct5),sl5⟩)
  (c5:codeIn K cd5 "common_bottom"=true)
  (k5:keepIn K (.ref f5)=true)
  (a7:nsIn K mainGlobals "top_over"=some (some (.ref f7)))
  (l7:K.lookup f7=some ⟨oc7,od7,.func (fnOf "top_over" "top_over" (defArgs s_top_over) (defBody s_top_over) (defScope s_top_over) .none kV7 dc7 pm7 an7 cd7 ct7),sl7⟩)
  (c7:codeIn K cd7 "top_over"=true)
  (k7:keepIn K (.ref f7)=true)
  (a8:nsIn K mainGlobals "column_of"=some (some (.ref f8)))
  (l8:K.lookup f8=some ⟨oc8,od8,.func (fnOf "column_of" "column_of" (defArgs s_column_of) (defBody s_column_of) (defScope s_column_of) .none kV8 dc8 pm8 an8 cd8 ct8),sl8⟩)
  (c8:codeIn K cd8 "column_of"=true)
  (k8:keepIn K (.ref f8)=true)
  (a10:nsIn K mainGlobals "tops_over"=some (some (.ref f10)))
  (l10:K.lookup f10=some ⟨oc10,od10,.func (fnOf "tops_over" "tops_over" (defArgs s_tops_over) (defBody s_tops_over) (defScope s_tops_over) .none kV10 dc10 pm10 an10 cd10 ct10),sl10⟩)
  (c10:codeIn K cd10 "tops_over"=true)
  (k10:keepIn K (.ref f10)=true)
  (a11:nsIn K mainGlobals "times"=some (some (.ref f11)))
  (l11:K.lookup f11=some ⟨oc11,od11,.func (fnOf "times" "times" (defArgs s_times) (defBody s_times) (defScope s_times) .none kV11 dc11 pm11 an11 cd11 ct11),sl11⟩)
  (c11:codeIn K cd11 "times"=true)
  (k11:keepIn K (.ref f11)=true)
  (a_Choice:nsIn K mainGlobals "Choice"=some (some (.ref cChoice)))
  (pg_Choice:plainGet K cChoice Str.empty=true)
  (hd_Choice:hasDictIn K cChoice=true)
  (po_Choice:plainOver K cChoice=true)
  (sa_Choice:PySem.W.findIn K (.ref cChoice) "__setattr__"=some (some (.builtin "object.__setattr__")))
  (nf_scales:PySem.W.findIn K (.ref cChoice) "scales"=some none)
  (nf_columns:PySem.W.findIn K (.ref cChoice) "columns"=some none)
  (nf_bottom:PySem.W.findIn K (.ref cChoice) "bottom"=some none)
  (nf_rights:PySem.W.findIn K (.ref cChoice) "rights"=some none)
  (nf_chosen:PySem.W.findIn K (.ref cChoice) "chosen"=some none)
  (nf_lines:PySem.W.findIn K (.ref cChoice) "lines"=some none)
  (nf_under:PySem.W.findIn K (.ref cChoice) "under"=some none)
  (a13:PySem.W.findIn K (.ref cChoice) "first_line"=some (some (.ref f13)))
  (l13:K.lookup f13=some ⟨oc13,od13,.func (fnOf "first_line" "Choice.first_line" (defArgs s_Choice_first_line) (defBody s_Choice_first_line) (defScope s_Choice_first_line) .none kV13 dc13 pm13 an13 cd13 ct13),sl13⟩)
  (c13:codeIn K cd13 "Choice.first_line"=true)
  (k13:keepIn K (.ref f13)=true)
  (i13:isFn K (.ref f13)=true)
  (a14:PySem.W.findIn K (.ref cChoice) "__init__"=some (some (.ref f14)))
  (l14:K.lookup f14=some ⟨oc14,od14,.func (fnOf "__init__" "Choice.__init__" (defArgs s_Choice___init__) (defBody s_Choice___init__) (defScope s_Choice___init__) .none kV14 dc14 pm14 an14 cd14 ct14),sl14⟩)
  (c14:codeIn K cd14 "Choice.__init__"=true)
  (k14:keepIn K (.ref f14)=true)
  (i14:isFn K (.ref f14)=true)
  (mk14:makesIn K cChoice=true)
  (kc14:keepIn K (.ref cChoice)=true)
  (a15:PySem.W.findIn K (.ref cChoice) "is_made_up"=some (some (.ref f15)))
  (l15:K.lookup f15=some ⟨oc15,od15,.func (fnOf "is_made_up" "Choice.is_made_up" (defArgs s_Choice_is_made_up) (defBody s_Choice_is_made_up) (defScope s_Choice_is_made_up) .none kV15 dc15 pm15 an15 cd15 ct15),sl15⟩)
  (c15:codeIn K cd15 "Choice.is_made_up"=true)
  (k15:keepIn K (.ref f15)=true)
  (i15:isFn K (.ref f15)=true)
  (a16:PySem.W.findIn K (.ref cChoice) "parts"=some (some (.ref f16)))
  (l16:K.lookup f16=some ⟨oc16,od16,.func (fnOf "parts" "Choice.parts" (defArgs s_Choice_parts) (defBody s_Choice_parts) (defScope s_Choice_parts) .none kV16 dc16 pm16 an16 cd16 ct16),sl16⟩)
  (c16:codeIn K cd16 "Choice.parts"=true)
  (k16:keepIn K (.ref f16)=true)
  (i16:isFn K (.ref f16)=true)
  (a17:PySem.W.findIn K (.ref cChoice) "levels"=some (some (.ref f17)))
  (l17:K.lookup f17=some ⟨oc17,od17,.func (fnOf "levels" "Choice.levels" (defArgs s_Choice_levels) (defBody s_Choice_levels) (defScope s_Choice_levels) .none kV17 dc17 pm17 an17 cd17 ct17),sl17⟩)
  (c17:codeIn K cd17 "Choice.levels"=true)
  (k17:keepIn K (.ref f17)=true)
  (i17:isFn K (.ref f17)=true)
  (a18:PySem.W.findIn K (.ref cChoice) "choose"=some (some (.ref f18)))
  (l18:K.lookup f18=some ⟨oc18,od18,.func (fnOf "choose" "Choice.choose" (defArgs s_Choice_choose) (defBody s_Choice_choose) (defScope s_Choice_choose) .none kV18 dc18 pm18 an18 cd18 ct18),sl18⟩)
  (c18:codeIn K cd18 "Choice.choose"=true)
  (k18:keepIn K (.ref f18)=true)
  (i18:isFn K (.ref f18)=true)
  (a19:PySem.W.findIn K (.ref cChoice) "marks"=some (some (.ref f19)))
  (l19:K.lookup f19=some ⟨oc19,od19,.func (fnOf "marks" "Choice.marks" (defArgs s_Choice_marks) (defBody s_Choice_marks) (defScope s_Choice_marks) .none kV19 dc19 pm19 an19 cd19 ct19),sl19⟩)
  (c19:codeIn K cd19 "Choice.marks"=true)
  (k19:keepIn K (.ref f19)=true)
  (i19:isFn K (.ref f19)=true)
  (a20:PySem.W.findIn K (.ref cChoice) "prices"=some (some (.ref f20)))
  (l20:K.lookup f20=some ⟨oc20,od20,.func (fnOf "prices" "Choice.prices" (defArgs s_Choice_prices) (defBody s_Choice_prices) (defScope s_Choice_prices) .none kV20 dc20 pm20 an20 cd20 ct20),sl20⟩)
  (c20:codeIn K cd20 "Choice.prices"=true)
  (k20:keepIn K (.ref f20)=true)
  (i20:isFn K (.ref f20)=true)
  (a21:PySem.W.findIn K (.ref cChoice) "worth"=some (some (.ref f21)))
  (l21:K.lookup f21=some ⟨oc21,od21,.func (fnOf "worth" "Choice.worth" (defArgs s_Choice_worth) (defBody s_Choice_worth) (defScope s_Choice_worth) .none kV21 dc21 pm21 an21 cd21 ct21),sl21⟩)
  (c21:codeIn K cd21 "Choice.worth"=true)
  (k21:keepIn K (.ref f21)=true)
  (i21:isFn K (.ref f21)=true)
  (a22:PySem.W.findIn K (.ref cChoice) "spread"=some (some (.ref f22)))
  (l22:K.lookup f22=some ⟨oc22,od22,.func (fnOf "spread" "Choice.spread" (defArgs s_Choice_spread) (defBody s_Choice_spread) (defScope s_Choice_spread) .none kV22 dc22 pm22 an22 cd22 ct22),sl22⟩)
  (c22:codeIn K cd22 "Choice.spread"=true)
  (k22:keepIn K (.ref f22)=true)
  (i22:isFn K (.ref f22)=true)
  (a23:PySem.W.findIn K (.ref cChoice) "solution"=some (some (.ref f23)))
  (l23:K.lookup f23=some ⟨oc23,od23,.func (fnOf "solution" "Choice.solution" (defArgs s_Choice_solution) (defBody s_Choice_solution) (defScope s_Choice_solution) .none kV23 dc23 pm23 an23 cd23 ct23),sl23⟩)
  (c23:codeIn K cd23 "Choice.solution"=true)
  (k23:keepIn K (.ref f23)=true)
  (i23:isFn K (.ref f23)=true)
  (a24:PySem.W.findIn K (.ref cChoice) "way_along"=some (some (.ref f24)))
  (l24:K.lookup f24=some ⟨oc24,od24,.func (fnOf "way_along" "Choice.way_along" (defArgs s_Choice_way_along) (defBody s_Choice_way_along) (defScope s_Choice_way_along) .none kV24 dc24 pm24 an24 cd24 ct24),sl24⟩)
  (c24:codeIn K cd24 "Choice.way_along"=true)
  (k24:keepIn K (.ref f24)=true)
  (i24:isFn K (.ref f24)=true)
  (a25:nsIn K mainGlobals "column_with_part"=some (some (.ref f25)))
  (l25:K.lookup f25=some ⟨oc25,od25,.func (fnOf "column_with_part" "column_with_part" (defArgs s_column_with_part) (defBody s_column_with_part) (defScope s_column_with_part) .none kV25 dc25 pm25 an25 cd25 ct25),sl25⟩)
  (c25:codeIn K cd25 "column_with_part"=true)
  (k25:keepIn K (.ref f25)=true)
  (a26:nsIn K mainGlobals "drop_made_up"=some (some (.ref f26)))
  (l26:K.lookup f26=some ⟨oc26,od26,.func (fnOf "drop_made_up" "drop_made_up" (defArgs s_drop_made_up) (defBody s_drop_made_up) (defScope s_drop_made_up) .none kV26 dc26 pm26 an26 cd26 ct26),sl26⟩)
  (c26:codeIn K cd26 "drop_made_up"=true)
  (k26:keepIn K (.ref f26)=true)
  (a27:nsIn K mainGlobals "cheaper_column"=some (some (.ref f27)))
  (l27:K.lookup f27=some ⟨oc27,od27,.func (fnOf "cheaper_column" "cheaper_column" (defArgs s_cheaper_column) (defBody s_cheaper_column) (defScope s_cheaper_column) .none kV27 dc27 pm27 an27 cd27 ct27),sl27⟩)
  (c27:codeIn K cd27 "cheaper_column"=true)
  (k27:keepIn K (.ref f27)=true)
  (a28:nsIn K mainGlobals "row_used_up"=some (some (.ref f28)))
  (l28:K.lookup f28=some ⟨oc28,od28,.func (fnOf "row_used_up" "row_used_up" (defArgs s_row_used_up) (defBody s_row_used_up) (defScope s_row_used_up) .none kV28 dc28 pm28 an28 cd28 ct28),sl28⟩)
  (c28:codeIn K cd28 "row_used_up"=true)
  (k28:keepIn K (.ref f28)=true)
  (a29:nsIn K mainGlobals "go_down"=some (some (.ref f29)))
  (l29:K.lookup f29=some ⟨oc29,od29,.func (fnOf "go_down" "go_down" (defArgs s_go_down) (defBody s_go_down) (defScope s_go_down) .none kV29 dc29 pm29 an29 cd29 ct29),sl29⟩)
  (c29:codeIn K cd29 "go_down"=true)
  (k29:keepIn K (.ref f29)=true)
  (a30:nsIn K mainGlobals "least"=some (some (.ref f30)))
  (l30:K.lookup f30=some ⟨oc30,od30,.func (fnOf "least" "least" (defArgs s_least) (defBody s_least) (defScope s_least) .none kV30 dc30 pm30 an30 cd30 ct30),sl30⟩)
  (c30:codeIn K cd30 "least"=true)
  (k30:keepIn K (.ref f30)=true)
  (a31:nsIn K mainGlobals "_law_cell_at"=some (some (.ref f31)))
  (l31:K.lookup f31=some ⟨oc31,od31,.func (fnOf "_law_cell_at" "_law_cell_at" (defArgs s_law_cell_at) (defBody s_law_cell_at) (defScope s_law_cell_at) .none kV31 dc31 pm31 an31 cd31 ct31),sl31⟩)
  (c31:codeIn K cd31 "_law_cell_at"=true)
  (k31:keepIn K (.ref f31)=true)
  (a32:nsIn K mainGlobals "_law_drawn"=some (some (.ref f32)))
  (l32:K.lookup f32=some ⟨oc32,od32,.func (fnOf "_law_drawn" "_law_drawn" (defArgs s_law_drawn) (defBody s_law_drawn) (defScope s_law_drawn) .none kV32 dc32 pm32 an32 cd32 ct32),sl32⟩)
  (c32:codeIn K cd32 "_law_drawn"=true)
  (k32:keepIn K (.ref f32)=true)
  (a33:nsIn K mainGlobals "_law_low"=some (some (.ref f33)))
  (l33:K.lookup f33=some ⟨oc33,od33,.func (fnOf "_law_low" "_law_low" (defArgs s_law_low) (defBody s_law_low) (defScope s_law_low) .none kV33 dc33 pm33 an33 cd33 ct33),sl33⟩)
  (c33:codeIn K cd33 "_law_low"=true)
  (k33:keepIn K (.ref f33)=true)
  (a34:nsIn K mainGlobals "_law_plus"=some (some (.ref f34)))
  (l34:K.lookup f34=some ⟨oc34,od34,.func (fnOf "_law_plus" "_law_plus" (defArgs s_law_plus) (defBody s_law_plus) (defScope s_law_plus) .none kV34 dc34 pm34 an34 cd34 ct34),sl34⟩)
  (c34:codeIn K cd34 "_law_plus"=true)
  (k34:keepIn K (.ref f34)=true)
  (a35:nsIn K mainGlobals "_law_less"=some (some (.ref f35)))
  (l35:K.lookup f35=some ⟨oc35,od35,.func (fnOf "_law_less" "_law_less" (defArgs s_law_less) (defBody s_law_less) (defScope s_law_less) .none kV35 dc35 pm35 an35 cd35 ct35),sl35⟩)
  (c35:codeIn K cd35 "_law_less"=true)
  (k35:keepIn K (.ref f35)=true)
  (a36:nsIn K mainGlobals "_law_times"=some (some (.ref f36)))
  (l36:K.lookup f36=some ⟨oc36,od36,.func (fnOf "_law_times" "_law_times" (defArgs s_law_times) (defBody s_law_times) (defScope s_law_times) .none kV36 dc36 pm36 an36 cd36 ct36),sl36⟩)
  (c36:codeIn K cd36 "_law_times"=true)
  (k36:keepIn K (.ref f36)=true)
  (a37:nsIn K mainGlobals "_law_under"=some (some (.ref f37)))
  (l37:K.lookup f37=some ⟨oc37,od37,.func (fnOf "_law_under" "_law_under" (defArgs s_law_under) (defBody s_law_under) (defScope s_law_under) .none kV37 dc37 pm37 an37 cd37 ct37),sl37⟩)
  (c37:codeIn K cd37 "_law_under"=true)
  (k37:keepIn K (.ref f37)=true)
  (a38:nsIn K mainGlobals "_law_total"=some (some (.ref f38)))
  (l38:K.lookup f38=some ⟨oc38,od38,.func (fnOf "_law_total" "_law_total" (defArgs s_law_total) (defBody s_law_total) (defScope s_law_total) .none kV38 dc38 pm38 an38 cd38 ct38),sl38⟩)
  (c38:codeIn K cd38 "_law_total"=true)
  (k38:keepIn K (.ref f38)=true)
  (a39:nsIn K mainGlobals "_law_ratio"=some (some (.ref f39)))
  (l39:K.lookup f39=some ⟨oc39,od39,.func (fnOf "_law_ratio" "_law_ratio" (defArgs s_law_ratio) (defBody s_law_ratio) (defScope s_law_ratio) .none kV39 dc39 pm39 an39 cd39 ct39),sl39⟩)
  (c39:codeIn K cd39 "_law_ratio"=true)
  (k39:keepIn K (.ref f39)=true)
  (a40:nsIn K mainGlobals "_law_dot"=some (some (.ref f40)))
  (l40:K.lookup f40=some ⟨oc40,od40,.func (fnOf "_law_dot" "_law_dot" (defArgs s_law_dot) (defBody s_law_dot) (defScope s_law_dot) .none kV40 dc40 pm40 an40 cd40 ct40),sl40⟩)
  (c40:codeIn K cd40 "_law_dot"=true)
  (k40:keepIn K (.ref f40)=true)
  (a41:nsIn K mainGlobals "_law_column"=some (some (.ref f41)))
  (l41:K.lookup f41=some ⟨oc41,od41,.func (fnOf "_law_column" "_law_column" (defArgs s_law_column) (defBody s_law_column) (defScope s_law_column) .none kV41 dc41 pm41 an41 cd41 ct41),sl41⟩)
  (c41:codeIn K cd41 "_law_column"=true)
  (k41:keepIn K (.ref f41)=true)
  (a42:nsIn K mainGlobals "_law_list"=some (some (.ref f42)))
  (l42:K.lookup f42=some ⟨oc42,od42,.func (fnOf "_law_list" "_law_list" (defArgs s_law_list) (defBody s_law_list) (defScope s_law_list) .none kV42 dc42 pm42 an42 cd42 ct42),sl42⟩)
  (c42:codeIn K cd42 "_law_list"=true)
  (k42:keepIn K (.ref f42)=true)
  (a43:nsIn K mainGlobals "_law_solves"=some (some (.ref f43)))
  (l43:K.lookup f43=some ⟨oc43,od43,.func (fnOf "_law_solves" "_law_solves" (defArgs s_law_solves) (defBody s_law_solves) (defScope s_law_solves) .none kV43 dc43 pm43 an43 cd43 ct43),sl43⟩)
  (c43:codeIn K cd43 "_law_solves"=true)
  (k43:keepIn K (.ref f43)=true)
  (a44:nsIn K mainGlobals "_law_least"=some (some (.ref f44)))
  (l44:K.lookup f44=some ⟨oc44,od44,.func (fnOf "_law_least" "_law_least" (defArgs s_law_least) (defBody s_law_least) (defScope s_law_least) .none kV44 dc44 pm44 an44 cd44 ct44),sl44⟩)
  (c44:codeIn K cd44 "_law_least"=true)
  (k44:keepIn K (.ref f44)=true)
  (a45:nsIn K mainGlobals "_law_none"=some (some (.ref f45)))
  (l45:K.lookup f45=some ⟨oc45,od45,.func (fnOf "_law_none" "_law_none" (defArgs s_law_none) (defBody s_law_none) (defScope s_law_none) .none kV45 dc45 pm45 an45 cd45 ct45),sl45⟩)
  (c45:codeIn K cd45 "_law_none"=true)
  (k45:keepIn K (.ref f45)=true)
  (a46:nsIn K mainGlobals "_law_endless"=some (some (.ref f46)))
  (l46:K.lookup f46=some ⟨oc46,od46,.func (fnOf "_law_endless" "_law_endless" (defArgs s_law_endless) (defBody s_law_endless) (defScope s_law_endless) .none kV46 dc46 pm46 an46 cd46 ct46),sl46⟩)
  (c46:codeIn K cd46 "_law_endless"=true)
  (k46:keepIn K (.ref f46)=true)
  (a47:nsIn K mainGlobals "_law_holds"=some (some (.ref f47)))
  (l47:K.lookup f47=some ⟨oc47,od47,.func (fnOf "_law_holds" "_law_holds" (defArgs s_law_holds) (defBody s_law_holds) (defScope s_law_holds) .none kV47 dc47 pm47 an47 cd47 ct47),sl47⟩)
  (c47:codeIn K cd47 "_law_holds"=true)
  (k47:keepIn K (.ref f47)=true)
  (a48:nsIn K mainGlobals "_law_asked"=some (some (.ref f48)))
  (l48:K.lookup f48=some ⟨oc48,od48,.func (fnOf "_law_asked" "_law_asked" (defArgs s_law_asked) (defBody s_law_asked) (defScope s_law_asked) .none kV48 dc48 pm48 an48 cd48 ct48),sl48⟩)
  (c48:codeIn K cd48 "_law_asked"=true)
  (k48:keepIn K (.ref f48)=true)
  (a49:nsIn K mainGlobals "_law_numbers"=some (some (.ref f49)))
  (l49:K.lookup f49=some ⟨oc49,od49,.func (fnOf "_law_numbers" "_law_numbers" (defArgs s_law_numbers) (defBody s_law_numbers) (defScope s_law_numbers) .none kV49 dc49 pm49 an49 cd49 ct49),sl49⟩)
  (c49:codeIn K cd49 "_law_numbers"=true)
  (k49:keepIn K (.ref f49)=true)
  (a50:nsIn K mainGlobals "_law_table"=some (some (.ref f50)))
  (l50:K.lookup f50=some ⟨oc50,od50,.func (fnOf "_law_table" "_law_table" (defArgs s_law_table) (defBody s_law_table) (defScope s_law_table) .none kV50 dc50 pm50 an50 cd50 ct50),sl50⟩)
  (c50:codeIn K cd50 "_law_table"=true)
  (k50:keepIn K (.ref f50)=true)
  (a51:nsIn K mainGlobals "_law_at_least"=some (some (.ref f51)))
  (l51:K.lookup f51=some ⟨oc51,od51,.func (fnOf "_law_at_least" "_law_at_least" (defArgs s_law_at_least) (defBody s_law_at_least) (defScope s_law_at_least) .none kV51 dc51 pm51 an51 cd51 ct51),sl51⟩)
  (c51:codeIn K cd51 "_law_at_least"=true)
  (k51:keepIn K (.ref f51)=true)
  (a52:nsIn K mainGlobals "law"=some (some (.ref f52)))
  (l52:K.lookup f52=some ⟨oc52,od52,.func (fnOf "law" "law" (defArgs s_law) (defBody s_law) (defScope s_law) .none kV52 dc52 pm52 an52 cd52 ct52),sl52⟩)
  (c52:codeIn K cd52 "law"=true)
  (k52:keepIn K (.ref f52)=true)
  (z_isinstance:nsIn K mainGlobals "isinstance"=some none)
  (z_int:nsIn K mainGlobals "int"=some none)
  (z_bool:nsIn K mainGlobals "bool"=some none)
  (z_abs:nsIn K mainGlobals "abs"=some none)
  (z_sum:nsIn K mainGlobals "sum"=some none)
  (z_zip:nsIn K mainGlobals "zip"=some none)
  (z_len:nsIn K mainGlobals "len"=some none)
  (z_range:nsIn K mainGlobals "range"=some none)
  (z_enumerate:nsIn K mainGlobals "enumerate"=some none)
  (z_tuple:nsIn K mainGlobals "tuple"=some none)
  (z_list:nsIn K mainGlobals "list"=some none)
  (z_all:nsIn K mainGlobals "all"=some none)
  (z_str:nsIn K mainGlobals "str"=some none)
  (z_min:nsIn K mainGlobals "min"=some none)
  : ∃ fd:FuncData,(∀ (s:Shared) (v:Value),BindsTo s fd ⟨[v],[]⟩ [("_law_script",v)])/\∀ base:Heap,K.In base->base.Ns mainGlobals mg->FnOk l.prog w K mg base CX0 9 fa fd ["_law_script"] (sp_law K):=by
 have e:=hfa.symm.trans (mg_of X G a52)
 cases e
 have n_min:=mg_none_of X G z_min
 have n_str:=mg_none_of X G z_str
 have n_all:=mg_none_of X G z_all
 have n_list:=mg_none_of X G z_list
 have n_tuple:=mg_none_of X G z_tuple
 have n_enumerate:=mg_none_of X G z_enumerate
 have n_range:=mg_none_of X G z_range
 have n_len:=mg_none_of X G z_len
 have n_zip:=mg_none_of X G z_zip
 have n_sum:=mg_none_of X G z_sum
 have n_abs:=mg_none_of X G z_abs
 have n_bool:=mg_none_of X G z_bool
 have n_int:=mg_none_of X G z_int
 have n_isinstance:=mg_none_of X G z_isinstance
 have U0:=fun_mk (st:=s_is_whole) l0 c0 k0
 have b0:=U0.binds (ps:=["thing"]) λ_ _ _ _ _ _ us hl=>len1 (Pr:=λus=>bindArgs _ ⟨us,[]⟩=pure (List.zip _ us)) us hl λ_=>rfl
 have U1:=fun_mk (st:=s_greatest_divisor) l1 c1 k1
 have b1:=U1.binds (ps:=["one","other"]) λ_ _ _ _ _ _ us hl=>len2 (Pr:=λus=>bindArgs _ ⟨us,[]⟩=pure (List.zip _ us)) us hl λ_ _=>rfl
 have U2:=fun_mk (st:=s_least_multiple) l2 c2 k2
 have b2:=U2.binds (ps:=["one","other"]) λ_ _ _ _ _ _ us hl=>len2 (Pr:=λus=>bindArgs _ ⟨us,[]⟩=pure (List.zip _ us)) us hl λ_ _=>rfl
 have U3:=fund_mk (st:=s_ratio) l3 c3 k3
 have b3:Binds K (fnOf "ratio" "ratio" (defArgs s_ratio) (defBody s_ratio) (defScope s_ratio) (.ref T3) kV3 dc3 pm3 an3 cd3 ct3) ["top","bottom"] []:=λs us Y hl=>match us,hl with | [_,_],_=>BindsTo.of_defaults (T:=T3) rfl (Y _ _ t3) rfl rfl rfl
 have b3_1:Binds K (fnOf "ratio" "ratio" (defArgs s_ratio) (defBody s_ratio) (defScope s_ratio) (.ref T3) kV3 dc3 pm3 an3 cd3 ct3) ["top","bottom"] [.int 1 tk3_0]:=λs us Y hl=>by
  have hl2:us.length=1:=by simpa using hl
  exact match us,hl2 with | [_],_=>BindsTo.of_defaults (T:=T3) rfl (Y _ _ t3) rfl rfl rfl
 have U5:=fun_mk (st:=s_common_bottom) l5 c5 k5
 have b5:=U5.binds (ps:=["some"]) λ_ _ _ _ _ _ us hl=>len1 (Pr:=λus=>bindArgs _ ⟨us,[]⟩=pure (List.zip _ us)) us hl λ_=>rfl
 have U7:=fun_mk (st:=s_top_over) l7 c7 k7
 have b7:=U7.binds (ps:=["one","bottom"]) λ_ _ _ _ _ _ us hl=>len2 (Pr:=λus=>bindArgs _ ⟨us,[]⟩=pure (List.zip _ us)) us hl λ_ _=>rfl
 have U8:=fun_mk (st:=s_column_of) l8 c8 k8
 have b8:=U8.binds (ps:=["rows","j"]) λ_ _ _ _ _ _ us hl=>len2 (Pr:=λus=>bindArgs _ ⟨us,[]⟩=pure (List.zip _ us)) us hl λ_ _=>rfl
 have U10:=fun_mk (st:=s_tops_over) l10 c10 k10
 have b10:=U10.binds (ps:=["some","bottom"]) λ_ _ _ _ _ _ us hl=>len2 (Pr:=λus=>bindArgs _ ⟨us,[]⟩=pure (List.zip _ us)) us hl λ_ _=>rfl
 have U11:=fun_mk (st:=s_times) l11 c11 k11
 have b11:=U11.binds (ps:=["ones","others"]) λ_ _ _ _ _ _ us hl=>len2 (Pr:=λus=>bindArgs _ ⟨us,[]⟩=pure (List.zip _ us)) us hl λ_ _=>rfl
 have m_Choice:=mg_of X G a_Choice
 have cls_Choice:Cls K cChoice:=⟨pg_Choice,hd_Choice,po_Choice,sa_Choice⟩
 have U13:=fun_mk (st:=s_Choice_first_line) l13 c13 k13
 have b13:Binds K (fnOf "first_line" "Choice.first_line" (defArgs s_Choice_first_line) (defBody s_Choice_first_line) (defScope s_Choice_first_line) .none kV13 dc13 pm13 an13 cd13 ct13) ["self","k"] []:=Binds.all λus hl=>len2 (Pr:=λus=>bindArgs _ ⟨us,[]⟩=pure (List.zip _ us)) us hl λ_ _=>rfl
 have U14:=fun_mk (st:=s_Choice___init__) l14 c14 k14
 have b14:Binds K (fnOf "__init__" "Choice.__init__" (defArgs s_Choice___init__) (defBody s_Choice___init__) (defScope s_Choice___init__) .none kV14 dc14 pm14 an14 cd14 ct14) ["self","rows","rights","scales"] []:=Binds.all λus hl=>len4 (Pr:=λus=>bindArgs _ ⟨us,[]⟩=pure (List.zip _ us)) us hl λ_ _ _ _=>rfl
 have U15:=fun_mk (st:=s_Choice_is_made_up) l15 c15 k15
 have b15:Binds K (fnOf "is_made_up" "Choice.is_made_up" (defArgs s_Choice_is_made_up) (defBody s_Choice_is_made_up) (defScope s_Choice_is_made_up) .none kV15 dc15 pm15 an15 cd15 ct15) ["self","k"] []:=Binds.all λus hl=>len2 (Pr:=λus=>bindArgs _ ⟨us,[]⟩=pure (List.zip _ us)) us hl λ_ _=>rfl
 have U16:=fun_mk (st:=s_Choice_parts) l16 c16 k16
 have b16:Binds K (fnOf "parts" "Choice.parts" (defArgs s_Choice_parts) (defBody s_Choice_parts) (defScope s_Choice_parts) .none kV16 dc16 pm16 an16 cd16 ct16) ["self","column"] []:=Binds.all λus hl=>len2 (Pr:=λus=>bindArgs _ ⟨us,[]⟩=pure (List.zip _ us)) us hl λ_ _=>rfl
 have U17:=fun_mk (st:=s_Choice_levels) l17 c17 k17
 have b17:Binds K (fnOf "levels" "Choice.levels" (defArgs s_Choice_levels) (defBody s_Choice_levels) (defScope s_Choice_levels) .none kV17 dc17 pm17 an17 cd17 ct17) ["self"] []:=Binds.all λus hl=>len1 (Pr:=λus=>bindArgs _ ⟨us,[]⟩=pure (List.zip _ us)) us hl λ_=>rfl
 have U18:=fun_mk (st:=s_Choice_choose) l18 c18 k18
 have b18:Binds K (fnOf "choose" "Choice.choose" (defArgs s_Choice_choose) (defBody s_Choice_choose) (defScope s_Choice_choose) .none kV18 dc18 pm18 an18 cd18 ct18) ["self","j","k"] []:=Binds.all λus hl=>len3 (Pr:=λus=>bindArgs _ ⟨us,[]⟩=pure (List.zip _ us)) us hl λ_ _ _=>rfl
 have U19:=fun_mk (st:=s_Choice_marks) l19 c19 k19
 have b19:Binds K (fnOf "marks" "Choice.marks" (defArgs s_Choice_marks) (defBody s_Choice_marks) (defScope s_Choice_marks) .none kV19 dc19 pm19 an19 cd19 ct19) ["self","costs"] []:=Binds.all λus hl=>len2 (Pr:=λus=>bindArgs _ ⟨us,[]⟩=pure (List.zip _ us)) us hl λ_ _=>rfl
 have U20:=fun_mk (st:=s_Choice_prices) l20 c20 k20
 have b20:Binds K (fnOf "prices" "Choice.prices" (defArgs s_Choice_prices) (defBody s_Choice_prices) (defScope s_Choice_prices) .none kV20 dc20 pm20 an20 cd20 ct20) ["self","costs"] []:=Binds.all λus hl=>len2 (Pr:=λus=>bindArgs _ ⟨us,[]⟩=pure (List.zip _ us)) us hl λ_ _=>rfl
 have U21:=fun_mk (st:=s_Choice_worth) l21 c21 k21
 have b21:Binds K (fnOf "worth" "Choice.worth" (defArgs s_Choice_worth) (defBody s_Choice_worth) (defScope s_Choice_worth) .none kV21 dc21 pm21 an21 cd21 ct21) ["self","costs"] []:=Binds.all λus hl=>len2 (Pr:=λus=>bindArgs _ ⟨us,[]⟩=pure (List.zip _ us)) us hl λ_ _=>rfl
 have U22:=fun_mk (st:=s_Choice_spread) l22 c22 k22
 have b22:Binds K (fnOf "spread" "Choice.spread" (defArgs s_Choice_spread) (defBody s_Choice_spread) (defScope s_Choice_spread) .none kV22 dc22 pm22 an22 cd22 ct22) ["self","amounts","bottom"] []:=Binds.all λus hl=>len3 (Pr:=λus=>bindArgs _ ⟨us,[]⟩=pure (List.zip _ us)) us hl λ_ _ _=>rfl
 have U23:=fun_mk (st:=s_Choice_solution) l23 c23 k23
 have b23:Binds K (fnOf "solution" "Choice.solution" (defArgs s_Choice_solution) (defBody s_Choice_solution) (defScope s_Choice_solution) .none kV23 dc23 pm23 an23 cd23 ct23) ["self"] []:=Binds.all λus hl=>len1 (Pr:=λus=>bindArgs _ ⟨us,[]⟩=pure (List.zip _ us)) us hl λ_=>rfl
 have U24:=fun_mk (st:=s_Choice_way_along) l24 c24 k24
 have b24:Binds K (fnOf "way_along" "Choice.way_along" (defArgs s_Choice_way_along) (defBody s_Choice_way_along) (defScope s_Choice_way_along) .none kV24 dc24 pm24 an24 cd24 ct24) ["self","j"] []:=Binds.all λus hl=>len2 (Pr:=λus=>bindArgs _ ⟨us,[]⟩=pure (List.zip _ us)) us hl λ_ _=>rfl
 have U25:=fun_mk (st:=s_column_with_part) l25 c25 k25
 have b25:=U25.binds (ps:=["choice","k"]) λ_ _ _ _ _ _ us hl=>len2 (Pr:=λus=>bindArgs _ ⟨us,[]⟩=pure (List.zip _ us)) us hl λ_ _=>rfl
 have U26:=fun_mk (st:=s_drop_made_up) l26 c26 k26
 have b26:=U26.binds (ps:=["choice"]) λ_ _ _ _ _ _ us hl=>len1 (Pr:=λus=>bindArgs _ ⟨us,[]⟩=pure (List.zip _ us)) us hl λ_=>rfl
 have U27:=fun_mk (st:=s_cheaper_column) l27 c27 k27
 have b27:=U27.binds (ps:=["choice","costs"]) λ_ _ _ _ _ _ us hl=>len2 (Pr:=λus=>bindArgs _ ⟨us,[]⟩=pure (List.zip _ us)) us hl λ_ _=>rfl
 have U28:=fun_mk (st:=s_row_used_up) l28 c28 k28
 have b28:=U28.binds (ps:=["choice","j"]) λ_ _ _ _ _ _ us hl=>len2 (Pr:=λus=>bindArgs _ ⟨us,[]⟩=pure (List.zip _ us)) us hl λ_ _=>rfl
 have U29:=fun_mk (st:=s_go_down) l29 c29 k29
 have b29:=U29.binds (ps:=["choice","costs"]) λ_ _ _ _ _ _ us hl=>len2 (Pr:=λus=>bindArgs _ ⟨us,[]⟩=pure (List.zip _ us)) us hl λ_ _=>rfl
 have U30:=fun_mk (st:=s_least) l30 c30 k30
 have b30:=U30.binds (ps:=["rows","rights","costs"]) λ_ _ _ _ _ _ us hl=>len3 (Pr:=λus=>bindArgs _ ⟨us,[]⟩=pure (List.zip _ us)) us hl λ_ _ _=>rfl
 have U31:=fun_mk (st:=s_law_cell_at) l31 c31 k31
 have b31:=U31.binds (ps:=["_law_script","_law_k"]) λ_ _ _ _ _ _ us hl=>len2 (Pr:=λus=>bindArgs _ ⟨us,[]⟩=pure (List.zip _ us)) us hl λ_ _=>rfl
 have U32:=fun_mk (st:=s_law_drawn) l32 c32 k32
 have b32:=U32.binds (ps:=["_law_cell","_law_bases"]) λ_ _ _ _ _ _ us hl=>len2 (Pr:=λus=>bindArgs _ ⟨us,[]⟩=pure (List.zip _ us)) us hl λ_ _=>rfl
 have U33:=fun_mk (st:=s_law_low) l33 c33 k33
 have b33:=U33.binds (ps:=["_law_top","_law_bottom"]) λ_ _ _ _ _ _ us hl=>len2 (Pr:=λus=>bindArgs _ ⟨us,[]⟩=pure (List.zip _ us)) us hl λ_ _=>rfl
 have U34:=fun_mk (st:=s_law_plus) l34 c34 k34
 have b34:=U34.binds (ps:=["_law_one","_law_other"]) λ_ _ _ _ _ _ us hl=>len2 (Pr:=λus=>bindArgs _ ⟨us,[]⟩=pure (List.zip _ us)) us hl λ_ _=>rfl
 have U35:=fun_mk (st:=s_law_less) l35 c35 k35
 have b35:=U35.binds (ps:=["_law_one","_law_other"]) λ_ _ _ _ _ _ us hl=>len2 (Pr:=λus=>bindArgs _ ⟨us,[]⟩=pure (List.zip _ us)) us hl λ_ _=>rfl
 have U36:=fun_mk (st:=s_law_times) l36 c36 k36
 have b36:=U36.binds (ps:=["_law_one","_law_other"]) λ_ _ _ _ _ _ us hl=>len2 (Pr:=λus=>bindArgs _ ⟨us,[]⟩=pure (List.zip _ us)) us hl λ_ _=>rfl
 have U37:=fun_mk (st:=s_law_under) l37 c37 k37
 have b37:=U37.binds (ps:=["_law_one","_law_other"]) λ_ _ _ _ _ _ us hl=>len2 (Pr:=λus=>bindArgs _ ⟨us,[]⟩=pure (List.zip _ us)) us hl λ_ _=>rfl
 have U38:=fun_mk (st:=s_law_total) l38 c38 k38
 have b38:=U38.binds (ps:=["_law_some"]) λ_ _ _ _ _ _ us hl=>len1 (Pr:=λus=>bindArgs _ ⟨us,[]⟩=pure (List.zip _ us)) us hl λ_=>rfl
 have U39:=fun_mk (st:=s_law_ratio) l39 c39 k39
 have b39:=U39.binds (ps:=["_law_found"]) λ_ _ _ _ _ _ us hl=>len1 (Pr:=λus=>bindArgs _ ⟨us,[]⟩=pure (List.zip _ us)) us hl λ_=>rfl
 have U40:=fun_mk (st:=s_law_dot) l40 c40 k40
 have b40:=U40.binds (ps:=["_law_one","_law_other"]) λ_ _ _ _ _ _ us hl=>len2 (Pr:=λus=>bindArgs _ ⟨us,[]⟩=pure (List.zip _ us)) us hl λ_ _=>rfl
 have U41:=fun_mk (st:=s_law_column) l41 c41 k41
 have b41:=U41.binds (ps:=["_law_rows","_law_k"]) λ_ _ _ _ _ _ us hl=>len2 (Pr:=λus=>bindArgs _ ⟨us,[]⟩=pure (List.zip _ us)) us hl λ_ _=>rfl
 have U42:=fun_mk (st:=s_law_list) l42 c42 k42
 have b42:=U42.binds (ps:=["_law_found","_law_many"]) λ_ _ _ _ _ _ us hl=>len2 (Pr:=λus=>bindArgs _ ⟨us,[]⟩=pure (List.zip _ us)) us hl λ_ _=>rfl
 have U43:=fun_mk (st:=s_law_solves) l43 c43 k43
 have b43:=U43.binds (ps:=["_law_rows","_law_rights","_law_found","_law_many"]) λ_ _ _ _ _ _ us hl=>len4 (Pr:=λus=>bindArgs _ ⟨us,[]⟩=pure (List.zip _ us)) us hl λ_ _ _ _=>rfl
 have U44:=fun_mk (st:=s_law_least) l44 c44 k44
 have b44:=U44.binds (ps:=["_law_rows","_law_rights","_law_costs","_law_told"]) λ_ _ _ _ _ _ us hl=>len4 (Pr:=λus=>bindArgs _ ⟨us,[]⟩=pure (List.zip _ us)) us hl λ_ _ _ _=>rfl
 have U45:=fun_mk (st:=s_law_none) l45 c45 k45
 have b45:=U45.binds (ps:=["_law_rows","_law_rights","_law_costs","_law_told"]) λ_ _ _ _ _ _ us hl=>len4 (Pr:=λus=>bindArgs _ ⟨us,[]⟩=pure (List.zip _ us)) us hl λ_ _ _ _=>rfl
 have U46:=fun_mk (st:=s_law_endless) l46 c46 k46
 have b46:=U46.binds (ps:=["_law_rows","_law_rights","_law_costs","_law_told"]) λ_ _ _ _ _ _ us hl=>len4 (Pr:=λus=>bindArgs _ ⟨us,[]⟩=pure (List.zip _ us)) us hl λ_ _ _ _=>rfl
 have U47:=fun_mk (st:=s_law_holds) l47 c47 k47
 have b47:=U47.binds (ps:=["_law_rows","_law_rights","_law_costs","_law_told"]) λ_ _ _ _ _ _ us hl=>len4 (Pr:=λus=>bindArgs _ ⟨us,[]⟩=pure (List.zip _ us)) us hl λ_ _ _ _=>rfl
 have U48:=fun_mk (st:=s_law_asked) l48 c48 k48
 have b48:=U48.binds (ps:=["_law_rows","_law_rights","_law_costs"]) λ_ _ _ _ _ _ us hl=>len3 (Pr:=λus=>bindArgs _ ⟨us,[]⟩=pure (List.zip _ us)) us hl λ_ _ _=>rfl
 have U49:=fun_mk (st:=s_law_numbers) l49 c49 k49
 have b49:=U49.binds (ps:=["_law_cell","_law_many","_law_wide"]) λ_ _ _ _ _ _ us hl=>len3 (Pr:=λus=>bindArgs _ ⟨us,[]⟩=pure (List.zip _ us)) us hl λ_ _ _=>rfl
 have U50:=fun_mk (st:=s_law_table) l50 c50 k50
 have b50:=U50.binds (ps:=["_law_script"]) λ_ _ _ _ _ _ us hl=>len1 (Pr:=λus=>bindArgs _ ⟨us,[]⟩=pure (List.zip _ us)) us hl λ_=>rfl
 have U51:=fun_mk (st:=s_law_at_least) l51 c51 k51
 have b51:=U51.binds (ps:=["_law_some"]) λ_ _ _ _ _ _ us hl=>len1 (Pr:=λus=>bindArgs _ ⟨us,[]⟩=pure (List.zip _ us)) us hl λ_=>rfl
 have U52:=fun_mk (st:=s_law) l52 c52 k52
 refine⟨fnOf "law" "law" (defArgs s_law) (defBody s_law) (defScope s_law) .none kV52 dc52 pm52 an52 cd52 ct52,λs v=>.of_eq rfl,λbase _ _=>?_⟩
 have F_is_whole:=fn_mk X G a0 k0 b0 (My.ok_is_whole (P:=l.prog) (w:=w) (base:=base) U0 n_isinstance n_int n_bool)
 have F_greatest_divisor:=fn_mk X G a1 k1 b1 (My.ok_gcd (P:=l.prog) (w:=w) (base:=base) U1 n_abs)
 have F_least_multiple:=fn_mk X G a2 k2 b2 (My.ok_lcm (P:=l.prog) (w:=w) (base:=base) U2 F_greatest_divisor)
 have O_ratio:=My.ok_ratio (P:=l.prog) (w:=w) (base:=base) U3 F_is_whole F_greatest_divisor
 have F_ratio:Fn l.prog w K mg base CX0 _ "ratio" ["top","bottom"] _:=⟨f3,_,O_ratio,b3,k3,mg_of X G a3⟩
 have F_ratio_d:FnD l.prog w K mg base CX0 _ "ratio" ["top","bottom"] [.int 1] _:=⟨_,_,_,O_ratio,b3_1,.cons ⟨_,rfl⟩ .nil,k3,mg_of X G a3⟩
 have F_common_bottom:=fn_mk X G a5 k5 b5 (My.ok_bottom (P:=l.prog) (w:=w) (base:=base) U5 F_least_multiple)
 have F_bottomS:=fn_mk X G a5 k5 b5 (My.ok_bottomS (P:=l.prog) (w:=w) (base:=base) U5 F_least_multiple)
 have F_top_over:=fn_mk X G a7 k7 b7 (My.ok_topover (P:=l.prog) (w:=w) (base:=base) U7 )
 have F_column_of:=fn_mk X G a8 k8 b8 (My.ok_column (P:=l.prog) (w:=w) (base:=base) U8 )
 have F_columnI:=fn_mk X G a8 k8 b8 (My.ok_columnI (P:=l.prog) (w:=w) (mg:=mg) (base:=base) U8)
 have F_tops_over:=fn_mk X G a10 k10 b10 (My.ok_tops (P:=l.prog) (w:=w) (base:=base) U10 F_top_over)
 have F_times:=fn_mk X G a11 k11 b11 (My.ok_times (P:=l.prog) (w:=w) (base:=base) U11 n_sum n_zip)
 have O_Choice_first_line:=My.ok_first (P:=l.prog) (w:=w) (base:=base) U13 n_len cls_Choice nf_rights
 have M_first_line:Mth l.prog w K mg base CX0 _ cChoice "first_line" ["self","k"] _:=⟨f13,_,O_Choice_first_line,b13,⟨a13,i13,k13⟩,cls_Choice⟩
 have O_Choice___init__:=My.ok_initC (P:=l.prog) (w:=w) (base:=base) U14 n_len n_range n_enumerate cls_Choice nf_scales nf_columns nf_bottom nf_rights nf_chosen nf_lines nf_under F_common_bottom F_column_of F_tops_over M_first_line
 have K_Choice:Mkr l.prog w K mg base CX0 _ cChoice "Choice" ["self","rows","rights","scales"] _:=⟨f14,_,O_Choice___init__,b14,⟨mk14,a14,i14,kc14⟩,m_Choice⟩
 have O_Choice_is_made_up:=My.ok_made (P:=l.prog) (w:=w) (base:=base) U15 n_len cls_Choice nf_chosen nf_columns
 have M_is_made_up:Mth l.prog w K mg base CX0 _ cChoice "is_made_up" ["self","k"] _:=⟨f15,_,O_Choice_is_made_up,b15,⟨a15,i15,k15⟩,cls_Choice⟩
 have O_Choice_parts:=My.ok_parts (P:=l.prog) (w:=w) (base:=base) U16 cls_Choice nf_lines F_times
 have M_parts:Mth l.prog w K mg base CX0 _ cChoice "parts" ["self","column"] _:=⟨f16,_,O_Choice_parts,b16,⟨a16,i16,k16⟩,cls_Choice⟩
 have O_Choice_levels:=My.ok_levels (P:=l.prog) (w:=w) (base:=base) U17 cls_Choice nf_rights M_parts
 have M_levels:Mth l.prog w K mg base CX0 _ cChoice "levels" ["self"] _:=⟨f17,_,O_Choice_levels,b17,⟨a17,i17,k17⟩,cls_Choice⟩
 have O_Choice_choose:=My.ok_choose (P:=l.prog) (w:=w) (base:=base) U18 n_abs n_zip cls_Choice nf_columns nf_lines nf_under nf_chosen M_parts
 have M_choose:Mth l.prog w K mg base CX0 _ cChoice "choose" ["self","j","k"] _:=⟨f18,_,O_Choice_choose,b18,⟨a18,i18,k18⟩,cls_Choice⟩
 have O_Choice_marks:=My.ok_marks (P:=l.prog) (w:=w) (base:=base) U19 n_len n_range cls_Choice nf_chosen nf_lines F_columnI F_times
 have M_marks:Mth l.prog w K mg base CX0 _ cChoice "marks" ["self","costs"] _:=⟨f19,_,O_Choice_marks,b19,⟨a19,i19,k19⟩,cls_Choice⟩
 have O_Choice_prices:=My.ok_prices (P:=l.prog) (w:=w) (base:=base) U20 cls_Choice nf_under M_marks F_ratio
 have M_prices:Mth l.prog w K mg base CX0 _ cChoice "prices" ["self","costs"] _:=⟨f20,_,O_Choice_prices,b20,⟨a20,i20,k20⟩,cls_Choice⟩
 have O_Choice_worth:=My.ok_worth (P:=l.prog) (w:=w) (base:=base) U21 cls_Choice nf_under nf_bottom nf_rights M_marks F_times F_ratio
 have M_worth:Mth l.prog w K mg base CX0 _ cChoice "worth" ["self","costs"] _:=⟨f21,_,O_Choice_worth,b21,⟨a21,i21,k21⟩,cls_Choice⟩
 have O_Choice_spread:=My.ok_spread (P:=l.prog) (w:=w) (base:=base) U22 n_len n_enumerate cls_Choice nf_columns nf_chosen nf_scales M_is_made_up F_ratio F_ratio_d
 have M_spread:Mth l.prog w K mg base CX0 _ cChoice "spread" ["self","amounts","bottom"] _:=⟨f22,_,O_Choice_spread,b22,⟨a22,i22,k22⟩,cls_Choice⟩
 have O_Choice_solution:=My.ok_solution (P:=l.prog) (w:=w) (base:=base) U23 cls_Choice nf_under nf_bottom M_levels M_spread
 have M_solution:Mth l.prog w K mg base CX0 _ cChoice "solution" ["self"] _:=⟨f23,_,O_Choice_solution,b23,⟨a23,i23,k23⟩,cls_Choice⟩
 have O_Choice_way_along:=My.ok_way (P:=l.prog) (w:=w) (base:=base) U24 cls_Choice nf_columns nf_under nf_scales M_parts M_spread F_ratio_d
 have M_way_along:Mth l.prog w K mg base CX0 _ cChoice "way_along" ["self","j"] _:=⟨f24,_,O_Choice_way_along,b24,⟨a24,i24,k24⟩,cls_Choice⟩
 have F_column_with_part:=fn_mk X G a25 k25 b25 (My.ok_withpart (P:=l.prog) (w:=w) (base:=base) U25 n_enumerate cls_Choice nf_columns nf_lines F_times)
 have F_drop_made_up:=fn_mk X G a26 k26 b26 (My.ok_dropF (P:=l.prog) (w:=w) (base:=base) U26 n_len n_range cls_Choice nf_chosen M_is_made_up F_column_with_part M_choose)
 have F_cheaper_column:=fn_mk X G a27 k27 b27 (My.ok_cheaper (P:=l.prog) (w:=w) (base:=base) U27 n_enumerate cls_Choice nf_columns nf_under M_marks F_times)
 have F_row_used_up:=fn_mk X G a28 k28 b28 (My.ok_usedup (P:=l.prog) (w:=w) (base:=base) U28 n_len n_range cls_Choice nf_columns nf_chosen M_parts M_levels)
 have F_go_down:=fn_mk X G a29 k29 b29 (My.ok_go (P:=l.prog) (w:=w) (base:=base) U29 F_cheaper_column F_row_used_up M_choose)
 have F_least:=fn_mk X G a30 k30 b30 (My.ok_least (P:=l.prog) (w:=w) (base:=base) U30 n_range n_len n_zip F_bottomS F_column_of F_top_over K_Choice F_go_down F_drop_made_up cls_Choice nf_scales M_worth M_prices M_solution M_way_along)
 have F_law_cell_at:=fn_mk X G a31 k31 b31 (My.ok_cell (P:=l.prog) (w:=w) (base:=base) U31 n_len)
 have F_law_drawn:=fn_mk X G a32 k32 b32 (My.ok_drawn (P:=l.prog) (w:=w) (base:=base) U32 n_enumerate)
 have F_law_low:=fn_mk X G a33 k33 b33 (My.ok_lowS (P:=l.prog) (w:=w) (base:=base) U33 n_abs)
 have F_law_plus:=fn_mk X G a34 k34 b34 (My.ok_lplus (P:=l.prog) (w:=w) (base:=base) U34 F_law_low)
 have F_law_less:=fn_mk X G a35 k35 b35 (My.ok_lless (P:=l.prog) (w:=w) (base:=base) U35 F_law_low)
 have F_law_times:=fn_mk X G a36 k36 b36 (My.ok_ltimes (P:=l.prog) (w:=w) (base:=base) U36 F_law_low)
 have F_law_under:=fn_mk X G a37 k37 b37 (My.ok_lunder (P:=l.prog) (w:=w) (base:=base) U37 (mg:=mg))
 have F_law_total:=fn_mk X G a38 k38 b38 (My.ok_ltotal (P:=l.prog) (w:=w) (base:=base) U38 F_law_plus)
 have F_law_ratio:=fn_mk X G a39 k39 b39 (My.ok_lratio (P:=l.prog) (w:=w) (base:=base) U39 n_isinstance n_tuple n_len n_int n_bool F_law_low)
 have F_law_dot:=fn_mk X G a40 k40 b40 (My.ok_ldot (P:=l.prog) (w:=w) (base:=base) U40 n_zip F_law_times F_law_total)
 have F_law_column:=fn_mk X G a41 k41 b41 (My.ok_lcolumn (P:=l.prog) (w:=w) (base:=base) U41 (mg:=mg))
 have F_law_list:=fn_mk X G a42 k42 b42 (My.ok_llist (P:=l.prog) (w:=w) (base:=base) U42 n_isinstance n_list n_len n_all F_law_ratio)
 have F_law_solves:=fn_mk X G a43 k43 b43 (My.ok_lsolves (P:=l.prog) (w:=w) (base:=base) U43 n_all n_zip F_law_list F_law_dot)
 have F_law_least:=fn_mk X G a44 k44 b44 (My.ok_lleast (P:=l.prog) (w:=w) (base:=base) U44 n_len n_range F_law_ratio F_law_solves F_law_list F_law_dot F_law_under F_law_column)
 have F_law_none:=fn_mk X G a45 k45 b45 (My.ok_lnone (P:=l.prog) (w:=w) (base:=base) U45 n_len n_range F_law_list F_law_dot F_law_column)
 have F_law_endless:=fn_mk X G a46 k46 b46 (My.ok_lend (P:=l.prog) (w:=w) (base:=base) U46 n_len F_law_solves F_law_dot)
 have F_law_holds:=fn_mk X G a47 k47 b47 (My.ok_lholds (P:=l.prog) (w:=w) (base:=base) U47 n_isinstance n_tuple n_len n_str F_law_least F_law_none F_law_endless)
 have F_law_asked:=fn_mk X G a48 k48 b48 (My.ok_lasked (P:=l.prog) (w:=w) (base:=base) U48 n_list F_least F_law_holds)
 have F_law_numbers:=fn_mk X G a49 k49 b49 (My.ok_lnumbers (P:=l.prog) (w:=w) (base:=base) U49 n_range n_int F_law_drawn F_law_low)
 have F_law_table:=fn_mk X G a50 k50 b50 (My.ok_table (P:=l.prog) (w:=w) (base:=base) U50 n_range n_min n_int n_len n_list n_zip F_law_cell_at F_law_drawn F_law_numbers F_law_plus)
 have F_law_at_least:=fn_mk X G a51 k51 b51 (My.ok_latleast (P:=l.prog) (w:=w) (base:=base) U51 n_abs)
 exact My.ok_law (P:=l.prog) (w:=w) (base:=base) U52 F_law_table F_law_numbers F_law_cell_at F_law_at_least F_law_dot F_law_less F_law_low F_law_asked
end My
namespace PySem.W.Fast
def tw14423626133225845281:=()
def tw5209794706679513389:=()
def tw11906956066927120012:=()
def tw16251237650365427009:=()
def tw4019308029719265448:=()
def tw8210405814651359824:=()
def tw3087360693026638042:=()
def tw8154175501899700215:=()
def tw17678501751163810193:=()
def tw2067826677692068588:=()
def tw1596516446874384582:=()
def tw12188099212709649317:=()
def tw6275191149183227363:=()
def tw2099818367301687631:=()
def tw4045700725989517574:=()
def tw10739790501541686304:=()
def tw15370131636270847850:=()
def tw12544532016940972431:=()
def tw1887591130576233633:=()
def tw87875527684777900:=()
def tw2686347157034642429:=()
def tw7304725798399759623:=()
def tw14047234347044879140:=()
def tw16024377497851930599:=()
def tw9488108178369498219:=()
def tw1366070643946799810:=()
def tw17656778645946561329:=()
def tw16298771565239591500:=()
def tw1044617006407848312:=()
def tw3006675057900155837:=()
def tw13238287709663704585:=()
def tw2411822473499528235:=()
def tw14975423543772612085:=()
def tw2579922121046520198:=()
def tw387294809176253674:=()
def tw10357046505420782037:=()
def tw6660086363639308500:=()
def tw4965084035178985749:=()
def tw6093459527932864105:=()
def tw2519469213005312975:=()
def tw12183958860146775537:=()
def tw5584958871921304670:=()
def tw6849173712442939134:=()
def tw9752721905491311692:=()
def tw5099535256613917704:=()
def tw12911458950297332396:=()
def tw14023184841501694218:=()
def tw4238220273725718572:=()
def tw13775544319560148691:=()
def tw14592403900119382617:=()
def tw10503936838042086579:=()
def tw4932699246112229420:=()
def tw15285566789633834857:=()
def tw6704991013187671315:=()
def tw9945026383188359032:=()
def tw17749891570164633457:=()
def tw13331543553302956678:=()
def tw10098694229422690118:=()
def tw14077889499069396357:=()
def tw16862360178203780092:=()
def tw4864741549583684147:=()
def tw11658616434274879232:=()
def tw14330441527491971386:=()
def tw10627073305752734406:=()
def tw16038112895033364541:=()
def tw7779396198197691920:=()
def tw5878270220519338479:=()
def tw15212852327375911451:=()
def tw11592893756996636331:=()
def tw14464156774462425677:=()
def tw2419140432409770755:=()
def tw2637840495564698878:=()
def tw12862134795811731506:=()
def tw6237944090960256703:=()
def tw2425427246241419673:=()
def tw4816827289002414812:=()
def tw5619773610246371403:=()
def tw8750876016469498059:=()
def tw17606597185696854669:=()
def tw2971437317418225176:=()
def tw4268864646826499308:=()
def tw4610106536464630821:=()
def tw9644607954172602289:=()
def tw17745139688201305777:=()
def tw8710600039066724126:=()
def tw10312600052922429273:=()
def tw13047036185292687697:=()
def tw117462689014546613:=()
def tw8217998375843144681:=()
def tw6251738925898552003:=()
def tw6382084887531894854:=()
def tw3320537905863331326:=()
def tw13386896437182890796:=()
def tw17017925571524338559:=()
def tw2452417669363614708:=()
def tw4789119742434498454:=()
def tw3852670775013342609:=()
def tw13054504914004691352:=()
def tw9754728927218218652:=()
def tw6305785658175012550:=()
def tw1170118890621358521:=()
def tw8771938012297049626:=()
def tw3850533183036170157:=()
def tw12340182967790821321:=()
def tw18299950680399008616:=()
end PySem.W.Fast
open PySem PySem.W PyProof.Rows
set_option maxRecDepth 100000 in
set_option maxHeartbeats 0 in
theorem PySem.Challenge.cw_roadshare_k54_endless_ways_holds : PySem.Challenge.rw_roadshare_k54_endless_ways.Holds := by
 w_on; o_law; k_head; (case hw=>w_witness2)
 k_fill
 refine L2.walk_ofK (l:=PySem.Challenge.rw_roadshare_k54_endless_ways) (n:=63) (k:=9) (x:="_law_script") (CX:=L2.CX0) (sp:=My.sp_law) rfl (by decide) rfl ⟨rfl,by decide,by decide⟩ (λw h Y=>PySem.W.kIn_of Y) ?F ?S ?C
 case S=>exact λK H a ns hl hO hS=>⟨a,ns,rfl,hS,λ_=>rfl⟩
 case C=>exact λ_ _ _ _ z=>z
 case F =>
  intro w mg fa h KX G hmg
  refine' My.all_mk KX G hmg _ _ _ _ _ _ _ _ _ _ _ _ _ _ _ _ _ _ _ _ _ _ _ _ _ _ _ _ _ _ _ _ _ _ _ _ _ _ _ _ _ _ _ _ _ _ _ _ _ _ _ _ _ _ _ _ _ _ _ _ _ _ _ _ _ _ _ _ _ _ _ _ _ _ _ _ _ _ _ _ _ _ _ _ _ _ _ _ _ _ _ _ _ _ _ _ _ _ _ _ _ _ _ _ _ _ _ _ _ _ _ _ _ _ _ _ _ _ _ _ _ _ _ _ _ _ _ _ _ _ _ _ _ _ _ _ _ _ _ _ _ _ _ _ _ _ _ _ _ _ _ _ _ _ _ _ _ _ _ _ _ _ _ _ _ _ _ _ _ _ _ _ _ _ _ _ _ _ _ _ _ _ _ _ _ _ _ _ _ _ _ _ _ _ _ _ _ _ _ _ _ _ _ _ _ _ _ _ _ _ _ _ _ _ _ _ _ _ _ _ _ _ _ _ _ _ _ _ _ _ _ _ _ _ _ _ _
  all_goals first | walk_at "zi" | k_is | kernel_rfl | skip
#print axioms PySem.Challenge.cw_roadshare_k54_endless_ways_holds
