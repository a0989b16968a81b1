import PyProof.Rows.All
import Wide.All
import OpenK.AllK
import Wide.FinOn
import Lean
import PyProof.EqAt
import PyProof.EqKinds
import PyProof.TupleCall
import KE.KLam
import KE.KSortKey
import KE.KSortTup
import KE.KNestM
import PyProof.NeKinds
import KE.KDictLaws
import KE.KDictSum
import PySem.Challenge.RW_roadshare_k44_whole_evenest_of_all
open PySem.W (instObj methodObj hideAll hideAll_get of_hideAll lookIn plainGet hasDictIn handedIn plainGet_of isFn plainOver takerIn makesIn emptyDict keepIn kitOne kia_one kitx_list kitx_dict callWith_K methodCall_KW cellsFrom_some fnOf codeIn excIn exmOne kdl_call kdl_dict KeqHits codeHdIn codeHd_of_K nsIn mg_of mg_none_of km_in_of)
abbrev Ya:=@PySem.wpAny_bind
abbrev Yb:=@List.getElem?_eq_getElem
abbrev Yc:=@PySem.wpAny_pure
abbrev Yd:=@Nat.le_refl
abbrev Ye:=@List.getElem?_eq_some_iff
abbrev Yf:=@List.length_map
abbrev Yg:=@List.getElem?_map
abbrev Yh:=@PySem.Heap.lt_size
abbrev Yi:=@PySem.Heap.get?_push_of_some
abbrev Yj:=@Nat.le_trans
abbrev Yk:=@List.mem_map
abbrev Yl:=@List.mem_cons
abbrev Ym:=@List.mem_of_getElem?
abbrev Yn:=@Nat.ne_of_lt
abbrev Yo:=@PySem.Heap.get?_push_size
abbrev Yp:=@Nat.le_of_lt
abbrev Yq:=@PySem.PassesOwn.never
abbrev Yr:=@List.map_cons
abbrev Ys:=@Nat.lt_of_le_of_lt
abbrev Yt:=@Bool.false_ne_true
abbrev Yu:=@List.mem_filter
abbrev Yv:=@List.mem_append_right
abbrev Yw:=@List.map_map
abbrev Yx:=@PySem.wpAny_mono
abbrev Yy:=@Nat.lt_of_lt_of_le
abbrev Yz:=@List.length_take
abbrev YA:=@List.mem_append
abbrev YB:=@List.take_add_one
abbrev YC:=@List.getElem?_of_mem
abbrev YD:=@List.mem_range
abbrev YE:=@Int.natCast_mul
abbrev YF:=@Nat.zero_le
abbrev YG:=@Nat.pow_add
abbrev YH:=@List.getElem?_append_right
abbrev YI:=@Nat.mul_pos
abbrev YJ:=@List.getElem?_append_left
abbrev YK:=@Array.getElem?_toList
abbrev YL:=@List.map_congr_left
abbrev YM:=@List.length_append
abbrev YN:=@of_decide_eq_true
abbrev YO:=@List.size_toArray
abbrev YQ:=@List.getElem_mem
abbrev YR:=@decide_eq_true
abbrev YS:=@List.Nodup.length_le_of_subset
abbrev YT:=@Option.map_eq_some_iff
abbrev YU:=@Array.length_toList
abbrev YV:=@List.length_cons
abbrev YW:=@Option.some.inj
abbrev YX:=@Nat.lt_irrefl
abbrev YY:=@List.mem_singleton
abbrev YZ:=@List.getElem?_eq_none
abbrev Y0:=@Nat.pow_le_pow_right
abbrev Y1:=@Int.toNat_natCast
abbrev Y2:=@List.take_length
abbrev Y3:=@PySem.codeAny_mono
abbrev Y4:=@PySem.mem_of_lookup
abbrev Y5:=@PySem.wpAny_call_entry
abbrev Y6:=@decide_eq_false
abbrev Y7:=@List.nodup_cons
abbrev Y8:=@List.map_append
abbrev Y9:=@Nat.mul_le_mul
abbrev Va:=@PySem.sizeLine_eq
abbrev Vb:=@Classical.byContradiction
abbrev Vc:=@Array.getElem?_eq_getElem
abbrev Vd:=@List.mem_cons_of_mem
abbrev Ve:=@Rat.num_divInt_den
abbrev Vf:=@PySem.wpAny_Call_Name_kw
abbrev Vg:=@Nat.lt_succ_of_lt
abbrev Vh:=@PySem.wpAny_newObj_type
abbrev Vi:=@PySem.wpAny_holding
abbrev Vj:=@decide_eq_true_eq
abbrev Vk:=@PySem.wpAny_truthy_bool
abbrev Vl:=@Bool.eq_iff_iff
abbrev Vm:=@PySem.codeAny_builtin
abbrev Vn:=@Nat.ne_of_gt
abbrev Vo:=@Int.add_zero
abbrev Vp:=@PySem.wpAny_rule
abbrev Vq:=@List.take_append_drop
abbrev Vr:=@PySem.Heap.get?_update_other
abbrev Vs:=@PySem.Around.under_plainId
abbrev Vt:=@List.mem_cons_self
abbrev Vu:=@List.nodup_append
abbrev Vv:=@List.ext_getElem?
abbrev Vw:=@Nat.two_pow_pos
abbrev Vx:=@List.append_nil
abbrev Vy:=@PySem.wpAny_passesOwn
abbrev Vz:=@Nat.le_succ
abbrev VA:=@PySem.wpAny_load
abbrev VB:=@PyProof.Rows.callWith_type1
abbrev VC:=@List.length_filter_le
abbrev VD:=@beq_eq_false_iff_ne
abbrev VE:=@List.getElem_of_mem
abbrev VF:=@PySem.Calls.spliced_cons
abbrev VG:=@Nat.lt_succ_self
abbrev VH:=@PySem.wpAny_setState_of
abbrev VI:=@Nat.not_lt_zero
abbrev VJ:=@Nat.div_le_self
abbrev VL:=@Int.emod_nonneg
abbrev VM:=@PySem.wpAny_ite_split
abbrev VN:=@List.any_cons
abbrev VO:=@PySem.plainId_quiet
abbrev VP:=@List.drop_eq_getElem_cons
abbrev VQ:=@List.take_of_length_le
abbrev VR:=@PySem.Calls.callWith_builtin
abbrev VS:=@Rat.divInt_mul_right
abbrev VT:=@List.mem_append_left
abbrev VU:=@Int.natAbs_natCast
abbrev VV:=@PySem.wpAny_setEntries_of
abbrev VW:=@Bool.and_eq_true
abbrev VX:=@List.of_mem_zip
abbrev VY:=@PySem.wpAny_isInstance
abbrev VZ:=@PySem.Heap.size_push
abbrev V1:=@PySem.wpAny_attempt
abbrev V2:=@Int.gcd_pos_of_ne_zero_right
abbrev V3:=@Array.getD_eq_getD_getElem?
abbrev V4:=@Int.fdiv_eq_ediv_of_nonneg
abbrev V5:=@PySem.wpAny_callSpecial?_slot
abbrev V6:=@Int.toNat_of_nonneg
abbrev V7:=@PySem.Heap.get?_update_self
abbrev V8:=@Int.emod_lt_of_pos
abbrev V9:=@PySem.Heap.SameBut.update
abbrev Yaa:=@PySem.wpAny_tupleItemsOf
abbrev Yab:=@Option.map_some
abbrev Yac:=@PySem.F.plain_list_iadd
abbrev Yad:=@PySem.Calls.spliced_nil
abbrev Yae:=@List.length_eq_zero_iff
abbrev Yaf:=@List.filter_cons_of_pos
abbrev Yag:=@List.filter_cons_of_neg
abbrev Yah:=@List.getElem?_range
abbrev Yai:=@List.filterMap_cons
abbrev PySem.VSP:=PySem.Value->PySem.Shared->Prop
set_option Elab.async false
set_option linter.all false
set_option maxRecDepth 100000
namespace L2
open PySem PySem.Spec PyProof.Rows
abbrev ZQ:=Sum Int Str
def ZhK:ZQ->Value->Bool
 | .inl k,v=>Value.isInt k v
 | .inr x,v=>Value.isStrOf x v
def ZsG(w:World):ZQ->Int
 | .inl k=>hashInt k
 | .inr x=>hashStr w x
def Zal:∀ {k:ZQ}{v:Value},ZhK k v=true->(∃ i t,k=Sum.inl i/\v=Value.int i t)\/(∃ x t,k=Sum.inr x/\v=Value.str x t)
 | .inl i,v,h=>by
  obtain⟨t,e⟩:=Value.isInt_shape (k:=i) (v:=v) h
  exact .inl ⟨i,t,rfl,e⟩
 | .inr x,v,h=>by
  obtain⟨t,e⟩:=Value.isStrOf_shape (x:=x) (v:=v) h
  exact .inr ⟨x,t,rfl,e⟩
theorem ZiE(i:Int)(t:Tok):ZhK (.inl i) (.int i t)=true:=by simp [ZhK,Value.isInt]
theorem ZiS(x:Str)(t:Tok):ZhK (.inr x) (.str x t)=true:=by simp [ZhK,Value.isStrOf]
def Zpl(a b:Int):decide ((Sum.inl a:ZQ)=Sum.inl b)=(a == b):=by
 by_cases e:a=b
 ·subst e; simp
 ·have h:¬ (Sum.inl a:ZQ)=Sum.inl b:=λq=>e (Sum.inl.inj q)
  rw [Y6 h]
  exact (VD.mpr e).symm
def Zp1(a b:Str):decide ((Sum.inr a:ZQ)=Sum.inr b)=decide (a=b):=by
 by_cases e:a=b
 ·subst e; simp
 ·have h:¬ (Sum.inr a:ZQ)=Sum.inr b:=λq=>e (Sum.inr.inj q)
  rw [Y6 h,Y6 e]
def Zqi(a:Int)(b:Str):decide ((Sum.inl a:ZQ)=Sum.inr b)=false:=Y6 (λq=>nomatch q)
def Zpt(a:Str)(b:Int):decide ((Sum.inr a:ZQ)=Sum.inl b)=false:=Y6 (λq=>nomatch q)
def ZT(prog:Program)(w:World):PySem.KeyKind prog w ZQ where
 is:=ZhK
 hash:=ZsG w
 inj:=λv a b ha hb=>by
  rcases Zal ha with ⟨i,t,rfl,rfl⟩ | ⟨x,t,rfl,rfl⟩
  ·rcases Zal hb with ⟨j,u,rfl,e⟩ | ⟨y,u,rfl,e⟩
   ·injection e with e1 _; rw [e1]
   ·exact nomatch e
  ·rcases Zal hb with ⟨j,u,rfl,e⟩ | ⟨y,u,rfl,e⟩
   ·exact nomatch e
   ·injection e with e1 _; rw [e1]
 byValue:=λk v h=>by
  rcases Zal h with ⟨i,t,rfl,rfl⟩ | ⟨x,t,rfl,rfl⟩ <;> rfl
 pyHash:=λhv h=>by
  rcases Zal hv with ⟨i,t,rfl,rfl⟩ | ⟨x,t,rfl,rfl⟩
  ·exact wpAny_pyHash_int h
  ·exact wpAny_pyHash_str h
 eqBool:=λhu hv h=>by
  rcases Zal hu with ⟨i,t,rfl,rfl⟩ | ⟨x,t,rfl,rfl⟩
  ·rcases Zal hv with ⟨j,u,rfl,rfl⟩ | ⟨y,u,rfl,rfl⟩
   ·rw [Zpl] at h; exact wpAny_eqBool_int h
   ·rw [Zqi] at h; exact SeqAt.EqAt.int_str i t y u _ _ _ _ h
  ·rcases Zal hv with ⟨j,u,rfl,rfl⟩ | ⟨y,u,rfl,rfl⟩
   ·rw [Zpt] at h; exact SeqAt.EqAt.str_int x t j u _ _ _ _ h
   ·rw [Zp1] at h; exact wpAny_eqBool_str h
 «strs»:=λk x t v h=>by
  rcases Zal h with ⟨i,u,rfl,e⟩ | ⟨y,u,rfl,e⟩
  ·exact nomatch e
  ·injection e with e1 _
   subst e1
   cases v <;> rfl
def Zgp(prog:Program)(w:World)(i:Int)(t:Tok):(ZT prog w).is (.inl i) (.int i t)=true:=ZiE i t
def ZgO(prog:Program)(w:World)(x:Str)(t:Tok):(ZT prog w).is (.inr x) (.str x t)=true:=ZiS x t
inductive V where
 | non | bl (b:Bool) | int (i:Int) | str (x:Str) | byt (b:Array UInt8) | flt (b:UInt64) | ref (a:Addr) | ty (n:String)
 deriving DecidableEq
def Zt:V->Value->Prop
 | .non,u=>u=Value.none
 | .bl b,u=>u=Value.bool b
 | .int i,u=>∃ t,u=Value.int i t
 | .str x,u=>∃ t,u=Value.str x t
 | .byt b,u=>∃ t,u=Value.bytes b t
 | .flt b,u=>∃ t,u=Value.float b t
 | .ref a,u=>u=Value.ref a
 | .ty n,u=>u=Value.type n
abbrev Zq:List V->List Value->Prop:=Paired Zt
variable {us:List Value}
theorem Zq.length{xs:List V}(r:Zq xs us):xs.length=us.length:=Paired.length r
theorem Zq.get:∀ {xs:List V}{us:List Value}{i:Nat}{x:V},Zq xs us->xs[i]?=some x->∃ u,us[i]?=some u/\Zt x u
 | _,_,_,_,.nil,e=>by simp at e
 | _,_,0,_,.cons r _,e=>by simp at e; subst e; exact⟨_,rfl,r⟩
 | _,_,i + 1,x,.cons _ t,e=>by
  obtain⟨u,h1,h2⟩:=Zq.get (i:=i) (x:=x) t (by simpa using e)
  exact⟨u,by simpa using h1,h2⟩
variable {u:Value}
theorem Zq.set{x:V}(r:Zt x u):∀ {xs:List V}{us:List Value}(i:Nat),Zq xs us->Zq (xs.set i x) (us.set i u)
 | _,_,_,.nil=>.nil
 | _,_,0,.cons _ t=>.cons r t
 | _,_,i + 1,.cons q t=>.cons q (Zq.set r i t)
theorem Zq.append:∀ {xs ys:List V}{us ws:List Value},Zq xs us->Zq ys ws->Zq (xs ++ ys) (us ++ ws)
 | _,_,_,_,.nil,s=>s
 | _,_,_,_,.cons r t,s=>.cons r (Zq.append t s)
theorem Zq.take:∀ {xs:List V}{us:List Value}(n:Nat),Zq xs us->Zq (xs.take n) (us.take n)
 | _,_,0,_=>.nil
 | _,_,_ + 1,.nil=>.nil
 | _,_,n + 1,.cons r t=>.cons r (Zq.take n t)
def Zq.drop:∀ {xs:List V}{us:List Value}(n:Nat),Zq xs us->Zq (xs.drop n) (us.drop n)
 | _,_,0,r=>r
 | _,_,_ + 1,.nil=>.nil
 | _,_,n + 1,.cons _ t=>Zq.drop n t
def Zq.none_of:∀ {xs:List V}{us:List Value}{i:Nat},Zq xs us->xs[i]?=none->us[i]?=none:=λ{xs us i} r e=>by
 have h1:=r.length
 have h2:xs.length<=i:=List.getElem?_eq_none_iff.mp e
 exact List.getElem?_eq_none_iff.mpr (by omega)
def JT:Option V->Option Value->Prop
 | some v,some u=>Zt v u
 | none,none=>True
 | _,_=>False
def KV{κ:Type}:List (κ × V)->List (κ × Value)->Prop:=Paired λ(p:κ × V) (q:κ × Value)=>p.1=q.1/\Zt p.2 q.2
def kV:ZQ->V
 | .inl i=>.int i
 | .inr x=>.str x
inductive HO where
 | lst (xs:List V)
 | tup (xs:List V)
 | dK (kvs:List (ZQ × V)) | dT (kvs:List (List ZQ × V))
 | set (S:Int->Bool) (n:Nat)
 | ins (C dx:Addr) (fs:List (Str × V))
 | own (x:Addr)
 | xd (fs:List (Str × V))
 | met (f x:Addr)
 | rng (lo hi:Int)
 | frz (o:Obj) (u:HO)
 | tbl (ps:Array Value)
 | ext (φ:Heap->Prop)
abbrev Hp:=Addr->Option HO
def upd(H:Hp)(a:Addr)(o:HO):Hp:=λb=>if b=a then some o else H b
variable {H:Hp}
theorem Zf{a:Addr}{o:HO}:upd H a o a=some o:=by unfold upd; rw [if_pos rfl]
theorem Zg{a b:Addr}{o:HO}(h:b ≠ a):upd H a o b=H b:=by unfold upd; rw [if_neg h]
def Zn3{a:Addr}{o u:HO}:upd (upd H a o) a u=upd H a u:=by
 funext b; unfold upd; split <;> rfl
def JF{a b:Addr}{o u:HO}(h:H a=some o)(h':H b=some u)(d:o ≠ u):a ≠ b:=by
 intro e; subst e; rw [h] at h'; exact d (YW h')
theorem Zm{a b:Addr}{o:HO}(h:H a=some o)(h':H b=none):a ≠ b:=by
 intro e; subst e; rw [h] at h'; cases h'
section
variable (P:Program)(w:World)
def ZR(H:Hp)(h:Heap)(a:Addr):HO->Prop
 | .lst xs=>xs.length<=sizeLine/\∃ (its:List Value) (n:Nat),Zq xs its/\h.get? a=some { cls:=.type "list",data:=.seq its.toArray n }
 | .tup xs=>xs.length<=sizeLine/\∃ its:List Value,Zq xs its/\IsTup h a its.toArray
 | .dK kvs=>kvs.length<=sizeLine/\(a == sysModules)=false/\∃ vs,KV kvs vs/\h.DictOf (ZT P w) a vs
 | .dT kvs=>kvs.length<=sizeLine/\(a == sysModules)=false/\∃ xs:List (List ZQ × Addr × Value),
   Paired (λ(p:List ZQ × V) (q:List ZQ × Addr × Value)=>p.1=q.1/\H q.2.1=some (.tup (p.1.map kV))/\Zt p.2 q.2.2) kvs xs /\
   ∃ o es ep,h.get? a=some o/\o.ExactDict/\o.data=.dict es ep/\es.toList=xs.map (entryOfKey (tupleKind (ZT P w)))/\(xs.map (·.1)).Nodup
 | .set S n=>h.SetOf (intKind P w) a S n
 | .ins C dx fs=>H dx=some (.own a)/\fs.length<=1000/\dx ≠ a/\h.get? a=some (instObj C dx) /\
   ∃ mA,h.Ns1 dx mA/\(∀ f,JT (fs.lookup f) (mA f))/\PySem.Within mA (fs.map (·.1))
 | .own _=>∃ o,h.get? a=some o
 | .xd fs=>∃ mA,h.Ns1 a mA/\∀ f,JT (fs.lookup f) (mA f)
 | .rng lo hi=>∃ t u v,h.get? a=some { cls:=.type "range",data:=.fields #[.int lo t,.int hi u,.int 1 v] }
 | .frz o u=>h.get? a=some o/\ZR H h a u
 | .tbl ps=>∃ qs:Array Value,h.get? a=some { cls:=.none,data:=.fields qs }/\TriplesOk qs.toList/\∀ (pos:Pos) (v:Value),codeAmong pos qs.toList=some v ->
   ∃ (c:Addr) (o:Obj) (vs:Array Value) (q:Str) (t t':Tok),v=.ref c/\H c=some (.frz o (.own a))/\o.data=.fields vs/\vs[1]?=some (.str q t)/\ps[0]?=some (.str q t')
 | .met f x=>h.get? a=some (methodObj (.ref f) (.ref x))
 | .ext φ=>φ h/\(∃ o,h.get? a=some o)/\∀ h1 h2:Heap,φ h1->(∀ o,h1.get? a=some o->h2.get? a=some o)->φ h2
def HOk(H:Hp)(h:Heap):Prop:=∀ a o,H a=some o->ZR P w H h a o
end
section
variable {P:Program}{w:World}{H H':Hp}{h h':Heap}{a:Addr}{o:HO}
def ZR.lt(x:ZR P w H h a o):a < h.objs.size:=by
 cases o with
 | lst xs=>obtain⟨_,_,_,_,e⟩:=x; exact Yh e
 | tup xs=>obtain⟨_,_,_,p⟩:=x; exact p.lt
 | dK kvs=>obtain⟨_,_,_,_,o,_,_,e,_⟩:=x; exact Yh e
 | dT kvs=>obtain⟨_,_,_,_,o,_,_,e,_⟩:=x; exact Yh e
 | set S n=>obtain⟨o,_,_,_,e,_⟩:=x; exact Yh e
 | ins C dx fs=>obtain⟨_,_,_,e,_⟩:=x; exact Yh e
 | own y=>obtain⟨_,e⟩:=x; exact Yh e
 | xd fs=>obtain⟨_,⟨_,_,_,e,_⟩,_⟩:=x; exact Yh e
 | rng lo hi=>obtain⟨_,_,_,e⟩:=x; exact Yh e
 | frz ob u=>obtain⟨e,_⟩:=x; exact Yh e
 | tbl ps=>obtain⟨_,e,_⟩:=x; exact Yh e
 | met f y=>exact Yh (show h.get? a=some _ from x)
 | ext φ=>obtain⟨_,⟨_,e⟩,_⟩:=x; exact Yh e
def Paired.mapP{α β:Type}{F G:α->β->Prop}:∀ {l₁:List α}{l₂:List β},Paired F l₁ l₂->(∀ a b,F a b->G a b)->Paired G l₁ l₂
 | _,_,.nil,_=>.nil
 | _,_,.cons r t,f=>.cons (f _ _ r) (Paired.mapP t f)
theorem ZR.stay(x:ZR P w H h a o)(k:∀ b u,(b=a\/H b=some (.own a))->h.get? b=some u->h'.get? b=some u)
  (ho:∀ b,H b=some (.own a)->H' b=some (.own a)) (ht:∀ b xs,H b=some (.tup xs)->H' b=some (.tup xs))
  (hf:∀ b o,H b=some (.frz o (.own a))->H' b=some (.frz o (.own a)):=by exact λ_ _ q=>q):ZR P w H' h' a o:=by
 induction o with
 | lst xs=>obtain⟨z,its,n,r,e⟩:=x; exact⟨z,its,n,r,k _ _ (.inl rfl) e⟩
 | tup xs=>obtain⟨z,its,r,ob,e,c⟩:=x; exact⟨z,its,r,ob,k _ _ (.inl rfl) e,c⟩
 | dK kvs=>obtain⟨z,y,vs,r,ob,es,ep,e,c⟩:=x; exact⟨z,y,vs,r,ob,es,ep,k _ _ (.inl rfl) e,c⟩
 | dT kvs =>
  obtain⟨z,y,xs,r,ob,es,ep,e,c⟩:=x
  exact⟨z,y,xs,Paired.mapP r λp q z=>⟨z.1,ht _ _ z.2.1,z.2.2⟩,ob,es,ep,k _ _ (.inl rfl) e,c⟩
 | set S n=>obtain⟨ob,es,ep,t,e,c⟩:=x; exact⟨ob,es,ep,t,k _ _ (.inl rfl) e,c⟩
 | ins C dx fs =>
  obtain⟨d,z,ne,e,mA,⟨od,es,ep,e2,c⟩,r⟩:=x
  exact⟨ho _ d,z,ne,k _ _ (.inl rfl) e,mA,⟨od,es,ep,k _ _ (.inr d) e2,c⟩,r⟩
 | own y=>obtain⟨ob,e⟩:=x; exact⟨ob,k _ _ (.inl rfl) e⟩
 | xd fs=>obtain⟨mA,⟨od,es,ep,e,c⟩,r⟩:=x; exact⟨mA,⟨od,es,ep,k _ _ (.inl rfl) e,c⟩,r⟩
 | rng lo hi=>obtain⟨t,u,v,e⟩:=x; exact⟨t,u,v,k _ _ (.inl rfl) e⟩
 | frz ob u ih=>obtain⟨e,q⟩:=x; exact⟨k _ _ (.inl rfl) e,ih q⟩
 | tbl ps =>
  obtain⟨qs,e,t,f⟩:=x
  exact⟨qs,k _ _ (.inl rfl) e,t,λpos v z=>by
   obtain⟨c,o,vs,q,t,t',e1,e2,r⟩:=f pos v z
   exact⟨c,o,vs,q,t,t',e1,hf _ _ e2,r⟩⟩
 | met f y =>
  have e:h.get? a=some (methodObj (.ref f) (.ref y)):=x
  show h'.get? a=some (methodObj (.ref f) (.ref y))
  exact k a _ (.inl rfl) e
 | ext φ=>obtain⟨p,⟨o,e⟩,st⟩:=x; exact⟨st _ _ p λo q=>k _ _ (.inl rfl) q,⟨o,k _ _ (.inl rfl) e⟩,st⟩
def HOk.lt(x:HOk P w H h)(e:H a=some o):a < h.objs.size:=(x a o e).lt
theorem HOk.fresh(x:HOk P w H h)(e:h.objs.size<=a):H a=none:=by
 cases q:H a with
 | none=>rfl
 | some u=>exact absurd (Yy (x.lt q) e) (YX _)
theorem HOk.kept(x:HOk P w H h)(k:∀ b u,h.get? b=some u->h'.get? b=some u):HOk P w H h':=λa o e =>
 (x a o e).stay (λb u _ q=>k b u q) (λ_ q=>q) λ_ _ q=>q
theorem HOk.laid(x:HOk P w H h)(k:∀ b u,h.get? b=some u->h'.get? b=some u)(hp:h.objs.size<=a)(new:ZR P w (upd H a o) h' a o):HOk P w (upd H a o) h':=λb u e=>by
 have hn:=x.fresh hp
 by_cases hb:b=a
 ·subst hb; rw [Zf] at e; cases e; exact new
 ·rw [Zg hb] at e
  exact (x b u e).stay (λc v _ q=>k c v q) (λc q=>by rw [Zg (Zm q hn)]; exact q) (λc xs q=>by rw [Zg (Zm q hn)]; exact q) λc o q=>by rw [Zg (Zm q hn)]; exact q
end
def Rd(H:Hp)(a:Addr)(u:HO):Prop:=H a=some u\/∃ o,H a=some (.frz o u)
theorem Rd.of{a:Addr}{u:HO}(h:H a=some u):Rd H a u:=.inl h
variable {P:Program}{w:World}
theorem Rd.ok{h:Heap}{a:Addr}{u:HO}(r:Rd H a u)(x:HOk P w H h):ZR P w H h a u:=by
 rcases r with r | ⟨o,r⟩
 ·exact x a u r
 ·obtain⟨_,q⟩:=x a _ r
  exact q
def Mut:Option HO->Prop
 | some (.lst _)=>True
 | some (.dK _)=>True
 | some (.dT _)=>True
 | some (.set _ _)=>True
 | some (.ins _ _ _)=>True
 | some (.ext _)=>True
 | _=>False
section
variable {P:Program}{w:World}{H:Hp}{h h':Heap}{x e:Addr}{o':HO}
def HOk.write(ok:HOk P w H h)(mu:Mut (H x))(he:e=x\/H e=some (.own x))(k:∀ b u,b ≠ e->h.get? b=some u->h'.get? b=some u)(heo:∃ u,h'.get? e=some u)
  (new:ZR P w (upd H x o') h' x o'):HOk P w (upd H x o') h':=λb u q=>by
 have nown:∀ c y,H c=some (.own y)->c ≠ x:=λc y r z=>by subst z; rw [r] at mu; exact mu
 have ntup:∀ c xs,H c=some (.tup xs)->c ≠ x:=λc xs r z=>by subst z; rw [r] at mu; exact mu
 by_cases hb:b=x
 ·subst hb; rw [Zf] at q; cases q; exact new
 ·rw [Zg hb] at q
  by_cases hbe:b=e
  ·have q':H b=some (.own x):=by
    rcases he with z | z
    ·exact absurd (hbe.trans z) hb
    ·rw [hbe]; exact z
   rw [q] at q'; cases q'
   obtain⟨v,hv⟩:=heo
   exact⟨v,by rw [hbe]; exact hv⟩
  ·refine (ok b u q).stay (λc v hc r=>k c v ?_ r) (λc r=>by rw [Zg (nown c b r)]; exact r) (λc xs r=>by rw [Zg (ntup c xs r)]; exact r) λc o r=>by rw [Zg λz=>by subst z; rw [r] at mu; exact mu]; exact r
   rcases hc with rfl | hc
   ·exact hbe
   ·rintro rfl
    rcases he with z | z
    ·exact nown c b hc z
    ·rw [hc] at z; cases z; exact hb rfl
end
structure Un(fs ex:List Addr)(H H':Hp)(h h':Heap):Prop where
 keep:∀ b o,h.get? b=some o->H b=none->b ∉ fs->b ∉ ex->h'.get? b=some o
 slot:∀ b o,h.get? b=some o->H b=none->b∈fs->b ∉ ex->∃ sl,h'.get? b=some { o with slots:=sl }
 free:∀ b o,h.get? b=some o->H b=none->b ∉ ex->H' b=none
 there:∀ b o,h.get? b=some o->b ∉ ex->∃ o',h'.get? b=some o'
 tups:∀ b xs,H b=some (.tup xs)->H' b=some (.tup xs)
 frzs:∀ b o u,H b=some (.frz o u)->H' b=some (.frz o u)
 tbls:∀ b ps,H b=some (.tbl ps)->∃ more,H' b=some (.tbl (ps ++ more))
section
variable {fs fs' ex ex':List Addr}{H H1 H2:Hp}{h h1 h2 h':Heap}{a x e:Addr}{o:HO}
theorem Un.any(u:Un fs ex H H1 h h1){b:Addr}{ob:Obj}(q:h.get? b=some ob)(n:H b=none)(hx:b ∉ ex):∃ sl,h1.get? b=some { ob with slots:=sl }:=by
 by_cases hb:b∈fs
 ·exact u.slot b ob q n hb hx
 ·exact⟨ob.slots,u.keep b ob q n hb hx⟩
theorem Un.trans(a:Un fs ex H H1 h h1)(b:Un fs ex H1 H2 h1 h2):Un fs ex H H2 h h2 where
 keep:=λc ob q n hc hx=>b.keep c ob (a.keep c ob q n hc hx) (a.free c ob q n hx) hc hx
 slot:=λc ob q n hc hx=>by
  obtain⟨sl,e1⟩:=a.slot c ob q n hc hx
  obtain⟨sl',e2⟩:=b.slot c _ e1 (a.free c ob q n hx) hc hx
  exact⟨sl',e2⟩
 free:=λc ob q n hx=>by
  obtain⟨o',e1⟩:=a.there c ob q hx
  exact b.free c o' e1 (a.free c ob q n hx) hx
 there:=λc ob q hx=>by
  obtain⟨o',e1⟩:=a.there c ob q hx
  exact b.there c o' e1 hx
 tups:=λc xs q=>b.tups c xs (a.tups c xs q)
 frzs:=λc ob xs q=>b.frzs c ob xs (a.frzs c ob xs q)
 tbls:=λc ps q=>by
  obtain⟨m1,e1⟩:=a.tbls c ps q
  obtain⟨m2,e2⟩:=b.tbls c _ e1
  exact⟨m1 ++ m2,by rw [e2,Array.append_assoc]⟩
theorem Un.kept(k:∀ b u,h.get? b=some u->h'.get? b=some u):Un fs ex H H h h' :=
 ⟨λb ob q _ _ _=>k b ob q,λb ob q _ _ _=>⟨ob.slots,k b ob q⟩,λ_ _ _ n _=>n,λb ob q _=>⟨ob,k b ob q⟩,λ_ _ q=>q,λ_ _ _ q=>q,λ_ ps q=>⟨#[],by rw [q]; simp⟩⟩
def Un.refl:Un fs ex H H h h:=Un.kept λ_ _ q=>q
theorem Un.laid(k:∀ b u,h.get? b=some u->h'.get? b=some u)(hp:h.objs.size<=a)(hn:H a=none):Un fs ex H (upd H a o) h h' where
 keep:=λb u q _ _ _=>k b u q
 slot:=λb u q _ _ _=>⟨u.slots,k b u q⟩
 free:=λb u q n _=>by rw [Zg (Yn (Yy (Yh q) hp))]; exact n
 there:=λb u q _=>⟨u,k b u q⟩
 tups:=λb xs q=>by rw [Zg (Zm q hn)]; exact q
 frzs:=λb u xs q=>by rw [Zg (Zm q hn)]; exact q
 tbls:=λb ps q=>⟨#[],by rw [Zg (Zm q hn),q]; simp⟩
def Un.write(mu:Mut (H x))(he:e=x\/H e=some (.own x))(k:∀ b u,b ≠ e->h.get? b=some u->h'.get? b=some u)(heo:∃ u,h'.get? e=some u):Un fs ex H (upd H x o) h h':=by
 have hx:∀ b,H b=none->b ≠ x:=λb n z=>by subst z; rw [n] at mu; exact mu
 have hb:∀ b,H b=none->b ≠ e:=λb n z=>by
  subst z
  rcases he with r | r
  ·exact hx b n r
  ·rw [n] at r; cases r
 have hm:∀ b u,H b=some u->¬ Mut (some u)->b ≠ x:=λb u q nm z=>by subst z; rw [q] at mu; exact nm mu
 refine⟨λb u q n _ _=>k b u (hb b n) q,λb u q n _ _=>⟨u.slots,k b u (hb b n) q⟩,λb u q n _=>by rw [Zg (hx b n)]; exact n,λb u q _=>?_,
  λb xs q=>by rw [Zg (hm b _ q λz=>z)]; exact q,λb u xs q=>by rw [Zg (hm b _ q λz=>z)]; exact q,λb ps q=>⟨#[],by rw [Zg (hm b _ q λz=>z),q]; simp⟩⟩
 by_cases hbe:b=e
 ·subst hbe; exact heo
 ·exact⟨u,k b u hbe q⟩
def Un.mono(u:Un fs ex H H1 h h1)(hs:∀ b∈fs,b∈fs')(hx:∀ b∈ex,b∈ex'):Un fs' ex' H H1 h h1 :=
 ⟨λb ob q n hb he=>u.keep b ob q n (λz=>hb (hs b z)) λz=>he (hx b z),λ_ _ q n _ he=>u.any q n λz=>he (hx _ z),λb ob q n he=>u.free b ob q n λz=>he (hx b z),λb ob q he=>u.there b ob q λz=>he (hx b z),u.tups,u.frzs,u.tbls⟩
end
def trk(h:Heap)(H:Hp):List Addr:=(List.range h.objs.size).filter λa=>(H a).isSome
def ZlQ(h:Heap)(H:Hp):Heap:=hideAll h (trk h H)
theorem Zj9(h:Heap)(H:Hp):(ZlQ h H).objs.size=h.objs.size:=PySem.W.hideAll_size _ _
def ZeX{h:Heap}{b:Addr}{o:Obj}(e:h.get? b=some o)(n:H b=none):(ZlQ h H).get? b=some o :=
 hideAll_get _ e λhm=>by
  have q:(H b).isSome=true:=(Yu.mp hm).2
  rw [n] at q; simp at q
theorem Znd{h:Heap}{b:Addr}{o:Obj}(e:(ZlQ h H).get? b=some o):h.get? b=some o/\H b=none:=by
 have e':h.get? b=some o:=of_hideAll (trk h H) e
 refine⟨e',?_⟩
 cases q:H b with
 | none=>rfl
 | some x =>
  have hm:b∈trk h H:=List.mem_filter.mpr ⟨List.mem_range.mpr (Heap.lt_size e'),by simp [q]⟩
  have z:(ZlQ h H).get? b=none:=PySem.W.hideAll_none (trk h H) hm
  rw [z] at e; cases e
def ZjA(g h:Heap)(L:Addr):List (Addr × Obj):=(List.range h.objs.size).filterMap λa=>if a=L\/(g.get? a).isSome=true then none else (h.get? a).map λo=>(a,o)
def ZgE{g h:Heap}{L a:Addr}{o:Obj}(h1:a ≠ L)(h2:g.get? a=none)(h3:h.get? a=some o):(a,o)∈ZjA g h L :=
 List.mem_filterMap.mpr ⟨a,List.mem_range.mpr (Heap.lt_size h3),by simp [h1,h2,h3]⟩
def Jk(g h:Heap)(L d:Addr):List (Addr × Obj):=(ZjA g h L).filter λp=>decide (p.1 ≠ d)
theorem Z4{g h:Heap}{L d a:Addr}{o:Obj}(h1:a ≠ L)(h2:g.get? a=none)(h3:h.get? a=some o)(h4:a ≠ d):(a,o)∈Jk g h L d :=
 Yu.mpr ⟨ZgE h1 h2 h3,YR h4⟩
structure Mod(K:PySem.W.Frag)(mg:Str->Option Value)(base:Heap):Prop where
 kin:K.In base
 glob:base.Ns mainGlobals mg
 blt:∃ mb,base.Ns builtinsNs mb/\∀ x:Str,x ≠ "__name__"->mb x=bootBuiltins x
 nolimit:base.NoLimit
structure Cx where
 prog:Program
 w:World
 K:PySem.W.Frag
 mg:Str->Option Value
 base:Heap
 A:Around
 N:List Str
 s₀:Shared
 H₀:Hp
 env:Env
 outer:List Env
 stack:List Env
 ex:List Addr
 fn:Str->Bool
 calm:Bool
 pn:List (Addr × Obj)
 xe:VSP
def frs(l:List Env):List Addr:=l.filterMap (·.frame)
abbrev Cx.fs(X:Cx):List Addr:=frs X.outer
def Vis(sc:Scope)(x:Str):Prop:=sc.names.lookup x=some .local\/sc.names.lookup x=some .cell\/sc.names.lookup x=some .free
def Loc(sc:Scope)(x:Str):Prop:=sc.names.lookup x=some .local\/sc.names.lookup x=some .cell
def ZsL(env:Env)(h:Heap)(m:Str->Option Value)(x:Str)(u:Value):Prop :=
 (env.kindOf x=some .local/\m x=some u)\/((env.kindOf x=some .cell\/env.kindOf x=some .free)/\∃ c,env.cells.lookup x=some c/\h.IsCell c (some u))
structure Cx.Ok(X:Cx):Prop where
 mod:Mod X.K X.mg X.base
 kind:X.env.scope.kind=.function
 glob:X.env.globals=mainGlobals
 blt:X.env.builtins=builtinsNs
 above:X.s₀.heap.objs.size<=X.env.locals
 inj:∀ x y c,X.env.cells.lookup x=some c->X.env.cells.lookup y=some c->x=y
 has:∀ x,(X.env.kindOf x=some .cell\/X.env.kindOf x=some .free)->∃ c,X.env.cells.lookup x=some c
 cab:∀ x c,X.fn x=true->X.env.cells.lookup x=some c->X.s₀.heap.objs.size<=c
 hd:X.calm=true->X.A.handled=none
 frames:X.A.frames=some X.stack
 stk:X.stack=X.outer\/(X.stack=X.env :: X.outer/\X.env.frame=some X.env.locals)
 exf:∀ b∈X.ex,b ≠ X.env.locals/\∀ x c,X.env.cells.lookup x=some c->c ≠ b
 bs:∀ b o,X.base.get? b=some o->X.s₀.heap.get? b=some o/\X.H₀ b=none
 bsz:X.base.objs.size<=X.s₀.heap.objs.size
 noex:∀ b o,X.base.get? b=some o->b ∉ X.ex
 exfs:∀ b∈X.ex,b ∉ X.fs
 funs:X.s₀.heap.FunFrames X.base X.outer
 frf:∀ b∈X.fs,X.H₀ b=none
structure Inv(X:Cx)(pins:List (Addr × Obj))(σ:List (Option V))(H:Hp)(s:Shared):Prop where
 ok:X.Ok
 os:s.os=X.s₀.os
 bare:AllBare s.gens
 base:Un X.fs X.ex X.H₀ H X.s₀.heap s.heap
 loc:∃ m,s.heap.Ns X.env.locals m/\∀ (i:Nat) (x:Str) (v:V),X.N[i]?=some x->σ[i]?=some (some v)->Vis X.env.scope x->∃ u,Zt v u/\ZsL X.env s.heap m x u
 cell:∀ x c,X.env.cells.lookup x=some c->∃ v,s.heap.IsCell c v
 free:H X.env.locals=none
 freeC:∀ x c,X.env.cells.lookup x=some c->H c=none
 pin:∀ p∈X.pn ++ pins,s.heap.get? p.1=some p.2/\H p.1=none/\p.1 ≠ X.env.locals/\p.1 ∉ X.fs/\∀ v,p.2.data ≠ .cell v
 hok:HOk X.prog X.w H s.heap
 len:σ.length=X.N.length
section
variable {X:Cx}{pins:List (Addr × Obj)}{σ:List (Option V)}{H H':Hp}{s:Shared}{h':Heap}
def Cx.Ok.nofr(ok:X.Ok){b:Addr}{o:Obj}(e:X.base.get? b=some o):b ∉ X.fs:=λhb=>by
 have:=(ok.funs.mem hb).1
 rw [e] at this; cases this
theorem Inv.bs(I:Inv X pins σ H s):∀ b o,X.base.get? b=some o->s.heap.get? b=some o/\H b=none:=λb o e =>
 ⟨I.base.keep b o (I.ok.bs b o e).1 (I.ok.bs b o e).2 (I.ok.nofr e) (I.ok.noex b o e),I.base.free b o (I.ok.bs b o e).1 (I.ok.bs b o e).2 (I.ok.noex b o e)⟩
def Inv.bk(I:Inv X pins σ H s):∀ b o,X.base.get? b=some o->s.heap.get? b=some o:=λb o e=>(I.bs b o e).1
theorem Inv.mod(I:Inv X pins σ H s):Mod X.K X.mg X.base:=I.ok.mod
theorem Inv.kIn(I:Inv X pins σ H s):X.K.In s.heap:=I.ok.mod.kin.keeps I.bk
def Inv.nolimit(I:Inv X pins σ H s):s.heap.NoLimit:=I.ok.mod.nolimit.keeps I.bk
theorem Inv.fr(I:Inv X pins σ H s):∃ m,Fr X.base X.env.locals s.heap m :=
 let ⟨m,hn,_⟩:=I.loc
 ⟨m,hn,I.bk,Yj I.ok.bsz I.ok.above⟩
def Inv.lt(I:Inv X pins σ H s):X.env.locals < s.heap.objs.size:=let ⟨_,hn,_⟩:=I.loc; hn.lt
def Inv.sz(I:Inv X pins σ H s):X.s₀.heap.objs.size<=s.heap.objs.size:=Yj I.ok.above (Yp I.lt)
def Inv.nofs(I:Inv X pins σ H s){a:Addr}(h:s.heap.objs.size<=a):a ∉ X.fs:=λhb=>by
 obtain⟨_,o,ho,_⟩:=I.ok.funs.mem hb
 exact absurd (Yy (Yh ho) (Yj I.sz h)) (YX _)
theorem Inv.cne(I:Inv X pins σ H s):∀ x c,X.env.cells.lookup x=some c->c ≠ X.env.locals:=λx c e z=>by
 obtain⟨v,o,ho,hd⟩:=I.cell x c e
 obtain⟨m,⟨o',es,ep,ho',hd',_⟩,_⟩:=I.loc
 rw [z,ho'] at ho; cases ho; rw [hd'] at hd; cases hd
theorem Inv.funs(I:Inv X pins σ H s):s.heap.FunFrames X.base X.outer:=by
 have all:∀ (l:List Env),(∀ b∈frs l,b∈X.fs)->X.s₀.heap.FunFrames X.base l->s.heap.FunFrames X.base l:=by
  intro l
  induction l with
  | nil=>intro _ _; trivial
  | cons env r ih =>
   intro hs hl
   obtain⟨hk,⟨L,o,hf,hn,ho,hd⟩,hr⟩:=hl
   have hL:L∈X.fs:=hs L (by unfold frs; rw [List.filterMap_cons,hf]; exact List.mem_cons_self)
   obtain⟨sl,e⟩:=I.base.slot L o ho (I.ok.frf L hL) hL λz=>I.ok.exfs L z hL
   exact⟨hk,⟨L,_,hf,hn,e,hd⟩,ih (λb hb=>hs b (by unfold frs; rw [List.filterMap_cons,hf]; exact List.mem_cons_of_mem _ hb)) hr⟩
 exact all X.outer (λ_ hb=>hb) I.ok.funs
def Inv.stack(I:Inv X pins σ H s):s.heap.FunFrames X.base X.stack:=by
 rcases I.ok.stk with e | ⟨e,hf⟩
 ·rw [e]; exact I.funs
 ·rw [e]
  obtain⟨m,hn,_⟩:=I.loc
  refine .cons (by rw [I.ok.kind]; decide) hf hn ?_ I.funs
  exact Heap.get?_none_of_le (Yj I.ok.bsz I.ok.above)
def Inv.stkSub(I:Inv X pins σ H s):∀ b∈frs X.stack,b∈X.env.locals :: X.fs:=λb hb=>by
 rcases I.ok.stk with e | ⟨e,hf⟩
 ·rw [e] at hb; exact Vd _ hb
 ·rw [e] at hb
  unfold frs at hb
  rw [Yai,hf] at hb
  exact hb
def Inv.stkFree(I:Inv X pins σ H s):∀ b∈frs X.stack,H b=none:=λb hb=>by
 rcases Yl.mp (I.stkSub b hb) with e | hb
 ·rw [e]; exact I.free
 ·obtain⟨_,o,ho,_⟩:=I.ok.funs.mem hb
  exact I.base.free b o ho (I.ok.frf b hb) λz=>I.ok.exfs b z hb
theorem Inv.step{g':Array GenState}{t':Nat}{d':Drawn}{ch:List Addr}(I:Inv X pins σ H s)
  (hch:∀ b∈ch,(b∈X.ex\/X.s₀.heap.objs.size<=b)/\b ≠ X.env.locals/\(∀ x c,X.env.cells.lookup x=some c->c ≠ b)/\∀ p∈X.pn ++ pins,p.1 ≠ b)
  (keep:∀ b o,b ≠ X.env.locals->b ∉ X.fs->b ∉ ch->s.heap.get? b=some o->H b=none->h'.get? b=some o)
  (slot:∀ b o,b ≠ X.env.locals->b∈X.fs->b ∉ ch->s.heap.get? b=some o->H b=none->∃ sl,h'.get? b=some { o with slots:=sl }) (free:∀ b o,b ∉ ch->s.heap.get? b=some o->H b=none->H' b=none)
  (there:∀ b o,b ∉ ch->s.heap.get? b=some o->∃ o',h'.get? b=some o')
  (tups:∀ b xs,H b=some (.tup xs)->H' b=some (.tup xs)) (frzs:∀ b o u,H b=some (.frz o u)->H' b=some (.frz o u)) (tbls:∀ b ps,H b=some (.tbl ps)->∃ more,H' b=some (.tbl (ps ++ more)))
  (ns:∀ m,s.heap.Ns X.env.locals m->h'.Ns X.env.locals m) (hok:HOk X.prog X.w H' h') (hg:AllBare g') :
  Inv X pins σ H' { s with heap:=h',gens:=g',drawn:=d',toks:=t' }:=by
 have neL:∀ b o,X.s₀.heap.get? b=some o->b ≠ X.env.locals:=λb o e=>Yn (Yy (Yh e) I.ok.above)
 have neC:∀ b o,X.s₀.heap.get? b=some o->b ∉ X.ex->b ∉ ch:=λb o e hx hb=>by
  rcases (hch b hb).1 with z | z
  ·exact hx z
  ·exact absurd (Yy (Yh e) z) (YX _)
 have cellK:∀ x c,X.env.cells.lookup x=some c->∀ v,s.heap.IsCell c v->h'.IsCell c v:=λx c e v ⟨o,ho,hd⟩=>by
  have nch:c ∉ ch:=λz=>(hch c z).2.2.1 x c e rfl
  by_cases hc:c∈X.fs
  ·obtain⟨sl,q⟩:=slot c o (I.cne x c e) hc nch ho (I.freeC x c e)
   exact⟨_,q,hd⟩
  ·exact⟨o,keep c o (I.cne x c e) hc nch ho (I.freeC x c e),hd⟩
 refine⟨I.ok,I.os,hg,⟨λb o e n hb hx=>?_,λb o e n hb hx=>?_,λb o e n hx=>?_,λb o e hx=>?_,λb xs e=>tups b xs (I.base.tups b xs e),λb o xs e=>frzs b o xs (I.base.frzs b o xs e),λb ps e=>?_⟩,?_,λx c e=>?_,?_,λx c e=>?_,λp hp=>?_,hok,I.len⟩
 ·exact keep b o (neL b o e) hb (neC b o e hx) (I.base.keep b o e n hb hx) (I.base.free b o e n hx)
 ·obtain⟨sl,e1⟩:=I.base.slot b o e n hb hx
  obtain⟨sl',e2⟩:=slot b _ (neL b o e) hb (neC b o e hx) e1 (I.base.free b o e n hx)
  exact⟨sl',e2⟩
 ·obtain⟨o',e1⟩:=I.base.there b o e hx
  exact free b o' (neC b o e hx) e1 (I.base.free b o e n hx)
 ·obtain⟨o',e1⟩:=I.base.there b o e hx
  exact there b o' (neC b o e hx) e1
 ·obtain⟨m1,e1⟩:=I.base.tbls b ps e
  obtain⟨m2,e2⟩:=tbls b _ e1
  exact⟨m1 ++ m2,by rw [e2,Array.append_assoc]⟩
 ·obtain⟨m,hn,hl⟩:=I.loc
  refine⟨m,ns m hn,λi x v e1 e2 e3=>?_⟩
  obtain⟨u,r,l⟩:=hl i x v e1 e2 e3
  refine⟨u,r,?_⟩
  rcases l with l | ⟨k,c,e,z⟩
  ·exact .inl l
  ·exact .inr ⟨k,c,e,cellK x c e _ z⟩
 ·obtain⟨v,z⟩:=I.cell x c e
  exact⟨v,cellK x c e v z⟩
 ·obtain⟨m,⟨o,_,_,ho,_⟩,_⟩:=I.loc
  exact free _ o (λz=>(hch _ z).2.1 rfl) ho I.free
 ·obtain⟨v,o,ho,hd⟩:=I.cell x c e
  exact free c o (λz=>(hch c z).2.2.1 x c e rfl) ho (I.freeC x c e)
 ·obtain⟨e,n,ne,nf,d⟩:=I.pin p hp
  have nch:p.1 ∉ ch:=λz=>(hch p.1 z).2.2.2 p hp rfl
  exact⟨keep p.1 p.2 ne nf nch e n,free p.1 p.2 nch e n,ne,nf,d⟩
theorem Inv.un{t':Nat}(I:Inv X pins σ H s)(u:Un X.fs [] H H' s.heap h')(hok:HOk X.prog X.w H' h'):Inv X pins σ H' { s with heap:=h',toks:=t' }:=by
 obtain⟨m,⟨o,es,ep,ho,r⟩,_⟩:=id I.loc
 obtain⟨sl,hL⟩:=u.any ho I.free (by simp)
 exact I.step (g':=s.gens) (d':=s.drawn) (ch:=[]) (λ_ z=>nomatch z) (λb o _ hb _ e n=>u.keep b o e n hb (by simp)) (λb o _ hb _ e n=>u.slot b o e n hb (by simp)) (λb o _ e n=>u.free b o e n (by simp)) (λb o _ e=>u.there b o e (by simp)) u.tups u.frzs u.tbls (λm' hm=>by
  obtain⟨o',es',ep',ho',r'⟩:=hm
  rw [ho] at ho'; cases ho'
  exact⟨_,es',ep',hL,r'⟩) hok I.bare
theorem Inv.call{g':Array GenState}{t':Nat}{d':Drawn}{ch:List Addr}(I:Inv X pins σ H s)(u:Un (frs X.stack) ch H H' s.heap h')(hok:HOk X.prog X.w H' h')(hg:AllBare g')
  (hch:∀ b∈ch,(b∈X.ex\/X.s₀.heap.objs.size<=b)/\b ≠ X.env.locals/\(∀ x c,X.env.cells.lookup x=some c->c ≠ b)/\∀ p∈X.pn ++ pins,p.1 ≠ b) :
  Inv X pins σ H' { s with heap:=h',gens:=g',drawn:=d',toks:=t' }:=by
 obtain⟨m,⟨o,es,ep,ho,r⟩,_⟩:=id I.loc
 obtain⟨sl,hL⟩:=u.any ho I.free λz=>(hch _ z).2.1 rfl
 exact I.step (ch:=ch) hch (λb o hL hb hc e n=>u.keep b o e n (λz=>(Yl.mp (I.stkSub b z)).elim hL hb) hc) (λb o _ _ hc e n=>u.any e n hc) (λb o hc e n=>u.free b o e n hc) (λb o hc e=>u.there b o e hc) u.tups u.frzs u.tbls (λm' hm=>by
  obtain⟨o',es',ep',ho',r'⟩:=hm
  rw [ho] at ho'; cases ho'
  exact⟨_,es',ep',hL,r'⟩) hok hg
theorem Inv.turned{t':Nat}{it:Addr}(I:Inv X pins σ H s)(k:∀ b o,b ≠ it->s.heap.get? b=some o->h'.get? b=some o)(hn:H it=none)(hL:it ≠ X.env.locals)
  (h1:it∈X.ex\/X.s₀.heap.objs.size<=it) (h2:∀ x c,X.env.cells.lookup x=some c->c ≠ it) (h3:∀ p∈X.pn ++ pins,p.1 ≠ it):Inv X pins σ H { s with heap:=h',toks:=t' }:=by
 have nit:∀ b u,H b=some u->b ≠ it:=λb u e z=>by rw [z,hn] at e; cases e
 refine I.step (g':=s.gens) (d':=s.drawn) (ch:=[it]) (λb hb=>?_) (λb o _ _ hc e _=>k b o (λz=>hc (by simp [z])) e) (λb o _ _ hc e _=>⟨o.slots,k b o (λz=>hc (by simp [z])) e⟩) (λ_ _ _ _ n=>n)
  (λb o hc e=>⟨o,k b o (λz=>hc (by simp [z])) e⟩) (λ_ _ e=>e) (λ_ _ _ e=>e) (λb ps e=>⟨#[],by rw [e]; simp⟩) (λm hm=>?_) (λb u e=>?_) I.bare
 ·have e:b=it:=by simpa using hb
  subst e
  exact⟨h1,hL,h2,h3⟩
 ·obtain⟨o,es,ep,ho,r⟩:=hm
  exact⟨o,es,ep,k _ o (Ne.symm hL) ho,r⟩
 ·refine (I.hok b u e).stay (λc v hc q=>k c v ?_ q) (λ_ q=>q) λ_ _ q=>q
  rcases hc with z | z
  ·rw [z]; exact nit b u e
  ·exact nit c _ z
theorem Inv.tok(I:Inv X pins σ H s)(t:Nat):Inv X pins σ H { s with toks:=t }:=I.un (h':=s.heap) (t':=t) Un.refl I.hok
theorem Inv.kept{t':Nat}(I:Inv X pins σ H s)(k:∀ b u,s.heap.get? b=some u->h'.get? b=some u):Inv X pins σ H { s with heap:=h',toks:=t' }:=I.un (Un.kept k) (I.hok.kept k)
theorem Inv.laid{a:Addr}{o:HO}{t':Nat}(I:Inv X pins σ H s)(k:∀ b u,s.heap.get? b=some u->h'.get? b=some u)(hp:s.heap.objs.size<=a)(new:ZR X.prog X.w (upd H a o) h' a o) :
  Inv X pins σ (upd H a o) { s with heap:=h',toks:=t' }:=I.un (Un.laid k hp (I.hok.fresh hp)) (I.hok.laid k hp new)
def Inv.write{x e:Addr}{o:HO}{t':Nat}(I:Inv X pins σ H s)(mu:Mut (H x))(he:e=x\/H e=some (.own x))(k:∀ b u,b ≠ e->s.heap.get? b=some u->h'.get? b=some u)(heo:∃ u,h'.get? e=some u)
  (new:ZR X.prog X.w (upd H x o) h' x o):Inv X pins σ (upd H x o) { s with heap:=h',toks:=t' }:=I.un (Un.write mu he k heo) (I.hok.write mu he k heo new)
def Inv.pins_of{pins':List (Addr × Obj)}(I:Inv X pins σ H s)(h:∀ p∈pins',s.heap.get? p.1=some p.2/\H p.1=none/\p.1 ≠ X.env.locals/\p.1 ∉ X.fs/\∀ v,p.2.data ≠ .cell v):Inv X pins' σ H s :=
 ⟨I.ok,I.os,I.bare,I.base,I.loc,I.cell,I.free,I.freeC,λp hp=>(YA.mp hp).elim (λz=>I.pin p (VT _ z)) (h p),I.hok,I.len⟩
def Zhp{N:List Str}(hN:N.Nodup){i j:Nat}{x:Str}(a:N[i]?=some x)(b:N[j]?=some x):i=j:=by
 obtain⟨h1,e1⟩:=Ye.mp a
 obtain⟨h2,e2⟩:=Ye.mp b
 exact (List.getElem_inj hN).mp (e1.trans e2.symm)
def ZkH{M:Model}{A:Around}{E:VSP}{i:Nat}{x:Str}{v:V}{Q:Unit->Shared->Prop}(I:Inv X pins σ H s)(hN:X.N.Nodup)(hi:X.N[i]?=some x)(hx:Loc X.env.scope x)(r:Zt v u)
  (h:∀ s',Inv X pins (σ.set i (some v)) H s'->(∃ a,Heap.SameBut a s.heap s'.heap/\(a=X.env.locals\/X.env.cells.lookup x=some a))->Q () s') (hf:X.fn x=true\/X.env.scope.names.lookup x=some .local:=by first | exact .inl rfl | exact .inr rfl | assumption):wpAny M A (storeName X.env x u) Q E s:=by
 obtain⟨m,hn,hl⟩:=id I.loc
 have hcls:(X.env.scope.kind == .class || (X.env.scope.kind == .module && X.env.locals != X.env.globals))=false:=by rw [I.ok.kind]; rfl
 have hiσ:i < σ.length:=by rw [I.len]; exact (Ye.mp hi).1
 have cne:=I.cne
 have tracked:∀ {a:Addr}{h':Heap},(∃ o,s.heap.get? a=some o/\H a=none)->Heap.SameBut a s.heap h'->HOk X.prog X.w H h':=λ{a h'} ha hs b ob e=>by
  obtain⟨_,_,hfree⟩:=ha
  refine (I.hok b ob e).stay (λc w' hc q=>(hs.2 c ?_).trans q) (λ_ q=>q) λ_ _ q=>q
  rintro rfl
  rcases hc with rfl | hc
  ·rw [hfree] at e; cases e
  ·rw [hfree] at hc; cases hc
 rcases hx with hk | hk
 ·refine wpAny_storeName_local hk hn (λh' hn' hs=>?_) hcls
  obtain⟨oL,_,_,hoL,_⟩:=id hn
  refine h _ ⟨I.ok,I.os,I.bare,⟨λb o e n hb hx=>?_,λb o e n hb hx=>?_,I.base.free,λb o e hx=>?_,I.base.tups,I.base.frzs,I.base.tbls⟩,⟨_,hn',λj y v' e1 e2 e3=>?_⟩,λy c e=>?_,I.free,I.freeC,λp hp=>?_,tracked ⟨oL,hoL,I.free⟩ hs,by simpa using I.len⟩ ⟨_,hs,.inl rfl⟩
  ·exact (hs.2 b (Yn (Yy (Yh e) I.ok.above))).trans (I.base.keep b o e n hb hx)
  ·obtain⟨sl,e1⟩:=I.base.slot b o e n hb hx
   exact⟨sl,(hs.2 b (Yn (Yy (Yh e) I.ok.above))).trans e1⟩
  ·obtain⟨o',e1⟩:=I.base.there b o e hx
   exact⟨o',(hs.2 b (Yn (Yy (Yh e) I.ok.above))).trans e1⟩
  ·by_cases hj:j=i
   ·subst hj
    rw [hi] at e1; cases e1
    rw [List.getElem?_set_self hiσ] at e2
    cases e2
    exact⟨u,r,.inl ⟨hk,by simp⟩⟩
   ·rw [List.getElem?_set_ne (Ne.symm hj)] at e2
    obtain⟨u',r',q⟩:=hl j y v' e1 e2 e3
    refine⟨u',r',?_⟩
    rcases q with ⟨k,e⟩ | ⟨k,c,e,z⟩
    ·refine .inl ⟨k,?_⟩
     have:y ≠ x:=λe=>hj (Zhp hN e1 (e ▸ hi))
     simp [this,e]
    ·exact .inr ⟨k,c,e,z.sameBut hs (cne y c e)⟩
  ·obtain⟨w',z⟩:=I.cell y c e
   exact⟨w',z.sameBut hs (cne y c e)⟩
  ·obtain⟨e,n,ne,nf,d⟩:=I.pin p hp
   exact⟨(hs.2 p.1 ne).trans e,n,ne,nf,d⟩
 ·have hfn:X.fn x=true:=by
   rcases hf with z | z
   ·exact z
   ·rw [z] at hk; cases hk
  obtain⟨c,hc⟩:=I.ok.has x (.inl hk)
  obtain⟨w',z⟩:=I.cell x c hc
  refine wpAny_storeName_cell I.ok.kind hk hc z (λh' hc' hs=>?_)
  obtain⟨oc,hoc,hocd⟩:=id z
  refine h { s with heap:=h' } ⟨I.ok,I.os,I.bare,⟨λb o e n hb hx=>?_,λb o e n hb hx=>?_,I.base.free,λb o e hx=>?_,I.base.tups,I.base.frzs,I.base.tbls⟩,⟨m,hn.sameBut hs (Ne.symm (cne x c hc)),λj y v' e1 e2 e3=>?_⟩,λy c' e=>?_,I.free,I.freeC,λp hp=>?_,tracked ⟨oc,hoc,I.freeC x c hc⟩ hs,by simpa using I.len⟩ ⟨c,hs,.inr hc⟩
  ·exact (hs.2 b (Yn (Yy (Yh e) (I.ok.cab x c hfn hc)))).trans (I.base.keep b o e n hb hx)
  ·obtain⟨sl,e1⟩:=I.base.slot b o e n hb hx
   exact⟨sl,(hs.2 b (Yn (Yy (Yh e) (I.ok.cab x c hfn hc)))).trans e1⟩
  ·obtain⟨o',e1⟩:=I.base.there b o e hx
   exact⟨o',(hs.2 b (Yn (Yy (Yh e) (I.ok.cab x c hfn hc)))).trans e1⟩
  ·by_cases hj:j=i
   ·subst hj
    rw [hi] at e1; cases e1
    rw [List.getElem?_set_self hiσ] at e2
    cases e2
    exact⟨u,r,.inr ⟨.inl hk,c,hc,hc'⟩⟩
   ·rw [List.getElem?_set_ne (Ne.symm hj)] at e2
    obtain⟨u',r',q⟩:=hl j y v' e1 e2 e3
    refine⟨u',r',?_⟩
    rcases q with q | ⟨k,c',e,z'⟩
    ·exact .inl q
    ·refine .inr ⟨k,c',e,z'.sameBut hs ?_⟩
     rintro rfl
     exact hj (Zhp hN e1 (I.ok.inj _ _ _ e hc ▸ hi))
  ·by_cases hcc:c'=c
   ·subst hcc; exact⟨_,hc'⟩
   ·obtain⟨w2,z2⟩:=I.cell y c' e
    exact⟨w2,z2.sameBut hs hcc⟩
  ·obtain⟨e,n,ne,nf,d⟩:=I.pin p hp
   refine⟨(hs.2 p.1 ?_).trans e,n,ne,nf,d⟩
   intro q
   rw [q,hoc] at e
   have q':oc=p.2:=YW e
   exact d w' (by rw [<- q']; exact hocd)
def Zdg{M:Model}{A:Around}{E:VSP}{i:Nat}{x:Str}{v:V}{Q:Unit->Shared->Prop}(I:Inv X pins σ H s)(hN:X.N.Nodup)(hi:X.N[i]?=some x)(hx:Loc X.env.scope x)(r:Zt v u)
  (h:∀ s',Inv X pins (σ.set i (some v)) H s'->Q () s') (hf:X.fn x=true\/X.env.scope.names.lookup x=some .local:=by first | exact .inl rfl | exact .inr rfl | assumption):wpAny M A (storeName X.env x u) Q E s :=
 ZkH I hN hi hx r (λs' I' _=>h s' I') hf
def Inv.call'{s':Shared}{ch:List Addr}(I:Inv X pins σ H s)(ho:s'.os=s.os)(u:Un (frs X.stack) ch H H' s.heap s'.heap)(hok:HOk X.prog X.w H' s'.heap)(hg:AllBare s'.gens)
  (hch:∀ b∈ch,(b∈X.ex\/X.s₀.heap.objs.size<=b)/\b ≠ X.env.locals/\(∀ x c,X.env.cells.lookup x=some c->c ≠ b)/\∀ p∈X.pn ++ pins,p.1 ≠ b):Inv X pins σ H' s':=by
 obtain⟨h',g',d',t',o'⟩:=s'
 have e:o'=s.os:=ho
 subst e
 exact I.call (g':=g') (t':=t') (d':=d') u hok hg hch
end
abbrev XK:=Value->Option Addr->Hp->Prop
abbrev St:=List (Option V)
abbrev VK:=V->Hp->Prop
abbrev TE:=St->Hp->VK->Prop
abbrev TT:=St->Hp->(Bool->Hp->Prop)->Prop
abbrev TA:=St->Hp->(List V->Hp->Prop)->Prop
structure Ends where
 nx:St->Hp->Prop
 rt:VK
 bk:St->Hp->Prop:=λ_ _=>False
 ct:St->Hp->Prop:=λ_ _=>False
abbrev TS:=Ends->St->Hp->Prop
def EP(X:Cx)(pins:List (Addr × Obj))(σ:St)(Q:VK)(u:Value)(s':Shared):Prop:=∃ v H',Inv X pins σ H' s'/\Zt v u/\Q v H'
def TP(X:Cx)(pins:List (Addr × Obj))(σ:St)(Q:Bool->Hp->Prop)(b:Bool)(s':Shared):Prop:=∃ H',Inv X pins σ H' s'/\Q b H'
def AP(X:Cx)(pins:List (Addr × Obj))(σ:St)(Q:List V->Hp->Prop)(us:List Value)(s':Shared):Prop:=∃ vs H',Inv X pins σ H' s'/\Zq vs us/\Q vs H'
def SP(X:Cx)(pins:List (Addr × Obj))(D:Ends)(f:Flow)(s':Shared):Prop :=
 match f with
 | .next=>∃ σ' H',Inv X pins σ' H' s'/\D.nx σ' H'
 | .brk=>∃ σ' H',Inv X pins σ' H' s'/\D.bk σ' H'
 | .cont=>∃ σ' H',Inv X pins σ' H' s'/\D.ct σ' H'
 | .ret u=>∃ v σ' H',Inv X pins σ' H' s'/\Zt v u/\D.rt v H'
def PE(X:Cx)(e:Expr)(t:TE):Prop :=
 ∀ (pins:List (Addr × Obj)) (s:Shared) (σ:St) (H:Hp) (Q:VK),Inv X pins σ H s->t σ H Q->wpAny (model X.prog X.w) X.A (eval e X.env) (EP X pins σ Q) X.xe s
def PT(X:Cx)(e:Expr)(t:TT):Prop :=
 ∀ (pins:List (Addr × Obj)) (s:Shared) (σ:St) (H:Hp) (Q:Bool->Hp->Prop),Inv X pins σ H s->t σ H Q->wpAny (model X.prog X.w) X.A (isTrue e X.env (eval e X.env)) (TP X pins σ Q) X.xe s
def PW(X:Cx)(e:Expr)(t:TT):Prop :=
 ∀ (whole:Sem Value) (pins:List (Addr × Obj)) (s:Shared) (σ:St) (H:Hp) (Q:Bool->Hp->Prop),Inv X pins σ H s->t σ H Q->wpAny (model X.prog X.w) X.A (isTrue e X.env whole) (TP X pins σ Q) X.xe s
def PW.pt{X:Cx}{e:Expr}{t:TT}(h:PW X e t):PT X e t:=h _
def PA(X:Cx)(es:List Expr)(t:TA):Prop :=
 ∀ (pos:Pos) (pins:List (Addr × Obj)) (s:Shared) (σ:St) (H:Hp) (Q:List V->Hp->Prop),Inv X pins σ H s->t σ H Q->wpAny (model X.prog X.w) X.A (spliced (backTo pos (starEach es X.env))) (AP X pins σ Q) X.xe s
def PS(X:Cx)(st:Stmt)(t:TS):Prop :=
 ∀ (pins:List (Addr × Obj)) (s:Shared) (σ:St) (H:Hp) (D:Ends),Inv X pins σ H s->t D σ H->wpAny (model X.prog X.w) X.A (exec st X.env) (SP X pins D) X.xe s
def PSs(X:Cx)(st:List Stmt)(t:TS):Prop :=
 ∀ (pins:List (Addr × Obj)) (s:Shared) (σ:St) (H:Hp) (D:Ends),Inv X pins σ H s->t D σ H->wpAny (model X.prog X.w) X.A (execs st X.env) (SP X pins D) X.xe s
variable {A:Around}{E:VSP}{s:Shared}
def ZZ{α:Type}{t:Sem α}{Q Q':α->Shared->Prop}{M:Model}(h:wpAny M A t Q E s)(hQ:∀ a s,Q a s->Q' a s):wpAny M A t Q' E s:=Yx h hQ λ_ _ x=>x
section
variable {X:Cx}
def Zo0(i:Nat):TE:=λσ H Q=>∃ v,σ[i]?=some (some v)/\Q v H
def tC(v:V):TE:=λ_ H Q=>Q v H
def ZpC{i:Nat}{x:Str}{pos:Pos}(hN:X.N[i]?=some x)(hv:Vis X.env.scope x)(hd:(x == ("__debug__":Str))=false:=by decide)(hcd:(x == ("__classdict__":Str))=false:=by decide):PE X (.Name x pos) (Zo0 i):=by
 intro pins s σ H Q I h
 obtain⟨v,e,h⟩:=h
 obtain⟨m,hn,hl⟩:=I.loc
 obtain⟨u,r,l⟩:=hl i x v hN e hv
 have fin:EP X pins σ Q u s:=⟨v,H,I,r,h⟩
 rcases l with ⟨hk,hm⟩ | ⟨hk,c,hc,hcell⟩
 ·exact wpAny_Name (wpAny_loadName_local I.ok.kind hk hn hm fin) hd
 ·rcases hk with hk | hk
  ·exact wpAny_Name (wpAny_loadName_cell I.ok.kind hk hc hcell fin) hd
  ·exact wpAny_Name (wpAny_loadName_free I.ok.kind hk hc hcell fin hcd) hd
def ZpB{i j pos}:PE X (.Constant (.int i) j pos) (tC (.int i)):=λ_ _ _ H _ I h=>wpAny_Constant_int ⟨.int i,H,I.tok _,⟨_,rfl⟩,h⟩
def Zrl{b j pos}:PE X (.Constant (.bool b) j pos) (tC (.bl b)):=λ_ _ _ H _ I h=>Constant_bool ⟨.bl b,H,I,rfl,h⟩
def ZpP{x j pos}:PE X (.Constant (.str x) j pos) (tC (.str x)):=λ_ _ _ H _ I h=>Calls.Constant_str ⟨.str x,H,I.tok _,⟨_,rfl⟩,h⟩
def Gl(X:Cx)(x:Str):Prop:=X.env.kindOf x=some .globalImplicit
def Zgv{pins:List (Addr × Obj)}{σ:St}{x:Str}{pos:Pos}{Q:VSP}(I:Inv X pins σ H s)(hg:Gl X x)(hm:X.mg x=some u)(h:Q u s)
  (hd:(x == ("__debug__":Str))=false:=by decide):wpAny (model X.prog X.w) X.A (eval (.Name x pos) X.env) Q E s :=
 Calls.Name_function_global I.ok.kind hg (Calls.loadGlobal_global (by rw [I.ok.glob]; exact I.mod.glob.keeps I.bk) hm h) hd
def ZbB{pins:List (Addr × Obj)}{σ:St}{x:Str}{pos:Pos}{Q:VSP}(I:Inv X pins σ H s)(hg:Gl X x)(hm:X.mg x=none)(hv:bootBuiltins x=some u)(h:Q u s)
  (hn:x ≠ "__name__":=by decide) (hd:(x == ("__debug__":Str))=false:=by decide):wpAny (model X.prog X.w) X.A (eval (.Name x pos) X.env) Q E s:=by
 obtain⟨mb,h1,h2⟩:=I.mod.blt
 exact Calls.Name_function_global I.ok.kind hg (Calls.loadGlobal_builtin (by rw [I.ok.glob]; exact I.mod.glob.keeps I.bk) hm (by rw [I.ok.blt]; exact h1.keeps I.bk) ((h2 x hn).trans hv) h) hd
def Znf{x:Str}{v:V}{pos:Pos}(hg:Gl X x)(hm:X.mg x=some u)(r:Zt v u)(hd:(x == ("__debug__":Str))=false:=by decide):PE X (.Name x pos) (tC v) :=
 λ_ _ _ H _ I h=>Zgv I hg hm ⟨v,H,I,r,h⟩ hd
def Znt{x:Str}{v:V}{pos:Pos}(hg:Gl X x)(hm:X.mg x=none)(hv:bootBuiltins x=some u)(r:Zt v u)(hn:x ≠ "__name__":=by decide)(hd:(x == ("__debug__":Str))=false:=by decide):PE X (.Name x pos) (tC v) :=
 λ_ _ _ H _ I h=>ZbB I hg hm hv ⟨v,H,I,r,h⟩ hn hd
variable {a b:Expr}{ta tb:TE}{pos:Pos}
def tB(t:TE):TT:=λσ H Q=>t σ H λx H1=>∃ c,x=.bl c/\Q c H1
def Zpm{e:Expr}{t:TE}(h:PE X e t)(he:∀ whole,isTrue e X.env whole=(do let v <- whole; standAt e.pos; holding [v] (truthy v)):=by intro _; rfl):PT X e (tB t):=by
 intro pins s σ H Q I hw
 refine isTrue_plain (ZZ (h pins s σ H _ I hw) λv s1 ⟨x,H1,I1,r1,q1⟩=>?_) (he _)
 obtain⟨d,rfl,q⟩:=q1
 cases r1
 exact Vk ⟨H1,I1,q⟩
variable {tA tB':TT}{Jk:List Expr}
def ZqX(t u:TT):TT:=λσ H Q=>t σ H λc H1=>if c=true then u σ H1 Q else Q false H1
def tOr(t u:TT):TT:=λσ H Q=>t σ H λc H1=>if c=true then Q true H1 else u σ H1 Q
def Zq5(t:TT):TT:=λσ H Q=>t σ H λc H1=>Q (!c) H1
def Zon(ha:PT X a tA):PW X (.BoolOp .And [a] pos) tA:=by
 intro wh pins s σ H Q I h
 refine isTrue_and (ZZ (ha pins s σ H Q I h) λc s1 e=>?_)
 cases c with
 | true=>exact isTrue_and_nil e
 | false=>exact e
def Zqw(ha:PT X a tA):PW X (.BoolOp .Or [a] pos) tA:=by
 intro wh pins s σ H Q I h
 refine isTrue_or (ZZ (ha pins s σ H Q I h) λc s1 e=>?_)
 cases c with
 | false=>exact isTrue_or_nil e
 | true=>exact e
def Zph(ha:PT X a tA)(hb:PW X (.BoolOp .And (b :: Jk) pos) tB'):PW X (.BoolOp .And (a :: b :: Jk) pos) (ZqX tA tB'):=by
 intro wh pins s σ H Q I h
 refine isTrue_and (ZZ (ha pins s σ H _ I h) λc s1 ⟨H1,I1,q1⟩=>?_)
 cases c with
 | true=>exact hb wh pins s1 σ H1 Q I1 q1
 | false=>exact⟨H1,I1,q1⟩
def ZrY(ha:PT X a tA)(hb:PW X (.BoolOp .Or (b :: Jk) pos) tB'):PW X (.BoolOp .Or (a :: b :: Jk) pos) (tOr tA tB'):=by
 intro wh pins s σ H Q I h
 refine isTrue_or (ZZ (ha pins s σ H _ I h) λc s1 ⟨H1,I1,q1⟩=>?_)
 cases c with
 | true=>exact⟨H1,I1,q1⟩
 | false=>exact hb wh pins s1 σ H1 Q I1 q1
def ZpG(ha:PT X a tA):PT X (.UnaryOp .Not a pos) (Zq5 tA):=by
 intro pins s σ H Q I h
 exact isTrue_not (ha pins s σ H (λc H1=>Q (!c) H1) I h)
def ZkR(ta tb:TE):TE:=λσ H Q=>ta σ H λx H1=>∃ c,x=.bl c/\if c=true then tb σ H1 Q else Q (.bl false) H1
def Zrb(ta tb:TE):TE:=λσ H Q=>ta σ H λx H1=>∃ c,x=.bl c/\if c=true then Q (.bl true) H1 else tb σ H1 Q
def Zlz(ta:TE):TE:=λσ H Q=>ta σ H λx H1=>∃ c,x=.bl c/\Q (.bl (!c)) H1
def ZpF{op}{t:TE}(h:PE X a t):PE X (.BoolOp op [a] pos) t:=λpins s σ H Q I hw=>BoolOp_one (h pins s σ H Q I hw)
def ZqE(ha:PE X a ta)(hb:PE X (.BoolOp .And (b :: Jk) pos) tb):PE X (.BoolOp .And (a :: b :: Jk) pos) (ZkR ta tb):=by
 intro pins s σ H Q I h
 refine BoolOp_and (ZZ (ha pins s σ H _ I h) λv s1 ⟨x,H1,I1,r1,q1⟩=>?_)
 obtain⟨c,rfl,q1⟩:=q1
 cases r1
 refine Vk ?_
 cases c with
 | true=>exact hb pins s1 σ H1 Q I1 q1
 | false=>exact⟨.bl false,H1,I1,rfl,q1⟩
def Zrm(ha:PE X a ta)(hb:PE X (.BoolOp .Or (b :: Jk) pos) tb):PE X (.BoolOp .Or (a :: b :: Jk) pos) (Zrb ta tb):=by
 intro pins s σ H Q I h
 refine BoolOp_or (ZZ (ha pins s σ H _ I h) λv s1 ⟨x,H1,I1,r1,q1⟩=>?_)
 obtain⟨c,rfl,q1⟩:=q1
 cases r1
 refine Vk ?_
 cases c with
 | false=>exact hb pins s1 σ H1 Q I1 q1
 | true=>exact⟨.bl true,H1,I1,rfl,q1⟩
def ZqW(ha:PE X a ta):PE X (.UnaryOp .Not a pos) (Zlz ta):=by
 intro pins s σ H Q I h
 refine UnaryOp_ (ZZ (ha pins s σ H _ I h) λv s1 ⟨x,H1,I1,r1,q1⟩=>?_)
 obtain⟨c,rfl,q1⟩:=q1
 cases r1
 exact not_of (Vk ⟨.bl (!c),H1,I1,rfl,q1⟩)
def tIf(t:TT)(ta tb:TE):TE:=λσ H Q=>t σ H λc H1=>if c=true then ta σ H1 Q else tb σ H1 Q
end
def JC(K:PySem.W.Frag)(H:Hp)(a:Addr)(xs:List V):Prop :=
 Rd H a (.lst xs) \/
  ∃ (o:Obj) (its:Array Value) (n:Nat),K.lookup a=some o/\o.cls=.type "list"/\o.dict=none/\o.data=.seq its n/\its.size<=sizeLine/\Zq xs its.toList
def SqT(K:PySem.W.Frag)(H:Hp)(a:Addr)(xs:List V):Prop :=
 Rd H a (.tup xs) \/
  ∃ (o:Obj) (its:Array Value) (n:Nat),K.lookup a=some o/\o.cls=.type "tuple"/\o.data=.seq its n/\its.size<=sizeLine/\Zq xs its.toList
def Zsz:Value->Option V
 | .none=>some .non
 | .bool b=>some (.bl b)
 | .int i _=>some (.int i)
 | .str x _=>some (.str x)
 | .bytes b _=>some (.byt b)
 | .float b _=>some (.flt b)
 | .ref a=>some (.ref a)
 | .type n=>some (.ty n)
 | _=>none
def Zt.abs{x:V}(r:Zt x u):Zsz u=some x:=by
 cases x with
 | non=>cases r; rfl
 | bl _=>cases r; rfl
 | int _=>obtain⟨t,rfl⟩:=r; rfl
 | str _=>obtain⟨t,rfl⟩:=r; rfl
 | byt _=>obtain⟨t,rfl⟩:=r; rfl
 | flt _=>obtain⟨t,rfl⟩:=r; rfl
 | ref _=>cases r; rfl
 | ty _=>cases r; rfl
def Zt.inj{x y:V}(r:Zt x u)(q:Zt y u):x=y:=YW (r.abs.symm.trans q.abs)
def Zq.inj:∀ {xs ys:List V}{us:List Value},Zq xs us->Zq ys us->xs=ys
 | _,_,_,.nil,.nil=>rfl
 | _,_,_,.cons r t,.cons r' t'=>by rw [r.inj r',Zq.inj t t']
section
variable {X:Cx}{pins:List (Addr × Obj)}{σ:St}{H:Hp}{s:Shared}{a:Addr}{xs ys:List V}
theorem JC.of{K:PySem.W.Frag}(h:H a=some (.lst xs)):JC K H a xs:=.inl (.inl h)
theorem SqT.of{K:PySem.W.Frag}(h:H a=some (.tup xs)):SqT K H a xs:=.inl (.inl h)
theorem Inv.list(I:Inv X pins σ H s)(h:JC X.K H a xs):∃ its:List Value,Zq xs its/\PlainL s.heap a its.toArray/\xs.length<=sizeLine:=by
 rcases h with h | ⟨o,its,n,hk,hc,hd,hs,hz,r⟩
 ·obtain⟨z,its,n,r,e⟩:=h.ok I.hok
  exact⟨its,r,⟨_,n,e,rfl,rfl,rfl⟩,z⟩
 ·refine⟨its.toList,r,⟨o,n,I.kIn a o hk,hc,hd,by simpa using hs⟩,?_⟩
  have e:=r.length
  simp only [Array.length_toList] at e
  omega
theorem Inv.tuple(I:Inv X pins σ H s)(h:SqT X.K H a xs):∃ its:List Value,Zq xs its/\IsTup s.heap a its.toArray/\xs.length<=sizeLine:=by
 rcases h with h | ⟨o,its,n,hk,hc,hs,hz,r⟩
 ·obtain⟨z,its,r,p⟩:=h.ok I.hok
  exact⟨its,r,p,z⟩
 ·refine⟨its.toList,r,⟨o,I.kIn a o hk,hc,n,by simpa using hs⟩,?_⟩
  have e:=r.length
  simp only [Array.length_toList] at e
  omega
def Inv.list_inj(I:Inv X pins σ H s)(h:JC X.K H a xs)(h':JC X.K H a ys):xs=ys:=by
 obtain⟨its,r,⟨o,n,e,_,_,d⟩,_⟩:=I.list h
 obtain⟨its',r',⟨o',n',e',_,_,d'⟩,_⟩:=I.list h'
 rw [e] at e'; cases e'
 rw [d] at d'
 injection d' with d1 _
 have:its=its':=by simpa using congrArg Array.toList d1
 subst this
 exact r.inj r'
end
abbrev Cx.wish(X:Cx)(E:VSP):Cx:={ X with xe:=E }
abbrev Cx.nox(X:Cx):Cx:=X.wish λ_ _=>False
def Cx.Ok.wish{X:Cx}(ok:X.Ok)(E:VSP):(X.wish E).Ok :=
 ⟨ok.mod,ok.kind,ok.glob,ok.blt,ok.above,ok.inj,ok.has,ok.cab,ok.hd,ok.frames,ok.stk,ok.exf,ok.bs,ok.bsz,ok.noex,ok.exfs,ok.funs,ok.frf⟩
def Cx.Ok.unwish{X:Cx}(ok:(X.wish E).Ok):X.Ok :=
 ⟨ok.mod,ok.kind,ok.glob,ok.blt,ok.above,ok.inj,ok.has,ok.cab,ok.hd,ok.frames,ok.stk,ok.exf,ok.bs,ok.bsz,ok.noex,ok.exfs,ok.funs,ok.frf⟩
section
variable {X:Cx}{pins:List (Addr × Obj)}{σ:St}{H:Hp}{s:Shared}{E:VSP}
def Inv.wish(I:Inv X pins σ H s)(E:VSP):Inv (X.wish E) pins σ H s:=⟨I.ok.wish E,I.os,I.bare,I.base,I.loc,I.cell,I.free,I.freeC,I.pin,I.hok,I.len⟩
def Inv.unwish(I:Inv (X.wish E) pins σ H s):Inv X pins σ H s:=⟨I.ok.unwish,I.os,I.bare,I.base,I.loc,I.cell,I.free,I.freeC,I.pin,I.hok,I.len⟩
def SP.unwish{D:Ends}{f:Flow}{s':Shared}(h:SP (X.wish E) pins D f s'):SP X pins D f s':=by
 cases f with
 | next=>obtain⟨σ',H',I,q⟩:=h; exact⟨σ',H',I.unwish,q⟩
 | brk=>obtain⟨σ',H',I,q⟩:=h; exact⟨σ',H',I.unwish,q⟩
 | cont=>obtain⟨σ',H',I,q⟩:=h; exact⟨σ',H',I.unwish,q⟩
 | ret u=>obtain⟨v,σ',H',I,r,q⟩:=h; exact⟨v,σ',H',I.unwish,r,q⟩
def PE.nox{e:Expr}{t:TE}(h:PE X.nox e t):PE X e t:=λpins s σ H Q I hw =>
 Yx (h pins s σ H Q (I.wish _) hw) (λ_ _ ⟨v,H',I',r,q⟩=>⟨v,H',I'.unwish,r,q⟩) λ_ _ z=>False.elim z
def PT.nox{e:Expr}{t:TT}(h:PT X.nox e t):PT X e t:=λpins s σ H Q I hw =>
 Yx (h pins s σ H Q (I.wish _) hw) (λ_ _ ⟨H',I',q⟩=>⟨H',I'.unwish,q⟩) λ_ _ z=>False.elim z
def PSs.nox{st:List Stmt}{t:TS}(h:PSs X.nox st t):PSs X st t:=λpins s σ H D I hw =>
 Yx (h pins s σ H D (I.wish _) hw) (λ_ _ q=>q.unwish) λ_ _ z=>False.elim z
end
section
variable {X:Cx}{st:Stmt}{Jk:List Stmt}{t u:TS}{e:Expr}{te:TE}{pos:Pos}
def Zk6:TS:=λD σ H=>D.nx σ H
def Zp5(t u:TS):TS:=λD σ H=>t { D with nx:=u D } σ H
def Zof:PSs X [] Zk6:=λ_ _ σ H _ I h=>wpAny_execs_nil ⟨σ,H,I,h⟩
def Zlt(h1:PS X st t)(h2:PSs X Jk u):PSs X (st :: Jk) (Zp5 t u):=by
 intro pins s σ H D I h
 refine wpAny_execs_cons (ZZ (h1 pins s σ H { D with nx:=u D } I h) λf s1 q=>?_)
 cases f with
 | next =>
  obtain⟨σ',H',I',q⟩:=q
  exact h2 pins s1 σ' H' D I' q
 | ret v=>exact q
 | brk=>exact q
 | cont=>exact q
def Zov(h1:PS X st t):PSs X [st] t:=by
 intro pins s σ H D I h
 refine wpAny_execs_cons (ZZ (h1 pins s σ H D I h) λf s1 q=>?_)
 cases f with
 | next=>exact wpAny_execs_nil q
 | ret v=>exact q
 | brk=>exact q
 | cont=>exact q
theorem Inv.quiet{pins:List (Addr × Obj)}{σ:St}(I:Inv X pins σ H s):interactive X.env=false:=by simp [interactive,I.ok.kind]
def Zl5(te:TE):TS:=λD σ H=>te σ H λ_ H1=>D.nx σ H1
def Znx(he:PE X e te)(hs:swapsWith e none pos.line X.env=pure false:=by rfl):PS X (.Expr e pos) (Zl5 te):=by
 intro pins s σ H D I h
 exact wpAny_Expr_any (ZZ (he pins s σ H _ I h) λv s1 ⟨x,H1,I1,r1,q1⟩=>⟨σ,H1,I1,q1⟩) I.quiet hs
def Zq0(te:TE):TS:=λD σ H=>te σ H D.rt
def Zp6(he:PE X e te):PS X (.Return (some e) pos) (Zq0 te):=by
 intro pins s σ H D I h
 exact wpAny_Return_some (ZZ (he pins s σ H _ I h) λv s1 ⟨x,H1,I1,r1,q1⟩=>⟨x,σ,H1,I1,r1,q1⟩)
def ZqG:TS:=λD _ H=>D.rt .non H
def Zqx(c:TT)(t u:TS):TS:=λD σ H=>c σ H λb H1=>if b=true then t D σ H1 else u D σ H1
def Zrr{c:Expr}{a b:List Stmt}{tc:TT}(hc:PT X c tc)(ha:PSs X a t)(hb:PSs X b u):PS X (.If c a b pos) (Zqx tc t u):=by
 intro pins s σ H D I h
 refine wpAny_If (ZZ (hc pins s σ H _ I h) λd s1 ⟨H1,I1,q1⟩=>?_)
 cases d with
 | true=>exact ha pins s1 σ H1 D I1 q1
 | false=>exact hb pins s1 σ H1 D I1 q1
def ZmW:TS:=λ_ _ _=>False
def ZlS:PS X st ZmW:=λ_ _ _ _ _ _ h=>h.elim
end
abbrev TG:=V->St->Hp->(St->Hp->Prop)->Prop
abbrev TGs:=List V->St->Hp->(St->Hp->Prop)->Prop
def PG(X:Cx)(target:Expr)(t:TG):Prop :=
 ∀ (pins:List (Addr × Obj)) (s:Shared) (σ:St) (H:Hp) (v:V) (u:Value) (Q:St->Hp->Prop),Inv X pins σ H s->Zt v u->t v σ H Q ->
  wpAny (model X.prog X.w) X.A (assign target X.env u) (λ_ s'=>∃ σ' H',Inv X pins σ' H' s'/\Q σ' H') X.xe s
def PGs(X:Cx)(ts:List Expr)(t:TGs):Prop :=
 ∀ (pins:List (Addr × Obj)) (s:Shared) (σ:St) (H:Hp) (vs:List V) (us:List Value) (Q:St->Hp->Prop),Inv X pins σ H s->Zq vs us->t vs σ H Q ->
  wpAny (model X.prog X.w) X.A (assignInOrder ((assignEach ts X.env).map (·.2)) us) (λ_ s'=>∃ σ' H',Inv X pins σ' H' s'/\Q σ' H') X.xe s
abbrev Zq1:=V->V->V->Hp->(Hp->Prop)->Prop
def Zsl(X:Cx)(t:Zq1):Prop :=
 ∀ (pins:List (Addr × Obj)) (s:Shared) (σ:St) (H:Hp) (o i v:V) (ov iv u:Value) (Q:Hp->Prop),Inv X pins σ H s->Zt o ov->Zt i iv->Zt v u->t o i v H Q ->
  wpAny (model X.prog X.w) X.A (setItem ov iv u) (λ_ s'=>∃ H',Inv X pins σ H' s'/\Q H') X.xe s
abbrev TIp:=V->V->Hp->VK->Prop
def PIp(X:Cx)(op:Operator)(t:TIp):Prop :=
 ∀ (pins:List (Addr × Obj)) (s:Shared) (σ:St) (H:Hp) (x y:V) (v u:Value) (Q:VK),Inv X pins σ H s->Zt x v->Zt y u->t x y H Q ->
  wpAny (model X.prog X.w) X.A (inplaceOp op v u) (EP X pins σ Q) X.xe s
section
variable {X:Cx}{pos:Pos}
def Zc6(i:Nat):TG:=λv σ H Q=>Q (σ.set i (some v)) H
def Zng{i:Nat}{x:Str}(hN:X.N.Nodup)(hi:X.N[i]?=some x)(hx:Loc X.env.scope x)(hf:X.fn x=true\/X.env.scope.names.lookup x=some .local:=by first | exact .inl rfl | exact .inr rfl | assumption):PG X (.Name x pos) (Zc6 i):=by
 intro pins s σ H v u Q I r h
 exact wpAny_assign_Name (Zdg I hN hi hx r (λs' I'=>⟨_,H,I',h⟩) hf)
def Zq4:TGs:=λvs σ H Q=>vs=[]/\Q σ H
def Zld(t:TG)(u:TGs):TGs:=λvs σ H Q=>∃ v r,vs=v :: r/\t v σ H λσ' H'=>u r σ' H' Q
def ZoG:PGs X [] Zq4:=by
 intro pins s σ H vs us Q I r h
 obtain⟨e,h⟩:=h
 subst e
 cases r
 exact assignInOrder_nil ⟨σ,H,I,h⟩
def Zl7{e:Expr}{es:List Expr}{t:TG}{u:TGs}(h1:PG X e t)(h2:PGs X es u)
  (hs:(assignEach (e :: es) X.env).map (·.2)=assign e X.env :: (assignEach es X.env).map (·.2):=by rfl):PGs X (e :: es) (Zld t u):=by
 intro pins s σ H vs us Q I r h
 obtain⟨v,vr,e1,h⟩:=h
 subst e1
 cases r with
 | cons r rr =>
  rw [hs]
  refine assignInOrder_cons (ZZ (h1 pins s σ H _ _ _ I r h) λ_ s1 ⟨σ1,H1,I1,q1⟩=>?_)
  exact h2 pins s1 σ1 H1 _ _ Q I1 rr q1
def Zsw(K:PySem.W.Frag)(n:Nat)(t:TGs):TG:=λv σ H Q=>∃ a xs,v=.ref a/\SqT K H a xs/\xs.length=n/\t xs σ H Q
def Zp4{es:List Expr}{k:Nat}{t:TGs}{n:Nat}(hc:X.calm=true)(h:PGs X es t)
  (hn:(assignEach es X.env).length=n:=by rfl) (hst:(assignEach es X.env).findIdx? (·.1)=none:=by rfl):PG X (.Tuple es k pos) (Zsw X.K n t):=by
 intro pins s σ H v u Q I r hw
 obtain⟨a,xs,e1,hq,hl,hw⟩:=hw
 subst e1
 cases r
 obtain⟨its,rv,ht,hz⟩:=I.tuple hq
 refine assign_Tuple_tuple (I.ok.hd hc) ht (by simp [hn,<- hl,rv.length]) hst λh' hx=>?_
 have I1:Inv X pins σ H { s with heap:=h' }:=I.kept (t':=s.toks) λb o e=>hx b o (Yn (Yh e)) e
 exact h pins _ σ H xs _ Q I1 (by simpa using rv) hw
def Zr2(to ti:TE)(t:Zq1):TG:=λv σ H Q=>to σ H λo H1=>ti σ H1 λi H2=>t o i v H2 λH3=>Q σ H3
def Zo2(te:TE)(g:TG):TS:=λD σ H=>te σ H λx H1=>g x σ H1 D.nx
def ZpH{i:Nat}{x:Str}{e:Expr}{te:TE}{pos':Pos}(hN:X.N.Nodup)(hi:X.N[i]?=some x)(hx:Loc X.env.scope x)(he:PE X e te)(hs:swapsWith e (some (.Name x pos')) pos.line X.env=pure false:=by rfl)(hf:X.fn x=true\/X.env.scope.names.lookup x=some .local:=by first | exact .inl rfl | exact .inr rfl | assumption) :
  PS X (.Assign [.Name x pos'] e pos) (Zo2 te (Zc6 i)):=by
 intro pins s σ H D I h
 refine wpAny_Assign_Name (ZZ (he pins s σ H _ I h) λv s1 ⟨y,H1,I1,r1,q1⟩=>?_) hs
 exact Zdg I1 hN hi hx r1 (λs2 I2=>⟨_,H1,I2,q1⟩) hf
def Zq8(i j:Nat)(ta:TA):TS:=λD σ H=>ta σ H λvs H1=>∃ v w,vs=[v,w]/\D.nx ((σ.set i (some v)).set j (some w)) H1
def ZqR{i j:Nat}{x y:Str}{a b:Expr}{ta:TA}{px py pt:Pos}{kt k2 pt2}(hc:X.calm=true)(hN:X.N.Nodup)(hi:X.N[i]?=some x)(hj:X.N[j]?=some y)(hij:i ≠ j)
  (hx:X.env.scope.names.lookup x=some .local) (hy:X.env.scope.names.lookup y=some .local) (ha:PA X [a,b] ta)
  (hw:swappedStores [.Tuple [.Name x px,.Name y py] kt pt] (.Tuple [a,b] k2 pt2) X.env=pure (some [x,y]))
  (hs:swapsWithSole [.Tuple [.Name x px,.Name y py] kt pt] (.Tuple [a,b] k2 pt2) pos.line X.env=pure false:=by rfl) :
  PS X (.Assign [.Tuple [.Name x px,.Name y py] kt pt] (.Tuple [a,b] k2 pt2) pos) (Zq8 i j ta):=by
 intro pins s σ H D I h
 rw [exec_Assign_arm]
 refine Ya (wpAny_standAt ?_)
 rw [hs]
 refine Ya (Yc ?_)
 rw [if_neg (by decide)]
 refine Ya (Tuple_ (ZZ (ha _ pins s σ H _ I h) λus s1 ⟨vs,H1,I1,r1,q1⟩=>?_))
 obtain⟨v,w,e1,q1⟩:=q1
 subst e1
 obtain⟨u1,u2,rfl,rv,rw'⟩:∃ u1 u2,us=[u1,u2]/\Zt v u1/\Zt w u2:=by
  cases r1 with
  | cons p q =>
   cases q with
   | cons p' q' =>
    cases q'
    exact⟨_,_,rfl,p,p'⟩
 refine Vh ?_ (by show 2<=sizeLine; decide)
 have I2:Inv X pins σ H1 { s1 with heap:=s1.heap.push { cls:=.type "tuple",data:=.seq [u1,u2].toArray } }:=I1.kept (t':=s1.toks) λb o e=>Yi _ e
 rw [hw]
 refine Ya (Yc ?_)
 show wpAny (model X.prog X.w) X.A (do rule "assign.swapped-stores"; let items <- unpackItems (.ref s1.heap.objs.size) 2 none; assignInOrder [λv=>bindName X.env y v,λv=>bindName X.env x v] items.reverse; pure Flow.next) _ _ _
 refine Ya (Vp (Ya (unpackItems_tuple (items:=#[u1,u2]) (I.ok.hd hc) (IsTup.new s1.heap _) λh' hx'=>?_)))
 have I3:=I2.kept (h':=h') (t':=s1.toks) λb o e=>hx' b o (Yn (Yh e)) e
 show wpAny _ _ (assignInOrder [λv=>bindName X.env y v,λv=>bindName X.env x v] [u2,u1] >>= λ_=>pure Flow.next) _ _ _
 refine Ya (assignInOrder_cons (wpAny_bindName (Zdg I3 hN hj (.inl hy) rw' (λs2 I4=>?_) (.inr hy))))
 refine assignInOrder_cons (wpAny_bindName (Zdg I4 hN hi (.inl hx) rv (λs3 I5=>assignInOrder_nil (Yc ?_)) (.inr hx)))
 rw [List.set_comm _ _ (Ne.symm hij)] at I5
 exact⟨_,H1,I5,q1⟩
def Zj6(to ti te:TE)(tget:V->V->Hp->VK->Prop)(tip:TIp)(tset:Zq1):TS:=λD σ H=>to σ H λo H1=>ti σ H1 λi H2=>tget o i H2 λx H3=>te σ H3 λy H4=>tip x y H4 λz H5=>tset o i z H5 λH6=>D.nx σ H6
def Zr6(X:Cx)(t:V->V->Hp->VK->Prop):Prop :=
 ∀ (pins:List (Addr × Obj)) (s:Shared) (σ:St) (H:Hp) (o i:V) (ov iv:Value) (Q:VK),Inv X pins σ H s->Zt o ov->Zt i iv->t o i H Q ->
  wpAny (model X.prog X.w) X.A (getItem ov iv) (EP X pins σ Q) X.xe s
def Zi8{o i e:Expr}{to ti te:TE}{tget:V->V->Hp->VK->Prop}{tip:TIp}{tset:Zq1}{op:Operator}{tpos:Pos}(ho:PE X o to)(hi:PE X i ti)(hg:Zr6 X tget)(he:PE X e te)(hp:PIp X op tip)(hs:Zsl X tset)
  (ha:∀ ov iv new,augStore i ov iv new=(do holding [new,ov,iv] (setItem ov iv new); release [new,ov,iv] []; pure .next):=by intros; rfl):PS X (.AugAssign (.Subscript o i tpos) op e pos) (Zj6 to ti te tget tip tset):=by
 intro pins s σ H D I h
 refine wpAny_AugAssign_SubscriptAny (ZZ (ho pins s σ H _ I h) λov s1 ⟨x1,H1,I1,r1,q1⟩=>?_) ha
 refine ZZ (hi pins s1 σ H1 _ I1 q1) λiv s2 ⟨x2,H2,I2,r2,q2⟩=>?_
 refine ZZ (hg pins s2 σ H2 x1 x2 ov iv _ I2 r1 r2 q2) λold s3 ⟨x3,H3,I3,r3,q3⟩=>?_
 refine ZZ (he pins s3 σ H3 _ I3 q3) λv s4 ⟨x4,H4,I4,r4,q4⟩=>?_
 refine ZZ (hp pins s4 σ H4 x3 x4 old v _ I4 r3 r4 q4) λnew s5 ⟨x5,H5,I5,r5,q5⟩=>?_
 exact ZZ (hs pins s5 σ H5 x1 x2 x5 ov iv new _ I5 r1 r2 r5 q5) λ_ s6 ⟨H6,I6,q6⟩=>⟨σ,H6,I6,q6⟩
def ipI(f:Int->Int->Int):TIp:=λx y H Q=>∃ i j,x=.int i/\y=.int j/\Q (.int (f i j)) H
def Zp7:PIp X .Add (ipI λi j=>i + j):=by
 intro pins s σ H x y v u Q I r1 r2 h
 obtain⟨i,j,e1,e2,q⟩:=h
 subst e1; subst e2
 obtain⟨t,rfl⟩:=r1
 obtain⟨t',rfl⟩:=r2
 exact iadd_int ⟨.int _,H,I.tok _,⟨_,rfl⟩,q⟩
def ZjZ(c:TT)(tb:TS):TS:=λD σ H=>∃ W:Nat->St->Hp->Prop,(∃ m,W m σ H)/\∀ m σ H,W m σ H ->
 c σ H λb H1=>if b=true then ∃ N:St->Hp->Prop,(∀ σ' H',N σ' H'->∃ m',m' < m/\W m' σ' H')/\tb { D with nx:=N,ct:=N,bk:=D.nx } σ H1 else D.nx σ H1
def ZkM{c:Expr}{body:List Stmt}{tc:TT}{tb:TS}(hp:PassesOwn (model X.prog X.w) X.A X.env X.xe)(hc:PT X c tc)(hb:PSs X body tb):PS X (.While c body [] pos) (ZjZ tc tb):=by
 intro pins s σ H D I h
 obtain⟨W,⟨m0,w0⟩,turn⟩:=h
 refine wpAny_While (codeAny_whileLoop (λn s'=>∃ σ' H',Inv X pins σ' H' s'/\W n σ' H') ?_ m0 ⟨σ,H,I,w0⟩)
 rintro n s1 ⟨σ1,H1,I1,w1⟩
 refine Vy hp (ZZ (hc pins s1 σ1 H1 _ I1 (turn n σ1 H1 w1)) λb s2 ⟨H2,I2,q2⟩=>?_)
 cases b with
 | true =>
  obtain⟨N,hN,q2⟩:=q2
  rw [if_pos rfl]
  refine Vy hp (ZZ (hb pins s2 σ1 H2 _ I2 q2) λf s3 q3=>?_)
  cases f with
  | next =>
   obtain⟨σ3,H3,I3,n3⟩:=q3
   obtain⟨m',hm,w3⟩:=hN σ3 H3 n3
   exact⟨m',hm,σ3,H3,I3,w3⟩
  | cont =>
   obtain⟨σ3,H3,I3,n3⟩:=q3
   obtain⟨m',hm,w3⟩:=hN σ3 H3 n3
   exact⟨m',hm,σ3,H3,I3,w3⟩
  | brk=>exact q3
  | ret v=>exact q3
 | false =>
  rw [if_neg Yt]
  exact wpAny_execs_nil ⟨σ1,H2,I2,q2⟩
end
structure It where
 go:Nat->Hp->Prop
 yld:Nat->Hp->V->Hp->Prop
 stop:Nat->Hp->Prop
def JJ(X:Cx)(pins:List (Addr × Obj))(H:Hp)(b:Addr):Prop :=
 H b=none/\b ≠ X.env.locals/\b ∉ X.fs/\(b∈X.ex\/X.s₀.heap.objs.size<=b)/\(∀ x c,X.env.cells.lookup x=some c->c ≠ b)/\∀ p∈X.pn ++ pins,p.1 ≠ b
variable {pins:List (Addr × Obj)}{σ:St}
def Inv.fpOk{X:Cx}{H H':Hp}{b:Addr}(I:Inv X pins σ H s)(hb:s.heap.objs.size<=b)(hn:H' b=none):JJ X pins H' b:=by
 refine⟨hn,Vn (Yy I.lt hb),I.nofs hb,.inr (Yj I.sz hb),λx c e z=>?_,λp hp z=>?_⟩
 ·obtain⟨v,q⟩:=I.cell x c e
  exact absurd (Yy q.lt (by rw [z]; exact hb)) (YX _)
 ·exact absurd (Yy (Yh (I.pin p hp).1) (by rw [z]; exact hb)) (YX _)
structure Turn(P:Program)(w:World)(K:PySem.W.Frag)(tg:Expr)(J:It)(fp:List Addr)(it:Addr)(tn:Nat->Heap->Prop):Prop where
 mem:it∈fp
 obj:∀ i h,tn i h->∀ b∈fp,∃ o,h.get? b=some o/\∀ v,o.data ≠ .cell v
 keep:∀ i h h',tn i h->(∀ b∈fp,∀ o,h.get? b=some o->h'.get? b=some o)->tn i h'
 item:∀ (X:Cx),X.prog=P->X.w=w->X.K=K->X.calm=true->∀ (i:Nat) (pins:List (Addr × Obj)) (s:Shared) (σ:St) (H:Hp) (E:VSP),Inv X pins σ H s->(∀ b∈fp,JJ X pins H b)->tn i s.heap->J.go i H ->
  wpAny (model P w) X.A (pyNext (.ref it)) (λr s1=>∃ u,r=some u /\
   wpAny (model P w) X.A (letOwnedTupleGo tg (.ref it) u) (λ_ s2=>∃ x H',Inv X pins σ H' s2/\Zt x u/\J.yld i H x H'/\tn (i + 1) s2.heap/\∀ b∈fp,H' b=none) E s1) E s
 done:∀ (X:Cx),X.prog=P->X.w=w->X.K=K->X.calm=true->∀ (i:Nat) (pins:List (Addr × Obj)) (s:Shared) (σ:St) (H:Hp) (E:VSP),Inv X pins σ H s->(∀ b∈fp,JJ X pins H b)->tn i s.heap->J.stop i H ->
  wpAny (model P w) X.A (pyNext (.ref it)) (λr s1=>r=none/\Inv X pins σ H s1) E s
 self:∀ (A:Around) (i:Nat) (s:Shared) (Q:VSP) (E:VSP),tn i s.heap->Q (.ref it) s->wpAny (model P w) A (pyIter (.ref it)) Q E s
abbrev TI:=St->Hp->(It->Hp->Prop)->Prop
def PIE(X:Cx)(pins:List (Addr × Obj))(σ:St)(tg:Expr)(R:It->Hp->Prop)(itv:Value)(s2:Shared):Prop :=
 ∃ (it:Addr) (fp:List Addr) (tn:Nat->Heap->Prop) (J:It) (H':Hp),itv=.ref it/\Inv X pins σ H' s2/\Turn X.prog X.w X.K tg J fp it tn/\tn 0 s2.heap/\(∀ b∈fp,JJ X pins H' b)/\R J H'
def PI(X:Cx)(tg iter:Expr)(wi:TI):Prop :=
 ∀ (pins:List (Addr × Obj)) (s:Shared) (σ:St) (H:Hp) (R:It->Hp->Prop),Inv X pins σ H s->wi σ H R ->
  wpAny (model X.prog X.w) X.A (eval iter X.env) (λv s1=>wpAny (model X.prog X.w) X.A (pyIter v) (PIE X pins σ tg R) X.xe s1) X.xe s
variable {Q:Unit->Shared->Prop}
def ZoT{M:Model}{tg:Expr}{it:Addr}{o:Obj}{n:String}{vs:Array Value}(ho:s.heap.get? it=some o)(hc:o.cls=.type n)(hd:o.data=.fields vs)
    (hn:["enumerate","zip","dict_itemiterator","dict_reverseitemiterator","odict_iterator","itertools.zip_longest","itertools.pairwise"].contains n=false) (hQ:Q () s):wpAny M A (letOwnedTupleGo tg (.ref it) u) Q E s:=by
  unfold letOwnedTupleGo
  cases tg <;> first
    | exact Yc hQ
    | (cases u <;> first
        | exact Yc hQ
        | (refine Ya (VA ho ?_)
           rw [hc,hd]
           show wpAny M A (if (["enumerate","zip","dict_itemiterator","dict_reverseitemiterator","odict_iterator","itertools.zip_longest","itertools.pairwise"].contains n && vs[0]? == some (rawInt _))=true then _ else _) Q E s
           rw [if_neg (by intro h; rw [hn,Bool.false_and] at h; cases h)]
           exact Yc hQ))
def Itl(K:PySem.W.Frag)(a:Addr):It :=
 ⟨λi H=>∃ xs x,JC K H a xs/\xs[i]?=some x,λi H x H'=>H'=H/\∀ xs,JC K H a xs->xs[i]?=some x,λi H=>∃ xs,JC K H a xs/\xs.length<=i⟩
def Itr(lo:Int)(n:Nat):It:=⟨λi _=>i < n,λi H x H'=>H'=H/\x=.int (lo + i),λi _=>n<=i⟩
variable {K:PySem.W.Frag}
def ZjO{tg:Expr}(a it:Addr):Turn P w K tg (Itl K a) [it] it (λi h=>h.IsListIter it a i) where
 mem:=by simp
 obj:=λi h st b hb=>by
  have e:b=it:=by simpa using hb
  subst e
  obtain⟨o,e,c,d⟩:=st
  exact⟨o,e,λv z=>by rw [d] at z; cases z⟩
 keep:=λi h h' st k=>st.at λo e=>k it (by simp) o e
 item:=by
  intro X hP hw hK hc i pins s σ H E I hf st hg
  subst hP hw hK
  obtain⟨xs,x,hq,hx⟩:=hg
  obtain⟨its,rv,p,hz⟩:=I.list hq
  obtain⟨u,hu,ru⟩:=rv.get hx
  obtain⟨f0,f1,f2,f3,f4,f5⟩:=hf it (by simp)
  refine wpAny_pyNext_list_item st p.isList (x:=u) (by simpa using hu) λh' st' sb=>?_
  have I1:Inv X pins σ H { s with heap:=h' }:=I.turned (t':=s.toks) (λb o hb e=>(sb.2 b hb).trans e) f0 f1 f3 f4 f5
  obtain⟨o,e,c,d⟩:=id st'
  exact⟨u,rfl,ZoT (s:={ s with heap:=h' }) e c d (by decide) ⟨x,H,I1,ru,⟨rfl,λys hy=>by rw [I.list_inj hy hq]; exact hx⟩,st',λb hb=>(hf b hb).1⟩⟩
 done:=by
  intro X hP hw hK hc i pins s σ H E I hf st hg
  subst hP hw hK
  obtain⟨xs,hq,hx⟩:=hg
  obtain⟨its,rv,p,hz⟩:=I.list hq
  obtain⟨f0,f1,f2,f3,f4,f5⟩:=hf it (by simp)
  have hl:=rv.length
  exact wpAny_pyNext_list_end (I.ok.hd hc) st p.isList (by simp; omega) λh' eb=>⟨rfl,I.turned (t':=s.toks) (λb o hb e=>eb b o hb e) f0 f1 f3 f4 f5⟩
 self:=λ_ _ _ _ _ st h=>wpAny_pyIter_listiter st h
def ZhJ{tg:Expr}(it:Addr)(lo:Int)(n:Nat):Turn P w K tg (Itr lo n) [it] it (λi h=>IsRangeIter h it (lo + (i:Nat) * 1) ((n:Int) - (i:Nat)) 1) where
 mem:=by simp
 obj:=λi h st b hb=>by
  have e:b=it:=by simpa using hb
  subst e
  exact⟨_,st,λv z=>by
   have z':Data.fields _=Data.cell v:=z
   cases z'⟩
 keep:=λi h h' st k=>k it (by simp) _ st
 item:=by
  intro X hP hw hK hc i pins s σ H E I hf st hg
  subst hP hw hK
  obtain⟨f0,f1,f2,f3,f4,f5⟩:=hf it (by simp)
  have W:=Walks.range (prog:=X.prog) (w:=X.w) (I.ok.hd hc) it lo 1 n
  refine W.item i s _ _ hg st λv h' tk hv st' kk=>?_
  obtain⟨t,rfl⟩:=hv
  have I1:Inv X pins σ H { s with heap:=h',toks:=tk }:=I.turned (λb o hb e=>kk b o (by simpa using hb) e) f0 f1 f3 f4 f5
  refine⟨_,rfl,ZoT (s:={ s with heap:=h',toks:=tk }) (n:="range_iterator") st' rfl rfl (by decide) ⟨.int (lo + i),H,I1,⟨t,?_⟩,⟨rfl,rfl⟩,st',λb hb=>(hf b hb).1⟩⟩
  rw [Int.mul_one]
 done:=by
  intro X hP hw hK hc i pins s σ H E I hf st hg
  subst hP hw hK
  obtain⟨f0,f1,f2,f3,f4,f5⟩:=hf it (by simp)
  exact wpAny_pyNext_range_end (I.ok.hd hc) st (by have:n<=i:=hg; omega) λh' eb=>⟨rfl,I.turned (t':=s.toks) (λb o hb e=>eb b o hb e) f0 f1 f3 f4 f5⟩
 self:=λ_ _ _ _ _ st h=>wpAny_pyIter_rangeiter st h
section
variable {X:Cx}{tg:Expr}
def Zed(K:PySem.W.Frag)(tl:TE):TI:=λσ H R=>tl σ H λx H1=>∃ a,x=.ref a/\(∃ xs,JC K H1 a xs)/\R (Itl K a) H1
def ZnO{l:Expr}{tl:TE}(hl:PE X l tl):PI X tg l (Zed X.K tl):=by
 intro pins s σ H R I h
 refine ZZ (hl pins s σ H _ I h) λv s1 ⟨x,H1,I1,r1,q1⟩=>?_
 obtain⟨a,e,⟨xs,hq⟩,q⟩:=q1
 subst e
 cases r1
 obtain⟨its,rv,p,hz⟩:=I1.list hq
 refine wpAny_pyIter_list p.isList ?_
 refine⟨s1.heap.objs.size,[s1.heap.objs.size],_,_,H1,rfl,I1.kept (t':=s1.toks) λb o e=>Yi _ e,ZjO a _,⟨_,Yo _ rfl,rfl,rfl⟩,λb hb=>?_,q⟩
 have e:b=s1.heap.objs.size:=by simpa using hb
 subst e
 exact I1.fpOk (Yd _) (I1.hok.fresh (Yd _))
theorem Zhh{R:It->Hp->Prop}{lo hi:Int}{t u v:Tok}{tk:Nat}(I:Inv X pins σ H s)(h1:-(2 ^ 62)<=lo)(h2:lo < 2 ^ 62)(h3:-(2 ^ 62)<=hi)(h4:hi < 2 ^ 62)
  (q:R (Itr lo (hi - lo).toNat) H):wpAny (model X.prog X.w) X.A (pyIter (.ref s.heap.objs.size)) (PIE X pins σ tg R) E { s with heap:=s.heap.push { cls:=.type "range",data:=.fields #[.int lo t,.int hi u,.int 1 v] },toks:=tk }:=by
 refine wpAny_pyIter_range (IsRange.new ..) (small_one h1 h2 h3 h4) ?_
 have I1:Inv X pins σ H { s with heap:=s.heap.push { cls:=.type "range",data:=.fields #[.int lo t,.int hi u,.int 1 v] },toks:=tk }:=I.kept λb o e=>Yi _ e
 refine⟨(s.heap.push { cls:=.type "range",data:=.fields #[.int lo t,.int hi u,.int 1 v] }).objs.size,[(s.heap.push { cls:=.type "range",data:=.fields #[.int lo t,.int hi u,.int 1 v] }).objs.size],_,_,H,rfl,
  I1.kept (t':=tk) λb o e=>Yi _ e,ZhJ _ lo (hi - lo).toNat,?_,λb hb=>?_,q⟩
 ·have e1:lo + ((0:Nat):Int) * 1=lo:=by simp
  have e2:(((hi - lo).toNat:Nat):Int) - ((0:Nat):Int)=Builtin.Range.rangeSize lo hi 1:=by rw [rangeSize_one]; split <;> omega
  show IsRangeIter _ _ (lo + ((0:Nat):Int) * 1) ((((hi - lo).toNat:Nat):Int) - ((0:Nat):Int)) 1
  rw [e1,e2]
  exact Yo _ rfl
 ·have e:b=(s.heap.push { cls:=.type "range",data:=.fields #[.int lo t,.int hi u,.int 1 v] }).objs.size:=by simpa using hb
  subst e
  exact I1.fpOk (Yd _) (I1.hok.fresh (Yd _))
def ZjR(ta:TA):TI:=λσ H R=>ta σ H λvs H1=>∃ j:Int,vs=[.int j]/\-(2 ^ 62)<=j/\j < 2 ^ 62/\R (Itr 0 j.toNat) H1
def Zme(ta:TA):TI:=λσ H R=>ta σ H λvs H1=>∃ i j:Int,vs=[.int i,.int j]/\(-(2 ^ 62)<=i/\i < 2 ^ 62/\-(2 ^ 62)<=j/\j < 2 ^ 62)/\R (Itr i (j - i).toNat) H1
def Zio{a:Expr}{ta:TA}{p pos:Pos}(hg:Gl X "range")(hm:X.mg "range"=none)(ha:PA X [a] ta)(hs:starEach [a] X.env=[(false,eval a X.env)]:=by rfl):PI X tg (.Call (.Name "range" p) [a] [] pos) (ZjR ta):=by
 intro pins s σ H R I h
 refine Call_ (ZbB I hg hm boot_range (VB (ZZ (ha pos pins s σ H _ I h) λus s1 ⟨vs,H1,I1,r1,q1⟩=>?_) hs rfl))
 obtain⟨j,e,q1,q2,q⟩:=q1
 subst e
 cases r1 with
 | cons r rr =>
  cases rr
  obtain⟨t,rfl⟩:=r
  exact call_range_1 (Zhh I1 (by omega) (by omega) q1 q2 (by simpa using q))
def ZiT{a b:Expr}{ta:TA}{p pos:Pos}(hg:Gl X "range")(hm:X.mg "range"=none)(ha:PA X [a,b] ta)(hs:starEach [a,b] X.env=[(false,eval a X.env),(false,eval b X.env)]:=by rfl)(hs2:starEach [b] X.env=[(false,eval b X.env)]:=by rfl) :
  PI X tg (.Call (.Name "range" p) [a,b] [] pos) (Zme ta):=by
 intro pins s σ H R I h
 refine Call_ (ZbB I hg hm boot_range (VB (ZZ (ha pos pins s σ H _ I h) λus s1 ⟨vs,H1,I1,r1,q1⟩=>?_) (by rw [hs,hs2]) (by rw [hs2]; rfl)))
 obtain⟨i,j,e,⟨q1,q2,q3,q4⟩,q⟩:=q1
 subst e
 cases r1 with
 | cons r rr =>
  cases rr with
  | cons r' rr =>
   cases rr
   obtain⟨t,rfl⟩:=r
   obtain⟨t',rfl⟩:=r'
   exact call_range_2 (Zhh I1 q1 q2 q3 q4 q)
def ZmC(wi:TI)(g:TG)(tb:TS):TS:=λD σ H=>wi σ H λJ H1=>∃ W:Nat->Nat->St->Hp->Prop,(∃ m,W 0 m σ H1)/\∀ i m σ H,W i m σ H ->
 (J.stop i H/\D.nx σ H)\/(J.go i H/\∃ N:St->Hp->Prop,(∀ σ' H',N σ' H'->∃ m',m' < m/\W (i + 1) m' σ' H')/\∀ x H',J.yld i H x H'->g x σ H' λσ2 H2=>tb { D with nx:=N,ct:=N,bk:=D.nx } σ2 H2)
def Zhc(fp:List Addr)(h:Heap):List (Addr × Obj):=fp.filterMap λb=>(h.get? b).map λo=>(b,o)
def ZaV{fp:List Addr}{h:Heap}{b:Addr}{o:Obj}(hb:b∈fp)(e:h.get? b=some o):(b,o)∈Zhc fp h:=List.mem_filterMap.mpr ⟨b,hb,by rw [e]; rfl⟩
def Ziq{fp:List Addr}{h:Heap}{p:Addr × Obj}(hp:p∈Zhc fp h):p.1∈fp/\h.get? p.1=some p.2:=by
 obtain⟨b,hb,e⟩:=List.mem_filterMap.mp hp
 cases q:h.get? b with
 | none=>rw [q] at e; cases e
 | some o =>
  rw [q] at e
  have e':(b,o)=p:=YW e
  subst e'
  exact⟨hb,q⟩
def Inv.pinned{fp:List Addr}(I:Inv X pins σ H s)(hf:∀ b∈fp,JJ X pins H b)(ho:∀ b∈fp,∃ o,s.heap.get? b=some o/\∀ v,o.data ≠ .cell v):Inv X (pins ++ Zhc fp s.heap) σ H s :=
 I.pins_of λp hp=>(YA.mp hp).elim (λz=>I.pin p (Yv _ z)) λz=>by
  obtain⟨hb,e⟩:=Ziq z
  obtain⟨f0,f1,f2,_⟩:=hf p.1 hb
  obtain⟨o,e',d⟩:=ho p.1 hb
  rw [e] at e'; cases e'
  exact⟨e,f0,f1,f2,d⟩
def Inv.unpinned{pins pl:List (Addr × Obj)}(I:Inv X (pins ++ pl) σ H s):Inv X pins σ H s:=I.pins_of λp hp=>I.pin p (Yv _ (VT _ hp))
def Zqq{iter:Expr}{body:List Stmt}{wi:TI}{g:TG}{tb:TS}{pos:Pos}(hp:PassesOwn (model X.prog X.w) X.A X.env X.xe)(hc:X.calm=true)(hi:PI X tg iter wi)(hg:PG X tg g)(hb:PSs X body tb)
  (hs:∀ x,foldedSetIterable iter X.env x=pure x:=by intro _; rfl):PS X (.For tg iter body [] pos) (ZmC wi g tb):=by
 intro pins s σ H D I h
 refine wpAny_For (ZZ (hi pins s σ H _ I h) λv s1 h1=>ZZ h1 λitv s2 h2=>?_) hs
 obtain⟨it,fp,tn,J,H2,e,I2,T,st2,f2,W,⟨m0,w0⟩,turn⟩:=h2
 subst e
 -- what stays true of the iterator's objects through the loop
 have stat:∀ {H':Hp},(∀ b∈fp,H' b=none)->∀ b∈fp,JJ X pins H' b:=λhn b hb=>⟨hn b hb,(f2 b hb).2⟩
 refine codeAny_forLoop_any (λn s'=>∃ i σ' H',Inv X pins σ' H' s'/\tn i s'.heap/\(∀ b∈fp,H' b=none)/\W i n σ' H') ?_ m0 ⟨0,σ,H2,I2,st2,λb hb=>(f2 b hb).1,w0⟩
 rintro n s3 ⟨i,σ3,H3,I3,st3,fr3,w3⟩
 rcases turn i n σ3 H3 w3 with ⟨stop,qn⟩ | ⟨go,N,hN,step⟩
 ·refine Vy hp (ZZ (T.done X rfl rfl rfl hc i pins s3 σ3 H3 X.xe I3 (stat fr3) st3 stop) λr s4 ⟨hr,I4⟩=>?_)
  subst hr
  exact wpAny_execs_nil ⟨σ3,H3,I4,qn⟩
 ·refine Vy hp (ZZ (T.item X rfl rfl rfl hc i pins s3 σ3 H3 X.xe I3 (stat fr3) st3 go) λr s4 ⟨u,hr,h4⟩=>?_)
  subst hr
  refine Vy hp (ZZ h4 λ_ s5 ⟨x,H5,I5,r5,y5,st5,fr5⟩=>?_)
  have I5':=I5.pinned (stat fr5) (T.obj _ _ st5)
  refine Vy hp (ZZ (hg _ s5 σ3 H5 x u _ I5' r5 (step x H5 y5)) λ_ s6 ⟨σ6,H6,I6,q6⟩=>?_)
  refine Vy hp (ZZ (hb _ s6 σ6 H6 _ I6 q6) λf s7 q7=>?_)
  have again:∀ {σ7:St}{H7:Hp},Inv X (pins ++ Zhc fp s5.heap) σ7 H7 s7->N σ7 H7->∃ m,m < n/\∃ i σ' H',Inv X pins σ' H' s7/\tn i s7.heap/\(∀ b∈fp,H' b=none)/\W i m σ' H':=λ{σ7 H7} I7 n7=>by
   obtain⟨m',hm,w7⟩:=hN σ7 H7 n7
   refine⟨m',hm,i + 1,σ7,H7,I7.unpinned,T.keep _ _ _ st5 λb hb o e=>(I7.pin (b,o) (Yv _ (Yv _ (ZaV hb e)))).1,λb hb=>?_,w7⟩
   obtain⟨o,e,d⟩:=T.obj _ _ st5 b hb
   exact (I7.pin (b,o) (Yv _ (Yv _ (ZaV hb e)))).2.1
  cases f with
  | next=>obtain⟨σ7,H7,I7,n7⟩:=q7; exact again I7 n7
  | cont=>obtain⟨σ7,H7,I7,n7⟩:=q7; exact again I7 n7
  | brk=>obtain⟨σ7,H7,I7,q7⟩:=q7; exact⟨σ7,H7,I7.unpinned,q7⟩
  | ret v=>obtain⟨x7,σ7,H7,I7,r7,q7⟩:=q7; exact⟨x7,σ7,H7,I7.unpinned,r7,q7⟩
end
def ZgY{a:Addr}{xs:List V}{g:TG}{tb:TS}{D:Ends}(Pv:Nat->St->Hp->Prop)(h0:Pv 0 σ H)(hl:∀ i σ H,i<=xs.length->Pv i σ H->JC K H a xs)
  (hs:∀ i x σ H,xs[i]?=some x->Pv i σ H->g x σ H λσ2 H2=>tb { D with nx:=Pv (i + 1),ct:=Pv (i + 1),bk:=D.nx } σ2 H2) (hd:∀ σ H,Pv xs.length σ H->D.nx σ H) :
  ∃ W:Nat->Nat->St->Hp->Prop,(∃ m,W 0 m σ H)/\∀ i m σ H,W i m σ H ->
   ((Itl K a).stop i H/\D.nx σ H)\/((Itl K a).go i H/\∃ N:St->Hp->Prop,(∀ σ' H',N σ' H'->∃ m',m' < m/\W (i + 1) m' σ' H')/\∀ x H',(Itl K a).yld i H x H'->g x σ H' λσ2 H2=>tb { D with nx:=N,ct:=N,bk:=D.nx } σ2 H2):=by
 refine⟨λi m σ H=>m=xs.length - i/\i<=xs.length/\Pv i σ H,⟨xs.length,by simp,Nat.zero_le _,h0⟩,?_⟩
 rintro i m σ H ⟨rfl,hi,p⟩
 have q:=hl i σ H hi p
 by_cases hlt:i < xs.length
 ·refine .inr ⟨⟨xs,xs[i],q,by simp [hlt]⟩,Pv (i + 1),λσ' H' p'=>⟨xs.length - (i + 1),by omega,rfl,hlt,p'⟩,λx H' y=>?_⟩
  obtain⟨e,y⟩:=y
  subst e
  exact hs i x σ _ (y xs q) p
 ·have e:i=xs.length:=by omega
  subst e
  exact .inl ⟨⟨xs,q,Yd _⟩,hd σ H p⟩
abbrev R2:=V->V->Hp->VK->Prop
def OpR(X:Cx)(f:Value->Value->Sem Value)(r:R2):Prop :=
 ∀ (pins:List (Addr × Obj)) (s:Shared) (σ:St) (H:Hp) (x y:V) (v u:Value) (Q:VK),Inv X pins σ H s->Zt x v->Zt y u->r x y H Q ->
  wpAny (model X.prog X.w) X.A (f v u) (EP X pins σ Q) X.xe s
def UnR(X:Cx)(f:Value->Sem Value)(r:V->Hp->VK->Prop):Prop :=
 ∀ (pins:List (Addr × Obj)) (s:Shared) (σ:St) (H:Hp) (x:V) (v:Value) (Q:VK),Inv X pins σ H s->Zt x v->r x H Q ->
  wpAny (model X.prog X.w) X.A (f v) (EP X pins σ Q) X.xe s
def Jl(X:Cx)(f:Value)(r:List V->Hp->VK->Prop):Prop :=
 ∀ (pins:List (Addr × Obj)) (s:Shared) (σ:St) (H:Hp) (xs:List V) (us:List Value) (Q:VK),Inv X pins σ H s->Zq xs us->r xs H Q ->
  wpAny (model X.prog X.w) X.A (call f us) (EP X pins σ Q) X.xe s
def tOp(r:R2)(ta tb:TE):TE:=λσ H Q=>ta σ H λx H1=>tb σ H1 λy H2=>r x y H2 Q
def tUn(r:V->Hp->VK->Prop)(ta:TE):TE:=λσ H Q=>ta σ H λx H1=>r x H1 Q
def rI(C:Int->Int->Prop)(g:Int->Int->V):R2:=λx y H Q=>∃ i j,x=.int i/\y=.int j/\C i j/\Q (g i j) H
def rI0(g:Int->Int->V):R2:=λx y H Q=>∃ i j,x=.int i/\y=.int j/\Q (g i j) H
def rU(g:Int->V):V->Hp->VK->Prop:=λx H Q=>∃ i,x=.int i/\Q (g i) H
section
variable {X:Cx}{a b c:Expr}{ta tb tc:TE}{pos:Pos}
def Zro(ha:PE X a ta)(hb:PE X b tb){pins:List (Addr × Obj)}{s:Shared}{σ:St}{H:Hp}{R:V->V->Hp->Prop}(I:Inv X pins σ H s)
  (h:ta σ H λx H1=>tb σ H1 λy H2=>R x y H2) {Q:VSP}{f:Value->Value->Sem Value}
  (hf:∀ v u s2 x y H2,Inv X pins σ H2 s2->Zt x v->Zt y u->R x y H2->wpAny (model X.prog X.w) X.A (f v u) Q X.xe s2) :
  wpAny (model X.prog X.w) X.A (eval a X.env) (λv s₁=>wpAny (model X.prog X.w) X.A (eval b X.env) (λu s₂=>wpAny (model X.prog X.w) X.A (f v u) Q X.xe s₂) X.xe s₁) X.xe s:=by
 refine ZZ (ha pins s σ H _ I h) λv s1 ⟨x,H1,I1,r1,q1⟩=>?_
 refine ZZ (hb pins s1 σ H1 _ I1 q1) λu s2 ⟨y,H2,I2,r2,q2⟩=>?_
 exact hf v u s2 x y H2 I2 r1 r2 q2
def Zc7{op:Operator}{r:R2}(ho:OpR X (binaryOp op) r)(ha:PE X a ta)(hb:PE X b tb):PE X (.BinOp a op b pos) (tOp r ta tb):=by
 intro pins s σ H Q I h
 exact wpAny_BinOp (Zro ha hb I h λv u s2 x y H2 I2 rx ry q=>ho pins s2 σ H2 x y v u Q I2 rx ry q)
def Zru{op:UnaryOp}{r:V->Hp->VK->Prop}(ho:UnR X (unaryOp op) r)(ha:PE X a ta):PE X (.UnaryOp op a pos) (tUn r ta):=by
 intro pins s σ H Q I h
 exact UnaryOp_ (ZZ (ha pins s σ H _ I h) λv s1 ⟨x,H1,I1,r1,q1⟩=>ho pins s1 σ H1 x v Q I1 r1 q1)
def opI{f:Value->Value->Sem Value}{C:Int->Int->Prop}{g:Int->Int->Int}
  (rule:∀ (i j:Int) (t u:Tok) (s:Shared) (Q:VSP) (E:VSP),C i j->Q (.int (g i j) s.toks) { s with toks:=s.toks + 1 }->wpAny (model X.prog X.w) X.A (f (.int i t) (.int j u)) Q E s) :
  OpR X f (rI C λi j=>.int (g i j)):=by
 intro pins s σ H x y v u Q I rx ry h
 obtain⟨i,j,rfl,rfl,hc,q⟩:=h
 obtain⟨t,rfl⟩:=rx
 obtain⟨t',rfl⟩:=ry
 exact rule i j t t' s _ _ hc ⟨.int (g i j),H,I.tok _,⟨_,rfl⟩,q⟩
def ZrN{f:Value->Value->Sem Value}{g:Int->Int->Int}
  (rule:∀ (i j:Int) (t u:Tok) (s:Shared) (Q:VSP) (E:VSP),Q (.int (g i j) s.toks) { s with toks:=s.toks + 1 }->wpAny (model X.prog X.w) X.A (f (.int i t) (.int j u)) Q E s) :
  OpR X f (rI0 λi j=>.int (g i j)):=by
 intro pins s σ H x y v u Q I rx ry h
 obtain⟨i,j,rfl,rfl,q⟩:=h
 obtain⟨t,rfl⟩:=rx
 obtain⟨t',rfl⟩:=ry
 exact rule i j t t' s _ _ ⟨.int (g i j),H,I.tok _,⟨_,rfl⟩,q⟩
def Zra{f:Value->Value->Sem Value}{g:Int->Int->Bool}
  (rule:∀ (i j:Int) (t u:Tok) (s:Shared) (Q:VSP) (E:VSP),Q (.bool (g i j)) s->wpAny (model X.prog X.w) X.A (f (.int i t) (.int j u)) Q E s) :
  OpR X f (rI0 λi j=>.bl (g i j)):=by
 intro pins s σ H x y v u Q I rx ry h
 obtain⟨i,j,rfl,rfl,q⟩:=h
 obtain⟨t,rfl⟩:=rx
 obtain⟨t',rfl⟩:=ry
 exact rule i j t t' s _ _ ⟨.bl (g i j),H,I,rfl,q⟩
def Zrd(i j:Int):Prop:=0 < j/\j < 1073741824
def Zrc(i j:Int):Prop:=0<=j/\j<=1000000/\i.natAbs < 2 ^ 64
def Zo1(i j:Int):Prop:=(-(2 ^ 64) < i/\i < 2 ^ 64)\/(-(2 ^ 64) < j/\j < 2 ^ 64)
theorem Zo1.ok{i j:Int}(h:Zo1 i j):IntMulOk i j:=by
 rcases h with ⟨h1,h2⟩ | ⟨h1,h2⟩
 ·exact .of_left (intBits_le_64 h1 h2)
 ·exact .of_right (intBits_le_64 h1 h2)
def ZqI:OpR X (binaryOp .Add) (rI0 λi j=>.int (i + j)):=ZrN λ_ _ _ _ _ _ _ q=>add_int q
def Zqd:OpR X (binaryOp .Sub) (rI0 λi j=>.int (i - j)):=ZrN λ_ _ _ _ _ _ _ q=>sub_int q
def ZpW:OpR X (binaryOp .Mult) (rI Zo1 λi j=>.int (i * j)):=opI λ_ _ _ _ _ _ _ hc q=>mul_int q hc.ok
def ZoO:OpR X (binaryOp .FloorDiv) (rI Zrd λi j=>.int (i / j)):=opI λi j _ _ _ _ _ hc q=>by
 have h1:(0:Int) < j:=hc.1
 have h2:j < 1073741824:=hc.2
 exact floordiv_int (by omega) (by rw [V4 i (by omega)]; exact q) (.inl (PyProof.noPylong_small (by omega)))
def ZqO:OpR X (binaryOp .Mod) (rI (λ_ j=>0 < j) λi j=>.int (i % j)):=opI λi j _ _ _ _ _ hc q=>by
 have h1:(0:Int) < j:=hc
 exact mod_int' (by omega) (by rw [Int.fmod_eq_emod_of_nonneg i (by omega)]; exact q)
def ZpV:OpR X (binaryOp .Pow) (rI Zrc λi j=>.int (i ^ j.toNat)):=opI λ_ _ _ _ _ _ _ hc q=>pow_int_small hc.1 hc.2.1 hc.2.2 q
def ZoP:OpR X (inplaceOp .Sub) (rI0 λi j=>.int (i - j)):=ZrN λ_ _ _ _ _ _ _ q=>isub_int q
def unI{f:Value->Sem Value}{g:Int->Int}
  (rule:∀ (i:Int) (t:Tok) (s:Shared) (Q:VSP) (E:VSP),Q (.int (g i) s.toks) { s with toks:=s.toks + 1 }->wpAny (model X.prog X.w) X.A (f (.int i t)) Q E s) :
  UnR X f (rU λi=>.int (g i)):=by
 intro pins s σ H x v Q I rx h
 obtain⟨i,rfl,q⟩:=h
 obtain⟨t,rfl⟩:=rx
 exact rule i t s _ _ ⟨.int (g i),H,I.tok _,⟨_,rfl⟩,q⟩
def Zo9:UnR X (unaryOp .USub) (rU λi=>.int (-i)):=unI λ_ _ _ _ _ q=>neg_int q
end
def ZqZ:V->V->Bool
 | .non,.non=>true | .non,.int _=>true | .int _,.non=>true | .non,.bl _=>true | .bl _,.non=>true | .non,.str _=>true | .str _,.non=>true
 | .int _,.int _=>true | .bl _,.bl _=>true | .str _,.str _=>true | .byt _,.byt _=>true
 | .int _,.str _=>true | .str _,.int _=>true | .bl _,.str _=>true | .str _,.bl _=>true
 | _,_=>false
def rEq:R2:=λx y H Q=>ZqZ x y=true/\Q (.bl (decide (x=y))) H
def rNe:R2:=λx y H Q=>ZqZ x y=true/\Q (.bl (!decide (x=y))) H
def Zkt{i j:Int}:decide (V.int i=V.int j)=(i == j):=by
 rw [Vl]
 simp
def ZmN{i j:Bool}:decide (V.bl i=V.bl j)=(i == j):=by
 rw [Vl]
 simp
def ZjL{i j:Str}:decide (V.str i=V.str j)=(i == j):=by
 rw [Vl]
 simp
def ZiZ{i j:Array UInt8}:decide (V.byt i=V.byt j)=(i.toList == j.toList):=by
 rw [Vl]
 cases i
 cases j
 simp
section
variable {X:Cx}{a b c:Expr}{ta tb tc:TE}{pos:Pos}
theorem ZM{Q:VK}{k k':Bool}(I:Inv X pins σ H s)(q:Q (.bl k) H)(e:k=k'):EP X pins σ Q (.bool k') s:=by
 subst e
 exact⟨.bl k,H,I,rfl,q⟩
def ZpM:OpR X (compareOp .Eq) rEq:=by
 intro pins s σ H x y v u Q I rx ry h
 obtain⟨hs,q⟩:=h
 cases x with
 | non =>
  cases rx
  cases y with
  | non=>cases ry; exact PySem.EqNone.eq_none_none (ZM I q (by simp))
  | bl j=>cases ry; exact PySem.EqNone.eq_none_bool (ZM I q (by simp))
  | int j=>obtain⟨t',rfl⟩:=ry; exact PySem.EqNone.eq_none_int (ZM I q (by simp))
  | str j=>obtain⟨t',rfl⟩:=ry; exact PySem.EqNone.eq_none_str (ZM I q (by simp))
  | _=>exact absurd (show false=true from hs) Yt
 | bl i =>
  cases rx
  cases y with
  | non=>cases ry; exact PySem.EqNone.eq_bool_none (ZM I q (by simp))
  | bl j=>cases ry; exact eq_bool (ZM I q ZmN)
  | str j=>obtain⟨t',rfl⟩:=ry; exact PySem.EqMixed.eq_bool_str (ZM I q (by simp))
  | _=>exact absurd (show false=true from hs) Yt
 | int i =>
  obtain⟨t,rfl⟩:=rx
  cases y with
  | non=>cases ry; exact PySem.EqNone.eq_int_none (ZM I q (by simp))
  | int j=>obtain⟨t',rfl⟩:=ry; exact eq_int (ZM I q Zkt)
  | str j=>obtain⟨t',rfl⟩:=ry; exact PySem.EqMixed.eq_int_str (ZM I q (by simp))
  | _=>exact absurd (show false=true from hs) Yt
 | str i =>
  obtain⟨t,rfl⟩:=rx
  cases y with
  | non=>cases ry; exact PySem.EqNone.eq_str_none (ZM I q (by simp))
  | bl j=>cases ry; exact PySem.EqMixed.eq_str_bool (ZM I q (by simp))
  | int j=>obtain⟨t',rfl⟩:=ry; exact PySem.EqMixed.eq_str_int (ZM I q (by simp))
  | str j=>obtain⟨t',rfl⟩:=ry; exact eq_str (ZM I q ZjL)
  | _=>exact absurd (show false=true from hs) Yt
 | byt i =>
  obtain⟨t,rfl⟩:=rx
  cases y with
  | byt j=>obtain⟨t',rfl⟩:=ry; exact PySem.W.eq_bytes (ZM I q ZiZ)
  | _=>exact absurd (show false=true from hs) Yt
 | _=>cases y <;> exact absurd (show false=true from hs) Yt
def ZrP:OpR X (compareOp .NotEq) rNe:=by
 intro pins s σ H x y v u Q I rx ry h
 obtain⟨hs,q⟩:=h
 cases x with
 | non =>
  cases rx
  cases y with
  | non=>cases ry; exact PySem.EqNone.ne_none_none (ZM I q (by simp))
  | bl j=>cases ry; exact PySem.EqNone.ne_none_bool (ZM I q (by simp))
  | int j=>obtain⟨t',rfl⟩:=ry; exact PySem.EqNone.ne_none_int (ZM I q (by simp))
  | str j=>obtain⟨t',rfl⟩:=ry; exact PySem.EqNone.ne_none_str (ZM I q (by simp))
  | _=>exact absurd (show false=true from hs) Yt
 | bl i =>
  cases rx
  cases y with
  | non=>cases ry; exact PySem.EqNone.ne_bool_none (ZM I q (by simp))
  | bl j=>cases ry; exact ne_bool (ZM I q (congrArg not ZmN))
  | str j=>obtain⟨t',rfl⟩:=ry; exact PySem.EqMixed.ne_bool_str (ZM I q (by simp))
  | _=>exact absurd (show false=true from hs) Yt
 | int i =>
  obtain⟨t,rfl⟩:=rx
  cases y with
  | non=>cases ry; exact PySem.EqNone.ne_int_none (ZM I q (by simp))
  | int j=>obtain⟨t',rfl⟩:=ry; exact ne_int (ZM I q (congrArg not Zkt))
  | str j=>obtain⟨t',rfl⟩:=ry; exact PySem.EqMixed.ne_int_str (ZM I q (by simp))
  | _=>exact absurd (show false=true from hs) Yt
 | str i =>
  obtain⟨t,rfl⟩:=rx
  cases y with
  | non=>cases ry; exact PySem.EqNone.ne_str_none (ZM I q (by simp))
  | bl j=>cases ry; exact PySem.EqMixed.ne_str_bool (ZM I q (by simp))
  | int j=>obtain⟨t',rfl⟩:=ry; exact PySem.EqMixed.ne_str_int (ZM I q (by simp))
  | str j=>obtain⟨t',rfl⟩:=ry; exact ne_str (ZM I q (congrArg not ZjL))
  | _=>exact absurd (show false=true from hs) Yt
 | byt i =>
  obtain⟨t,rfl⟩:=rx
  cases y with
  | byt j=>obtain⟨t',rfl⟩:=ry; exact PySem.W.ne_bytes (ZM I q (congrArg not ZiZ))
  | _=>exact absurd (show false=true from hs) Yt
 | _=>cases y <;> exact absurd (show false=true from hs) Yt
theorem ZnD:OpR X (compareOp .Lt) (rI0 λi j=>.bl (decide (i < j))):=Zra λ_ _ _ _ _ _ _ q=>lt_int q
theorem Zr1:OpR X (compareOp .LtE) (rI0 λi j=>.bl (decide (i<=j))):=Zra λ_ _ _ _ _ _ _ q=>le_int q
def ZrM:OpR X (compareOp .Gt) (rI0 λi j=>.bl (decide (j < i))):=Zra λ_ _ _ _ _ _ _ q=>gt_int q
def Zqp:OpR X (compareOp .GtE) (rI0 λi j=>.bl (decide (j<=i))):=Zra λ_ _ _ _ _ _ _ q=>ge_int q
def OpR.or{f:Value->Value->Sem Value}{r r':R2}(h:OpR X f r)(h':OpR X f r'):OpR X f (λx y H Q=>r x y H Q\/r' x y H Q):=by
 intro pins s σ H x y v u Q I rx ry q
 rcases q with q | q
 ·exact h pins s σ H x y v u Q I rx ry q
 ·exact h' pins s σ H x y v u Q I rx ry q
def ZbH(b:Expr){op:CmpOp}(h:op ≠ .In:=by decide)(h2:op ≠ .NotIn:=by decide):behindInMarks op b=false:=by
 have e1:(op == CmpOp.In)=false:=by cases op <;> first | rfl | exact absurd rfl h
 have e2:(op == CmpOp.NotIn)=false:=by cases op <;> first | rfl | exact absurd rfl h2
 cases b <;> simp [behindInMarks,e1,e2]
def ZdB{op:CmpOp}{r:R2}(ho:OpR X (compareOp op) r)(ha:PE X a ta)(hb:PE X b tb)(hm:behindInMarks op b=false):PE X (.Compare a [op] [b] pos) (tOp r ta tb):=by
 intro pins s σ H Q I h
 exact wpAny_Compare1 (Zro ha hb I h λv u s2 x y H2 I2 rx ry q=>ho pins s2 σ H2 x y v u Q I2 rx ry q) hm
def Zd5(t:TE):TT:=λσ H Q=>t σ H λx H'=>∃ k,x=.bl k/\Q k H'
theorem ZbK{op:CmpOp}{r:R2}(ho:OpR X (compareOp op) r)(ha:PE X a ta)(hb:PE X b tb)(hm:behindInMarks op b=false):PT X (.Compare a [op] [b] pos) (Zd5 (tOp r ta tb)):=by
 intro pins s σ H Q I h
 refine wpAny_isTrue_Compare1 (ZZ (ha pins s σ H _ I h) λv s1 ⟨x,H1,I1,r1,q1⟩=>ZZ (hb pins s1 σ H1 _ I1 q1) λu s2 ⟨y,H2,I2,r2,q2⟩ =>
  ZZ (ho pins s2 σ H2 x y v u _ I2 r1 r2 q2) λc s3 ⟨z,H3,I3,r3,k,e,q3⟩=>?_) hm
 subst e
 cases r3
 exact Vk ⟨H3,I3,q3⟩
def Zg4(r r':R2)(ta tb tc:TE):TE:=λσ H Q=>ta σ H λx H1=>tb σ H1 λy H2=>r x y H2 λz H3=>∃ k,z=.bl k /\
 (if k=true then tc σ H3 λw' H4=>r' y w' H4 Q else Q (.bl false) H3)
theorem Zl8{op op':CmpOp}{r r':R2}(ho:OpR X (compareOp op) r)(ho':OpR X (compareOp op') r')(ha:PE X a ta)(hb:PE X b tb)(hc:PE X c tc)
  (hm:lastMarks [op,op'] [b,c]=false:=by with_unfolding_all rfl):PE X (.Compare a [op,op'] [b,c] pos) (Zg4 r r' ta tb tc):=by
 intro pins s σ H Q I h
 refine Compare_chain (ZZ (ha pins s σ H _ I h) λv s1 ⟨x,H1,I1,r1,q1⟩=>chain_link (ZZ (hb pins s1 σ H1 _ I1 q1) λu s2 ⟨y,H2,I2,r2,q2⟩ =>
  ZZ (ho pins s2 σ H2 x y v u _ I2 r1 r2 q2) λd s3 ⟨z,H3,I3,r3,k,e,q3⟩=>?_)) hm
 subst e
 cases r3
 refine Vk ?_
 cases k with
 | false=>exact ite_ff ⟨.bl false,H3,I3,rfl,q3⟩
 | true=>exact ite_tt (chain_last (ZZ (hc pins s3 σ H3 _ I3 q3) λw' s4 ⟨z',H4,I4,r4,q4⟩=>ho' pins s4 σ H4 y z' u w' Q I4 r2 r4 q4))
def Zer:(sizeLine:Nat) < 2 ^ 63:=by rw [Va]; decide
def Zh0:OpR X (binaryOp .Add) (λx y H Q=>∃ i j,x=.str i/\y=.str j/\i.length + j.length<=sizeLine/\Q (.str (i ++ j)) H):=by
 intro pins s σ H x y v u Q I rx ry h
 obtain⟨i,j,rfl,rfl,hz,q⟩:=h
 obtain⟨t,rfl⟩:=rx
 obtain⟨t',rfl⟩:=ry
 exact add_str (λt' tk=>⟨.str (i ++ j),H,I.tok _,⟨_,rfl⟩,q⟩) hz
def JQ{x:V}(r:Zq [x] us):∃ u,us=[u]/\Zt x u:=by
 cases r with
 | cons r1 r2=>cases r2; exact⟨_,rfl,r1⟩
def Zpj{x y:V}(r:Zq [x,y] us):∃ u w',us=[u,w']/\Zt x u/\Zt y w':=by
 cases r with
 | cons r1 r2 =>
  cases r2 with
  | cons r3 r4=>cases r4; exact⟨_,_,rfl,r1,r3⟩
def Zk2:Jl X (.builtin "abs") (λxs H Q=>∃ i,xs=[.int i]/\Q (.int (if i < 0 then -i else i)) H):=by
 intro pins s σ H xs us Q I r h
 obtain⟨i,rfl,q⟩:=h
 obtain⟨u,rfl,t,rfl⟩:=JQ r
 exact call_abs_int λu tk=>⟨.int (if i < 0 then -i else i),H,I.tok _,⟨_,rfl⟩,q⟩
def ZjY(hc:X.calm=true):Jl X (.builtin "min") (λxs H Q=>∃ i j,xs=[.int i,.int j]/\Q (.int (if j < i then j else i)) H):=by
 intro pins s σ H xs us Q I r h
 obtain⟨i,j,rfl,q⟩:=h
 obtain⟨u,w',rfl,⟨t,rfl⟩,⟨t',rfl⟩⟩:=Zpj r
 refine min_two_ints (I.ok.hd hc) λh' tk k=>⟨_,H,I.kept k,?_,q⟩
 by_cases hj:j < i
 ·rw [if_pos hj,if_pos hj]; exact⟨_,rfl⟩
 ·rw [if_neg hj,if_neg hj]; exact⟨_,rfl⟩
def Zkp:Jl X (.type "int") (λxs H Q=>(∃ i,xs=[.int i]/\Q (.int i) H)\/∃ k,xs=[.bl k]/\Q (.int (if k then 1 else 0)) H):=by
 intro pins s σ H xs us Q I r h
 rcases h with ⟨i,rfl,q⟩ | ⟨k,rfl,q⟩
 ·obtain⟨u,rfl,t,rfl⟩:=JQ r
  exact call_int_int ⟨.int i,H,I,⟨_,rfl⟩,q⟩
 ·obtain⟨u,rfl,r1⟩:=JQ r
  cases r1
  exact call_int_bool ⟨.int (if k then 1 else 0),H,I.tok _,⟨_,rfl⟩,q⟩
end
structure ObjM(h:Heap)(x dx C:Addr)(mA:Str->Option Value):Prop where
 obj:h.get? x=some (instObj C dx)
 ns:h.Ns1 dx mA
 ne:dx ≠ x
def Zky{h:Heap}{dx:Addr}{mA:Str->Option Value}(n:h.Ns1 dx mA):∃ od,h.get? dx=some od/\∀ name,lookIn name od=some (mA name):=by
 obtain⟨o,es,ep,ho,hd,hk,_,hm⟩:=n
 refine⟨o,ho,λname=>?_⟩
 have e:=hm name
 unfold nsFind findBy at e
 rw [<- Array.find?_toList] at e
 unfold lookIn
 rw [hd]
 dsimp only
 split
 ·rename_i y q
  rw [q] at e
  exact congrArg some e
 ·rename_i q
  rw [q] at e
  have a:es.toList.any (·.refKey)=false:=by
   rw [List.any_eq_false]
   intro y hy
   obtain⟨z,t,hkey⟩:=hk y (Array.mem_toList_iff.mp hy)
   simp [DictEntry.refKey,hkey]
  have a':¬ es.toList.any (·.refKey)=true:=by rw [a]; exact Yt
  rw [if_neg a']
  exact congrArg some e
def ObjM.look{h:Heap}{x dx C:Addr}{mA:Str->Option Value}(I:ObjM h x dx C mA):∃ od,PySem.W.InstAt h x (instObj C dx) C (some od)/\∀ name,lookIn name od=some (mA name) :=
 let ⟨od,ho,hl⟩:=Zky I.ns
 ⟨od,⟨I.obj,rfl,rfl,ho⟩,hl⟩
section
variable {prog:Program}{w:World}{A:Around}{E:VSP}{s:Shared}{K:PySem.W.Frag}{x dx C f:Addr}{mA:Str->Option Value}{name:Str}{v:Value}
def Zn4{expr:Bool}{Q:VSP}(X:K.In s.heap)(I:ObjM s.heap x dx C mA)(hg:plainGet K C name=true)(hh:hasDictIn K C=true)
  (ha:PySem.W.findIn K (.ref C) name=some none) (hv:mA name=some v) (hv':handedIn v=true) (h:Q v { s with toks:=s.toks + 1 }) :
  wpAny (model prog w) A (getAttr (.ref x) name expr) Q E s:=by
 obtain⟨od,J,hl⟩:=I.look
 exact PySem.W.get_value X J (plainGet_of hg).1 (PySem.W.findObj_own hh ha rfl (by rw [hl,hv])) hv' h
def Zly{pl:Sem Bool}{Q:Value × List Value->Shared->Prop}(X:K.In s.heap)(I:ObjM s.heap x dx C mA)(hg:plainGet K C name=true)
  (hf:PySem.W.findIn K (.ref C) name=some (some (.ref f))) (ht:isFn K (.ref f)=true) (hv:mA name=none) (h:Q (.ref f,[.ref x]) s) :
  wpAny (model prog w) A (getMethod (.ref x) name pl) Q E s:=by
 obtain⟨od,J,hl⟩:=I.look
 exact PySem.W.method_fn X J (plainGet_of hg).1 (plainGet_of hg).2 hf (beq_iff_eq.mp ht) (by show (lookIn name od).map (·.isSome)=some false; rw [hl,hv]; rfl) h
def Znh{ns:List Str}(X:K.In s.heap)(I:ObjM s.heap x dx C mA)
  (hs:PySem.W.findIn K (.ref C) "__setattr__"=some (some (.builtin "object.__setattr__"))) (hp:plainOver K C=true) (ht:takerIn K C name=some none) (hh:hasDictIn K C=true)
  (hw:PySem.Within mA ns) (hsz:ns.length<=sizeLine)
  (h:∀ h',ObjM h' x dx C (λy=>if y=name then some v else mA y)->Heap.SameBut dx s.heap h'->Q () { s with heap:=h',toks:=s.toks + 2 }) :
  wpAny (model prog w) A (setAttr (.ref x) name v) Q E s:=by
 obtain⟨od,J,hl⟩:=I.look
 refine PySem.W.set_plain X J hs (PySem.W.osa_open (s:={ s with toks:=s.toks + 1 }) (r:=none) X J hp ht λb=>?_)
 obtain⟨cd,hc,hd'⟩:=PySem.W.any_some hh
 have hx:s.heap.get? x=some ⟨.ref C,some dx,.plain,#[]⟩:=I.obj
 refine Ya (Yc (Ya (Ya (wpAny_loadPart hx (Ya (PySem.W.Looks.here (s:={ s with toks:=s.toks + 1 }) (PySem.W.looks_clsIn X hc) ?_))))))
 rw [hd']
 refine Yc (a:=some dx) (Ya (Yc (Ya ?_)))
 refine wpAny_nsSet1 (s:={ s with toks:=s.toks + 1 }) I.ns λh' hn2 hs2=>?_
 obtain⟨oD,esD,epD,hoD,hdD,hcD⟩:=hn2.count (PySem.Within.cons name v hw)
 refine Ya (wpAny_lookBehind hoD (by rw [hdD]; exact pastItsLine_dict (Yj hcD (by rw [YV]; omega))) ?_)
 exact Yc (h _ ⟨(hs2.2 _ (Ne.symm I.ne)).trans I.obj,hn2,I.ne⟩ hs2)
def Zmf{R:Result->Shared->Prop}{vs:List Value}{kw:List (Str × Value)}(X:K.In s.heap)(hm:makesIn K C=true)
  (hi:PySem.W.findIn K (.ref C) "__init__"=some (some (.ref f))) (hf:PySem.W.typeIn K (.ref f)=some (.type "function"))
  (h:codeAny (model prog w) (A.under (.builtin "type.__call__" ⟨.ref C :: vs,kw⟩)) (.call (.ref f) ⟨.ref (s.heap.objs.size + 1) :: vs,kw⟩) (PySem.W.InitBack (s.heap.objs.size + 1) R)
   { s with heap:=(s.heap.push emptyDict).push (instObj C s.heap.objs.size) }) :
  codeAny (model prog w) A (.call (.ref C) ⟨vs,kw⟩) R s:=by
 obtain⟨hh,g,d,t,os⟩:=s
 exact PySem.W.make_core (PySem.W.makes_of X hm) (PySem.W.looks_findIn X hi) (λself=>PySem.W.bind_fn X self hf) (.inl rfl) h
end
def J0(f:Str)(v:V):List (Str × V)->List (Str × V)
 | []=>[(f,v)]
 | (g,x) :: r=>if g=f then (g,v) :: r else (g,x) :: J0 f v r
def ZdF(f g:Str)(v:V):∀ fs:List (Str × V),(J0 f v fs).lookup g=if g=f then some v else fs.lookup g
 | []=>by
  show List.lookup g [(f,v)]=_
  by_cases h:g=f
  ·have hb:(g == f)=true:=beq_iff_eq.mpr h
   simp only [List.lookup,hb,if_pos h]
  ·have hb:(g == f)=false:=VD.mpr h
   simp only [List.lookup,hb,if_neg h]
 | (k,x) :: r=>by
  have ih:=ZdF f g v r
  rw [show J0 f v ((k,x) :: r)=(if k=f then (k,v) :: r else (k,x) :: J0 f v r) from rfl]
  by_cases hk:k=f
  ·rw [if_pos hk]
   by_cases h:g=k
   ·have hb:(g == k)=true:=beq_iff_eq.mpr h
    simp only [List.lookup,hb,if_pos (h.trans hk)]
   ·have hb:(g == k)=false:=VD.mpr h
    simp only [List.lookup,hb,if_neg (λe:g=f=>h (e.trans hk.symm))]
  ·rw [if_neg hk]
   by_cases h:g=k
   ·have hb:(g == k)=true:=beq_iff_eq.mpr h
    simp only [List.lookup,hb,if_neg (λe:g=f=>hk (h.symm.trans e))]
   ·have hb:(g == k)=false:=VD.mpr h
    simp only [List.lookup,hb]
    exact ih
def ZdA(f:Str)(v:V):∀ fs:List (Str × V),f∈(J0 f v fs).map (·.1)/\∀ g,g∈fs.map (·.1)->g∈(J0 f v fs).map (·.1)
 | []=>⟨by simp [J0],λg h=>by simp at h⟩
 | (k,x) :: r=>by
  obtain⟨i1,i2⟩:=ZdA f v r
  rw [show J0 f v ((k,x) :: r)=(if k=f then (k,v) :: r else (k,x) :: J0 f v r) from rfl]
  by_cases hk:k=f
  ·rw [if_pos hk]
   subst hk
   exact⟨by simp,λg h=>by simpa using h⟩
  ·rw [if_neg hk]
   refine⟨?_,λg h=>?_⟩
   ·rw [Yr]
    exact Vd _ i1
   ·rw [Yr] at h ⊢
    rcases Yl.mp h with e | e
    ·exact Yl.mpr (.inl e)
    ·exact Vd _ (i2 g e)
def Zdy(f:Str)(v:V):∀ fs:List (Str × V),(J0 f v fs).length<=fs.length + 1
 | []=>by simp [J0]
 | (k,x) :: r=>by
  have ih:=Zdy f v r
  rw [show J0 f v ((k,x) :: r)=(if k=f then (k,v) :: r else (k,x) :: J0 f v r) from rfl]
  by_cases hk:k=f
  ·rw [if_pos hk,YV,YV]; omega
  ·rw [if_neg hk,YV,YV]; omega
def JT.some_of{v:V}{o:Option Value}(r:JT (some v) o):∃ u,o=some u/\Zt v u:=by
 cases o with
 | none=>exact (show False from r).elim
 | some u=>exact⟨u,rfl,r⟩
def JT.none_of{o:Option Value}(r:JT none o):o=none:=by
 cases o with
 | none=>rfl
 | some u=>exact (show False from r).elim
def Zj1{v:V}(r:Zt v u):handedIn u=true:=by
 cases v with
 | non=>cases (show u=Value.none from r); rfl
 | bl b=>cases (show u=Value.bool b from r); rfl
 | int i=>obtain⟨t,e⟩:=(show ∃ t,u=Value.int i t from r); cases e; rfl
 | str x=>obtain⟨t,e⟩:=(show ∃ t,u=Value.str x t from r); cases e; rfl
 | byt b=>obtain⟨t,e⟩:=(show ∃ t,u=Value.bytes b t from r); cases e; rfl
 | flt b=>obtain⟨t,e⟩:=(show ∃ t,u=Value.float b t from r); cases e; rfl
 | ref a=>cases (show u=Value.ref a from r); rfl
 | ty n=>cases (show u=Value.type n from r); rfl
section
variable {P:Program}{w:World}{H H':Hp}{h h':Heap}{a C dx:Addr}{fs fs':List (Str × V)}
def ZeV(hok:HOk P w H h)(e:H a=some (.ins C dx fs)):∃ mA,ObjM h a dx C mA/\(∀ f,JT (fs.lookup f) (mA f))/\PySem.Within mA (fs.map (·.1))/\fs.length<=1000/\H dx=some (.own a):=by
 obtain⟨d,z,ne,ob,mA,n,r,q⟩:=(show ZR P w H h a (.ins C dx fs) from hok a _ e)
 exact⟨mA,⟨ob,n,ne⟩,r,q,z,d⟩
end
structure Cls(K:PySem.W.Frag)(C:Addr):Prop where
 pg:plainGet K C Str.empty=true
 hd:hasDictIn K C=true
 po:plainOver K C=true
 sa:PySem.W.findIn K (.ref C) "__setattr__"=some (some (.builtin "object.__setattr__"))
theorem Cls.get{C:Addr}(c:Cls K C)(f:Str):plainGet K C f=true:=c.pg
def JG(K:PySem.W.Frag)(C:Addr)(f:Str):Prop:=PySem.W.findIn K (.ref C) f=some none
def JG.taker{C:Addr}{f:Str}(n:JG K C f):takerIn K C f=some none:=by
 unfold takerIn
 rw [show PySem.W.findIn K (.ref C) f=some none from n]
 rfl
structure Con(K:PySem.W.Frag)(C:Addr)(f:Str)(v:V)(u:Value):Prop where
 at_:PySem.W.findIn K (.ref C) f=some (some u)
 rel:Zt v u
 get:PySem.W.specialIn K u "__get__"=some none
 cp:PySem.W.copiedNames.contains f=false
structure Meth(K:PySem.W.Frag)(C:Addr)(m:Str)(f:Addr):Prop where
 at_:PySem.W.findIn K (.ref C) m=some (some (.ref f))
 fn:isFn K (.ref f)=true
 kp:keepIn K (.ref f)=true
section
variable {X:Cx}{pins:List (Addr × Obj)}{σ:St}{H:Hp}{s:Shared}{a C dx:Addr}{fs:List (Str × V)}{f:Str}{v:V}{A:Around}{E:VSP}
def ZhA{b:Bool}{Q:VSP}(I:Inv X pins σ H s)(e:H a=some (.ins C dx fs))(c:Cls X.K C)(n:JG X.K C f)(l:fs.lookup f=some v)
  (h:∀ u s',Inv X pins σ H s'->Zt v u->Q u s'):wpAny (model X.prog X.w) A (getAttr (.ref a) f b) Q E s:=by
 obtain⟨mA,O,r,_,_,_⟩:=ZeV I.hok e
 obtain⟨u,hu,ru⟩:=JT.some_of (v:=v) (o:=mA f) (by rw [<- l]; exact r f)
 exact Zn4 I.kIn O (c.get f) c.hd n hu (Zj1 ru) (h u _ (I.tok _) ru)
def Zeu{m:Str}{g:Addr}{pl:Sem Bool}{Q:Value × List Value->Shared->Prop}(I:Inv X pins σ H s)(e:H a=some (.ins C dx fs))(c:Cls X.K C)(k:Meth X.K C m g)(l:fs.lookup m=none)
  (h:Q (.ref g,[.ref a]) s):wpAny (model X.prog X.w) A (getMethod (.ref a) m pl) Q E s:=by
 obtain⟨mA,O,r,_,_,_⟩:=ZeV I.hok e
 have hn:mA m=none:=JT.none_of (by rw [<- l]; exact r m)
 exact Zly I.kIn O (c.get m) k.at_ k.fn hn h
def Zhu{y:V}(I:Inv X pins σ H s)(e:H a=some (.ins C dx fs))(c:Cls X.K C)(n:JG X.K C f)(hl:fs.length < 1000)(ry:Zt y u)
  (h:∀ s',Inv X pins σ (upd H a (.ins C dx (J0 f y fs))) s'->Q () s'):wpAny (model X.prog X.w) A (setAttr (.ref a) f u) Q E s:=by
 obtain⟨mA,O,r,wi,_,ho⟩:=ZeV I.hok e
 have hz:(fs.map (·.1)).length<=sizeLine:=by rw [Yf,Va]; omega
 refine Znh I.kIn O c.sa c.po n.taker c.hd wi hz λh' O' sb=>h _ ?_
 have hd:∃ o,h'.get? dx=some o:=let ⟨o,_,_,e',_⟩:=O'.ns; ⟨o,e'⟩
 refine I.write (x:=a) (e:=dx) (by rw [e]; exact True.intro) (.inr ho) (λb q hb z=>(sb.2 b hb).trans z) hd ?_
 refine⟨by rw [Zg O.ne]; exact ho,?_,O.ne,O'.obj,_,O'.ns,λg=>?_,λg hg=>?_⟩
 ·have:=Zdy f y fs; omega
 ·show JT ((J0 f y fs).lookup g) (if g=f then some u else mA g)
  rw [ZdF]
  by_cases q:g=f
  ·rw [if_pos q,if_pos q]; exact ry
  ·rw [if_neg q,if_neg q]; exact r g
 ·by_cases q:g=f
  ·rw [q]; exact (ZdA f y fs).1
  ·refine (ZdA f y fs).2 g (wi g λz=>hg ?_)
   show (if g=f then some u else mA g)=none
   rw [if_neg q]; exact z
def Inv.made(I:Inv X pins σ H s):Inv X pins σ (upd (upd H s.heap.objs.size (.own (s.heap.objs.size + 1))) (s.heap.objs.size + 1) (.ins C s.heap.objs.size []))
  { s with heap:=(s.heap.push emptyDict).push (instObj C s.heap.objs.size) }:=by
 have e1:(s.heap.push emptyDict).get? s.heap.objs.size=some emptyDict:=Yo s.heap rfl
 have e2:((s.heap.push emptyDict).push (instObj C s.heap.objs.size)).get? (s.heap.objs.size + 1)=some (instObj C s.heap.objs.size):=by
  have:=Yo (s.heap.push emptyDict) (o:=instObj C s.heap.objs.size) rfl
  rwa [VZ] at this
 have e3:(s.heap.push emptyDict).Ns s.heap.objs.size (λ_=>none):=⟨emptyDict,#[],_,e1,rfl,(λe he=>absurd he (by simp)),λ_=>rfl⟩
 have I1:=I.laid (a:=s.heap.objs.size) (o:=.own (s.heap.objs.size + 1)) (h':=s.heap.push emptyDict) (t':=s.toks) (λb u q=>Yi _ q) (Yd _) ⟨_,e1⟩
 refine I1.laid (a:=s.heap.objs.size + 1) (o:=.ins C s.heap.objs.size []) (t':=s.toks) (λb u q=>Yi _ q) (Nat.le_of_eq (VZ _ _)) ?_
 have ne:s.heap.objs.size ≠ s.heap.objs.size + 1:=Yn (VG _)
 refine⟨by rw [Zg ne,Zf],YF _,ne,e2,λ_=>none,(Heap.Ns1.of_empty e3).at λo q=>Yi _ q,λ_=>True.intro,λy hy=>absurd rfl hy⟩
def Zn8{prog:Program}{env:Env}{e:Expr}{f:Str}{pos:Pos}{Q:VSP}(hb:attributeBase e f env (eval e env)=eval e env)
  (h:wpAny (model prog w) A (eval e env) (λo s₁=>wpAny (model prog w) A (getAttr o f true) Q E s₁) E s):wpAny (model prog w) A (eval (.Attribute e f pos) env) Q E s :=
 Attribute_any_ h (by rw [arm_eval_Attribute,hb])
end
def Zq2(K:PySem.W.Frag)(ta:TE)(f:Str):TE:=λσ H Q=>ta σ H λx H1=>∃ a C dx fs v,x=.ref a/\H1 a=some (.ins C dx fs)/\Cls K C/\JG K C f/\fs.lookup f=some v/\Q v H1
def Zq3(K:PySem.W.Frag)(ta tv:TE)(f:Str):TS:=λD σ H=>tv σ H λy H1=>ta σ H1 λx H2=>∃ a C dx fs,x=.ref a/\H2 a=some (.ins C dx fs)/\Cls K C/\JG K C f/\fs.length < 1000 /\
 D.nx σ (upd H2 a (.ins C dx (J0 f y fs)))
section
variable {X:Cx}{o e value:Expr}{f:Str}{pos pos' tpos:Pos}{ta tv:TE}
def Zqs(he:PE X e ta)(hb:attributeBase e f X.env (eval e X.env)=eval e X.env):PE X (.Attribute e f pos) (Zq2 X.K ta f):=by
 intro pins s σ H Q I h
 refine Zn8 hb (ZZ (he pins s σ H _ I h) λu s1 ⟨x,H1,I1,rx,a,C,dx,fs,v,ex,ea,c,n,l,q⟩=>?_)
 subst ex
 obtain rfl:u=Value.ref a:=rx
 exact ZhA I1 ea c n l λu' s2 I2 ru=>⟨v,H1,I2,ru,q⟩
def ZqT(ha:PE X o ta)(hv:PE X value tv)(hs:swapsWith value (some (.Attribute o f pos')) pos.line X.env=pure false):PS X (.Assign [.Attribute o f pos'] value pos) (Zq3 X.K ta tv f):=by
 intro pins s σ H D I h
 refine plainObj_wpAny_Assign_Attribute (ZZ (hv pins s σ H _ I h) λu s1 ⟨y,H1,I1,ry,q⟩=>ZZ (ha pins s1 σ H1 _ I1 q) λov s2 ⟨x,H2,I2,rx,a,C,dx,fs,ex,ea,c,n,l,q2⟩=>?_) hs
 subst ex
 obtain rfl:ov=Value.ref a:=rx
 exact Zhu I2 ea c n l ry λs3 I3=>⟨σ,_,I3,q2⟩
end
section
variable {X:Cx}{pins:List (Addr × Obj)}{σ:St}{H:Hp}{s:Shared}{A:Around}{E:VSP}{Q:VSP}{c:Value}{b:Bool}
inductive TyOf (K:PySem.W.Frag) (H:Hp):V->Value->Prop where
 | non:TyOf K H .non (.type "NoneType")
 | bl (x:Bool):TyOf K H (.bl x) (.type "bool")
 | int (i:Int):TyOf K H (.int i) (.type "int")
 | str (x:Str):TyOf K H (.str x) (.type "str")
 | flt (x:UInt64):TyOf K H (.flt x) (.type "float")
 | lst {a:Addr}{xs:List V}(e:H a=some (.lst xs)):TyOf K H (.ref a) (.type "list")
 | frz {a:Addr}{o:Obj}{xs:List V}(e:H a=some (.frz o (.lst xs))):TyOf K H (.ref a) (.type "list")
 | tup {a:Addr}{xs:List V}(e:H a=some (.tup xs)):TyOf K H (.ref a) (.type "tuple")
 | dK {a:Addr}{kvs:List (ZQ × V)}(e:H a=some (.dK kvs)):TyOf K H (.ref a) (.type "dict")
 | dT {a:Addr}{kvs:List (List ZQ × V)}(e:H a=some (.dT kvs)):TyOf K H (.ref a) (.type "dict")
 | ins {a C dx:Addr}{fs:List (Str × V)}(e:H a=some (.ins C dx fs)) (cl:Cls K C) (ha:PySem.W.findIn K (.ref C) "__class__"=some (some (.builtin "object.__class__")))
   (hn:PySem.W.specialIn K (.builtin "object.__class__") "__get__"=some (some (.builtin "getset_descriptor.__get__"))) (htk:PySem.W.takesIn K (.builtin "object.__class__")=some true)
   (hm:PySem.W.mroIn K C (.type "object")=some true):TyOf K H (.ref a) (.ref C)
def Ziu{x:V}{u t:Value}(I:Inv X pins σ H s)(rx:Zt x u)(ty:TyOf X.K H x t)(e:kitOne X.K t c=some b)(h:∀ tk,Q (.bool b) { s with toks:=tk }) :
  wpAny (model X.prog X.w) A (call (.builtin "isinstance") [u,c]) Q E s:=by
 cases ty with
 | non=>cases (show u=Value.none from rx); exact kia_one PySem.W.kitx_none I.kIn True.intro e (λz=>nomatch z) h
 | bl y=>cases (show u=Value.bool y from rx); exact kia_one PySem.W.kitx_bool I.kIn True.intro e (λz=>nomatch z) h
 | int i=>obtain⟨t,q⟩:=(show ∃ t,u=Value.int i t from rx); cases q; exact kia_one PySem.W.kitx_int I.kIn True.intro e (λz=>nomatch z) h
 | str y=>obtain⟨t,q⟩:=(show ∃ t,u=Value.str y t from rx); cases q; exact kia_one PySem.W.kitx_str I.kIn True.intro e (λz=>nomatch z) h
 | flt y=>obtain⟨t,q⟩:=(show ∃ t,u=Value.float y t from rx); cases q; exact kia_one PySem.W.kitx_float I.kIn True.intro e (λz=>nomatch z) h
 | @lst a xs ea =>
  cases (show u=Value.ref a from rx)
  obtain⟨_,_,n,_,h1⟩:=(show ZR X.prog X.w H s.heap a (.lst xs) from I.hok a _ ea)
  exact kia_one kitx_list I.kIn ⟨_,h1,rfl⟩ e (λz=>nomatch z) h
 | @frz a ob xs ea =>
  cases (show u=Value.ref a from rx)
  obtain⟨_,_,_,n,_,h1⟩:=(show ZR X.prog X.w H s.heap a (.frz ob (.lst xs)) from I.hok a _ ea)
  exact kia_one kitx_list I.kIn ⟨_,h1,rfl⟩ e (λz=>nomatch z) h
 | @tup a xs ea =>
  cases (show u=Value.ref a from rx)
  obtain⟨_,_,_,p⟩:=(show ZR X.prog X.w H s.heap a (.tup xs) from I.hok a _ ea)
  obtain⟨o,h1,h2,_⟩:=p
  exact kia_one PySem.W.kitx_tuple I.kIn ⟨o,h1,h2⟩ e (λz=>nomatch z) h
 | @dK a kvs ea =>
  cases (show u=Value.ref a from rx)
  obtain⟨_,_,vs,_,p⟩:=(show ZR X.prog X.w H s.heap a (.dK kvs) from I.hok a _ ea)
  obtain⟨o,es,ep,h1,h2,_⟩:=p
  exact kia_one kitx_dict I.kIn ⟨o,h1,h2.1⟩ e (λz=>nomatch z) h
 | @dT a kvs ea =>
  cases (show u=Value.ref a from rx)
  obtain⟨_,_,xs,_,o,es,ep,h1,h2,_⟩:=(show ZR X.prog X.w H s.heap a (.dT kvs) from I.hok a _ ea)
  exact kia_one kitx_dict I.kIn ⟨o,h1,h2.1⟩ e (λz=>nomatch z) h
 | @ins a C dx fs ea cl ha hn htk hm =>
  cases (show u=Value.ref a from rx)
  obtain⟨mA,O,_⟩:=ZeV I.hok ea
  obtain⟨od,J,_⟩:=O.look
  exact kia_one (PySem.W.kitx_own (cl.get _) cl.hd ha hn htk hm) I.kIn J e (λz=>nomatch z) h
end
structure Room(k:Nat)(A:Around):Prop where
 hd:A.handled=none
 dp:A.depth + 3 * k + 5 < recursionLimit
 un:A.units + 16 * k + 200 < cLine
def Room.mono{j k:Nat}(r:Room k A)(h:j<=k):Room j A:=⟨r.hd,by have:=r.dp; omega,by have:=r.un; omega⟩
variable {k:Nat}
theorem Room.deeper(r:Room (k + 1) A)(env:Env):Room k (A.deeper env) :=
 ⟨r.hd,by have:=r.dp; show A.depth + 1 + 3 * k + 5 < _; omega,by have:=r.un; show A.units + 3 + 16 * k + 200 < _; omega⟩
theorem Room.in1(r:Room (k + 1) A):Room k A.in1 :=
 ⟨r.hd,by have:=r.dp; show A.depth + 3 * k + 5 < _; omega,by have:=r.un; show A.units + 1 + 16 * k + 200 < _; omega⟩
def ZhQ{C:Addr}{kw:List (Str × Value)}:(A.under (.builtin "type.__call__" ⟨.ref C :: us,kw⟩)).depth=A.depth + 1:=by
 first | rfl | simp [Around.under,Code.weight,Code.isCreation,Code.isGuard,Code.isCaller,Code.frames,Code.isFrame,guardIds]
def Zhv{C:Addr}{kw:List (Str × Value)}:(A.under (.builtin "type.__call__" ⟨.ref C :: us,kw⟩)).units=A.units + 1:=by
 first | rfl | simp [Around.under,Code.cUnits,Code.frames,Code.isFrame]
def Room.make(r:Room (k + 1) A)(C:Addr)(us:List Value)(kw:List (Str × Value)):Room k (A.under (.builtin "type.__call__" ⟨.ref C :: us,kw⟩)) :=
 ⟨r.hd,by have:=r.dp; rw [ZhQ]; omega,by have:=r.un; rw [Zhv]; omega⟩
def Room.depth(r:Room k A):A.depth < recursionLimit:=by have:=r.dp; omega
theorem Room.units(r:Room k A):A.units + 64 < cLine:=by have:=r.un; omega
def ZoR:TA:=λ_ H Q=>Q [] H
def Zh5(ta:TE)(tr:TA):TA:=λσ H Q=>ta σ H λx H1=>tr σ H1 λxs H2=>Q (x :: xs) H2
section
variable {X:Cx}{e:Expr}{es:List Expr}{te:TE}{t:TA}{pos:Pos}
def ZmB:PA X [] ZoR:=λ_ _ _ _ H Q I h=>Yad ⟨[],H,I,.nil,h⟩
def Zit(ha:PE X e te)(hr:PA X es t)(hs:starEach (e :: es) X.env=(false,eval e X.env) :: starEach es X.env:=by rfl):PA X (e :: es) (Zh5 te t):=by
 intro pos pins s σ H Q I h
 rw [hs]
 show wpAny _ _ (spliced ((false,eval e X.env) :: backTo pos (starEach es X.env))) _ _ s
 refine VF (ZZ (ha pins s σ H _ I h) λu s1 ⟨x,H1,I1,r1,q1⟩=>?_)
 exact ZZ (hr pos pins s1 σ H1 _ I1 q1) λus s2 ⟨xs,H2,I2,r2,q2⟩=>⟨x :: xs,H2,I2,.cons r1 r2,q2⟩
end
abbrev Sp:=List V->Hp->VK->XK->Prop
abbrev CXT:=List Env->Hp->Shared->XK->Value->Shared->Prop
structure Env0(P:Program)(w:World)(K:PySem.W.Frag)(mg:Str->Option Value)(base:Heap)(A:Around)(outer:List Env)(s:Shared)(H:Hp):Prop where
 frames:A.frames=some outer
 mod:Mod K mg base
 bs:∀ b o,base.get? b=some o->s.heap.get? b=some o/\H b=none
 bsz:base.objs.size<=s.heap.objs.size
 funs:s.heap.FunFrames base outer
 frf:∀ b∈frs outer,H b=none
 hok:HOk P w H s.heap
 bare:AllBare s.gens
def CE(outer:List Env)(P:Program)(w:World)(H:Hp)(s:Shared)(Q:VK)(u:Value)(s':Shared):Prop :=
 ∃ v H',s'.os=s.os/\AllBare s'.gens/\Un (frs outer) [] H H' s.heap s'.heap/\HOk P w H' s'.heap/\Zt v u/\Q v H'
def CR(CX:CXT)(outer:List Env)(P:Program)(w:World)(H:Hp)(s:Shared)(Q:VK)(E:XK)(r:Result)(s':Shared):Prop :=
 match r with
 | .ok (.ret u)=>CE outer P w H s Q u s'
 | .ok _=>False
 | .error e=>CX outer H s E e s'
structure FnOk(P:Program)(w:World)(K:PySem.W.Frag)(mg:Str->Option Value)(base:Heap)(CX:CXT)(k:Nat)(f:Addr)(fd:FuncData)(ps:List Str)(sp:Sp):Prop where
 len:∀ vs H Q E,sp vs H Q E->vs.length=ps.length
 run:∀ (A:Around) (outer:List Env) (s:Shared) (H:Hp) (args:Args) (us:List Value) (vs:List V) (Q:VK) (E:XK),Room k A->Env0 P w K mg base A outer s H->BindsTo s fd args (ps.zip us)->Zq vs us->sp vs H Q E ->
  codeAny (model P w) A (.call (.ref f) args) (CR CX outer P w H s Q E) s
variable {mg:Str->Option Value}
def FnOk.mono{base:Heap}{CX:CXT}{j k:Nat}{f:Addr}{fd:FuncData}{ps:List Str}{sp:Sp}(F:FnOk P w K mg base CX j f fd ps sp)(h:j<=k) :
  FnOk P w K mg base CX k f fd ps sp:=⟨F.len,λA outer s H args us vs Q E hr=>F.run A outer s H args us vs Q E (hr.mono h)⟩
def FnOk.imp{base:Heap}{CX:CXT}{f:Addr}{fd:FuncData}{ps:List Str}{sp sp':Sp}(F:FnOk P w K mg base CX k f fd ps sp)
  (h:∀ vs H Q E,sp' vs H Q E->sp vs H Q E):FnOk P w K mg base CX k f fd ps sp' :=
 ⟨λvs H Q E q=>F.len vs H Q E (h _ _ _ _ q),λA outer s H args us vs Q E hr he hb hv hs=>F.run A outer s H args us vs Q E hr he hb hv (h _ _ _ _ hs)⟩
def Env0.make{base:Heap}{outer:List Env}(e:Env0 P w K mg base A outer s H)(C:Addr)(us:List Value)(kw:List (Str × Value)) :
  Env0 P w K mg base (A.under (.builtin "type.__call__" ⟨.ref C :: us,kw⟩)) outer s H:=⟨by first | exact e.frames | (simpa [Around.under,Code.envs,Code.isFrame,pushEnvs] using e.frames),e.mod,e.bs,e.bsz,e.funs,e.frf,e.hok,e.bare⟩
theorem Env0.in1{base:Heap}{outer:List Env}(e:Env0 P w K mg base A outer s H) :
  Env0 P w K mg base A.in1 outer s H:=⟨e.frames,e.mod,e.bs,e.bsz,e.funs,e.frf,e.hok,e.bare⟩
section
variable {X:Cx}{pins:List (Addr × Obj)}{σ:St}{H:Hp}{s s':Shared}
def Inv.env0(I:Inv X pins σ H s):Env0 X.prog X.w X.K X.mg X.base X.A X.stack s H :=
 ⟨I.ok.frames,I.ok.mod,I.bs,Yj I.ok.bsz I.sz,I.stack,I.stkFree,I.hok,I.bare⟩
def Inv.after{Q:VK}(I:Inv X pins σ H s)(h:CE X.stack X.prog X.w H s Q u s'):EP X pins σ Q u s':=by
 obtain⟨v,H',os,bare,un,hok,r,q⟩:=h
 obtain⟨hh,g,d,t,os'⟩:=s'
 obtain rfl:os'=s.os:=os
 exact⟨v,H',I.call (h':=hh) (g':=g) (d':=d) (t':=t) (ch:=[]) un hok bare (λb z=>absurd z (by simp)),r,q⟩
end
def ZgH(sp:Sp)(dvs:List V)(E:XK)(t:TA):TE:=λσ H Q=>t σ H λvs H1=>sp (vs ++ dvs) H1 Q E
def ZhB(C:Addr)(m:Str)(sp:Sp)(dvs:List V)(E:XK)(ta:TE)(t:TA):TE:=λσ H Q=>ta σ H λx H1=>∃ a dx fs,x=.ref a/\H1 a=some (.ins C dx fs)/\fs.lookup m=none /\
 t σ H1 λvs H2=>sp (x :: (vs ++ dvs)) H2 Q E
def ZlB(C:Addr)(sp:Sp)(dvs:List V)(E:XK)(t:TA):TE:=λσ H Q=>t σ H λvs H1=>∀ x dx,H1 x=none->H1 dx=none->dx ≠ x ->
 sp (.ref x :: (vs ++ dvs)) (upd (upd H1 dx (.own x)) x (.ins C dx [])) (λv H2=>v=.non/\Q (.ref x) H2) E
def ZY(K:PySem.W.Frag)(fd:FuncData)(ps:List Str)(ds:List Value):Prop :=
 ∀ (s:Shared) (us:List Value),K.In s.heap->(us ++ ds).length=ps.length->BindsTo s fd ⟨us,[]⟩ (ps.zip (us ++ ds))
theorem ZY.all{fd:FuncData}{ps:List Str}(h:∀ us:List Value,us.length=ps.length->bindArgs fd ⟨us,[]⟩=pure (ps.zip us)):ZY K fd ps []:=λs us _ hl=>by
 rw [Vx] at hl ⊢
 exact .of_eq (h us hl)
def Zdo(CX:CXT)(X:Cx)(E:XK):Prop:=∀ (pins:List (Addr × Obj)) (σ:St) (H:Hp) (s:Shared) (e:Value) (s':Shared),Inv X pins σ H s->CX X.stack H s E e s'->X.xe e s'
section
variable {X:Cx}{CX:CXT}{k:Nat}{f C:Addr}{fd:FuncData}{ps:List Str}{sp:Sp}{dvs:List V}{ds:List Value}{E:XK}{x m:Str}{p pos apos:Pos}{e o:Expr}{es:List Expr}{ta:TE}{t:TA}
def Zjh{Q:VK}{vs:List V}(F:FnOk X.prog X.w X.K X.mg X.base CX k f fd ps sp)(hr:Room k X.A)(hb:ZY X.K fd ps ds)(hd:Zq dvs ds)(hx:Zdo CX X E)
  (I:Inv X pins σ H s) (r:Zq vs us) (h:sp (vs ++ dvs) H Q E):wpAny (model X.prog X.w) X.A (call (.ref f) us) (EP X pins σ Q) X.xe s:=by
 have r2:Zq (vs ++ dvs) (us ++ ds):=r.append hd
 have hl:(us ++ ds).length=ps.length:=by rw [<- r2.length]; exact F.len _ _ _ _ h
 refine wpAny_call (Y3 (F.run X.A X.stack s H ⟨us,[]⟩ (us ++ ds) (vs ++ dvs) Q E hr I.env0 (hb s us I.kIn hl) r2 h) λr s' hq=>?_)
 cases r with
 | error e=>exact hx pins σ H s e s' I hq
 | ok fl =>
  cases fl with
  | ret u=>exact I.after hq
  | next=>exact False.elim hq
  | brk=>exact False.elim hq
  | cont=>exact False.elim hq
def Znb(F:FnOk X.prog X.w X.K X.mg X.base CX k f fd ps sp)(hr:Room k X.A)(hg:Gl X x)(hm:X.mg x=some (.ref f))(hk:keepIn X.K (.ref f)=true)(hb:ZY X.K fd ps ds)(hd:Zq dvs ds)(hx:Zdo CX X E)
  (ha:PA X (e :: es) t) (hdb:(x == ("__debug__":Str))=false:=by decide) (he:starEach (e :: es) X.env=(false,eval e X.env) :: starEach es X.env:=by rfl) (hpl:(backTo pos (starEach es X.env)).any (·.1)=false:=by rfl) :
  PE X (.Call (.Name x p) (e :: es) [] pos) (ZgH sp dvs E t):=by
 intro pins s σ H Q I h
 refine Vf (Zgv I hg hm ?_ hdb)
 refine callWith_K (h₀:=X.base) I.ok.mod.kin hk (ZZ (ha pos pins s σ H _ I h) λus s1 ⟨vs,H1,I1,r,q⟩=>⟨I1.kIn,?_⟩) he hpl
 exact Zjh F hr hb hd hx I1 r q
def Zoq{pl:Sem Bool}(he:PE X o ta)(c:Cls X.K C)(hm:Meth X.K C m f)(F:FnOk X.prog X.w X.K X.mg X.base CX k f fd ps sp)(hr:Room k X.A)(hb:ZY X.K fd ps ds)(hd:Zq dvs ds)(hx:Zdo CX X E)(ha:PA X (e :: es) t)
  (hst:starEach (e :: es) X.env=(false,eval e X.env) :: starEach es X.env:=by rfl) (hpl:(backTo pos (starEach es X.env)).any (·.1)=false:=by rfl)
  (ht:eval (.Call (.Attribute o m apos) (e :: es) [] pos) X.env=(do
   let ov <- eval o X.env
   standAt apos.atName
   let (f,first) <- holding [ov] (getMethod ov m pl)
   callWith pos f first (backTo pos (starEach (e :: es) X.env)) (backToKw pos (keywordEach [] X.env))):=by rfl) :
  PE X (.Call (.Attribute o m apos) (e :: es) [] pos) (ZhB C m sp dvs E ta t):=by
 intro pins s σ H Q I h
 refine methodCall_KW (pl:=pl) (ZZ (he pins s σ H _ I h) λu s1 ⟨x,H1,I1,rx,a,dx,fs,ex,ea,l,q⟩=>?_) ht
 subst ex
 obtain rfl:u=Value.ref a:=rx
 refine Zeu I1 ea c hm l ?_
 refine callWith_K (first:=[.ref a]) (h₀:=X.base) I.ok.mod.kin hm.kp (ZZ (ha pos pins s1 σ H1 _ I1 q) λus s2 ⟨vs,H2,I2,r,q2⟩=>⟨I2.kIn,?_⟩) hst hpl
 exact Zjh (us:=.ref a :: us) (vs:=.ref a :: vs) F hr hb hd hx I2 (.cons rfl r) q2
def Zlk{pl:Sem Bool}(he:PE X o ta)(c:Cls X.K C)(hm:Meth X.K C m f)(F:FnOk X.prog X.w X.K X.mg X.base CX k f fd ps sp)(hr:Room k X.A)(hb:ZY X.K fd ps ds)(hd:Zq dvs ds)(hx:Zdo CX X E)
  (ht:eval (.Call (.Attribute o m apos) [] [] pos) X.env=(do
   let ov <- eval o X.env
   standAt apos.atName
   let (f,first) <- holding [ov] (getMethod ov m pl)
   callWith pos f first (backTo pos (starEach [] X.env)) (backToKw pos (keywordEach [] X.env))):=by rfl) :
  PE X (.Call (.Attribute o m apos) [] [] pos) (ZhB C m sp dvs E ta ZoR):=by
 intro pins s σ H Q I h
 refine methodCall_KW (pl:=pl) (ZZ (he pins s σ H _ I h) λu s1 ⟨x,H1,I1,rx,a,dx,fs,ex,ea,l,q⟩=>?_) ht
 subst ex
 obtain rfl:u=Value.ref a:=rx
 refine Zeu I1 ea c hm l ?_
 exact PySem.W.callWith_K0 (first:=[.ref a]) I1.kIn hm.kp (Zjh (us:=[.ref a]) (vs:=[.ref a]) F hr hb hd hx I1 (.cons rfl .nil) q)
structure Mk(K:PySem.W.Frag)(C f:Addr):Prop where
 makes:makesIn K C=true
 init:PySem.W.findIn K (.ref C) "__init__"=some (some (.ref f))
 fn:isFn K (.ref f)=true
 kp:keepIn K (.ref C)=true
def ZlA{Q:VK}{vs:List V}(M:Mk X.K C f)(F:FnOk X.prog X.w X.K X.mg X.base CX k f fd ps sp)(hr:Room (k + 1) X.A)(hb:ZY X.K fd ps ds)(hd:Zq dvs ds)
  (hx:Zdo CX X E) (I:Inv X pins σ H s) (r:Zq vs us)
  (h:∀ x dx,H x=none->H dx=none->dx ≠ x->sp (.ref x :: (vs ++ dvs)) (upd (upd H dx (.own x)) x (.ins C dx [])) (λv H2=>v=.non/\Q (.ref x) H2) E) :
  wpAny (model X.prog X.w) X.A (call (.ref C) us) (EP X pins σ Q) X.xe s:=by
 have hq:=h (s.heap.objs.size + 1) s.heap.objs.size (I.hok.fresh (Vz _)) (I.hok.fresh (Yd _)) (Yn (VG _))
 have I2:=Inv.made (C:=C) I
 have r2:Zq (V.ref (s.heap.objs.size + 1) :: (vs ++ dvs)) (Value.ref (s.heap.objs.size + 1) :: (us ++ ds)):=.cons rfl (r.append hd)
 have hl:(Value.ref (s.heap.objs.size + 1) :: us ++ ds).length=ps.length:=by
  have e:=r2.length
  rw [F.len _ _ _ _ hq] at e
  exact e.symm
 refine wpAny_call (Zmf (f:=f) I.kIn M.makes M.init (beq_iff_eq.mp M.fn) (Y3 (F.run _ X.stack _ _ ⟨Value.ref (s.heap.objs.size + 1) :: us,[]⟩ (Value.ref (s.heap.objs.size + 1) :: (us ++ ds)) _ _ E (hr.make C us [])
  (I2.env0.make C us []) (hb _ (Value.ref (s.heap.objs.size + 1) :: us) I2.kIn hl) r2 hq) λr s' hq'=>?_))
 cases r with
 | error e=>exact hx pins σ _ _ e s' I2 hq'
 | ok fl =>
  cases fl with
  | ret u =>
   obtain⟨v,H',I3,rv,ev,q3⟩:=I2.after hq'
   subst ev
   exact⟨rv,⟨V.ref (s.heap.objs.size + 1),H',I3,rfl,q3⟩⟩
  | next=>exact False.elim hq'
  | brk=>exact False.elim hq'
  | cont=>exact False.elim hq'
def Zno(M:Mk X.K C f)(F:FnOk X.prog X.w X.K X.mg X.base CX k f fd ps sp)(hr:Room (k + 1) X.A)(hg:Gl X x)(hm:X.mg x=some (.ref C))(hb:ZY X.K fd ps ds)(hd:Zq dvs ds)(hx:Zdo CX X E)
  (ha:PA X (e :: es) t) (hdb:(x == ("__debug__":Str))=false:=by decide) (he:starEach (e :: es) X.env=(false,eval e X.env) :: starEach es X.env:=by rfl) (hpl:(backTo pos (starEach es X.env)).any (·.1)=false:=by rfl) :
  PE X (.Call (.Name x p) (e :: es) [] pos) (ZlB C sp dvs E t):=by
 intro pins s σ H Q I h
 refine Vf (Zgv I hg hm ?_ hdb)
 refine callWith_K (h₀:=X.base) I.ok.mod.kin M.kp (ZZ (ha pos pins s σ H _ I h) λus s1 ⟨vs,H1,I1,r,q⟩=>⟨I1.kIn,?_⟩) he hpl
 exact ZlA M F hr hb hd hx I1 r q
end
def PK(X:Cx)(kws:List Keyword)(t:TA):Prop :=
 ∀ (pos:Pos) (pins:List (Addr × Obj)) (s:Shared) (σ:St) (H:Hp) (Q:List V->Hp->Prop),Inv X pins σ H s->t σ H Q->wpAny (model X.prog X.w) X.A (evalAll ((backToKw pos (keywordEach kws X.env)).map (·.2))) (AP X pins σ Q) X.xe s
section
variable {X:Cx}{CX:CXT}{k:Nat}{f C:Addr}{fd:FuncData}{ps ks:List Str}{sp:Sp}{E:XK}{x m:Str}{p pos apos kpos:Pos}{e o:Expr}{es:List Expr}{kws:List Keyword}{te ta:TE}{t tk:TA}{nm:Option Str}
def ZpN:PK X [] ZoR:=λ_ _ _ _ H Q I h=>wpAny_evalAll_nil ⟨[],H,I,.nil,h⟩
def Zj3(ha:PE X e te)(hr:PK X kws t):PK X (⟨nm,e,kpos⟩ :: kws) (Zh5 te t):=by
 intro pos pins s σ H Q I h
 show wpAny _ _ (evalAll ((do let v <- eval e X.env; standAt pos; pure v) :: (backToKw pos (keywordEach kws X.env)).map (·.2))) _ _ s
 refine wpAny_evalAll_cons (Ya (ZZ (ha pins s σ H _ I h) λu s1 ⟨x,H1,I1,r1,q1⟩=>Ya (wpAny_standAt (Yc ?_))))
 exact ZZ (hr pos pins s1 σ H1 _ I1 q1) λus s2 ⟨xs,H2,I2,r2,q2⟩=>⟨x :: xs,H2,I2,.cons r1 r2,q2⟩
structure KBinds(K:PySem.W.Frag)(fd:FuncData)(ps ks:List Str)(g:List Value->List Value->List Value)(gV:List V->List V->List V):Prop where
 to:∀ (s:Shared) (us ws:List Value),K.In s.heap->(g us ws).length=ps.length->BindsTo s fd ⟨us,ks.zip ws⟩ (ps.zip (g us ws))
 rel:∀ {vs:List V}{us:List Value}{zs:List V}{ws:List Value},Zq vs us->Zq zs ws->Zq (gV vs zs) (g us ws)
variable {g:List Value->List Value->List Value}{gV:List V->List V->List V}
end
structure FnScope(N P:List Str)(sc:Scope):Prop where
 kind:sc.kind=.function
 co:sc.isCoroutine=false
 gen:sc.isGenerator=false
 nd:N.Nodup
 pre:N.take P.length=P
 par:∀ x∈P,sc.names.lookup x=some .local\/sc.names.lookup x=some .cell
 nofree:∀ y∈sc.names,y.2 ≠ .free
variable {kindOf:Str->Option NameKind}{x:Str}
def Zfp:∀ {binds:List (Str × Value)}{m:Str->Option Value},(∀ v,(x,v) ∉ binds)->bindL kindOf binds m x=m x
 | [],_,_=>rfl
 | (n,v) :: r,m,h=>by
  unfold bindL
  rw [Zfp λw hw=>h w (Vd _ hw)]
  split
  ·have:x ≠ n:=by rintro rfl; exact h v Vt
   simp [this]
  ·rfl
def ZfE:∀ {binds:List (Str × Value)}{m:Str->Option Value},(∀ v,(x,v) ∉ binds)->bindC kindOf binds m x=m x
 | [],_,_=>rfl
 | (n,v) :: r,m,h=>by
  unfold bindC
  rw [ZfE λw hw=>h w (Vd _ hw)]
  split
  ·rfl
  ·have:x ≠ n:=by rintro rfl; exact h v Vt
   simp [this]
theorem ZfH{v:Value}:∀ {P:List Str}{vs:List Value}{i:Nat}{m:Str->Option Value},P.Nodup->P[i]?=some x->vs[i]?=some v->kindOf x=some .local ->
  bindL kindOf (P.zip vs) m x=some v
 | [],_,_,_,_,h,_,_=>by simp at h
 | _ :: _,[],_,_,_,_,h,_=>by simp at h
 | p :: P,w :: vs,0,m,nd,h1,h2,hk=>by
  simp at h1 h2; subst h1; subst h2
  show bindL kindOf ((p,w) :: P.zip vs) m p=_
  unfold bindL
  rw [Zfp λv hv=>(Y7.mp nd).1 (VX hv).1,if_pos hk]
  simp
 | p :: P,w :: vs,i + 1,m,nd,h1,h2,hk=>by
  show bindL kindOf ((p,w) :: P.zip vs) m x=_
  unfold bindL
  exact ZfH (i:=i) (List.nodup_cons.mp nd).2 (by simpa using h1) (by simpa using h2) hk
theorem Zf8{v:Value}:∀ {P:List Str}{vs:List Value}{i:Nat}{m:Str->Option Value},P.Nodup->P[i]?=some x->vs[i]?=some v->kindOf x ≠ some .local ->
  bindC kindOf (P.zip vs) m x=some v
 | [],_,_,_,_,h,_,_=>by simp at h
 | _ :: _,[],_,_,_,_,h,_=>by simp at h
 | p :: P,w :: vs,0,m,nd,h1,h2,hk=>by
  simp at h1 h2; subst h1; subst h2
  show bindC kindOf ((p,w) :: P.zip vs) m p=_
  unfold bindC
  rw [ZfE λv hv=>(Y7.mp nd).1 (VX hv).1,if_neg hk]
  simp
 | p :: P,w :: vs,i + 1,m,nd,h1,h2,hk=>by
  show bindC kindOf ((p,w) :: P.zip vs) m x=_
  unfold bindC
  exact Zf8 (i:=i) (List.nodup_cons.mp nd).2 (by simpa using h1) (by simpa using h2) hk
def Zu(N:List Str)(vs:List V):St:=vs.map some ++ List.replicate (N.length - vs.length) none
def Zif(CX:CXT)(P:Program)(w:World)(K:PySem.W.Frag)(mg:Str->Option Value)(base:Heap)(N:List Str)(qual:Str)(scope:Scope)(f:Addr)(cd:Value)(A:Around)(outer:List Env)(s:Shared)(H:Hp)(E:XK):Cx where
 prog:=P
 w:=w
 K:=K
 mg:=mg
 base:=base
 A:=A.deeper (envOfC qual scope s.heap.objs.size f cd)
 N:=N
 s₀:=s
 H₀:=H
 env:=envOfC qual scope s.heap.objs.size f cd
 outer:=outer
 stack:=envOfC qual scope s.heap.objs.size f cd :: outer
 ex:=[]
 calm:=true
 fn:=λ_=>true
 pn:=[]
 xe:=λe s'=>wpAny (model P w) (A.deeper (envOfC qual scope s.heap.objs.size f cd)) (leaving (envOfC qual scope s.heap.objs.size f cd) e) (λ_ s''=>CX outer H s E e s'') (λe' s''=>CX outer H s E e' s'') s'
def Zg2{sc:Scope}{n:Nat}(h:sc.names.lookup x=some .cell):∃ c,(cellsFrom n sc.names []).lookup x=some c:=by
 have q:=cellsFrom_some sc.names n [] (.inl h)
 exact Option.isSome_iff_exists.mp q
def Zip{CX:CXT}{base:Heap}{N ps:List Str}{qual:Str}{scope:Scope}{f:Addr}{cd:Value}{outer:List Env}{s s1:Shared}{E:XK}{vs:List V}
  (S:FnScope N ps scope) (hd:A.handled=none) (e0:Env0 P w K mg base A outer s H) (hl:vs.length=ps.length) (r:Zq vs us)
  (x:InCallC s s.heap.objs.size (bindL (envOfC qual scope s.heap.objs.size f cd).kindOf (ps.zip us) λ_=>none) (cellsFrom (s.heap.objs.size + 1) scope.names []) (bindC (envOfC qual scope s.heap.objs.size f cd).kindOf (ps.zip us) λ_=>none) s1) :
  Inv (Zif CX P w K mg base N qual scope f cd A outer s H E) [] (Zu N vs) H s1:=by
 have hpl:ps.length<=N.length:=by have:=congrArg List.length S.pre; rw [Yz] at this; omega
 obtain⟨h1,tk,rfl,hk⟩:=x.done
 have noA:∀ b:Addr,b ∉ (Zif CX P w K mg base N qual scope f cd A outer s H E).ex:=λb z=>absurd (show b∈([]:List Addr) from z) (by simp)
 refine⟨⟨e0.mod,S.kind,rfl,rfl,Yd _,λy z c h1 h2=>?_,λy hy=>?_,λy c _ h=>?_,λ_=>hd,Around.frames_deeper e0.frames,.inr ⟨rfl,rfl⟩,λb z=>absurd z (noA b),e0.bs,e0.bsz,λb _ _=>noA b,λb z=>absurd z (noA b),e0.funs,e0.frf⟩,
  rfl,e0.bare,Un.kept hk,⟨_,x.toInCall.ns,λi y v h1 h2 h3=>?_⟩,λy c h=>⟨_,x.cell y c h⟩,e0.hok.fresh (Nat.le_refl _),λy c h=>?_,λp hp=>absurd (show p∈([]:List (Addr × Obj)) from hp) (by simp),e0.hok.kept hk,?_⟩
 ·exact name_of_addr x.apart (Y4 h1) (Y4 h2)
 ·have hy:scope.names.lookup y=some .cell\/scope.names.lookup y=some .free:=hy
  rcases hy with hy | hy
  ·exact Zg2 hy
  ·exact absurd rfl (S.nofree _ (Y4 hy))
 ·exact Yp (x.above y c (Y4 h))
 ·have hi:i < vs.length:=by
   unfold Zu at h2
   by_cases hi:i < vs.length
   ·exact hi
   ·rw [List.getElem?_append_right (by simpa using hi)] at h2
    rw [List.getElem?_replicate] at h2
    split at h2 <;> cases h2
  have ha:vs[i]?=some v:=by
   unfold Zu at h2
   rw [List.getElem?_append_left (by simpa using hi),List.getElem?_map] at h2
   cases e:vs[i]? with
   | none=>rw [e] at h2; cases h2
   | some a=>rw [e] at h2; cases h2; rfl
  obtain⟨u,hu,rv⟩:=r.get ha
  have hp:ps[i]?=some y:=by
   rw [<- S.pre,List.getElem?_take_of_lt (by omega)]; exact h1
  have ndP:ps.Nodup:=by rw [<- S.pre]; exact S.nd.sublist (List.take_sublist _ _)
  refine⟨u,rv,?_⟩
  rcases S.par y (Ym hp) with k | k
  ·exact .inl ⟨k,ZfH ndP hp hu k⟩
  ·obtain⟨c,e⟩:=Zg2 (n:=s.heap.objs.size + 1) k
   refine .inr ⟨.inl k,c,e,?_⟩
   have q:=x.cell y c e
   rw [Zf8 ndP hp hu (by show scope.names.lookup y ≠ _; rw [k]; decide)] at q
   exact q
 ·exact e0.hok.fresh (Yp (x.above y c (Y4 h)))
 ·unfold Zu
  show _=N.length
  rw [YM,Yf,List.length_replicate]
  omega
def ZnM{CX:CXT}{base:Heap}{f:Addr}{name qual:Str}{params:Arguments}{body:List Stmt}{scope:Scope}{dV kV doc pm cdv ct oc:Value}{an od:Option Addr}
  {osl:Array (Option Value)}{N ps:List Str}{sp:Sp}(lk:K.lookup f=some ⟨oc,od,.func (fnOf name qual params body scope dV kV doc pm an cdv ct),osl⟩) (hcd:codeIn K cdv qual=true) (S:FnScope N ps scope)
  (len:∀ vs H Q E,sp vs H Q E->vs.length=ps.length)
  (hbody:∀ (A:Around) (outer:List Env) (s:Shared) (H:Hp) (vs:List V) (Q:VK) (E:XK),Room k (A.deeper (envOfC qual scope s.heap.objs.size f cdv))->sp vs H Q E ->
   ∃ t,PSs (Zif CX P w K mg base N qual scope f cdv A outer s H E) body t/\t { nx:=λ_ H'=>Q .non H',rt:=Q } (Zu N vs) H) :
  FnOk P w K mg base CX (k + 1) f (fnOf name qual params body scope dV kV doc pm an cdv ct) ps sp:=by
 refine⟨len,λA outer s H args us vs Q E hr e0 hb r hsp=>?_⟩
 have hl:=len _ _ _ _ hsp
 have KX:K.In s.heap:=e0.mod.kin.keeps λb o e=>(e0.bs b o e).1
 have lim:s.heap.NoLimit:=e0.mod.nolimit.keeps λb o e=>(e0.bs b o e).1
 have hkind:∀ y∈ps.zip us,scope.names.lookup y.1=some .local\/(scope.names.lookup y.1=some .cell/\((cellsFrom (s.heap.objs.size + 1) scope.names []).lookup y.1).isSome=true):=λ⟨n,v⟩ hy=>by
  rcases S.par n (VX hy).1 with q | q
  ·exact .inl q
  ·exact .inr ⟨q,cellsFrom_some _ _ _ (.inl q)⟩
 refine codeAny_call_function hr.depth (KX _ _ lk) rfl S.co S.gen rfl (PySem.W.codeRec_of KX hcd) (hb _ _ _ _ ?_)
 refine wpAny_newFunctionEnv_cells S.kind hkind λenv he s1 x=>?_
 subst he
 refine⟨lim.keeps x.toInCall.keep,codeAny_func ?_⟩
 obtain⟨t,ht,hq⟩:=hbody A outer s H vs Q E (hr.deeper _) hsp
 have I:Inv (Zif CX P w K mg base N qual scope f cdv A outer s H E) [] (Zu N vs) H s1:=Zip S hr.hd e0 hl r x
 refine Yx (ht [] s1 (Zu N vs) H _ I hq) (λfl s' hs=>?_) λe s' hs=>hs
 have fin:∀ {σ':St}{H':Hp}{v:V}{u:Value},Inv (Zif CX P w K mg base N qual scope f cdv A outer s H E) [] σ' H' s'->Zt v u->Q v H'->CE outer P w H s Q u s' :=
  λ{σ' H' v u} J rv q=>⟨v,H',J.os,J.bare,J.base,J.hok,rv,q⟩
 cases fl with
 | ret u =>
  obtain⟨v,σ',H',J,rv,q⟩:=hs
  exact fin J rv q
 | next =>
  obtain⟨σ',H',J,q⟩:=hs
  exact fin (v:=V.non) (u:=Value.none) J rfl q
 | brk =>
  obtain⟨_,_,_,q⟩:=hs
  exact False.elim q
 | cont =>
  obtain⟨_,_,_,q⟩:=hs
  exact False.elim q
section
variable {X:Cx}{x:Str}{p pos:Pos}{e:Expr}{es:List Expr}{t:TA}{id T:String}{r:List V->Hp->VK->Prop}
def tCB(r:List V->Hp->VK->Prop)(t:TA):TE:=λσ H Q=>t σ H λvs H1=>r vs H1 Q
def Zbw(hc:Jl X (.builtin id) r)(hg:Gl X x)(hm:X.mg x=none)(hv:bootBuiltins x=some (.builtin id))(ha:PA X (e :: es) t)(hn:x ≠ "__name__":=by decide)(hdb:(x == ("__debug__":Str))=false:=by decide)
  (he:starEach (e :: es) X.env=(false,eval e X.env) :: starEach es X.env:=by rfl) (hpl:(backTo pos (starEach es X.env)).any (·.1)=false:=by rfl):PE X (.Call (.Name x p) (e :: es) [] pos) (tCB r t):=by
 intro pins s σ H Q I h
 refine Vf (ZbB I hg hm hv ?_ hn hdb)
 exact PyProof.Rows.callWith_builtin1 (ZZ (ha pos pins s σ H _ I h) λus s1 ⟨vs,H1,I1,r1,q1⟩=>hc pins s1 σ H1 vs us Q I1 r1 q1) he hpl
def Zcj(hc:Jl X (.type T) r)(hg:Gl X x)(hm:X.mg x=none)(hv:bootBuiltins x=some (.type T))(ha:PA X (e :: es) t)(hn:x ≠ "__name__":=by decide)(hdb:(x == ("__debug__":Str))=false:=by decide)
  (he:starEach (e :: es) X.env=(false,eval e X.env) :: starEach es X.env:=by rfl) (hpl:(backTo pos (starEach es X.env)).any (·.1)=false:=by rfl):PE X (.Call (.Name x p) (e :: es) [] pos) (tCB r t):=by
 intro pins s σ H Q I h
 refine Vf (ZbB I hg hm hv ?_ hn hdb)
 exact VB (ZZ (ha pos pins s σ H _ I h) λus s1 ⟨vs,H1,I1,r1,q1⟩=>hc pins s1 σ H1 vs us Q I1 r1 q1) he hpl
end
end L2
namespace HT
open PySem PyProof.Rows
section
open PySem.SeqAt
open PySem.AutoSeq1 (wpAny_loadPart')
open PySem.MeetsSeq PySem.MeetsSeq2 PySem.MeetsSeq3
end
section
variable {prog:Program}{w:World}{A:Around}{E:VSP}{s:Shared}
def sIx(n d:Nat):Option Int->Nat
 | none=>d
 | some v=>if v < 0 then (v + (n:Int)).toNat else min v.toNat n
def sIx_none(n d:Nat):sIx n d none=d:=rfl
def sIx_nat(n d k:Nat):sIx n d (some (k:Int))=min k n:=by
 show (if (k:Int) < 0 then ((k:Int) + (n:Int)).toNat else min (k:Int).toNat n)=min k n
 rw [if_neg (by omega),Y1]
end
end HT
namespace L2
open PySem PySem.Spec PyProof.Rows
abbrev TO:=St->Hp->(Option Int->Hp->Prop)->Prop
def PO(X:Cx)(e:Option Expr)(t:TO):Prop :=
 ∀ (pins:List (Addr × Obj)) (s:Shared) (σ:St) (H:Hp) (Q:Option Int->Hp->Prop),Inv X pins σ H s->t σ H Q ->
  wpAny (model X.prog X.w) X.A (evalPart e X.env) (λu s'=>∃ o H',Inv X pins σ H' s'/\IsPart u o/\Q o H') X.xe s
def ZcN:TO:=λ_ H Q=>Q none H
def ZhP(t:TE):TO:=λσ H Q=>t σ H λx H1=>∃ i,x=.int i/\Q (some i) H1
section
variable {X:Cx}{e:Expr}{te:TE}{lo hi:Option Expr}{tl th:TO}{pos p2:Pos}
def Znm:PO X none ZcN:=by
 intro pins s σ H Q I h
 rw [evalPart_none]
 exact Yc ⟨none,H,I,.none,h⟩
def ZoB(h:PE X e te):PO X (some e) (ZhP te):=by
 intro pins s σ H Q I hw
 rw [evalPart_some]
 refine ZZ (h pins s σ H _ I hw) λu s1 ⟨x,H1,I1,r1,q1⟩=>?_
 obtain⟨i,rfl,q⟩:=q1
 obtain⟨t,rfl⟩:=r1
 exact⟨some i,H1,I1,.int i t,q⟩
def SlR(X:Cx)(r:V->Option Int->Option Int->Hp->VK->Prop):Prop :=
 ∀ (pins:List (Addr × Obj)) (s:Shared) (σ:St) (H:Hp) (x:V) (v vl vu:Value) (lo hi:Option Int) (sl:Addr) (Q:VK),Inv X pins σ H s->Zt x v->s.heap.IsSliceOf sl vl vu .none->IsPart vl lo->IsPart vu hi->r x lo hi H Q ->
  ∃ T id,typeLookup (.type T) "__getitem__"=pure (some (.builtin id))/\s.TypeIs v T/\wpAny (model X.prog X.w) X.A (getItem v (.ref sl)) (EP X pins σ Q) X.xe s
def SlR.or{r r':V->Option Int->Option Int->Hp->VK->Prop}(h:SlR X r)(h':SlR X r'):SlR X (λx lo hi H Q=>r x lo hi H Q\/r' x lo hi H Q):=by
 intro pins s σ H x v vl vu lo hi sl Q I rx hs pl pu q
 rcases q with q | q
 ·exact h pins s σ H x v vl vu lo hi sl Q I rx hs pl pu q
 ·exact h' pins s σ H x v vl vu lo hi sl Q I rx hs pl pu q
def tSl(r:V->Option Int->Option Int->Hp->VK->Prop)(te:TE)(tl th:TO):TE:=λσ H Q=>te σ H λx H1=>tl σ H1 λl H2=>th σ H2 λu H3=>r x l u H3 Q
def Zl1{r:V->Option Int->Option Int->Hp->VK->Prop}(hr:SlR X r)(he:PE X e te)(hl:PO X lo tl)(hu:PO X hi th):PE X (.Subscript e (.Slice lo hi none p2) pos) (tSl r te tl th):=by
 intro pins s σ H Q I h
 refine Subscript_ (ZZ (he pins s σ H _ I h) λv s1 ⟨x,H1,I1,r1,q1⟩=>?_)
 refine wpAny_Slice (ZZ (hl pins s1 σ H1 _ I1 q1) λvl s2 ⟨l,H2,I2,pl,q2⟩=>ZZ (hu pins s2 σ H2 _ I2 q2) λvu s3 ⟨u,H3,I3,pu,q3⟩=>?_)
 rw [evalPart_none]
 refine Yc ?_
 have I4:Inv X pins σ H3 { s3 with heap:=s3.heap.push { cls:=.type "slice",data:=.fields #[vl,vu,.none] } }:=I3.kept (t':=s3.toks) λb ob q=>Yi _ q
 obtain⟨T,id,hT,ht,hg⟩:=hr pins { s3 with heap:=s3.heap.push { cls:=.type "slice",data:=.fields #[vl,vu,.none] } } σ H3 x v vl vu l u s3.heap.objs.size Q I4 r1 (Heap.IsSliceOf.new ..) pl pu q3
 show wpAny (model X.prog X.w) X.A (subscriptTail e (.Slice lo hi none p2) v (.ref s3.heap.objs.size)) (EP X pins σ Q) X.xe { s3 with heap:=s3.heap.push { cls:=.type "slice",data:=.fields #[vl,vu,.none] } }
 exact tail_any (ops:=[.ref s3.heap.objs.size,v]) ht hT hg (by with_unfolding_all rfl)
def ZoX(xs:List V)(lo hi:Option Int):List V:=(xs.drop (HT.sIx xs.length 0 lo)).take (HT.sIx xs.length xs.length hi - HT.sIx xs.length 0 lo)
def Zgd(xs:List V)(lo hi:Option Int):(ZoX xs lo hi).length<=xs.length:=by
 unfold ZoX
 rw [Yz,List.length_drop]
 omega
end
def ixN(n:Nat)(i:Int):Option Nat:=if 0<=i then (if i < n then some i.toNat else none) else if -(n:Int)<=i then some (i + n).toNat else none
def atI{α:Type}(xs:List α)(i:Int):Option α:=(ixN xs.length i).bind λj=>xs[j]?
def Zjy{n:Nat}{i:Int}{j:Nat}(h:ixN n i=some j):seqIndex? i n=some j/\j < n/\-(n:Int)<=i/\i < n:=by
 unfold ixN at h
 by_cases h0:0<=i
 ·rw [if_pos h0] at h
  by_cases h1:i < n
  ·rw [if_pos h1] at h
   have e:i.toNat=j:=YW h
   exact⟨by rw [seqIndex_of h0 h1,e],by omega,by omega,h1⟩
  ·rw [if_neg h1] at h; cases h
 ·rw [if_neg h0] at h
  by_cases h1:-(n:Int)<=i
  ·rw [if_pos h1] at h
   have e:(i + n).toNat=j:=YW h
   exact⟨by rw [seqIndex_neg (by omega) h1,e],by omega,h1,by omega⟩
  ·rw [if_neg h1] at h; cases h
def Ze6{α:Type}{xs:List α}{i:Int}{v:α}(h:atI xs i=some v):∃ j,seqIndex? i xs.length=some j/\xs[j]?=some v/\j < xs.length/\-(xs.length:Int)<=i/\i < xs.length:=by
 unfold atI at h
 cases e:ixN xs.length i with
 | none=>rw [e] at h; cases h
 | some j =>
  rw [e] at h
  obtain⟨h1,h2,h3,h4⟩:=Zjy e
  exact⟨j,h1,h,h2,h3,h4⟩
theorem ZP{α:Type}{xs:List α}{j:Nat}{v:α}(h:xs[j]?=some v):atI xs (j:Int)=some v:=by
 have hj:j < xs.length:=(Ye.mp h).1
 have e:ixN xs.length (j:Int)=some j:=by
  unfold ixN
  rw [if_pos (by omega),if_pos (by omega)]; simp
 unfold atI; rw [e]; exact h
def Zdz(b:Expr):Prop:=∀ o i,subscripted b false o i=operate [o,i] (getItem o i)
def IxR(X:Cx)(r:R2):Prop :=
 ∀ (value slice:Expr) (pins:List (Addr × Obj)) (s:Shared) (σ:St) (H:Hp) (x y:V) (v u:Value) (Q:VK),Inv X pins σ H s->Zt x v->Zt y u->r x y H Q ->
  subscripted slice false v u=operate [v,u] (getItem v u)->wpAny (model X.prog X.w) X.A (subscriptTail value slice v u) (EP X pins σ Q) X.xe s
def MtR(X:Cx)(id:String)(r:V->List V->Hp->VK->Prop):Prop :=
 ∀ (pins:List (Addr × Obj)) (s:Shared) (σ:St) (H:Hp) (x:V) (xs:List V) (v:Value) (us:List Value) (Q:VK),Inv X pins σ H s->Zt x v->Zq xs us->r x xs H Q ->
  wpAny (model X.prog X.w) X.A (call (.builtin id) (v :: us)) (EP X pins σ Q) X.xe s
section
variable {X:Cx}{a b:Expr}{ta tb:TE}{pos:Pos}
def IxR.or{r r':R2}(h:IxR X r)(h':IxR X r'):IxR X (λx y H Q=>r x y H Q\/r' x y H Q):=by
 intro value slice pins s σ H x y v u Q I rx ry q hs
 rcases q with q | q
 ·exact h value slice pins s σ H x y v u Q I rx ry q hs
 ·exact h' value slice pins s σ H x y v u Q I rx ry q hs
def MtR.or{id:String}{r r':V->List V->Hp->VK->Prop}(h:MtR X id r)(h':MtR X id r'):MtR X id (λx xs H Q=>r x xs H Q\/r' x xs H Q):=by
 intro pins s σ H x xs v us Q I rx rs q
 rcases q with q | q
 ·exact h pins s σ H x xs v us Q I rx rs q
 ·exact h' pins s σ H x xs v us Q I rx rs q
def ZlH{r:R2}(hr:IxR X r)(ha:PE X a ta)(hb:PE X b tb)(hs:Zdz b):PE X (.Subscript a b pos) (tOp r ta tb):=by
 intro pins s σ H Q I h
 exact Subscript_ (Zro ha hb I h λv u s2 x y H2 I2 rx ry q=>hr a b pins s2 σ H2 x y v u Q I2 rx ry q (hs _ _))
def Zri(K:PySem.W.Frag):R2:=λx y H Q=>∃ p xs i v,x=.ref p/\y=.int i/\JC K H p xs/\atI xs i=some v/\Q v H
def ZsM(K:PySem.W.Frag):R2:=λx y H Q=>∃ p xs i v,x=.ref p/\y=.int i/\SqT K H p xs/\atI xs i=some v/\Q v H
def Zrh:R2:=λx y H Q=>∃ z i c,x=.str z/\y=.int i/\z.length<=sizeLine/\atI z.cps.toList i=some c/\Q (.str ⟨#[c]⟩) H
def Zjk:IxR X (Zri X.K):=by
 intro value slice pins s σ H x y v u Q I rx ry h hs
 obtain⟨p,xs,i,z,rfl,rfl,hq,he,q⟩:=h
 cases rx
 obtain⟨t,rfl⟩:=ry
 obtain⟨its,r,pl,hz⟩:=I.list hq
 obtain⟨j,h1,h2,h3,h4,h5⟩:=Ze6 he
 obtain⟨w,ew,rw'⟩:=r.get h2
 have hl:=r.length
 have hn:=Zer
 have fin:EP X pins σ Q w s:=⟨z,H,I,rw',q⟩
 by_cases h0:0<=i
 ·have hj:i.toNat=j:=by
   rw [seqIndex_of h0 h5] at h1
   exact YW h1
  exact item_listR pl.isList h0 (by omega) (by rw [hj]; simpa using ew) fin hs
 ·have hj:(i + (its.toArray.size:Int)).toNat=j:=by
   rw [seqIndex_neg (by omega) h4] at h1
   rw [YO,<- hl]
   exact YW h1
  exact subscriptTail_builtinR (x:=w) pl.isList.typeIs slot_list_getitem.lookup
   (wpAny_getItem_list_neg (Q:=λr s'=>r=w/\EP X pins σ Q r s') pl.isList (by omega) (by rw [List.size_toArray] <;> omega) (by omega) (by rw [hj]; simpa using ew) ⟨rfl,fin⟩) hs
def Zp0:IxR X (ZsM X.K):=by
 intro value slice pins s σ H x y v u Q I rx ry h hs
 obtain⟨p,xs,i,z,rfl,rfl,hq,he,q⟩:=h
 cases rx
 obtain⟨t,rfl⟩:=ry
 obtain⟨its,r,pl,hz⟩:=I.tuple hq
 obtain⟨j,h1,h2,h3,h4,h5⟩:=Ze6 he
 obtain⟨w,ew,rw'⟩:=r.get h2
 have hl:=r.length
 have hn:=Zer
 have fin:EP X pins σ Q w s:=⟨z,H,I,rw',q⟩
 exact subscriptTail_builtinR (x:=w) pl.typeIs slot_tuple_getitem.lookup
  (getItem_tuple (j:=j) (Q:=λr s'=>r=w/\EP X pins σ Q r s') pl (by omega) (by omega) (by rw [List.size_toArray,<- hl]; exact h1) (by simpa using ew) ⟨rfl,fin⟩) hs
def Zqm:IxR X Zrh:=by
 intro value slice pins s σ H x y v u Q I rx ry h hs
 obtain⟨z,i,c,rfl,rfl,hz,he,q⟩:=h
 obtain⟨t,rfl⟩:=rx
 obtain⟨t',rfl⟩:=ry
 obtain⟨j,h1,h2,h3,h4,h5⟩:=Ze6 he
 have hl:z.cps.toList.length=z.length:=by simp [Str.length]
 rw [hl] at h1 h4 h5
 have hn:=Zer
 exact tail_any (typeIs_str s z t) slot_str_getitem.lookup (getItem_str (c:=c) (by
  have e1:decide (i < -(2 ^ 63:Int))=false:=Y6 (by omega)
  have e2:decide (i >= 2 ^ 63)=false:=Y6 (by omega)
  rw [e1,e2,Bool.or_false]) (by rw [h1]; simpa using h2) ⟨.str ⟨#[c]⟩,H,I.tok _,⟨_,rfl⟩,q⟩) hs
def Zh2(its:List Value)(n j:Nat)(u:Value):Obj.mapSeq (·.setIfInBounds j u) { cls:=.type "list",data:=.seq its.toArray n }={ cls:=.type "list",data:=.seq (its.set j u).toArray n }:=by
 simp [Obj.mapSeq]
theorem Inv.lst{pins:List (Addr × Obj)}{σ:St}{H:Hp}{s:Shared}{p:Addr}{xs:List V}(I:Inv X pins σ H s)(h:H p=some (.lst xs)) :
  ∃ (its:List Value) (n:Nat),Zq xs its/\s.heap.get? p=some { cls:=.type "list",data:=.seq its.toArray n }/\xs.length<=sizeLine:=by
 obtain⟨z,its,n,r,e⟩:=I.hok p _ h
 exact⟨its,n,r,e,z⟩
def Inv.lstUpd{pins:List (Addr × Obj)}{σ:St}{H:Hp}{s:Shared}{p:Addr}{xs ys:List V}{its its':List Value}{n n':Nat}{f:Obj->Obj}(I:Inv X pins σ H s)(h:H p=some (.lst xs))
  (ho:s.heap.get? p=some { cls:=.type "list",data:=.seq its.toArray n }) (hf:f { cls:=.type "list",data:=.seq its.toArray n }={ cls:=.type "list",data:=.seq its'.toArray n' }) (r:Zq ys its') (hz:ys.length<=sizeLine) (t:Nat) :
  Inv X pins σ (upd H p (.lst ys)) { s with heap:=s.heap.update p f,toks:=t }:=by
 have e:(s.heap.update p f).get? p=some { cls:=.type "list",data:=.seq its'.toArray n' }:=by
  rw [V7 f ho (by rw [hf] <;> rfl),hf]
 refine I.write (x:=p) (e:=p) (by rw [h]; trivial) (.inl rfl) (λb u hb q=>(Vr _ _ (Ne.symm hb)).trans q) ⟨_,e⟩ ?_
 exact⟨hz,its',n',r,e⟩
def ZjE:V->V->V->Hp->(Hp->Prop)->Prop:=λo i v H Q=>∃ p xs k j,o=.ref p/\i=.int k/\H p=some (.lst xs)/\ixN xs.length k=some j/\Q (upd H p (.lst (xs.set j v)))
def Zhk:Zsl X ZjE:=by
 intro pins s σ H o i v ov iv u Q I ro ri rv h
 obtain⟨p,xs,k,j,rfl,rfl,hp,hj,q⟩:=h
 cases ro
 obtain⟨t,rfl⟩:=ri
 obtain⟨its,n,r,ho,hz⟩:=I.lst hp
 obtain⟨h1,h2,h3,h4⟩:=Zjy hj
 have hl:=r.length
 have hn:=Zer
 have I':Inv X pins σ (upd H p (.lst (xs.set j v))) { s with heap:=s.heap.update p (Obj.mapSeq (·.setIfInBounds j u)) } :=
  I.lstUpd hp ho (Zh2 its n j u) (r.set rv j) (by rw [List.length_set]; exact hz) s.toks
 by_cases h0:0<=k
 ·have hk:k.toNat=j:=by
   rw [seqIndex_of h0 h4] at h1
   exact YW h1
  exact PySem.W.ki_setAt ho h0 (by omega) (by rw [YO,<- hl]; exact h4) (by rw [hk]; exact⟨_,I',q⟩)
 ·have hk:(k + (its.toArray.size:Int)).toNat=j:=by
   rw [seqIndex_neg (by omega) h3] at h1
   rw [YO,<- hl]
   exact YW h1
  exact PySem.W.ki_setBack ho (by omega) (by rw [YO,<- hl]; exact h3) (by omega) (by rw [hk]; exact⟨_,I',q⟩)
def ZfX(lo hi:Option Int)(n:Nat):(sliceBounds lo hi none n).1=((HT.sIx n 0 lo:Nat):Int)/\(sliceBounds lo hi none n).2.1=((HT.sIx n n hi:Nat):Int)/\(sliceBounds lo hi none n).2.2=1:=by
 refine⟨?_,?_,rfl⟩
 ·cases lo with
  | none=>simp [sliceBounds,HT.sIx]
  | some i =>
   simp only [sliceBounds,HT.sIx,Option.getD_none,show (1:Int) > 0 by decide,if_true]
   by_cases h:i < 0
   ·simp only [h,if_true] <;> omega
   ·simp only [h,if_false] <;> omega
 ·cases hi with
  | none=>simp [sliceBounds,HT.sIx]
  | some i =>
   simp only [sliceBounds,HT.sIx,Option.getD_none,show (1:Int) > 0 by decide,if_true]
   by_cases h:i < 0
   ·simp only [h,if_true] <;> omega
   ·simp only [h,if_false] <;> omega
def Zfh(its:List Value)(lo hi:Option Int):slicePick its.toArray lo hi none=((its.drop (HT.sIx its.length 0 lo)).take (HT.sIx its.length its.length hi - HT.sIx its.length 0 lo)).toArray:=by
 obtain⟨h1,h2,h3⟩:=ZfX lo hi its.toArray.size
 unfold slicePick
 rw [h1,h2,h3]
 simp only [sliceRange_one,pick_run,List.size_toArray] <;> rfl
def Zrj(K:PySem.W.Frag):V->Option Int->Option Int->Hp->VK->Prop:=λx lo hi H Q=>∃ a xs,x=.ref a/\JC K H a xs/\∀ p,H p=none->Q (.ref p) (upd H p (.lst (ZoX xs lo hi)))
def Znk:SlR X (Zrj X.K):=by
 intro pins s σ H x v vl vu lo hi sl Q I rx hs pl pu h
 obtain⟨a,xs,rfl,hx,q⟩:=h
 cases rx
 obtain⟨its,r,ht,hz⟩:=I.list hx
 have hlen:=r.length
 refine⟨"list",_,slot_list_getitem.lookup,ht.isList.typeIs,?_⟩
 refine wpAny_getItem_list_slice ht.isList hs pl pu .none (by simp) ?_ (by rw [List.size_toArray] <;> omega)
 rw [Zfh,<- hlen]
 refine⟨.ref s.heap.objs.size,_,I.laid (t':=s.toks) (o:=.lst (ZoX xs lo hi)) (λb ob q=>Yi _ q) (Yd _) ?_,rfl,q _ (I.hok.fresh (Yd _))⟩
 exact⟨Yj (Zgd xs lo hi) hz,_,0,(r.drop (HT.sIx xs.length 0 lo)).take (HT.sIx xs.length xs.length hi - HT.sIx xs.length 0 lo),Yo _ rfl⟩
def JW:V->Bool
 | .non=>true
 | .bl _=>true
 | .int _=>true
 | .str _=>true
 | _=>false
def eqV:V->V->Bool
 | .non,.non=>true
 | .bl a,.bl b=>a == b
 | .bl a,.int b=>(if a then 1 else 0) == b
 | .int a,.bl b=>a == (if b then 1 else 0)
 | .int a,.int b=>a == b
 | .str a,.str b=>a == b
 | _,_=>false
def ZmF{A:Around}{s:Shared}{y x:V}{u v:Value}(ry:Zt y u)(rx:Zt x v)(fy:JW y=true)(fx:JW x=true):SeqAt.EqAt A s u v (eqV y x):=by
 cases y with
 | non =>
  cases ry
  cases x with
  | non=>cases rx; exact SeqAt.EqAt.same _
  | bl b=>cases rx; exact SeqAt.EqAt.none_bool b
  | int b=>obtain⟨t,rfl⟩:=rx; exact SeqAt.EqAt.none_int b t
  | str b=>obtain⟨t,rfl⟩:=rx; exact SeqAt.EqAt.none_str b t
  | _=>exact absurd (show false=true from fx) Yt
 | bl a =>
  cases ry
  cases x with
  | non=>cases rx; exact SeqAt.EqAt.bool_none a
  | bl b=>cases rx; exact SeqAt.EqAt.bool_bool a b
  | int b=>obtain⟨t,rfl⟩:=rx; exact SeqAt.EqAt.bool_int a b t
  | str b=>obtain⟨t,rfl⟩:=rx; exact SeqAt.EqAt.bool_str a b t
  | _=>exact absurd (show false=true from fx) Yt
 | int a =>
  obtain⟨t',rfl⟩:=ry
  cases x with
  | non=>cases rx; exact SeqAt.EqAt.int_none a t'
  | bl b=>cases rx; exact SeqAt.EqAt.int_bool a t' b
  | int b=>obtain⟨t,rfl⟩:=rx; exact SeqAt.EqAt.int_int a t' b t
  | str b=>obtain⟨t,rfl⟩:=rx; exact SeqAt.EqAt.int_str a t' b t
  | _=>exact absurd (show false=true from fx) Yt
 | str a =>
  obtain⟨t',rfl⟩:=ry
  cases x with
  | non=>cases rx; exact SeqAt.EqAt.str_none a t'
  | bl b=>cases rx; exact SeqAt.EqAt.str_bool a t' b
  | int b=>obtain⟨t,rfl⟩:=rx; exact SeqAt.EqAt.str_int a t' b t
  | str b=>obtain⟨t,rfl⟩:=rx; exact SeqAt.EqAt.str_str a t' b t
  | _=>exact absurd (show false=true from fx) Yt
 | _=>exact absurd (show false=true from fy) Yt
def eqU(x:V)(u:Value):Bool:=match u with
 | .none=>eqV .non x
 | .bool b=>eqV (.bl b) x
 | .int i _=>eqV (.int i) x
 | .str z _=>eqV (.str z) x
 | _=>false
def Zmo{x y:V}{u:Value}(r:Zt y u)(f:JW y=true):eqU x u=eqV y x:=by
 cases y with
 | non=>cases r; rfl
 | bl b=>cases r; rfl
 | int i=>obtain⟨t,rfl⟩:=r; rfl
 | str z=>obtain⟨t,rfl⟩:=r; rfl
 | _=>exact absurd (show false=true from f) Yt
theorem ZdX{x:V}:∀ {xs:List V}{us:List Value},Zq xs us->xs.all JW=true->us.any (eqU x)=xs.any λy=>eqV y x
 | _,_,.nil,_=>rfl
 | y :: xs,u :: us,.cons r t,f=>by
  rw [List.all_cons,VW] at f
  rw [VN,VN,Zmo r f.1,ZdX t f.2]
theorem Zcf{A:Around}{s:Shared}{x:V}{v:Value}(rx:Zt x v)(fx:JW x=true):∀ {xs:List V}{us:List Value},Zq xs us->xs.all JW=true->∀ u∈us,SeqAt.EqAt A s u v (eqU x u)
 | _,_,.nil,_=>λu hu=>by cases hu
 | y :: xs,u :: us,.cons r t,f=>λu' hu=>by
  rw [List.all_cons,VW] at f
  rcases Yl.mp hu with rfl | hu
  ·rw [Zmo r f.1]; exact ZmF r rx f.1 fx
  ·exact Zcf rx fx t f.2 u' hu
def inV(x:V)(xs:List V):Bool:=xs.any λy=>eqV y x
def rIn(K:PySem.W.Frag)(neg:Bool):R2:=λx y H Q=>∃ p xs,y=.ref p/\(JC K H p xs\/SqT K H p xs)/\JW x=true/\xs.all JW=true/\Q (.bl (if neg then !inV x xs else inV x xs)) H
theorem Zjo:OpR X (compareOp .In) (rIn X.K false):=by
 intro pins s σ H x y v u Q I rx ry h
 obtain⟨p,xs,rfl,hq,fx,fs,q⟩:=h
 cases ry
 rcases hq with hq | hq
 ·obtain⟨its,r,pl,hz⟩:=I.list hq
  refine SeqAt.in_listAt (eqU x) pl.isList (λw hw=>Zcf rx fx r fs w (by simpa using hw)) ⟨.bl _,H,I,rfl,?_⟩
  rw [show its.toArray.any (eqU x)=its.any (eqU x) by simp,ZdX r fs]
  exact q
 ·obtain⟨its,r,pl,hz⟩:=I.tuple hq
  refine SeqAt.in_tupleAt (eqU x) pl (λw hw=>Zcf rx fx r fs w (by simpa using hw)) ⟨.bl _,H,I,rfl,?_⟩
  rw [show its.toArray.any (eqU x)=its.any (eqU x) by simp,ZdX r fs]
  exact q
theorem ZfM:OpR X (compareOp .NotIn) (rIn X.K true):=by
 intro pins s σ H x y v u Q I rx ry h
 obtain⟨p,xs,rfl,hq,fx,fs,q⟩:=h
 cases ry
 rcases hq with hq | hq
 ·obtain⟨its,r,pl,hz⟩:=I.list hq
  refine SeqAt.notIn_listAt (eqU x) pl.isList (λw hw=>Zcf rx fx r fs w (by simpa using hw)) ⟨.bl _,H,I,rfl,?_⟩
  rw [show its.toArray.any (eqU x)=its.any (eqU x) by simp,ZdX r fs]
  exact q
 ·obtain⟨its,r,pl,hz⟩:=I.tuple hq
  refine SeqAt.notIn_tupleAt (eqU x) pl (λw hw=>Zcf rx fx r fs w (by simpa using hw)) ⟨.bl _,H,I,rfl,?_⟩
  rw [show its.toArray.any (eqU x)=its.any (eqU x) by simp,ZdX r fs]
  exact q
def Zc3:Jl X (.builtin "len") (λxs H Q=>∃ p ys,xs=[.ref p]/\(JC X.K H p ys\/SqT X.K H p ys)/\Q (.int ys.length) H):=by
 intro pins s σ H xs us Q I r h
 obtain⟨p,ys,rfl,hq,q⟩:=h
 obtain⟨u,rfl,rx⟩:=JQ r
 cases rx
 have hn:=Zer
 rcases hq with hq | hq
 ·obtain⟨its,r',pl,hz⟩:=I.list hq
  have hlen:=r'.length
  exact Calls.call_len_list pl.isList (by simp only [List.size_toArray] <;> omega) ⟨.int ys.length,H,I.tok _,⟨s.toks + 1,by rw [List.size_toArray,hlen]⟩,q⟩
 ·obtain⟨its,r',pl,hz⟩:=I.tuple hq
  have hlen:=r'.length
  exact len_tuple pl (by simp only [List.size_toArray] <;> omega) ⟨.int ys.length,H,I.tok _,⟨s.toks + 1,by rw [List.size_toArray,hlen]⟩,q⟩
def Jl.or{f:Value}{r r':List V->Hp->VK->Prop}(h:Jl X f r)(h':Jl X f r'):Jl X f (λxs H Q=>r xs H Q\/r' xs H Q):=by
 intro pins s σ H xs us Q I rs q
 rcases q with q | q
 ·exact h pins s σ H xs us Q I rs q
 ·exact h' pins s σ H xs us Q I rs q
def Zc2:Jl X (.type "list") (λxs H Q=>∃ p ys,xs=[.ref p]/\(JC X.K H p ys\/SqT X.K H p ys)/\∀ l,H l=none->Q (.ref l) (upd H l (.lst ys))):=by
 intro pins s σ H xs us Q I r h
 obtain⟨p,ys,rfl,hq,q⟩:=h
 obtain⟨u,rfl,rx⟩:=JQ r
 cases rx
 have fin:∀ (its:List Value),Zq ys its->ys.length<=sizeLine->∀ (h':Heap) (c':Nat),(∀ b o',s.heap.get? b=some o'->h'.get? b=some o') ->
   h'.get? s.heap.objs.size=some { cls:=.type "list",dict:=none,data:=.seq its.toArray c',slots:=#[] }->EP X pins σ Q (.ref s.heap.objs.size) { s with heap:=h' }:=λits r' hz h' c' kp e =>
  ⟨.ref s.heap.objs.size,_,I.laid (t':=s.toks) kp (Yd _) (show ZR X.prog X.w _ h' _ (.lst ys) from ⟨hz,its,c',r',e⟩),rfl,q _ (I.hok.fresh (Yd _))⟩
 rcases hq with hq | hq
 ·obtain⟨its,r',pl,hz⟩:=I.list hq
  have hlen:=r'.length
  obtain⟨o,ho,hc,n,hd⟩:=pl.isList
  exact call_list_seq p (.inl rfl) ho hc hd (λh' c' kp e=>fin its r' hz h' c' kp e) (by simp only [List.size_toArray] <;> omega)
 ·obtain⟨its,r',pl,hz⟩:=I.tuple hq
  have hlen:=r'.length
  obtain⟨o,ho,hc,n,hd⟩:=pl
  exact call_list_seq p (.inr rfl) ho hc hd (λh' c' kp e=>fin its r' hz h' c' kp e) (by simp only [List.size_toArray] <;> omega)
def tyV(K:PySem.W.Frag)(T:String)(x:V)(H:Hp):Prop:=match x with
 | .str _=>T="str"
 | .int _=>T="int"
 | .ref p=>(T="list"/\∃ xs,JC K H p xs)\/(T="tuple"/\∃ o,K.lookup p=some o/\o.cls=.type "tuple"/\o.dict=none) \/
   (T="dict"/\((∃ kvs,H p=some (.dK kvs))\/∃ kvs,H p=some (.dT kvs)))\/(T="set"/\∃ S n,H p=some (.set S n))
 | _=>False
def Zmv{pins:List (Addr × Obj)}{σ:St}{H:Hp}{s:Shared}{T:String}{x:V}{v:Value}(I:Inv X pins σ H s)(r:Zt x v)(ty:tyV X.K T x H) :
  s.TypeIs v T/\∀ a,v=.ref a->∃ ob,s.heap.get? a=some ob/\ob.dict=none:=by
 cases x with
 | str z =>
  obtain⟨t,rfl⟩:=r
  cases (show T="str" from ty)
  exact⟨typeIs_str s z t,λ_ e=>nomatch e⟩
 | int i =>
  obtain⟨t,rfl⟩:=r
  cases (show T="int" from ty)
  exact⟨typeIs_int s i t,λ_ e=>nomatch e⟩
 | ref p =>
  cases r
  rcases ty with ⟨rfl,xs,hq⟩ | ⟨rfl,o,hk,hc,hd⟩ | ⟨rfl,hk⟩ | ⟨rfl,S,n,hk⟩
  ·obtain⟨its,_,pl,_⟩:=I.list hq
   refine⟨pl.isList.typeIs,λa e=>?_⟩
   cases e
   obtain⟨o,n,e,c,hd,_⟩:=pl
   exact⟨o,e,hd⟩
  ·refine⟨⟨o,I.kIn p o hk,hc⟩,λa e=>?_⟩
   cases e
   exact⟨o,I.kIn _ o hk,hd⟩
  ·have z:∃ o,s.heap.get? p=some o/\o.ExactDict:=by
    rcases hk with ⟨kvs,hk⟩ | ⟨kvs,hk⟩
    ·obtain⟨_,_,_,_,o,_,_,e,ex,_⟩:=I.hok p _ hk
     exact⟨o,e,ex⟩
    ·obtain⟨_,_,_,_,o,_,_,e,ex,_⟩:=I.hok p _ hk
     exact⟨o,e,ex⟩
   obtain⟨o,e,ex⟩:=z
   refine⟨⟨o,e,ex.1⟩,λa e2=>?_⟩
   cases e2
   exact⟨o,e,ex.2.1⟩
  ·obtain⟨o,_,_,_,e,ex,_⟩:=I.hok p _ hk
   refine⟨⟨o,e,ex.1⟩,λa e2=>?_⟩
   cases e2
   exact⟨o,e,ex.2.1⟩
 | _=>exact False.elim ty
def tBM(K:PySem.W.Frag)(T:String)(r:V->List V->Hp->VK->Prop)(to:TE)(t:TA):TE:=λσ H Q=>to σ H λx H1=>tyV K T x H1/\t σ H1 λxs H2=>r x xs H2 Q
variable {o e:Expr}{es:List Expr}{to:TE}{t:TA}{name:Str}{apos cpos:Pos}{T id:String}{r:V->List V->Hp->VK->Prop}
end
def MtM(X:Cx)(id:String)(r:V->List V->Hp->VK->Prop):Prop :=
 ∀ (pins:List (Addr × Obj)) (s:Shared) (σ:St) (H:Hp) (x:V) (xs:List V) (v:Value) (us:List Value) (Q:VK),Inv X pins σ H s->Zt x v->Zq xs us->r x xs H Q ->
  wpAny (model X.prog X.w) X.A (call (.builtin id) (v :: us)) (EP X pins σ Q) X.xe s
def Zq.one:∀ {x:V}{us:List Value},Zq [x] us->∃ u,us=[u]/\Zt x u
 | _,_,.cons r .nil=>⟨_,rfl,r⟩
theorem Zq.zero:∀ {us:List Value},Zq [] us->us=[]
 | _,.nil=>rfl
def Zq.dropLast{xs:List V}{us:List Value}(h:Zq xs us):Zq xs.dropLast us.dropLast:=by
 induction h with
 | nil=>exact .nil
 | cons r t ih =>
  cases t with
  | nil=>exact .nil
  | cons q t'=>exact .cons r ih
def Zq.eraseIdx:∀ {xs:List V}{us:List Value}(i:Nat),Zq xs us->Zq (xs.eraseIdx i) (us.eraseIdx i)
 | _,_,_,.nil=>.nil
 | _,_,0,.cons _ t=>t
 | _,_,i + 1,.cons r t=>.cons r (Zq.eraseIdx i t)
def Zq.reverse{xs:List V}{us:List Value}(h:Zq xs us):Zq xs.reverse us.reverse:=by
 induction h with
 | nil=>exact .nil
 | cons r t ih=>rw [List.reverse_cons,List.reverse_cons]; exact Zq.append ih (.cons r .nil)
def Zq.rep{xs:List V}{us:List Value}(h:Zq xs us):∀ k:Nat,Zq (List.replicate k xs).flatten (List.replicate k us).flatten
 | 0=>.nil
 | k + 1=>by
  rw [List.replicate_succ,List.replicate_succ,List.flatten_cons,List.flatten_cons]
  exact Zq.append h (Zq.rep h k)
def Zf2(its:List Value):∀ (k:Nat) (acc:List Value),
  List.foldl (λx1 x2=>x1 ++ x2) acc.toArray (List.replicate k its.toArray)=(acc ++ (List.replicate k its).flatten).toArray
 | 0,acc=>by simp
 | k + 1,acc=>by
  have e:acc.toArray ++ its.toArray=(acc ++ its).toArray:=by simp
  have e2:(acc ++ its) ++ (List.replicate k its).flatten=acc ++ (List.replicate (k + 1) its).flatten:=by
   rw [List.replicate_succ,List.flatten_cons,List.append_assoc]
  rw [<- e2,<- Zf2 its k (acc ++ its),<- e,List.replicate_succ,List.foldl_cons]
section
variable {X:Cx}{pins:List (Addr × Obj)}{σ:St}{H:Hp}{s:Shared}{l b:Addr}{xs ys zs:List V}
theorem Inv.lset{its its':List Value}{n:Nat}{f:Array Value->Array Value}{t':Nat}(I:Inv X pins σ H s)(hH:H l=some (.lst xs))
  (e:s.heap.get? l=some { cls:=.type "list",data:=.seq its.toArray n }) (hf:f its.toArray=its'.toArray) (hv:Zq ys its') (hz:ys.length<=sizeLine) :
  Inv X pins σ (upd H l (.lst ys)) { s with heap:=s.heap.update l (Obj.mapSeq f),toks:=t' }:=by
 have q:=PySem.IsL.update e f
 rw [hf] at q
 refine I.write (x:=l) (e:=l) (by rw [hH]; exact trivial) (.inl rfl) (λb' u hb hu=>(Vr s.heap (Obj.mapSeq f) (Ne.symm hb)).trans hu) ⟨_,q⟩ ?_
 exact⟨hz,its',_,hv,q⟩
def Inv.lnew{its:List Value}{t':Nat}(I:Inv X pins σ H s)(hv:Zq ys its)(hz:ys.length<=sizeLine) :
  Inv X pins σ (upd H s.heap.objs.size (.lst ys)) { s with heap:=s.heap.push { cls:=.type "list",data:=.seq its.toArray },toks:=t' } :=
 I.laid (λ_ _ q=>Yi _ q) (Yd _) ⟨hz,its,0,hv,Yo _ rfl⟩
theorem Inv.fresh(I:Inv X pins σ H s):H s.heap.objs.size=none:=I.hok.fresh (Yd _)
def Inv.lstM(I:Inv X pins σ H s)(hH:H l=some (.lst xs)):xs.length<=sizeLine/\∃ (its:List Value) (n:Nat),Zq xs its/\xs.length=its.length/\s.heap.get? l=some { cls:=.type "list",data:=.seq its.toArray n }:=by
 obtain⟨z,its,n,r,e⟩:=I.hok l _ hH
 exact⟨z,its,n,r,r.length,e⟩
def Zg8{n:Nat}(h:n<=sizeLine):Builtin.List.listTooLong n=false:=by
 unfold Builtin.List.listTooLong
 exact Y6 (by omega)
end
section
variable {X:Cx}
def ZgM:V->List V->Hp->VK->Prop:=λx vs H Q=>∃ l xs y,x=.ref l/\vs=[y]/\H l=some (.lst xs)/\xs.length < sizeLine/\Q .non (upd H l (.lst (xs ++ [y])))
def ZfI:MtM X "list.append" ZgM:=by
 intro pins s σ H x vs v us Q I rx rv h
 obtain⟨l,xs,y,rfl,rfl,hH,hz,q⟩:=h
 cases rx
 obtain⟨u,rfl,ru⟩:=rv.one
 obtain⟨z,its,n,r,hl,e⟩:=I.lstM hH
 refine call_meets F.slot_list_append ⟨_,e,rfl⟩ F.entry_list_append (F.args_list_append_2 _ _) (PySem.list_append l its.toArray n u (by rw [YO]; omega)) ⟨e,?_⟩
 refine⟨.non,_,I.lset (its':=its ++ [u]) hH e (by simp) (r.append (.cons ru .nil)) ?_,rfl,q⟩
 rw [YM,List.length_singleton]
 omega
def Ze7:V->List V->Hp->VK->Prop:=λx vs H Q=>∃ l b xs zs,x=.ref l/\vs=[.ref b]/\H l=some (.lst xs)/\H b=some (.lst zs)/\xs.length + zs.length<=sizeLine/\Q .non (upd H l (.lst (xs ++ zs)))
def Zjd:MtM X "list.extend" Ze7:=by
 intro pins s σ H x vs v us Q I rx rv h
 obtain⟨l,b,xs,zs,rfl,rfl,hH,hB,hz,q⟩:=h
 cases rx
 obtain⟨u,rfl,ru⟩:=rv.one
 cases ru
 obtain⟨z,its,n,r,hl,e⟩:=I.lstM hH
 obtain⟨z2,its2,n2,r2,hl2,e2⟩:=I.lstM hB
 have hsz:its.toArray.size + its2.toArray.size<=sizeLine:=by rw [YO,YO]; omega
 have hlong:¬ (!its.toArray.isEmpty && Builtin.List.listTooLong (its.toArray.size + its2.toArray.size))=true:=by
  rw [Zg8 hsz,Bool.and_false]
  exact Yt
 refine call_meets F.slot_list_extend ⟨_,e,rfl⟩ F.entry_list_extend (F.args_list_extend_2 _ _)
  (AutoSeq1.list_extend_list_list_0 l its.toArray n b its2.toArray n2 hlong (by rw [YO]; omega) (by omega)) ⟨e,e2,?_⟩
 refine⟨.non,_,I.lset (its':=its ++ its2) hH e (by simp) (r.append r2) ?_,rfl,q⟩
 rw [YM]
 omega
def Zsd:V->List V->Hp->VK->Prop:=λx vs H Q=>∃ l xs y,x=.ref l/\vs=[]/\H l=some (.lst xs)/\xs[xs.length - 1]?=some y/\Q y (upd H l (.lst xs.dropLast))
def Zhj:V->List V->Hp->VK->Prop:=λx vs H Q=>∃ l xs,x=.ref l/\vs=[]/\H l=some (.lst xs)/\Q .non (upd H l (.lst xs.reverse))
def ZmJ:V->List V->Hp->VK->Prop:=λx vs H Q=>∃ l xs,x=.ref l/\vs=[]/\H l=some (.lst xs)/\Q .non (upd H l (.lst []))
def Zrg:R2:=λx y H Q=>∃ l b xs zs,x=.ref l/\y=.ref b/\H l=some (.lst xs)/\H b=some (.lst zs)/\xs.length + zs.length<=sizeLine/\∀ p,H p=none->Q (.ref p) (upd H p (.lst (xs ++ zs)))
def ZpX:OpR X (binaryOp .Add) Zrg:=by
 intro pins s σ H x y v u Q I rx ry h
 obtain⟨l,b,xs,zs,rfl,rfl,hH,hB,hz,q⟩:=h
 cases rx
 cases ry
 obtain⟨z,its,n,r,hl,e⟩:=I.lstM hH
 obtain⟨z2,its2,n2,r2,hl2,e2⟩:=I.lstM hB
 refine PySem.P.add_list e e2 ?_ (by rw [YO,YO]; omega)
 have ea:its.toArray ++ its2.toArray=(its ++ its2).toArray:=by simp
 rw [ea]
 exact⟨.ref _,_,I.lnew (t':=s.toks) (r.append r2) (by rw [YM]; omega),rfl,q _ I.fresh⟩
def Zre:R2:=λx y H Q=>∃ l k xs,x=.ref l/\y=.int k/\H l=some (.lst xs)/\-(2 ^ 63)<=k/\k < 2 ^ 63/\xs.length * k.toNat<=sizeLine /\
 ∀ p,H p=none->Q (.ref p) (upd H p (.lst (List.replicate k.toNat xs).flatten))
theorem ZdV{α:Type}(xs:List α)(k:Nat):(List.replicate k xs).flatten.length=k * xs.length:=by
 induction k with
 | zero=>simp
 | succ k ih=>rw [List.replicate_succ,List.flatten_cons,YM,ih,Nat.succ_mul,Nat.add_comm]
def ZqJ:OpR X (binaryOp .Mult) Zre:=by
 intro pins s σ H x y v u Q I rx ry h
 obtain⟨l,k,xs,rfl,rfl,hH,h1,h2,hz,q⟩:=h
 cases rx
 obtain⟨t,rfl⟩:=ry
 obtain⟨z,its,n,r,hl,e⟩:=I.lstM hH
 have hlen:its.toArray.size * k.toNat<=sizeLine:=by rw [YO,<- hl]; exact hz
 have hcap:¬ its.toArray.size * k.toNat > (2 ^ 63 - 1) / 8:=by
  have:(sizeLine:Nat)<=(2 ^ 63 - 1) / 8:=by decide
  omega
 have hfit:¬ (!Builtin.List.listFitsIndex k)=true:=by
  rw [fitsIndex_both h1 h2]
  exact Yt
 have hlong:¬ Builtin.List.listTooLong (its.toArray.size * k.toNat)=true:=by
  rw [Zg8 hlen]
  exact Yt
 have hnew:List.foldl (λx1 x2=>x1 ++ x2) #[] (List.replicate (if its.toArray.isEmpty=true then 0 else k.toNat) its.toArray)=(List.replicate k.toNat its).flatten.toArray:=by
  have f0:∀ m:Nat,List.foldl (λx1 x2=>x1 ++ x2) #[] (List.replicate m its.toArray)=(List.replicate m its).flatten.toArray:=λm=>by
   have:=Zf2 its m []
   rw [List.nil_append] at this
   exact this
  rw [f0]
  cases its with
  | nil=>simp
  | cons a r'=>rw [if_neg (by simp)]
 refine wpAny_binaryOp_repeat_ref (T:="list") (U:="int") (by decide) ⟨_,e,rfl⟩ (λs'=>typeIs_int s' k t) noFill_list_mul F.fills_int_mul F.slot_int_rmul repeat_list F.slot_int_index.lookup
  (call_meets F.slot_int_rmul (typeIs_int s k t) F.entry_int_rmul (F.args_int_rmul_2 _ _) (int___rmul___int_list k t l its.toArray n)
   ⟨e,rfl,⟨_,e,rfl⟩,call_meets F.slot_list_mul ⟨_,e,rfl⟩ F.entry_list_mul (F.args_list_mul_2 _ _) (AutoListH.list___mul___list_int_3 l its.toArray n k t hfit hcap hlong) ⟨e,?_⟩⟩)
 rw [hnew]
 exact⟨.ref _,_,I.lnew (t':=s.toks) (r.rep k.toNat) (by rw [ZdV,Nat.mul_comm]; exact hz),rfl,q _ I.fresh⟩
end
section
variable {prog:Program}{w:World}{A:Around}{E:VSP}{s:Shared}
end
section
variable {X:Cx}
end
end L2
namespace Att
open PySem PySem.W PySem.Calls PyProof.Rows
def Zd7{P:Params}{h:Heap}:∀ (ns:List Int) (vs:List Value),WellAll P h vs (ns.map WData.int)->IntsAre vs ns:=by
 intro ns
 induction ns with
 | nil =>
  intro vs w
  rw [List.map_nil] at w
  cases w
  exact .nil
 | cons n ns ih =>
  intro vs w
  rw [Yr] at w
  cases w with
  | cons a b =>
   cases a
   exact .cons _ _ (ih _ b)
def Zkw{l:OpenLaw}{n:Nat}(hn:l.most=some n){P:Params}{h:Heap}{args:List WData}{vals:List Value}
  (hpre:l.row.toRowW.claim.pre args=true) (hwl:WellAll P h vals args) :
  ∃ a vs ns,vals=[Value.ref a]/\args=[WData.list (ns.map WData.int)]/\h.get? a=some { cls:=.type "list",data:=.seq vs.toArray }/\IntsAre vs ns/\ns.length<=n:=by
 have hsh:WShape.hasAll [] args [.list .int]=true:=(pre_splitW hpre).1
 have hc:l.pre.holds [] { args:=args }=true:=(pre_splitW hpre).2
 obtain⟨d,r,rfl,h1,h2⟩:=hasAllW_cons hsh
 obtain rfl:=hasAllW_nil h2
 obtain⟨xs,rfl,h3⟩:=hasW_list h1
 obtain⟨ns,rfl⟩:=items_int h3
 have hlen:ns.length<=n:=by
  unfold OpenLaw.pre at hc
  have h4:(WTm.not (.lt (.lit (.int (n:Int))) (.len (.arg 0)))).holds [] { args:=[.list (ns.map .int)] }=true:=by
   have h4:=(holds_andW hc).1
   rw [hn] at h4
   exact h4
  have h5:=condW_of h4 (w_not (w_lt w_lit (w_len_list (w_arg rfl))))
  rw [Yf] at h5
  refine Nat.le_of_not_lt λq=>?_
  have q':(n:Int) < ((ns.length:Nat):Int):=by omega
  first
   | (rw [YR q'] at h5; exact absurd h5 (by decide))
   | (simp at h5; omega)
 cases hwl with
 | cons w1 w2 =>
  cases w2
  cases w1 with
  | list ho hall=>exact⟨_,_,ns,rfl,rfl,ho,Zd7 ns _ hall,hlen⟩
def ZiW(l:OpenLaw)(args:List WData):l.row.toRowW.claim.post args (.bool true) args=true :=
 postW_of (r:=l.row.toRowW) (X:=(true == true))
  (show WShape.has [] (.bool true) .bool=true by first | rfl | decide | simp [WShape.has,WShape.arms,WShape.armsAll])
  (show (WTm.eq .res (.lit (.bool true))).value [] { args:=args,res:=some (.bool true),after:=args }=some (.bool (true == true)) from w_eq_bool (w_res rfl) w_lit) rfl
def attach_call{l:OpenLaw}{n:Nat}{q:Program}{loose:List Str}{XP:(Str->Option Value)->Heap->Prop}{YP:World->Heap->Prop}{d:DefRec}
  (hn:l.most=some n) (hdf:d.params.defaults=[])
  (call:∀ (w:World) (s₀ s₁:Shared) (mg mb:Str->Option Value) (fa:Addr) (o:Obj) (pm cd doc:Value) (a:Addr) (vs:List Value) (ns:List Int),
   Ground q loose [] XP w s₀ mg mb s₁.heap->YP w s₁.heap ->
   s₁.heap.get? fa=some o->o.data=.func (docDef d.name d.params d.body d.scope pm cd doc)->s₁.heap.CodeRec cd d.name->mg d.name=some (.ref fa) ->
   s₁.heap.get? a=some { cls:=.type "list",data:=.seq vs.toArray }->IntsAre vs ns->ns.length<=n->s₁.gens=#[] ->
   codeAny (model l.prog w) callerA (.call (.ref fa) ⟨[.ref a],[]⟩) (λr s'=>r=.ok (.ret (.bool true))/\OldK s₁.heap s'.heap/\s'.os=s₁.os/\AllBare s'.gens) s₁) :
  WalkO q loose XP YP l.row.toRowW d [] (λf vs=>PySem.call f vs):=by
 intro w s₀ s₁ mg mb G Y fa o pm cd doc dV kV ho hd hcd hD hmg hg args vals as hpre hlay hrd hwl hlo
 obtain rfl:dV=.none:=Dflts.none hD hdf
 obtain rfl:kV=.none:=Dflts.noKw hD
 obtain⟨a,vs,ns,rfl,rfl,hobj,hints,hlen⟩:=Zkw hn hpre hwl
 refine enter_call (Y3 (call w s₀ s₁ mg mb fa o pm cd doc a vs ns G Y ho (fd_plain hd) hcd hmg hobj hints hlen hg) λr s' hq=>?_)
 obtain⟨rfl,h2,h3,h4⟩:=hq
 exact⟨.inl ⟨.bool true,.bool true,[],rfl,λ_=>rfl,.bool true,ZiW l _,λ_=>⟨List.Pairwise.nil,λ_ hm=>(nomatch hm)⟩⟩,h2,h3,h4⟩
section
variable {prog:Program}{w:World}{A:Around}{E:VSP}{s:Shared}{K:Frag}
def noObjs(h:Heap):Heap:={ h with objs:=#[] }
theorem noObjs_get(h:Heap)(b:Addr):(noObjs h).get? b=none:=by
 cases e:(noObjs h).get? b with
 | none=>rfl
 | some o=>exact absurd (Yh e) (VI _)
def fr_all{h:Heap}{L:Addr}{m:Str->Option Value}(n:h.Ns L m):Fr (noObjs h) L h m :=
 ⟨n,λb o e=>(by rw [noObjs_get] at e; cases e),YF _⟩
end
end Att
namespace L2
open PySem PySem.Spec PyProof.Rows
def ZbC:∀ {vs:List Value}{ns:List Int},IntsAre vs ns->Zq (ns.map V.int) vs
 | _,_,.nil=>.nil
 | _,_,.cons n t h=>.cons ⟨t,rfl⟩ (ZbC h)
def ZbX(s:Stmt)(j:Nat):Stmt:=match s with
 | .ClassDef _ _ _ body _ _ _ _ _ _ _=>body.getD j (.Pass ⟨0,0,0,0⟩)
 | _=>.Pass ⟨0,0,0,0⟩
def ZD(s:Stmt):Arguments:=match s with
 | .FunctionDef _ a _ _ _ _ _ _ _ _=>a
 | _=>{ posonlyargs:=[],args:=[],vararg:=none,kwonlyargs:=[],kw_defaults:=[],kwarg:=none,defaults:=[] }
def Zs(s:Stmt):List Stmt:=match s with
 | .FunctionDef _ _ b _ _ _ _ _ _ _=>b
 | _=>[]
def Za(s:Stmt):Scope:=match s with
 | .FunctionDef _ _ _ _ _ _ sc _ _ _=>sc
 | _=>{ kind:=.function,names:=[],isGenerator:=false,isCoroutine:=false }
abbrev ZC:CXT:=λ_ _ _ _ _ _=>False
abbrev E0:XK:=λ_ _ _=>False
def Zla{X:Cx}:Zdo ZC X E0:=λ_ _ _ _ _ _ _ h=>h.elim
structure Fun(K:PySem.W.Frag)(x qual:Str)(st:Stmt)(f:Addr)(fd:FuncData):Prop where
 ex:∃ (oc:Value) (od:Option Addr) (kV doc pm:Value) (an:Option Addr) (cdv ct:Value) (osl:Array (Option Value)),
  fd=fnOf x qual (ZD st) (Zs st) (Za st) .none kV doc pm an cdv ct/\K.lookup f=some ⟨oc,od,.func fd,osl⟩/\codeIn K cdv qual=true
 kp:keepIn K (.ref f)=true
section
variable {P:Program}{w:World}{K:PySem.W.Frag}{mg:Str->Option Value}{base:Heap}
theorem Fun.ok{x qual:Str}{st:Stmt}{f:Addr}{fd:FuncData}{N ps:List Str}{k:Nat}{sp:Sp}(F:Fun K x qual st f fd)(S:FnScope N ps (Za st))(len:∀ vs H Q E,sp vs H Q E->vs.length=ps.length)
  (hbody:∀ (cdv:Value) (A:Around) (outer:List Env) (s:Shared) (H:Hp) (vs:List V) (Q:VK) (E:XK),Room k (A.deeper (envOfC qual (Za st) s.heap.objs.size f cdv))->sp vs H Q E ->
   ∃ t,PSs (Zif ZC P w K mg base N qual (Za st) f cdv A outer s H E).nox (Zs st) t/\t { nx:=λ_ H'=>Q .non H',rt:=Q } (Zu N vs) H):FnOk P w K mg base ZC (k + 1) f fd ps sp:=by
 obtain⟨oc,od,kV,doc,pm,an,cdv,ct,osl,rfl,lk,hcd⟩:=F.ex
 refine ZnM lk hcd S len λA outer s H vs Q E hr hsp=>?_
 obtain⟨t,h,q⟩:=hbody cdv A outer s H vs Q E hr hsp
 exact⟨t,h.nox,q⟩
def Fun.binds{x qual:Str}{st:Stmt}{f:Addr}{fd:FuncData}{ps:List Str}(F:Fun K x qual st f fd)
  (h:∀ (kV doc pm:Value) (an:Option Addr) (cdv ct:Value) (us:List Value),us.length=ps.length->bindArgs (fnOf x qual (ZD st) (Zs st) (Za st) .none kV doc pm an cdv ct) ⟨us,[]⟩=pure (ps.zip us)):ZY K fd ps []:=by
 obtain⟨oc,od,kV,doc,pm,an,cdv,ct,osl,rfl,lk,hcd⟩:=F.ex
 exact .all (h kV doc pm an cdv ct)
def ZbU{x qual:Str}{st:Stmt}{f:Addr}{oc:Value}{od an:Option Addr}{osl:Array (Option Value)}{kV doc pm cdv ct:Value}(l:K.lookup f=some ⟨oc,od,.func (fnOf x qual (ZD st) (Zs st) (Za st) .none kV doc pm an cdv ct),osl⟩)
  (c:codeIn K cdv qual=true) (k:keepIn K (.ref f)=true):Fun K x qual st f (fnOf x qual (ZD st) (Zs st) (Za st) .none kV doc pm an cdv ct):=⟨⟨oc,od,kV,doc,pm,an,cdv,ct,osl,rfl,l,c⟩,k⟩
end
def JA{A:Around}{k:Nat}(hr:Room k A):A.units + 1 < cLine:=Ys (Nat.add_le_add_left (by decide:1<=64) _) hr.units
def Zf0{n:Nat}(h:n<=1000):n < sizeLine:=Ys h (by decide)
section
variable {X:Cx}
end
theorem JI{c A B:Prop}[Decidable c](h1:c->A)(h2:¬ c->B):if c then A else B:=by
 by_cases h:c
 ·rw [if_pos h]
  exact h1 h
 ·rw [if_neg h]
  exact h2 h
def Zk(H H':Hp):Prop:=∀ b o,H b=some o->H' b=some o
def Zk.refl(H:Hp):Zk H H:=λ_ _ h=>h
theorem Zk.trans{H H1 H2:Hp}(a:Zk H H1)(b:Zk H1 H2):Zk H H2:=λc o h=>b c o (a c o h)
theorem Zk.free{H H':Hp}(e:Zk H H'){l:Addr}(h:H' l=Option.none):H l=Option.none:=by
 cases q:H l with
 | none=>rfl
 | some o =>
  rw [e l o q] at h
  cases h
def Zk.seq{K:PySem.W.Frag}{H H':Hp}{a:Addr}{xs:List V}(e:Zk H H')(h:JC K H a xs):JC K H' a xs:=by
 rcases h with (h | ⟨o,h⟩) | h
 ·exact .inl (.inl (e _ _ h))
 ·exact .inl (.inr ⟨o,e _ _ h⟩)
 ·exact .inr h
section
variable {κ:Type}[DecidableEq κ]
def Z8(kvs:List (κ × V))(k:κ):Option V:=(kvs.find? λkv=>decide (kv.1=k)).map (·.2)
def Jj(kvs:List (κ × V))(k:κ)(v:V):List (κ × V) :=
 if (kvs.any λkv=>decide (kv.1=k))=true then kvs.map (λkv=>if kv.1=k then (kv.1,v) else kv) else kvs ++ [(k,v)]
def Zqh(kvs:List (κ × V))(k:κ):List (κ × V):=kvs.filter λkv=>decide (kv.1 ≠ k)
theorem Z6{p:κ × V}{r:List (κ × V)}{k:κ}(e:p.1=k):Z8 (p :: r) k=some p.2:=by simp [Z8,List.find?_cons,e]
theorem ZO{p:κ × V}{r:List (κ × V)}{k:κ}(e:¬ p.1=k):Z8 (p :: r) k=Z8 r k:=by simp [Z8,List.find?_cons,e]
def Zcg(k:κ):∀ kvs:List (κ × V),(kvs.any λkv=>decide (kv.1=k))=(Z8 kvs k).isSome
 | []=>rfl
 | p :: r=>by
  rw [VN]
  by_cases e:p.1=k
  ·simp only [Z6 e,decide_eq_true e,Bool.true_or,Option.isSome_some]
  ·rw [ZO e,Y6 e,Bool.false_or]; exact Zcg k r
def ZgW(k j:κ)(y:V):∀ kvs:List (κ × V),Z8 (kvs.map λkv=>if kv.1=k then (kv.1,y) else kv) j=(Z8 kvs j).map λx=>if j=k then y else x
 | []=>rfl
 | p :: r=>by
  have ih:=ZgW k j y r
  rw [Yr]
  by_cases h:p.1=k
  ·rw [if_pos h]
   by_cases e:p.1=j
   ·rw [Z6 (p:=(p.1,y)) e,Z6 e,Yab,if_pos (e.symm.trans h)]
   ·rw [ZO (p:=(p.1,y)) e,ZO e,ih]
  ·rw [if_neg h]
   by_cases e:p.1=j
   ·rw [Z6 (p:=p) e,Z6 e,Yab,if_neg (λz=>h (e.trans z))]
   ·rw [ZO (p:=p) e,ZO e,ih]
def Zfq(k j:κ)(y:V):∀ kvs:List (κ × V),Z8 kvs k=none->Z8 (kvs ++ [(k,y)]) j=if j=k then some y else Z8 kvs j
 | [],_=>by
  by_cases e:k=j
  ·rw [if_pos e.symm]; exact Z6 (p:=(k,y)) e
  ·rw [if_neg (λz=>e z.symm)]; exact ZO (p:=(k,y)) e
 | p :: r,hn=>by
  rw [List.cons_append]
  have hk:¬ p.1=k:=λz=>by rw [Z6 z] at hn; cases hn
  rw [ZO hk] at hn
  have ih:=Zfq k j y r hn
  by_cases e:p.1=j
  ·rw [Z6 e,Z6 e,if_neg (λz=>hk (e.trans z))]
  ·rw [ZO e,ZO e,ih]
def Zho(kvs:List (κ × V))(k j:κ)(y:V):Z8 (Jj kvs k y) j=if j=k then some y else Z8 kvs j:=by
 unfold Jj
 by_cases a:(kvs.any λkv=>decide (kv.1=k))=true
 ·rw [if_pos a,ZgW]
  rw [Zcg] at a
  by_cases e:j=k
  ·obtain⟨x,hx⟩:=Option.isSome_iff_exists.mp a
   rw [if_pos e,e,hx,Yab,if_pos rfl]
  ·rw [if_neg e]
   cases Z8 kvs j with
   | none=>rfl
   | some x=>rw [Yab,if_neg e]
 ·rw [if_neg a]
  refine Zfq k j y kvs ?_
  rw [Zcg] at a
  cases q:Z8 kvs k with
  | none=>rfl
  | some x=>rw [q] at a; exact (a rfl).elim
def Za7(kvs:List (κ × V))(k:κ)(v:V):(Jj kvs k v).length<=kvs.length + 1:=by
 unfold Jj
 split
 ·rw [Yf]; omega
 ·rw [YM,YV,List.length_nil]; omega
def ZeP{kvs:List (κ × V)}{k:κ}(v:V)(h:Z8 kvs k=none):Jj kvs k v=kvs ++ [(k,v)]:=by
 unfold Jj
 rw [Zcg,h]
 exact if_neg (by decide)
def JT.isSome_eq{o:Option V}{u:Option Value}(r:JT o u):o.isSome=u.isSome:=by
 cases o with
 | none=>cases u with
  | none=>rfl
  | some _=>exact (show False from r).elim
 | some _=>cases u with
  | none=>exact (show False from r).elim
  | some _=>rfl
theorem JT.getD{o:Option V}{u:Option Value}{d:V}{d':Value}(r:JT o u)(rd:Zt d d'):Zt (o.getD d) (u.getD d'):=by
 cases o with
 | none=>cases u with
  | none=>exact rd
  | some _=>exact (show False from r).elim
 | some _=>cases u with
  | none=>exact (show False from r).elim
  | some _=>exact r
def KV.val{kvs:List (κ × V)}{vs:List (κ × Value)}(r:KV kvs vs)(k:κ):JT (Z8 kvs k) (valueAt vs k):=by
 unfold KV at r
 induction r with
 | nil=>exact True.intro
 | @cons p q ps qs h t ih =>
  obtain⟨h1,h2⟩:=h
  by_cases e:p.1=k
  ·have e':q.1=k:=h1.symm.trans e
   have b:valueAt (q :: qs) k=some q.2:=by simp [valueAt,List.find?_cons,e']
   rw [Z6 e,b]; exact h2
  ·have e':¬ q.1=k:=λz=>e (h1.trans z)
   have b:valueAt (q :: qs) k=valueAt qs k:=by simp [valueAt,List.find?_cons,e']
   rw [ZO e,b]; exact ih
theorem KV.any{kvs:List (κ × V)}{vs:List (κ × Value)}(r:KV kvs vs)(k:κ):(kvs.any λkv=>decide (kv.1=k))=vs.any λkv=>decide (kv.1=k):=by
 unfold KV at r
 induction r with
 | nil=>rfl
 | cons h t ih=>rw [VN,VN,ih,h.1]
def KV.repl{kvs:List (κ × V)}{vs:List (κ × Value)}(r:KV kvs vs)(k:κ){y:V}{u:Value}(ry:Zt y u) :
  KV (kvs.map λkv=>if kv.1=k then (kv.1,y) else kv) (vs.map λkv=>if kv.1=k then (kv.1,u) else kv):=by
 unfold KV at r ⊢
 induction r with
 | nil=>exact .nil
 | @cons p q ps qs h t ih =>
  rw [Yr,Yr]
  refine .cons ?_ ih
  obtain⟨h1,h2⟩:=h
  by_cases e:p.1=k
  ·rw [if_pos e,if_pos (h1.symm.trans e)]; exact⟨h1,ry⟩
  ·rw [if_neg e,if_neg (λz=>e (h1.trans z))]; exact⟨h1,h2⟩
def KV.put{kvs:List (κ × V)}{vs:List (κ × Value)}(r:KV kvs vs)(k:κ){y:V}{u:Value}(ry:Zt y u):KV (Jj kvs k y) (stored vs k u):=by
 unfold Jj stored
 rw [r.any k]
 by_cases e:(vs.any λkv=>decide (kv.1=k))=true
 ·rw [if_pos e,if_pos e]; exact r.repl k ry
 ·rw [if_neg e,if_neg e]; exact Paired.snoc r ⟨rfl,ry⟩
def KV.drop{kvs:List (κ × V)}{vs:List (κ × Value)}(r:KV kvs vs)(k:κ):KV (Zqh kvs k) (without vs k):=by
 unfold KV at r ⊢
 unfold Zqh without
 induction r with
 | nil=>exact .nil
 | @cons p q ps qs h t ih =>
  obtain⟨h1,h2⟩:=h
  rw [List.filter_cons,List.filter_cons]
  by_cases e:p.1=k
  ·have a:¬ decide (p.1 ≠ k)=true:=by simp [e]
   have b:¬ decide (q.1 ≠ k)=true:=by simp [h1.symm.trans e]
   rw [if_neg a,if_neg b]; exact ih
  ·have e':¬ q.1=k:=λz=>e (h1.trans z)
   have a:decide (p.1 ≠ k)=true:=by simp [e]
   have b:decide (q.1 ≠ k)=true:=by simp [e']
   rw [if_pos a,if_pos b]; exact .cons ⟨h1,h2⟩ ih
def KV.keys{kvs:List (κ × V)}{vs:List (κ × Value)}(r:KV kvs vs):kvs.map (·.1)=vs.map (·.1):=by
 unfold KV at r
 induction r with
 | nil=>rfl
 | cons h t ih=>rw [Yr,Yr,ih,h.1]
theorem KV.length{kvs:List (κ × V)}{vs:List (κ × Value)}(r:KV kvs vs):kvs.length=vs.length:=Paired.length r
end
def Zl9{P:Program}{w:World}{k:ZQ}{u:Value}(r:Zt (kV k) u):(ZT P w).is k u=true:=by
 cases k with
 | inl i=>obtain⟨t,e⟩:=(show ∃ t,u=Value.int i t from r); subst e; exact Zgp P w i t
 | inr x=>obtain⟨t,e⟩:=(show ∃ t,u=Value.str x t from r); subst e; exact ZgO P w x t
theorem ZfJ{P:Program}{w:World}:∀ {ks:List ZQ}{us:List Value},Zq (ks.map kV) us->ItemsAre (ZT P w) ks us
 | [],_,r=>by rw [List.map_nil] at r; cases r; exact .nil
 | k :: ks,_,r=>by
  rw [Yr] at r
  cases r with
  | cons h t=>exact .cons (Zl9 h) (ZfJ t)
abbrev KT(H:Hp):List (List ZQ × V)->List (List ZQ × Addr × Value)->Prop:=Paired λp q=>p.1=q.1/\H q.2.1=some (.tup (p.1.map kV))/\Zt p.2 q.2.2
variable {H:Hp}{xs:List (List ZQ × Addr × Value)}
def KT.val{kvs:List (List ZQ × V)}(r:KT H kvs xs)(k:List ZQ):JT (Z8 kvs k) ((atKey xs k).map (·.2)):=by
 induction r with
 | nil=>exact True.intro
 | @cons p q ps qs h t ih =>
  obtain⟨h1,_,h2⟩:=h
  by_cases e:p.1=k
  ·have e':q.1=k:=h1.symm.trans e
   have b:atKey (q :: qs) k=some q.2:=by simp [atKey,List.find?_cons,e']
   rw [Z6 e,b]; exact h2
  ·have e':¬ q.1=k:=λz=>e (h1.trans z)
   have b:atKey (q :: qs) k=atKey qs k:=by simp [atKey,List.find?_cons,e']
   rw [ZO e,b]; exact ih
def KT.repl{kvs:List (List ZQ × V)}(r:KT H kvs xs)(k:List ZQ){y:V}{u:Value}(ry:Zt y u) :
  KT H (kvs.map λkv=>if kv.1=k then (kv.1,y) else kv) (xs.map (putAt k u)):=by
 induction r with
 | nil=>exact .nil
 | @cons p q ps qs h t ih =>
  rw [Yr,Yr]
  refine .cons ?_ ih
  obtain⟨h1,h2,h3⟩:=h
  unfold putAt
  by_cases e:p.1=k
  ·rw [if_pos e,if_pos (h1.symm.trans e)]; exact⟨h1,h2,ry⟩
  ·rw [if_neg e,if_neg (λz=>e (h1.trans z))]; exact⟨h1,h2,h3⟩
def KT.put{kvs:List (List ZQ × V)}(r:KT H kvs xs)(k:List ZQ){b:Addr}{y:V}{u:Value}(hb:H b=some (.tup (k.map kV)))(ry:Zt y u) :
  KT H (Jj kvs k y) (storedH xs k b u):=by
 have e:(kvs.any λkv=>decide (kv.1=k))=(atKey xs k).isSome:=by
  rw [Zcg,(r.val k).isSome_eq,Option.isSome_map]
 unfold Jj storedH
 rw [e]
 by_cases q:(atKey xs k).isSome=true
 ·rw [if_pos q,if_pos q]; exact r.repl k ry
 ·rw [if_neg q,if_neg q]; exact Paired.snoc r ⟨rfl,hb,ry⟩
def KT.keeps{H H':Hp}{kvs:List (List ZQ × V)}(r:KT H kvs xs)(ht:∀ b ys,H b=some (.tup ys)->H' b=some (.tup ys)):KT H' kvs xs :=
 Paired.mapP r λ_ _ z=>⟨z.1,ht _ _ z.2.1,z.2.2⟩
section
variable {P:Program}{w:World}{H:Hp}{h:Heap}{a:Addr}
def Zpg{u:HO}(ok:HOk P w H h)(e:Rd H a u):ZR P w H h a u:=e.ok ok
def JS{kvs:List (ZQ × V)}(ok:HOk P w H h)(e:Rd H a (.dK kvs)):kvs.length<=sizeLine/\(a == sysModules)=false/\∃ vs,KV kvs vs/\h.DictOf (ZT P w) a vs :=
 show ZR P w H h a (.dK kvs) from Zpg ok e
def Zob{kvs:List (ZQ × V)}(ok:HOk P w H h)(e:H a=some (.dK kvs)):kvs.length<=sizeLine/\(a == sysModules)=false/\∃ vs,KV kvs vs/\h.DictOf (ZT P w) a vs:=JS ok (.inl e)
def ZiM{ks:List ZQ}(ok:HOk P w H h)(e:H a=some (.tup (ks.map kV))):(tupleKind (ZT P w)).is h ks a:=by
 obtain⟨_,its,r,o,h1,h2,n,h3⟩:=(show ZR P w H h a (.tup (ks.map kV)) from ok a _ e)
 exact⟨o,its.toArray,n,h1,h2,h3,by simpa using ZfJ r⟩
def ZlW{kvs:List (List ZQ × V)}(ok:HOk P w H h)(e:Rd H a (.dT kvs)):kvs.length<=sizeLine/\(a == sysModules)=false /\
  ∃ xs,KT H kvs xs/\h.DictOfH (tupleKind (ZT P w)) a xs:=by
 obtain⟨z,y,xs,r,o,es,ep,h1,h2,h3,h4,h5⟩:=(show ZR P w H h a (.dT kvs) from Zpg ok e)
 refine⟨z,y,xs,r,o,es,ep,h1,h2,h3,h4,λx hx=>?_,h5⟩
 have all:∀ {l:List (List ZQ × V)}{m:List (List ZQ × Addr × Value)},KT H l m->∀ x∈m,(tupleKind (ZT P w)).is h x.1 x.2.1:=by
  intro l m q
  induction q with
  | nil=>intro x hx; exact nomatch hx
  | @cons p q ps qs hq t ih =>
   intro x hx
   rcases Yl.mp hx with e | hx
   ·subst e
    exact ZiM ok (by rw [<- hq.1]; exact hq.2.1)
   ·exact ih x hx
 exact all r x hx
def Zrp{kvs:List (List ZQ × V)}(ok:HOk P w H h)(e:H a=some (.dT kvs)):kvs.length<=sizeLine/\(a == sysModules)=false /\
  ∃ xs,KT H kvs xs/\h.DictOfH (tupleKind (ZT P w)) a xs:=ZlW ok (.inl e)
end
def ZmU(H:Hp)(a:Addr)(y:V)(r:Option V):Prop :=
 (∃ kvs k,Rd H a (.dK kvs)/\y=kV k/\r=Z8 kvs k)\/∃ kvs k b,Rd H a (.dT kvs)/\y=.ref b/\H b=some (.tup (k.map kV))/\r=Z8 kvs k
def Zo3(H:Hp)(a:Addr)(y v:V)(H':Hp):Prop :=
 (∃ kvs k,H a=some (.dK kvs)/\y=kV k/\kvs.length < sizeLine/\H'=upd H a (.dK (Jj kvs k v))) \/
 ∃ kvs k b,H a=some (.dT kvs)/\y=.ref b/\H b=some (.tup (k.map kV))/\kvs.length < sizeLine/\H'=upd H a (.dT (Jj kvs k v))
theorem ZmU.k{a:Addr}{kvs:List (ZQ × V)}{k:ZQ}(e:H a=some (.dK kvs)):ZmU H a (kV k) (Z8 kvs k):=.inl ⟨kvs,k,.inl e,rfl,rfl⟩
theorem ZmU.t{a b:Addr}{kvs:List (List ZQ × V)}{k:List ZQ}(e:H a=some (.dT kvs))(eb:H b=some (.tup (k.map kV))):ZmU H a (.ref b) (Z8 kvs k):=.inr ⟨kvs,k,b,.inl e,rfl,eb,rfl⟩
theorem Zo3.k{a:Addr}{kvs:List (ZQ × V)}{k:ZQ}{v:V}(e:H a=some (.dK kvs))(hl:kvs.length < sizeLine):Zo3 H a (kV k) v (upd H a (.dK (Jj kvs k v))):=.inl ⟨kvs,k,e,rfl,hl,rfl⟩
theorem Zo3.t{a b:Addr}{kvs:List (List ZQ × V)}{k:List ZQ}{v:V}(e:H a=some (.dT kvs))(eb:H b=some (.tup (k.map kV)))(hl:kvs.length < sizeLine) :
  Zo3 H a (.ref b) v (upd H a (.dT (Jj kvs k v))):=.inr ⟨kvs,k,b,e,rfl,eb,hl,rfl⟩
section
variable {X:Cx}{pins:List (Addr × Obj)}{σ:St}{H:Hp}{s:Shared}{a:Addr}{y v:V}{u r:Value}{o:Option V}{A:Around}{E:VSP}
def Inv.big(I:Inv X pins σ H s):sysModules < s.heap.objs.size:=by
 have h:mainGlobals < s.heap.objs.size:=(I.mod.glob.keeps I.bk).lt
 exact Nat.lt_trans (by decide) h
def ZiY{Q:VSP}(hu:A.units + 1 < cLine)(I:Inv X pins σ H s)(g:ZmU H a y (some v))(ry:Zt y u)(h:∀ w' s',Inv X pins σ H s'->Zt v w'->Q w' s') :
  wpAny (model X.prog X.w) A (getItem (.ref a) u) Q E s:=by
 rcases g with ⟨kvs,k,e,ey,l⟩ | ⟨kvs,k,b,e,ey,eb,l⟩
 ·subst ey
  obtain⟨z,hd,vs,rel,dd⟩:=JS I.hok e
  obtain⟨w',hw,rw'⟩:=JT.some_of (v:=v) (o:=valueAt vs k) (by rw [l]; exact rel.val k)
  exact wpAny_getItem_of (Zl9 ry) dd.mapOf hw (h w' _ (I.tok _) rw')
 ·subst ey
  cases (show u=Value.ref b from ry)
  obtain⟨z,hd,xs,rel,dd⟩:=ZlW I.hok e
  obtain⟨w',hw,rw'⟩:=JT.some_of (v:=v) (o:=(atKey xs k).map (·.2)) (by rw [l]; exact rel.val k)
  obtain⟨p,hp,hp2⟩:=YT.mp hw
  refine wpAny_getItem_heap (tupleKind_room_in1 hu) (ZiM I.hok eb) dd hp ?_
  rw [hp2]
  exact h w' _ (I.tok _) rw'
def ZgQ{h':Heap}{t':Nat}{ob:HO}(I:Inv X pins σ H s)(mu:Mut (H a))(hs:Heap.SameBut a s.heap h')(he:∃ q,h'.get? a=some q)(new:ZR X.prog X.w (upd H a ob) h' a ob) :
  Inv X pins σ (upd H a ob) { s with heap:=h',toks:=t' } :=
 I.write (x:=a) (e:=a) mu (.inl rfl) (λb q hb z=>(hs.2 b hb).trans z) he new
def Zii{P:Program}{w:World}{H':Hp}{h':Heap}{kvs:List (ZQ × V)}{vs:List (ZQ × Value)}(z:kvs.length<=sizeLine)(hd:(a == sysModules)=false)(rel:KV kvs vs)(dd:h'.DictOf (ZT P w) a vs) :
  ZR P w H' h' a (.dK kvs):=⟨z,hd,vs,rel,dd⟩
def Zjg{H':Hp}{Q:Unit->Shared->Prop}(hu:A.units + 1 < cLine)(I:Inv X pins σ H s)(g:Zo3 H a y v H')(ry:Zt y u)(rv:Zt v r)(h:∀ s',Inv X pins σ H' s'->Q () s') :
  wpAny (model X.prog X.w) A (setItem (.ref a) u r) Q E s:=by
 rcases g with ⟨kvs,k,e,ey,l,eH⟩ | ⟨kvs,k,b,e,ey,eb,l,eH⟩
 ·subst ey eH
  obtain⟨z,hd,vs,rel,dd⟩:=Zob I.hok e
  have hz:vs.length<=sizeLine:=by rw [<- rel.length]; exact z
  have hl:(Jj kvs k v).length<=sizeLine:=by have:=Za7 kvs k v; omega
  refine wpAny_setItem_pairs (hsz:=hz) (Zl9 ry) dd λh' dd' hs=>h _ ?_
  have he:∃ q,h'.get? a=some q:=let ⟨q,_,_,hq,_⟩:=dd'; ⟨q,hq⟩
  exact ZgQ I (by rw [e]; exact True.intro) hs he (Zii hl hd (rel.put k rv) dd')
 ·subst ey eH
  cases (show u=Value.ref b from ry)
  obtain⟨z,hd,xs,rel,dd⟩:=Zrp I.hok e
  have hz:xs.length<=sizeLine:=by rw [<- Paired.length rel]; exact z
  have hl:(Jj kvs k v).length<=sizeLine:=by have:=Za7 kvs k v; omega
  refine wpAny_setItem_heap (hsz:=hz) (tupleKind_room_in1 hu) (ZiM I.hok eb) dd λh' dd' hs=>h _ ?_
  obtain⟨q,es,ep,hq,h2,h3,h4,_,h5⟩:=dd'
  refine ZgQ I (by rw [e]; exact True.intro) hs ⟨q,hq⟩ ⟨hl,hd,_,(rel.put k eb rv).keeps λc ys ec=>?_,q,es,ep,hq,h2,h3,h4,h5⟩
  rw [Zg (JF ec e (λz=>nomatch z))]
  exact ec
end
section
variable {X:Cx}{pins:List (Addr × Obj)}{σ:St}{H:Hp}{s:Shared}{a:Addr}{kvs:List (ZQ × V)}{k:ZQ}{u:Value}{A:Around}{E:VSP}
def Zry{Q:VSP}(I:Inv X pins σ H s)(e:Rd H a (.dK kvs))(h:∀ t s',Inv X pins σ H s'->Q (.int kvs.length t) s'):wpAny (model X.prog X.w) A (call (.builtin "len") [.ref a]) Q E s:=by
 obtain⟨z,hd,vs,rel,dd⟩:=JS I.hok e
 refine call_len_dict hd dd (by rw [<- rel.length]; rw [Va] at z; omega) ?_
 rw [<- rel.length]
 exact h _ _ (I.tok _)
end
def Zsk(i:Expr):Prop:=∀ ov iv,subscripted i false ov iv=operate [ov,iv] (getItem ov iv)
def Znj{prog:Program}{w:World}{A:Around}{E:VSP}{s:Shared}{env:Env}{value slice:Expr}{pos:Pos}{T id:String}{Q:VSP}
  (hl:typeLookup (.type T) "__getitem__"=pure (some (.builtin id))) (hs:Zsk slice)
  (h:wpAny (model prog w) A (eval value env) (λo s₁=>wpAny (model prog w) A (eval slice env) (λi s₂=>s₂.TypeIs o T/\wpAny (model prog w) A (getItem o i) Q E s₂) E s₁) E s) :
  wpAny (model prog w) A (eval (.Subscript value slice pos) env) Q E s:=by
 refine Subscript_ (Yx h (λo s₁ h₁=>Yx h₁ (λi s₂ h₂=>?_) λ_ _ x=>x) λ_ _ x=>x)
 obtain⟨hT,h₂⟩:=h₂
 unfold subscriptTail
 refine Ya ?_
 rw [getitemInPython_of_ne hT.not_modules]
 refine Ya (wpAny_specialOf hT hl ?_)
 have fin:wpAny (model prog w) A (subscripted slice false o i) (λr s₃=>wpAny (model prog w) A (letTemporaryGo value o r >>= λ_=>pure r) Q E s₃) E s₂:=by
  rw [hs o i]
  exact wpAny_operating (Yx h₂ (λr s₃ h₃=>Ya (wpAny_letTemporaryGo (Yc h₃))) λ_ _ x=>x)
 first
  | exact Yc (Ya fin)
  | exact Ya (Yc (Ya fin))
  | exact Ya fin
def ZgB{X:Cx}{pins:List (Addr × Obj)}{σ:St}{s:Shared}{a:Addr}{y:V}{o:Option V}(I:Inv X pins σ H s)(g:ZmU H a y o):s.TypeIs (.ref a) "dict":=by
 rcases g with ⟨kvs,k,e,_,_⟩ | ⟨kvs,k,b,e,_,_,_⟩
 ·obtain⟨_,_,vs,_,dd⟩:=JS I.hok e
  exact dd.typeIs
 ·obtain⟨_,_,xs,_,dd⟩:=ZlW I.hok e
  exact dd.typeIs
section
variable {X:Cx}{o i e value:Expr}{pos pos' tpos:Pos}{td ty tv:TE}
end
def ZkV{P:Program}{w:World}(h:Heap)(hb:sysModules < h.objs.size):ZR P w H (h.push { cls:=.type "dict",data:=.dict #[] }) h.objs.size (.dK []) :=
 ⟨YF _,VD.mpr (Ne.symm (Yn hb)),[],.nil,Heap.DictOf.new h⟩
def ZqF:TE:=λ_ H Q=>∀ p,H p=none->Q (.ref p) (upd H p (.dK []))
section
variable {X:Cx}{pos:Pos}
def ZlJ:PE X (.Dict [] [] pos) ZqF:=λpins s σ H Q I h =>
 wpAny_Dict_empty ⟨.ref s.heap.objs.size,_,I.laid (a:=s.heap.objs.size) (o:=.dK []) (t':=s.toks) (λ_ _ q=>Yi _ q) (Yd _) (ZkV s.heap I.big),rfl,h _ (I.hok.fresh (Yd _))⟩
end
structure M1(X:Cx)(o:Expr)(m:Str)(apos:Pos)(e:Expr)(cpos:Pos):Prop where
 base:attributeBase o m X.env (eval o X.env)=eval o X.env
 few:((backTo cpos (starEach [e] X.env)).all (λx=>!x.1) && (backToKw cpos (keywordEach [] X.env)).all (λx=>x.1.isSome)
  && decide (([e]:List Expr).length + ([]:List Keyword).length + (if ([]:List Keyword).isEmpty then 0 else 1) < 30))=true
 line:(apos.endLine == cpos.line)=true
 trees:backTo cpos (starEach [e] X.env)=[(false,eval e X.env)]
structure M2(X:Cx)(o:Expr)(m:Str)(apos:Pos)(e f:Expr)(cpos:Pos):Prop where
 base:attributeBase o m X.env (eval o X.env)=eval o X.env
 few:((backTo cpos (starEach [e,f] X.env)).all (λx=>!x.1) && (backToKw cpos (keywordEach [] X.env)).all (λx=>x.1.isSome)
  && decide (([e,f]:List Expr).length + ([]:List Keyword).length + (if ([]:List Keyword).isEmpty then 0 else 1) < 30))=true
 line:(apos.endLine == cpos.line)=true
 trees:backTo cpos (starEach [e,f] X.env)=[(false,eval e X.env),(false,eval f X.env)]
def IsD(H:Hp)(a:Addr):Prop:=(∃ kvs,Rd H a (.dK kvs))\/∃ kvs,Rd H a (.dT kvs)
def ZjV{X:Cx}{pins:List (Addr × Obj)}{σ:St}{s:Shared}{a:Addr}(I:Inv X pins σ H s)(d:IsD H a) :
  s.TypeIs (.ref a) "dict"/\(∀ b,Value.ref a=.ref b->∃ ob,s.heap.get? b=some ob/\ob.dict=none)/\(a == sysModules)=false:=by
 rcases d with ⟨kvs,e⟩ | ⟨kvs,e⟩
 ·obtain⟨_,hd,vs,_,dd⟩:=JS I.hok e
  refine⟨dd.typeIs,λb q=>?_,hd⟩
  cases q
  obtain⟨ob,_,_,h1,h2,_⟩:=dd
  exact⟨ob,h1,h2.2.1⟩
 ·obtain⟨_,hd,xs,_,dd⟩:=ZlW I.hok e
  refine⟨dd.typeIs,λb q=>?_,hd⟩
  cases q
  obtain⟨ob,_,_,h1,h2,_⟩:=dd
  exact⟨ob,h1,h2.2.1⟩
section
variable {X:Cx}{pins:List (Addr × Obj)}{σ:St}{H:Hp}{s:Shared}{a:Addr}{y d:V}{u r:Value}{o:Option V}{A:Around}{E:VSP}
end
def Zm0(td ty tx:TE):TE:=λσ H Q=>td σ H λx H1=>∃ a,x=.ref a/\IsD H1 a/\ty σ H1 λy H2=>tx σ H2 λz H3=>∃ o,ZmU H3 a y o/\Q (o.getD z) H3
section
variable {X:Cx}{o e f:Expr}{apos cpos:Pos}{td ty tx:TE}
end
section
variable {X:Cx}{pins:List (Addr × Obj)}{σ:St}{H:Hp}{s:Shared}{a:Addr}{kvs:List (ZQ × V)}{A:Around}{E:VSP}
def Zlb{Q:VSP}(I:Inv X pins σ H s)(e:Rd H a (.dK kvs))(h:∀ p s',H p=none->Inv X pins σ (upd H p (.dK kvs)) s'->Q (.ref p) s'):wpAny (model X.prog X.w) A (call (.type "dict") [.ref a]) Q E s:=by
 obtain⟨z,hd,vs,rel,dd⟩:=JS I.hok e
 refine kt_call_dict hd dd (by rw [<- rel.length]; exact z) λh' dd' hs=>?_
 refine h _ _ (I.hok.fresh (Yd _)) (I.laid (a:=s.heap.objs.size) (o:=.dK kvs) (t':=s.toks) (λb q hq=>?_) (Yd _) (Zii z (VD.mpr (Ne.symm (Yn I.big))) rel dd'))
 exact (hs.2 b (Yn (Yh hq))).trans (Yi _ hq)
end
section
variable {X:Cx}{pins:List (Addr × Obj)}{σ:St}{H:Hp}{s:Shared}{a:Addr}{y:V}{u:Value}{A:Around}{E:VSP}
end
end L2
namespace My
def ZgZ{a b:Int}:Int.gcd b (a % b)=Int.gcd a b:=by
 rw [Int.emod_def,Int.gcd_comm a b]
 exact Int.gcd_sub_mul_left_right b a (a / b)
def Zdr{a b:Int}(hb:0 < b):(a % b).toNat < b.toNat:=by
 have h1:=VL a (Int.ne_of_gt hb)
 have h2:=V8 a hb
 omega
theorem ZiF(i:Int):(if i < 0 then -i else i)=(i.natAbs:Int):=by
 split <;> omega
def Znv(a b:Int):Int.gcd (a.natAbs:Int) (b.natAbs:Int)=Int.gcd a b:=by
 simp [Int.gcd]
def Z7(t b:Int):Int:=if b < 0 then -(Int.gcd t b:Int) else (Int.gcd t b:Int)
def Zgk{t b:Int}(hb:b ≠ 0):Z7 t b ≠ 0:=by
 have h:=V2 t hb
 unfold Z7
 split <;> omega
def ZaR(t b:Int):Z7 t b ∣ t:=by
 unfold Z7
 split
 ·exact Int.neg_dvd.mpr (Int.gcd_dvd_left t b)
 ·exact Int.gcd_dvd_left t b
def Zar(t b:Int):Z7 t b ∣ b:=by
 unfold Z7
 split
 ·exact Int.neg_dvd.mpr (Int.gcd_dvd_right t b)
 ·exact Int.gcd_dvd_right t b
def Zhf(t b:Int):(Z7 t b).natAbs=Int.gcd t b:=by
 unfold Z7
 split <;> simp
def Zbq{a d:Int}(h:d ∣ a):a.fdiv d=a / d:=by
 rw [Int.fdiv_eq_ediv_of_dvd h]
def Zlm{t b:Int}(hb:b ≠ 0):0 < b / Z7 t b:=by
 have hg:=V2 t hb
 obtain⟨k,hk⟩:=Zar t b
 have e:b / Z7 t b=k:=Int.ediv_eq_of_eq_mul_right (Zgk hb) hk
 rw [e]
 unfold Z7 at hk
 generalize hG:(Int.gcd t b:Int)=g at hk
 have hg':0 < g:=by omega
 by_cases h:0 < k
 ·exact h
 ·exfalso
  have h2:0<=g * (-k):=Int.mul_nonneg (by omega) (by omega)
  have h3:g * (-k)=-(g * k):=Int.mul_neg g k
  split at hk
  ·have h4:-g * k=-(g * k):=Int.neg_mul g k
   omega
  ·omega
def ZsD{t b:Int}(hb:b ≠ 0):Int.gcd (t / Z7 t b) (b / Z7 t b)=1:=by
 rw [Int.gcd_ediv (ZaR t b) (Zar t b),Zhf]
 exact Nat.div_self (V2 t hb)
def Za4{t b:Int}(hb:b ≠ 0):t / Z7 t b=(Rat.divInt t b).num/\b / Z7 t b=((Rat.divInt t b).den:Int):=by
 have hp:=Zlm (t:=t) hb
 have hc:=ZsD (t:=t) hb
 have hn:=Zgk (t:=t) hb
 have e1:t=Z7 t b * (t / Z7 t b):=(Int.mul_ediv_cancel' (ZaR t b)).symm
 have e2:b=Z7 t b * (b / Z7 t b):=(Int.mul_ediv_cancel' (Zar t b)).symm
 have hden:(b / Z7 t b).toNat ≠ 0:=by omega
 have hcop:(t / Z7 t b).natAbs.Coprime (b / Z7 t b).toNat:=by
  have:(b / Z7 t b).natAbs=(b / Z7 t b).toNat:=by omega
  rw [<- this]; exact hc
 have key:Rat.divInt t b=⟨t / Z7 t b,(b / Z7 t b).toNat,hden,hcop⟩:=by
  have:Rat.divInt (t / Z7 t b) (((b / Z7 t b).toNat:Nat):Int)=⟨t / Z7 t b,(b / Z7 t b).toNat,hden,hcop⟩:=by
   rw [Rat.divInt_ofNat]
   exact Rat.mkRat_self ⟨t / Z7 t b,(b / Z7 t b).toNat,hden,hcop⟩
  rw [<- this]
  rw [Rat.divInt_eq_divInt_iff hb (by omega)]
  have e3:(((b / Z7 t b).toNat:Nat):Int)=b / Z7 t b:=by omega
  rw [e3]
  conv=>lhs; rw [e1]
  conv=>rhs; rw [e2]
  grind
 constructor
 ·rw [key]
 ·rw [key]; show b / Z7 t b=(((b / Z7 t b).toNat:Nat):Int); omega
def Zbm{x y:Int}{a b:Nat}(hx:x.natAbs < 2 ^ a)(hy:y.natAbs < 2 ^ b):(x * y).natAbs < 2 ^ (a + b):=by
 rw [Int.natAbs_mul,YG]
 exact Nat.mul_lt_mul'' hx hy
theorem Ja{a c n:Nat}(h:n < 2 ^ a)(hac:a<=c):n < 2 ^ c:=Yy h (Y0 (by decide) hac)
def Zfg{t b:Int}(hb:b ≠ 0):(Rat.divInt t b).num.natAbs<=t.natAbs:=by
 rw [<- (Za4 hb).1]
 exact Int.natAbs_ediv_le_natAbs _ _
def ZeI{t b:Int}(hb:b ≠ 0):(Rat.divInt t b).den<=b.natAbs:=by
 have h:((Rat.divInt t b).den:Int).natAbs<=b.natAbs:=by
  rw [<- (Za4 (t:=t) hb).2]
  exact Int.natAbs_ediv_le_natAbs _ _
 simpa using h
def Zbo{n k:Nat}(h:n < 2 ^ k)(hk:0 < k):n.log2 < k:=by
 by_cases h0:n=0
 ·rw [h0]; simpa using hk
 ·exact (Nat.log2_lt h0).mpr h
def ZeA{t b:Int}(hb:b ≠ 0):Int.gcd t b<=b.natAbs:=Nat.le_of_dvd (by omega) (Nat.gcd_dvd_right _ _)
def SzQ(n:Nat)(q:Rat):Prop:=q.num.natAbs < 2 ^ n/\q.den < 2 ^ n
def SzQ.mono{n m:Nat}{q:Rat}(h:SzQ n q)(hm:n<=m):SzQ m q:=⟨Ja h.1 hm,Ja h.2 hm⟩
theorem SzQ.of{n:Nat}{t b:Int}(hb:b ≠ 0)(ht:t.natAbs < 2 ^ n)(hb2:b.natAbs < 2 ^ n):SzQ n (Rat.divInt t b) :=
 ⟨Ys (Zfg hb) ht,Ys (ZeI hb) hb2⟩
def Zep(q:Rat):(q.den:Int) ≠ 0:=by have:=q.den_pos; omega
def ZhO(p q:Rat):p + q=Rat.divInt (p.num * q.den + q.num * p.den) (p.den * q.den):=by
 conv=>lhs; rw [<- Ve p,<- Ve q]
 exact Rat.divInt_add_divInt _ _ (Zep p) (Zep q)
end My
set_option Elab.async false
set_option maxRecDepth 100000
namespace My
open PySem PySem.Spec L2
open PyProof.Rows hiding St
def Zz:Expr->Bool
 | .Starred ..=>false
 | _=>true
def Zx{e:Expr}{es:List Expr}{env:Env}(h:Zz e=true):starEach (e :: es) env=(false,eval e env) :: starEach es env:=by
 cases e <;> first | rfl | cases h
def Zd8{env:Env}{pos:Pos}:∀ {es:List Expr},es.all Zz=true->(backTo pos (starEach es env)).any (·.1)=false
 | [],_=>rfl
 | e :: es,h=>by
  rw [List.all_cons,VW] at h
  rw [Zx h.1]
  have:=Zd8 (env:=env) (pos:=pos) h.2
  unfold backTo at this ⊢
  simpa using this
section
variable {X:Cx}{e:Expr}{es:List Expr}{te:TE}{t:TA}{pos p:Pos}{x:Str}{id T:String}{r:List V->Hp->VK->Prop}
def Zso(ha:PE X e te)(hr:PA X es t)(hp:Zz e=true:=by rfl):PA X (e :: es) (Zh5 te t):=Zit ha hr (Zx hp)
def Z5{e:Expr}{es:List Expr}(h:(e :: es).all Zz=true):Zz e=true/\es.all Zz=true:=by
 rw [List.all_cons,VW] at h
 exact h
def ZlY(hc:Jl X (.builtin id) r)(hg:Gl X x)(hm:X.mg x=none)(hv:bootBuiltins x=some (.builtin id))(ha:PA X (e :: es) t)(hp:(e :: es).all Zz=true:=by rfl)(hn:x ≠ "__name__":=by decide)(hdb:(x == ("__debug__":Str))=false:=by decide) :
  PE X (.Call (.Name x p) (e :: es) [] pos) (tCB r t):=Zbw hc hg hm hv ha hn hdb (Zx (Z5 hp).1) (Zd8 (Z5 hp).2)
def Zpd(hc:Jl X (.type T) r)(hg:Gl X x)(hm:X.mg x=none)(hv:bootBuiltins x=some (.type T))(ha:PA X (e :: es) t)(hp:(e :: es).all Zz=true:=by rfl)(hn:x ≠ "__name__":=by decide)(hdb:(x == ("__debug__":Str))=false:=by decide) :
  PE X (.Call (.Name x p) (e :: es) [] pos) (tCB r t):=Zcj hc hg hm hv ha hn hdb (Zx (Z5 hp).1) (Zd8 (Z5 hp).2)
end
structure Fn(P:Program)(w:World)(K:PySem.W.Frag)(mg:Str->Option Value)(base:Heap)(CX:CXT)(k:Nat)(x:Str)(ps:List Str)(sp:Sp):Prop where
 ex:∃ (f:Addr) (fd:FuncData),FnOk P w K mg base CX k f fd ps sp/\ZY K fd ps []/\keepIn K (.ref f)=true/\mg x=some (.ref f)
section
variable {X:Cx}{CX:CXT}{j k:Nat}{x:Str}{ps:List Str}{sp:Sp}{p pos:Pos}{e:Expr}{es:List Expr}{t:TA}
def ZrC(F:Fn X.prog X.w X.K X.mg X.base ZC j x ps sp)(hr:Room k X.A)(hj:j<=k)(hg:Gl X x)(ha:PA X (e :: es) t)(hp:(e :: es).all Zz=true:=by rfl)(hdb:(x == ("__debug__":Str))=false:=by decide) :
  PE X (.Call (.Name x p) (e :: es) [] pos) (ZgH sp [] E0 t):=by
 obtain⟨f,fd,G,b,kp,m⟩:=F.ex
 exact Znb G (hr.mono hj) hg m kp b .nil Zla ha hdb (Zx (Z5 hp).1) (Zd8 (Z5 hp).2)
end
section
variable {X:Cx}
def ZlI:OpR X (binaryOp .FloorDiv) (rI (λ_ j=>j ≠ 0/\j.natAbs.log2 < 9000) λi j=>.int (i.fdiv j)) :=
 opI λ_ _ _ _ _ _ _ hc q=>floordiv_int hc.1 q (.inl (PyProof.noPylong_of_log2 hc.2))
def Zlh:OpR X (binaryOp .FloorDiv) (rI (λ_ j=>0 < j/\j.natAbs.log2 < 9000) λi j=>.int (i / j)) :=
 opI λi j _ _ _ _ _ hc q=>floordiv_int (Int.ne_of_gt hc.1) (by rw [V4 i (Int.le_of_lt hc.1)]; exact q) (.inl (PyProof.noPylong_of_log2 hc.2))
def Zok:OpR X (binaryOp .Mult) (rI IntMulOk λi j=>.int (i * j)):=opI λ_ _ _ _ _ _ _ hc q=>mul_int q hc
end
def JP(H:Hp):V->Option String
 | .non=>some "NoneType"
 | .bl _=>some "bool"
 | .int _=>some "int"
 | .str _=>some "str"
 | .ref a=>match H a with
  | some (.lst _)=>some "list"
  | some (.tup _)=>some "tuple"
  | some (.dK _)=>some "dict"
  | _=>none
 | _=>none
def Zol:List String:=["NoneType","bool","int","str","list","tuple","dict"]
def Zk4:List String:=["bool","int","str","list","tuple","dict"]
def isA(t n:String):Bool:=t == n || (t == "bool" && n == "int")
def ZnV(H:Hp)(x:Bool):JP H (.bl x)=some "bool":=rfl
def ZlZ(H:Hp)(i:Int):JP H (.int i)=some "int":=rfl
theorem Zhg{H:Hp}{a:Addr}{xs:List V}(h:H a=some (.tup xs)):JP H (.ref a)=some "tuple":=by unfold JP; dsimp only; rw [h]
theorem ZkS{H:Hp}{a:Addr}{xs:List V}(h:H a=some (.lst xs)):JP H (.ref a)=some "list":=by unfold JP; dsimp only; rw [h]
def Znp:("int"∈Zk4)=True:=eq_true (by decide)
def Zmi:("bool"∈Zk4)=True:=eq_true (by decide)
def ZjX:("tuple"∈Zk4)=True:=eq_true (by decide)
def ZkO:("list"∈Zk4)=True:=eq_true (by decide)
def Znz:("str"∈Zk4)=True:=eq_true (by decide)
def ZpO:isA "bool" "bool"=true:=by decide
def Zqn:isA "bool" "int"=true:=by decide
def Zpp:isA "int" "int"=true:=by decide
def ZpT:isA "int" "bool"=false:=by decide
def Zp9:isA "tuple" "tuple"=true:=by decide
def ZpE:isA "list" "list"=true:=by decide
def Zml{K:PySem.W.Frag}{H:Hp}{x:V}{t:String}(e:JP H x=some t):TyOf K H x (.type t)/\t∈Zol:=by
 unfold JP at e
 split at e
 ·cases e; exact⟨.non,by decide⟩
 ·cases e; exact⟨.bl _,by decide⟩
 ·cases e; exact⟨.int _,by decide⟩
 ·cases e; exact⟨.str _,by decide⟩
 ·split at e
  ·cases e; exact⟨.lst (by assumption),by decide⟩
  ·cases e; exact⟨.tup (by assumption),by decide⟩
  ·cases e; exact⟨.dK (by assumption),by decide⟩
  ·cases e
 ·cases e
def Zkg(K:PySem.W.Frag):∀ t∈Zol,∀ n∈Zk4,kitOne K (.type t) (.type n)=some (isA t n):=by
 intro t ht n hn
 simp only [Zol,Zk4,List.mem_cons,List.not_mem_nil,or_false] at ht hn
 rcases ht with rfl | rfl | rfl | rfl | rfl | rfl | rfl <;> rcases hn with rfl | rfl | rfl | rfl | rfl | rfl <;> rfl
section
variable {X:Cx}
def ZjN:Jl X (.builtin "isinstance") (λxs H Q=>∃ x n t,xs=[x,.ty n]/\JP H x=some t/\n∈Zk4/\Q (.bl (isA t n)) H):=by
 intro pins s σ H xs us Q I r h
 obtain⟨x,n,t,rfl,e,hn,q⟩:=h
 obtain⟨u,v,rfl,ru,rv⟩:=Zpj r
 cases (show v=Value.type n from rv)
 obtain⟨ty,ht⟩:=Zml (K:=X.K) e
 exact Ziu I ru ty (Zkg X.K t ht n hn) λtk=>⟨.bl (isA t n),H,I.tok tk,rfl,q⟩
def ZrQ{x:Str}{T:String}{pos:Pos}(hg:Gl X x)(hm:X.mg x=none)(hv:bootBuiltins x=some (.type T))(hn:x ≠ "__name__":=by decide)(hd:(x == ("__debug__":Str))=false:=by decide):PE X (.Name x pos) (tC (.ty T)) :=
 Znt hg hm hv rfl hn hd
end
section
variable {X:Cx}{e:Expr}{es:List Expr}{te:TE}{t:TA}{pos:Pos}
theorem Jh{H:Hp}{p:Addr}(h:H p=none)(o:HO):Zk H (upd H p o):=λb u q=>by rw [Zg (Zm q h)]; exact q
def ZkQ(t:TA):TE:=λσ H Q=>t σ H λxs H1=>xs.length<=1000/\∀ p H2,H1 p=none->Zk H1 H2->H2 p=some (.tup xs)->Q (.ref p) H2
def ZlL(t:TA):TE:=λσ H Q=>t σ H λxs H1=>xs.length<=1000/\∀ p H2,H1 p=none->Zk H1 H2->H2 p=some (.lst xs)->Q (.ref p) H2
def ZgX{n:Nat}(h:n<=1000):n<=sizeLine:=Yp (Zf0 h)
def ZnN{x1}(h:PA X es t):PE X (.Tuple es x1 pos) (ZkQ t):=by
 intro pins s σ H Q I hq
 refine wpAny_Tuple_spliced (ZZ (h pos pins s σ H _ I hq) λus s1 ⟨xs,H1,I1,r,z,q⟩=>⟨by rw [<- r.length]; exact ZgX z,?_⟩)
 have hf:H1 s1.heap.objs.size=none:=I1.hok.fresh (Yd _)
 refine⟨.ref s1.heap.objs.size,upd H1 s1.heap.objs.size (.tup xs),I1.laid (t':=s1.toks) (λb u e=>Yi _ e) (Yd _) ?_,rfl,q _ _ hf (Jh hf _) Zf⟩
 exact⟨ZgX z,us,r,⟨_,Yo _ rfl,rfl,_,rfl⟩⟩
def ZnE(h:PA X es t):PE X (.List es pos) (ZlL t):=by
 intro pins s σ H Q I hq
 refine wpAny_List_spliced (ZZ (h pos pins s σ H _ I hq) λus s1 ⟨xs,H1,I1,r,z,q⟩=>⟨by rw [<- r.length]; exact ZgX z,?_⟩)
 have hf:H1 s1.heap.objs.size=none:=I1.hok.fresh (Yd _)
 refine⟨.ref s1.heap.objs.size,upd H1 s1.heap.objs.size (.lst xs),I1.laid (t':=s1.toks) (λb u e=>Yi _ e) (Yd _) ?_,rfl,q _ _ hf (Jh hf _) Zf⟩
 exact⟨ZgX z,us,0,r,Yo _ rfl⟩
def ZmA{r r':R2}(h:IxR X r)(i:∀ x y H Q,r' x y H Q->r x y H Q):IxR X r' :=
 λvalue slice pins s σ H x y v u Q I rx ry q hs=>h value slice pins s σ H x y v u Q I rx ry (i x y H Q q) hs
def ZlP:R2:=λx y H Q=>∃ p xs i v,x=.ref p/\y=.int i/\H p=some (.tup xs)/\atI xs i=some v/\Q v H
def ZgC:R2:=λx y H Q=>∃ p xs i v,x=.ref p/\y=.int i/\H p=some (.lst xs)/\atI xs i=some v/\Q v H
def Zom:IxR X ZlP:=ZmA Zp0 λ_ _ _ _ ⟨p,xs,i,v,h1,h2,h3,h4,q⟩=>⟨p,xs,i,v,h1,h2,SqT.of h3,h4,q⟩
def ZoC:IxR X ZgC:=ZmA Zjk λ_ _ _ _ ⟨p,xs,i,v,h1,h2,h3,h4,q⟩=>⟨p,xs,i,v,h1,h2,JC.of h3,h4,q⟩
def Zks:Jl X (.builtin "len") (λxs H Q=>∃ p ys,xs=[.ref p]/\(H p=some (.lst ys)\/H p=some (.tup ys))/\Q (.int ys.length) H) :=
 λpins s σ H xs us Q I r ⟨p,ys,h1,h2,q⟩=>Zc3 pins s σ H xs us Q I r ⟨p,ys,h1,h2.imp JC.of SqT.of,q⟩
def Zq7(to:TE)(t:TA):TE:=λσ H Q=>to σ H λx H1=>∃ l zs,x=.ref l/\H1 l=some (.lst zs)/\t σ H1 λvs H2=>∃ y xs,vs=[y]/\H2 l=some (.lst xs)/\xs.length < 1000000/\Q .non (upd H2 l (.lst (xs ++ [y])))
def Zsm{n:Nat}(h:n < 1000000):n < sizeLine:=Nat.lt_trans h (by decide)
def ZiH{o:Expr}{to:TE}{apos cpos:Pos}(ho:PE X o to)(ha:PA X (e :: es) t)
  (hbase:attributeBase o "append" X.env (eval o X.env)=eval o X.env:=by rfl)
  (hfew:((backTo cpos (starEach (e :: es) X.env)).all (λx=>!x.1) && (backToKw cpos (keywordEach [] X.env)).all (λx=>x.1.isSome)
   && decide ((e :: es).length + ([]:List Keyword).length + (if ([]:List Keyword).isEmpty then 0 else 1) < 30))=true:=by rfl)
  (hline:(apos.endLine == cpos.line)=true:=by rfl) (hs:starEach (e :: es) X.env=(false,eval e X.env) :: starEach es X.env:=by rfl) (hplain:(backTo cpos (starEach es X.env)).any (·.1)=false:=by rfl) :
  PE X (.Call (.Attribute o "append" apos) (e :: es) [] cpos) (Zq7 to t):=by
 intro pins s σ H Q I h
 refine wpAny_Call_method_late hbase hfew hline rfl (ZZ (ho pins s σ H _ I h) λv s1 ⟨x,H1,I1,r1,l,zs,e1,e2,q1⟩=>?_)
 obtain⟨h1,h2⟩:=Zmv (T:="list") I1 r1 (by rw [e1]; exact .inl ⟨rfl,zs,JC.of e2⟩)
 refine⟨"list","list.append",PySem.F.plainAttrs_list,PySem.F.slot_list_append,PySem.F.type_list_append,h1,h2,?_⟩
 have hA:=ha cpos pins s1 σ H1 _ I1 q1
 rw [hs] at hA ⊢
 refine VR (by show (false || (backTo cpos (starEach es X.env)).any (·.1))=false; rw [hplain] <;> rfl) (Calls.evalArgs_plain ?_)
 exact ZZ hA λus s2 ⟨vs,H2,I2,r2,y,xs,e3,e4,z,q2⟩=>ZfI pins s2 σ H2 x vs v us Q I2 r1 r2 ⟨l,xs,y,e1,e3,e4,Zsm z,q2⟩
theorem Zo{H H':Hp}{p:Addr}{o:HO}(hp:H p=none)(hs:Zk H H'):Zk H (upd H' p o):=λb u q=>by rw [Zg (Zm q hp)]; exact hs b u q
def Zll(n:Nat)(t:TGs):TG:=λv σ H Q=>∃ a xs,v=.ref a/\H a=some (.tup xs)/\xs.length=n/\t xs σ H Q
def Znu{es:List Expr}{k:Nat}{t:TGs}{n:Nat}(hc:X.calm=true)(h:PGs X es t)
  (hn:(assignEach es X.env).length=n:=by rfl) (hst:(assignEach es X.env).findIdx? (·.1)=none:=by rfl):PG X (.Tuple es k pos) (Zll n t) :=
 λpins s σ H v u Q I r ⟨a,xs,h1,h2,h3,q⟩=>Zp4 hc h hn hst pins s σ H v u Q I r ⟨a,xs,h1,SqT.of h2,h3,q⟩
end
def ZsE{α:Type}(x:α)(xs:List α):atI (x :: xs) 0=some x:=ZP (j:=0) rfl
def ZsJ{α:Type}(x y:α)(xs:List α):atI (x :: y :: xs) 1=some y:=ZP (j:=1) rfl
def Zsu{α:Type}(x y z:α)(xs:List α):atI (x :: y :: z :: xs) 2=some z:=ZP (j:=2) rfl
def Zsp{α:Type}(x y z u:α)(xs:List α):atI (x :: y :: z :: u :: xs) 3=some u:=ZP (j:=3) rfl
def cellOf(ns:List Int)(k:Nat):Int:=ns.getD k (2 * (k:Int) + 1)
def Zn0{ns:List Int}{k:Nat}(h:k < ns.length):atI (ns.map V.int) (k:Int)=some (.int (cellOf ns k)):=by
 refine ZP ?_
 rw [Yg,Yb h]
 simp [cellOf,List.getD,List.getElem?_eq_getElem h]
def Zi0(σ:St)(i:Nat):Int:=match σ[i]? with
 | some (some (.int m))=>m
 | _=>0
theorem Zce{c:TT}{tb:TS}{D:Ends}{σ:St}{H:Hp}(Pv:St->Hp->Prop)(μ:St->Hp->Nat)(h0:Pv σ H)
  (hs:∀ σ H,Pv σ H->c σ H λb H1=>if b=true then ∃ N:St->Hp->Prop,(∀ σ' H',N σ' H'->∃ m',m' < μ σ H/\(m'=μ σ' H'/\Pv σ' H'))/\tb { D with nx:=N,ct:=N,bk:=D.nx } σ H1 else D.nx σ H1):ZjZ c tb D σ H:=by
 refine⟨λm σ H=>m=μ σ H/\Pv σ H,⟨_,rfl,h0⟩,?_⟩
 rintro m σ H ⟨rfl,p⟩
 exact hs σ H p
structure QE(X:Cx)(e:Expr)(t:TE):Prop where
 h:PE X e t
structure QT(X:Cx)(e:Expr)(t:TT):Prop where
 h:PT X e t
structure QW(X:Cx)(e:Expr)(t:TT):Prop where
 h:PW X e t
structure QA(X:Cx)(es:List Expr)(t:TA):Prop where
 h:PA X es t
structure QS(X:Cx)(st:Stmt)(t:TS):Prop where
 h:PS X st t
structure QB(X:Cx)(sts:List Stmt)(t:TS):Prop where
 h:PSs X sts t
structure QI(X:Cx)(tg it:Expr)(t:TI):Prop where
 h:PI X tg it t
structure QG(X:Cx)(tg:Expr)(t:TG):Prop where
 h:PG X tg t
structure QGs(X:Cx)(tgs:List Expr)(t:TGs):Prop where
 h:PGs X tgs t
section
variable {X:Cx}{a b c e:Expr}{es Jk:List Expr}{ta tb tc te:TE}{tA tB':TT}{t:TA}{pos p:Pos}{x:Str}
theorem Ze(i:Nat)(hN:X.N[i]?=some x:=by rfl)(hv:Vis X.env.scope x:=by first | exact Or.inl rfl | exact Or.inr (Or.inl rfl) | exact Or.inr (Or.inr rfl))(hd:(x == ("__debug__":Str))=false:=by decide)
  (hcd:(x == ("__classdict__":Str))=false:=by decide):QE X (.Name x pos) (Zo0 i):=⟨ZpC hN hv hd hcd⟩
def Zd{i j}:QE X (.Constant (.int i) j pos) (tC (.int i)):=⟨ZpB⟩
theorem Zo4{k j}:QE X (.Constant (.bool k) j pos) (tC (.bl k)):=⟨Zrl⟩
def ZqK{y j}:QE X (.Constant (.str y) j pos) (tC (.str y)):=⟨ZpP⟩
def ZoZ{T:String}(hg:Gl X x)(hm:X.mg x=none)(hv:bootBuiltins x=some (.type T))(hn:x ≠ "__name__":=by decide)(hd:(x == ("__debug__":Str))=false:=by decide):QE X (.Name x pos) (tC (.ty T)):=⟨ZrQ hg hm hv hn hd⟩
def Je(ha:QE X a ta)(hb:QE X b tb):QE X (.BinOp a .Add b pos) (tOp (rI0 λi j=>.int (i + j)) ta tb):=⟨Zc7 ZqI ha.h hb.h⟩
def Zea(ha:QE X a ta)(hb:QE X b tb):QE X (.BinOp a .Sub b pos) (tOp (rI0 λi j=>.int (i - j)) ta tb):=⟨Zc7 Zqd ha.h hb.h⟩
def ZgA(ha:QE X a ta)(hb:QE X b tb):QE X (.BinOp a .Mult b pos) (tOp (rI Zo1 λi j=>.int (i * j)) ta tb):=⟨Zc7 ZpW ha.h hb.h⟩
def Jr(ha:QE X a ta)(hb:QE X b tb):QE X (.BinOp a .Mult b pos) (tOp (rI IntMulOk λi j=>.int (i * j)) ta tb):=⟨Zc7 Zok ha.h hb.h⟩
def JY(ha:QE X a ta)(hb:QE X b tb):QE X (.BinOp a .Mod b pos) (tOp (rI (λ_ j=>0 < j) λi j=>.int (i % j)) ta tb):=⟨Zc7 ZqO ha.h hb.h⟩
def Zmr(ha:QE X a ta)(hb:QE X b tb):QE X (.BinOp a .FloorDiv b pos) (tOp (rI Zrd λi j=>.int (i / j)) ta tb):=⟨Zc7 ZoO ha.h hb.h⟩
def Zoy(ha:QE X a ta)(hb:QE X b tb):QE X (.BinOp a .FloorDiv b pos) (tOp (rI (λ_ j=>0 < j/\j.natAbs.log2 < 9000) λi j=>.int (i / j)) ta tb):=⟨Zc7 Zlh ha.h hb.h⟩
def ZcL(ha:QE X a ta)(hb:QE X b tb):QE X (.BinOp a .FloorDiv b pos) (tOp (rI (λ_ j=>j ≠ 0/\j.natAbs.log2 < 9000) λi j=>.int (i.fdiv j)) ta tb):=⟨Zc7 ZlI ha.h hb.h⟩
def Zpz(ha:QE X a ta)(hb:QE X b tb):QE X (.BinOp a .Pow b pos) (tOp (rI Zrc λi j=>.int (i ^ j.toNat)) ta tb):=⟨Zc7 ZpV ha.h hb.h⟩
def Zqz(ha:QE X a ta)(hb:QE X b tb):QE X (.BinOp a .Add b pos) (tOp Zrg ta tb):=⟨Zc7 ZpX ha.h hb.h⟩
def Zqe(ha:QE X a ta)(hb:QE X b tb):QE X (.BinOp a .Add b pos) (tOp (λx y H Q=>∃ i j,x=.str i/\y=.str j/\i.length + j.length<=sizeLine/\Q (.str (i ++ j)) H) ta tb):=⟨Zc7 Zh0 ha.h hb.h⟩
def ZpL(ha:QE X a ta):QE X (.UnaryOp .USub a pos) (tUn (rU λi=>.int (-i)) ta):=⟨Zru Zo9 ha.h⟩
def ZrO(ha:QE X a ta):QE X (.UnaryOp .Not a pos) (Zlz ta):=⟨ZqW ha.h⟩
def Zid{op}(ha:QE X a ta):QE X (.BoolOp op [a] pos) ta:=⟨ZpF ha.h⟩
def ZhD(ha:QE X a ta)(hb:QE X (.BoolOp .And (b :: Jk) pos) tb):QE X (.BoolOp .And (a :: b :: Jk) pos) (ZkR ta tb):=⟨ZqE ha.h hb.h⟩
def Zst(ha:QE X a ta)(hb:QE X (.BoolOp .Or (b :: Jk) pos) tb):QE X (.BoolOp .Or (a :: b :: Jk) pos) (Zrb ta tb):=⟨Zrm ha.h hb.h⟩
def Zq9(ha:QE X a ta)(hb:QE X b tb):QE X (.Compare a [.Eq] [b] pos) (tOp rEq ta tb):=⟨ZdB ZpM ha.h hb.h (ZbH _)⟩
def ZsF(ha:QE X a ta)(hb:QE X b tb):QE X (.Compare a [.Lt] [b] pos) (tOp (rI0 λi j=>.bl (decide (i < j))) ta tb):=⟨ZdB ZnD ha.h hb.h (ZbH _)⟩
def Zrx(ha:QE X a ta)(hb:QE X b tb):QE X (.Compare a [.GtE] [b] pos) (tOp (rI0 λi j=>.bl (decide (j<=i))) ta tb):=⟨ZdB Zqp ha.h hb.h (ZbH _)⟩
def JR(ha:QE X e te)(he:∀ whole,isTrue e X.env whole=(do let v <- whole; standAt e.pos; holding [v] (truthy v)):=by intro _; rfl):QT X e (tB te):=⟨Zpm ha.h he⟩
def Zee(ha:QT X a tA):QT X (.UnaryOp .Not a pos) (Zq5 tA):=⟨ZpG ha.h⟩
def Zqt(ha:QT X a tA):QW X (.BoolOp .And [a] pos) tA:=⟨Zon ha.h⟩
def Zhx(ha:QT X a tA):QW X (.BoolOp .Or [a] pos) tA:=⟨Zqw ha.h⟩
def ZrH(ha:QT X a tA)(hb:QW X (.BoolOp .And (b :: Jk) pos) tB'):QW X (.BoolOp .And (a :: b :: Jk) pos) (ZqX tA tB'):=⟨Zph ha.h hb.h⟩
def ZoL(ha:QT X a tA)(hb:QW X (.BoolOp .Or (b :: Jk) pos) tB'):QW X (.BoolOp .Or (a :: b :: Jk) pos) (tOr tA tB'):=⟨ZrY ha.h hb.h⟩
def t_w(h:QW X e tA):QT X e tA:=⟨h.h.pt⟩
def Zo5(ha:QE X a ta)(hb:QE X b tb):QT X (.Compare a [.Eq] [b] pos) (Zd5 (tOp rEq ta tb)):=⟨ZbK ZpM ha.h hb.h (ZbH _)⟩
def Zrf(ha:QE X a ta)(hb:QE X b tb):QT X (.Compare a [.NotEq] [b] pos) (Zd5 (tOp rNe ta tb)):=⟨ZbK ZrP ha.h hb.h (ZbH _)⟩
def ZqC(ha:QE X a ta)(hb:QE X b tb):QT X (.Compare a [.Lt] [b] pos) (Zd5 (tOp (rI0 λi j=>.bl (decide (i < j))) ta tb)):=⟨ZbK ZnD ha.h hb.h (ZbH _)⟩
def Zoc(ha:QE X a ta)(hb:QE X b tb):QT X (.Compare a [.Gt] [b] pos) (Zd5 (tOp (rI0 λi j=>.bl (decide (j < i))) ta tb)):=⟨ZbK ZrM ha.h hb.h (ZbH _)⟩
def Zr8(ha:QE X a ta)(hb:QE X b tb):QT X (.Compare a [.GtE] [b] pos) (Zd5 (tOp (rI0 λi j=>.bl (decide (j<=i))) ta tb)):=⟨ZbK Zqp ha.h hb.h (ZbH _)⟩
theorem Zb:QA X [] ZoR:=⟨ZmB⟩
theorem Zl(ha:QE X e te)(hr:QA X es t)(hp:Zz e=true:=by rfl):QA X (e :: es) (Zh5 te t):=⟨Zso ha.h hr.h hp⟩
def Zgl{x1}(h:QA X es t):QE X (.Tuple es x1 pos) (ZkQ t):=⟨ZnN h.h⟩
def JD(h:QA X es t):QE X (.List es pos) (ZlL t):=⟨ZnE h.h⟩
def Jf(ha:QE X a ta)(hb:QE X b tb)(hs:Zdz b:=by intro _ _; rfl):QE X (.Subscript a b pos) (tOp ZlP ta tb):=⟨ZlH Zom ha.h hb.h hs⟩
def ZX(ha:QE X a ta)(hb:QE X b tb)(hs:Zdz b:=by intro _ _; rfl):QE X (.Subscript a b pos) (tOp ZgC ta tb):=⟨ZlH ZoC ha.h hb.h hs⟩
def Zrk(ha:QE X a ta)(hb:QE X b tb)(hs:Zdz b:=by intro _ _; rfl):QE X (.Subscript a b pos) (tOp (Zri X.K) ta tb):=⟨ZlH Zjk ha.h hb.h hs⟩
theorem Ju(hg:Gl X "len")(hm:X.mg "len"=none)(ha:QA X (e :: es) t)(hp:(e :: es).all Zz=true:=by rfl) :
  QE X (.Call (.Name "len" p) (e :: es) [] pos) (tCB (λxs H Q=>∃ p ys,xs=[.ref p]/\(H p=some (.lst ys)\/H p=some (.tup ys))/\Q (.int ys.length) H) t):=⟨ZlY Zks hg hm PySem.boot_len ha.h hp⟩
def Zqk(hg:Gl X "len")(hm:X.mg "len"=none)(ha:QA X (e :: es) t)(hp:(e :: es).all Zz=true:=by rfl) :
  QE X (.Call (.Name "len" p) (e :: es) [] pos) (tCB (λxs H Q=>∃ p ys,xs=[.ref p]/\(JC X.K H p ys\/SqT X.K H p ys)/\Q (.int ys.length) H) t):=⟨ZlY Zc3 hg hm PySem.boot_len ha.h hp⟩
def ZlV(hg:Gl X "abs")(hm:X.mg "abs"=none)(ha:QA X (e :: es) t)(hp:(e :: es).all Zz=true:=by rfl) :
  QE X (.Call (.Name "abs" p) (e :: es) [] pos) (tCB (λxs H Q=>∃ i,xs=[.int i]/\Q (.int (if i < 0 then -i else i)) H) t):=⟨ZlY Zk2 hg hm (by rfl) ha.h hp⟩
def Zev(hg:Gl X "isinstance")(hm:X.mg "isinstance"=none)(ha:QA X (e :: es) t)(hp:(e :: es).all Zz=true:=by rfl) :
  QE X (.Call (.Name "isinstance" p) (e :: es) [] pos) (tCB (λxs H Q=>∃ x n t,xs=[x,.ty n]/\JP H x=some t/\n∈Zk4/\Q (.bl (isA t n)) H) t):=⟨ZlY ZjN hg hm (by rfl) ha.h hp⟩
def ZmG(hg:Gl X "int")(hm:X.mg "int"=none)(ha:QA X (e :: es) t)(hp:(e :: es).all Zz=true:=by rfl) :
  QE X (.Call (.Name "int" p) (e :: es) [] pos) (tCB (λxs H Q=>(∃ i,xs=[.int i]/\Q (.int i) H)\/∃ k,xs=[.bl k]/\Q (.int (if k then 1 else 0)) H) t):=⟨Zpd Zkp hg hm (by rfl) ha.h hp⟩
variable {j k:Nat}{ps:List Str}{sp:Sp}
theorem ZsK(F:Fn X.prog X.w X.K X.mg X.base ZC j x ps sp)(hr:Room k X.A)(hj:j<=k)(hg:Gl X x)(ha:QA X (e :: es) t)(hp:(e :: es).all Zz=true:=by rfl)(hdb:(x == ("__debug__":Str))=false:=by decide) :
  QE X (.Call (.Name x p) (e :: es) [] pos) (ZgH sp [] E0 t):=⟨ZrC F hr hj hg ha.h hp hdb⟩
theorem Jn(F:Fn X.prog X.w X.K X.mg X.base ZC j x ps sp)(hr:Room k X.A)(ha:QA X (e :: es) t)(hj:j<=k:=by decide)(hg:Gl X x:=by rfl)(hp:(e :: es).all Zz=true:=by rfl)(hdb:(x == ("__debug__":Str))=false:=by decide):QE X (.Call (.Name x p) (e :: es) [] pos) (ZgH sp [] E0 t):=ZsK F hr hj hg ha hp hdb
def ZhI{o:Expr}{to:TE}{apos cpos:Pos}(ho:QE X o to)(ha:QA X [e] t)(hbase:attributeBase o "append" X.env (eval o X.env)=eval o X.env:=by rfl)(hline:(apos.endLine == cpos.line)=true:=by rfl)(hp:Zz e=true:=by rfl) :
  QE X (.Call (.Attribute o "append" apos) [e] [] cpos) (Zq7 to t) :=
 ⟨ZiH ho.h ha.h hbase (by rw [Zx hp]; rfl) hline (Zx hp) rfl⟩
end
section
variable {X:Cx}{st:Stmt}{Jk a b body:List Stmt}{t u tb:TS}{e c tg it:Expr}{te:TE}{tc:TT}{pos:Pos}{g:TG}{wi:TI}
def Jm:QB X [] Zk6:=⟨Zof⟩
def Zc(h1:QS X st t)(h2:QB X Jk u):QB X (st :: Jk) (Zp5 t u):=⟨Zlt h1.h h2.h⟩
theorem Zj(h1:QS X st t):QB X [st] t:=⟨Zov h1.h⟩
def ZbI:QS X st ZmW:=⟨ZlS⟩
theorem ZF(he:QE X e te):QS X (.Return (some e) pos) (Zq0 te):=⟨Zp6 he.h⟩
def JL(hc:QT X c tc)(ha:QB X a t)(hb:QB X b u):QS X (.If c a b pos) (Zqx tc t u):=⟨Zrr hc.h ha.h hb.h⟩
def Jy(he:QE X e te)(hs:swapsWith e none pos.line X.env=pure false:=by rfl):QS X (.Expr e pos) (Zl5 te):=⟨Znx he.h hs⟩
def Zn{x:Str}{pos':Pos}(i:Nat)(hN:X.N.Nodup)(he:QE X e te)(hi:X.N[i]?=some x:=by rfl)(hx:Loc X.env.scope x:=by first | exact Or.inl rfl | exact Or.inr rfl)(hs:swapsWith e (some (.Name x pos')) pos.line X.env=pure false:=by rfl)
  (hf:X.fn x=true\/X.env.scope.names.lookup x=some .local:=by first | exact .inl rfl | exact .inr rfl | assumption):QS X (.Assign [.Name x pos'] e pos) (Zo2 te (Zc6 i)):=⟨ZpH hN hi hx he.h hs hf⟩
def Zrz{x y:Str}{c d:Expr}{ta:TA}{px py pt:Pos}{kt k2 pt2}(i j:Nat)(hN:X.N.Nodup)(ha:QA X [c,d] ta)(hc:X.calm=true:=by rfl)(hi:X.N[i]?=some x:=by rfl)(hj:X.N[j]?=some y:=by rfl)(hij:i ≠ j:=by decide)
  (hx:X.env.scope.names.lookup x=some .local:=by rfl) (hy:X.env.scope.names.lookup y=some .local:=by rfl)
  (hw:swappedStores [.Tuple [.Name x px,.Name y py] kt pt] (.Tuple [c,d] k2 pt2) X.env=pure (some [x,y]):=by rfl)
  (hs:swapsWithSole [.Tuple [.Name x px,.Name y py] kt pt] (.Tuple [c,d] k2 pt2) pos.line X.env=pure false:=by rfl) :
  QS X (.Assign [.Tuple [.Name x px,.Name y py] kt pt] (.Tuple [c,d] k2 pt2) pos) (Zq8 i j ta):=⟨ZqR hc hN hi hj hij hx hy ha.h hw hs⟩
def ZE{x:Str}(i:Nat)(hN:X.N.Nodup)(hi:X.N[i]?=some x:=by rfl)(hx:Loc X.env.scope x:=by first | exact Or.inl rfl | exact Or.inr rfl)(hf:X.fn x=true\/X.env.scope.names.lookup x=some .local:=by first | exact .inl rfl | exact .inr rfl | assumption) :
  QG X (.Name x pos) (Zc6 i):=⟨Zng hN hi hx hf⟩
def ZjB:QGs X [] Zq4:=⟨ZoG⟩
def ZcX{es:List Expr}{v:TGs}(h1:QG X e g)(h2:QGs X es v)(hs:(assignEach (e :: es) X.env).map (·.2)=assign e X.env :: (assignEach es X.env).map (·.2):=by rfl):QGs X (e :: es) (Zld g v):=⟨Zl7 h1.h h2.h hs⟩
def ZnC{es:List Expr}{k:Nat}{v:TGs}{n:Nat}(h:QGs X es v)(hc:X.calm=true:=by rfl)(hn:(assignEach es X.env).length=n:=by rfl)(hst:(assignEach es X.env).findIdx? (·.1)=none:=by rfl) :
  QG X (.Tuple es k pos) (Zll n v):=⟨Znu hc h.h hn hst⟩
def Zb1(hp:PassesOwn (model X.prog X.w) X.A X.env X.xe)(hc:QT X c tc)(hb:QB X body tb):QS X (.While c body [] pos) (ZjZ tc tb):=⟨ZkM hp hc.h hb.h⟩
def Jq(hp:PassesOwn (model X.prog X.w) X.A X.env X.xe)(hi:QI X tg it wi)(hg:QG X tg g)(hb:QB X body tb)(hc:X.calm=true:=by rfl)(hs:∀ x,foldedSetIterable it X.env x=pure x:=by intro _; rfl) :
  QS X (.For tg it body [] pos) (ZmC wi g tb):=⟨Zqq hp hc hi.h hg.h hb.h hs⟩
def Jg(hl:QE X e te):QI X tg e (Zed X.K te):=⟨ZnO hl.h⟩
def Zei{c:Expr}{ta:TA}{p:Pos}(hg:Gl X "range")(hm:X.mg "range"=none)(ha:QA X [c] ta)(hp:Zz c=true:=by rfl):QI X tg (.Call (.Name "range" p) [c] [] pos) (ZjR ta):=⟨Zio hg hm ha.h (Zx hp)⟩
def ZjW{c d:Expr}{ta:TA}{p:Pos}(hg:Gl X "range")(hm:X.mg "range"=none)(ha:QA X [c,d] ta)(hp:Zz c=true:=by rfl)(hq:Zz d=true:=by rfl) :
  QI X tg (.Call (.Name "range" p) [c,d] [] pos) (Zme ta):=⟨ZiT hg hm ha.h (by rw [Zx hp,Zx hq]; rfl) (Zx hq)⟩
end
def okQ{P:Program}{w:World}{K:PySem.W.Frag}{mg:Str->Option Value}{base:Heap}{x qual:Str}{st:Stmt}{f:Addr}{fd:FuncData}{N ps:List Str}{k:Nat}{sp:Sp}(F:Fun K x qual st f fd)(S:FnScope N ps (Za st))(len:∀ vs H Q E,sp vs H Q E->vs.length=ps.length)
  (hbody:∀ (cdv:Value) (A:Around) (outer:List Env) (s:Shared) (H:Hp) (vs:List V) (Q:VK) (E:XK),Room k (A.deeper (envOfC qual (Za st) s.heap.objs.size f cdv))->sp vs H Q E ->
   ∃ t,QB (Zif ZC P w K mg base N qual (Za st) f cdv A outer s H E).nox (Zs st) t/\t { nx:=λ_ H'=>Q .non H',rt:=Q } (Zu N vs) H):FnOk P w K mg base ZC (k + 1) f fd ps sp :=
 F.ok S len λcdv A outer s H vs Q E hr h=>by
  obtain⟨t,q,r⟩:=hbody cdv A outer s H vs Q E hr h
  exact⟨t,q.h,r⟩
def Zk3{P:Program}{w:World}{H:Hp}{h:Heap}{a:Addr}{o:HO}(x:ZR P w H h a o):∃ u,h.get? a=some u:=by
 cases o with
 | lst xs=>obtain⟨_,_,_,_,e⟩:=x; exact⟨_,e⟩
 | tup xs=>obtain⟨_,_,_,u,e,_⟩:=x; exact⟨_,e⟩
 | dK kvs=>obtain⟨_,_,_,_,u,_,_,e,_⟩:=x; exact⟨u,e⟩
 | dT kvs=>obtain⟨_,_,_,_,u,_,_,e,_⟩:=x; exact⟨u,e⟩
 | set S n=>obtain⟨u,_,_,_,e,_⟩:=x; exact⟨_,e⟩
 | ins C dx fs=>obtain⟨_,_,_,e,_⟩:=x; exact⟨_,e⟩
 | own y=>exact x
 | xd fs=>obtain⟨_,⟨u,_,_,e,_⟩,_⟩:=x; exact⟨_,e⟩
 | rng lo hi=>obtain⟨_,_,_,e⟩:=x; exact⟨_,e⟩
 | frz ob u=>exact⟨_,x.1⟩
 | tbl ps=>obtain⟨_,e,_⟩:=x; exact⟨_,e⟩
 | met f y=>exact⟨_,x⟩
 | ext φ=>exact x.2.1
structure Cv(X:Cx)(pins:List (Addr × Obj))(B:Heap)(H:Hp):Prop where
 old:∀ b o,X.s₀.heap.get? b=some o->b ∉ frs X.stack->∃ o',B.get? b=some o'
 trk:∀ b o,H b=some o->∃ o',B.get? b=some o'
 cel:∀ x c,X.env.cells.lookup x=some c->∃ o',B.get? c=some o'
 pin:∀ p∈X.pn ++ pins,∃ o',B.get? p.1=some o'
section
variable {X:Cx}{pins:List (Addr × Obj)}{σ:St}{H:Hp}{s:Shared}
end
def CX1(P:Program)(w:World):CXT:=λouter H s E e s'=>∃ (ea C:Addr) (a0:Value) (B:Heap) (H':Hp),e=.ref ea/\s'.os=s.os/\AllBare s'.gens/\Un (frs outer) [] H H' s.heap s'.heap/\HOk P w H' s'.heap /\
 Heap.FlyingW B outer ea (.ref C) a0 s'.heap/\(∀ b o,s.heap.get? b=some o->b ∉ frs outer->∃ o',B.get? b=some o')/\(∀ b o,H' b=some o->∃ o',B.get? b=some o')/\E (.ref C) none H'
structure Body(X:Cx):Prop where
 st:X.stack=X.env :: X.outer
 fr:X.env.frame=some X.env.locals
 ex:X.ex=[]
 fn:∀ x,X.fn x=true
structure Goes(X:Cx)(E:XK):Prop extends Body X where
 xe:∀ e s',wpAny (model X.prog X.w) X.A (leaving X.env e) (λ_ s''=>CX1 X.prog X.w X.outer X.H₀ X.s₀ E e s'') (λe' s''=>CX1 X.prog X.w X.outer X.H₀ X.s₀ E e' s'') s'->X.xe e s'
section
variable {X:Cx}{E:XK}{pins:List (Addr × Obj)}{σ:St}{H:Hp}{s:Shared}
def Body.apart(b:Body X)(I:Inv X pins σ H s):(∀ x c,X.env.cells.lookup x=some c->(∃ o,s.heap.get? c=some o)/\c ∉ frs X.stack)/\(∀ p∈X.pn ++ pins,s.heap.get? p.1=some p.2/\p.1 ∉ frs X.stack) /\
  (∀ a o,X.s₀.heap.get? a=some o->∃ o',s.heap.get? a=some o')/\(∀ a o,H a=some o->(∃ o',s.heap.get? a=some o')/\a ∉ frs X.stack):=by
 refine⟨λx c e=>?_,λp hp=>?_,λa o e=>?_,λa o e=>?_⟩
 ·obtain⟨v,o,ho,hd⟩:=I.cell x c e
  refine⟨⟨o,ho⟩,λz=>?_⟩
  rcases Yl.mp (I.stkSub c z) with q | q
  ·exact I.cne x c e q
  ·obtain⟨_,o',e',_⟩:=I.ok.funs.mem q
   exact absurd (Yy (Yh e') (I.ok.cab x c (b.fn x) e)) (YX _)
 ·obtain⟨e,n,ne,nf,d⟩:=I.pin p hp
  exact⟨e,λz=>(Yl.mp (I.stkSub _ z)).elim ne nf⟩
 ·exact I.base.there a o e (by rw [b.ex]; exact List.not_mem_nil)
 ·exact⟨Zk3 (I.hok a o e),λz=>by rw [I.stkFree a z] at e; cases e⟩
end
section
variable {X:Cx}{E:XK}{x:Str}{C:Addr}{np cpos pos:Pos}{e₀:Expr}{Jk:List Expr}{t:TA}
def ZmZ(C:Addr)(E:XK)(t:TA):TS:=λ_ σ H=>t σ H λvs H1=>vs.length<=1000/\E (.ref C) none H1
end
def XP(X:Cx)(pins:List (Addr × Obj))(σ:St)(EX:XK)(e:Value)(s':Shared):Prop :=
 ∃ (ea C:Addr) (a0:Value) (B:Heap) (H':Hp),e=.ref ea/\Inv X pins σ H' s'/\Heap.FlyingW B X.stack ea (.ref C) a0 s'.heap/\Cv X pins B H'/\EX (.ref C) none H'
abbrev TEX:=St->Hp->VK->XK->Prop
def PEX(X:Cx)(e:Expr)(t:TEX):Prop :=
 ∀ (pins:List (Addr × Obj)) (s:Shared) (σ:St) (H:Hp) (Q:VK) (EX:XK),Inv X pins σ H s->t σ H Q EX->wpAny (model X.prog X.w) X.A (eval e X.env) (EP X pins σ Q) (XP X pins σ EX) s
abbrev TSX:=Ends->(St->XK)->St->Hp->Prop
def ZsB(X:Cx)(sts:List Stmt)(t:TSX):Prop :=
 ∀ (pins:List (Addr × Obj)) (s:Shared) (σ:St) (H:Hp) (D:Ends) (EX:St->XK),Inv X pins σ H s->t D EX σ H ->
  wpAny (model X.prog X.w) X.A (execs sts X.env) (SP X pins D) (λe s'=>∃ σ',XP X pins σ' (EX σ') e s') s
section
variable {X:Cx}{j k:Nat}{x:Str}{ps:List Str}{sp:Sp}{p pos:Pos}{e:Expr}{es:List Expr}{t:TA}{f:Addr}{fd:FuncData}{ds:List Value}{dvs:List V}
def ZmT(sp:Sp)(dvs:List V)(t:TA):TEX:=λσ H Q EX=>t σ H λvs H1=>sp (vs ++ dvs) H1 Q EX
end
section
variable {X:Cx}{pins:List (Addr × Obj)}{σ:St}{H:Hp}{s:Shared}{ea:Addr}
def ZrI(C ea:Addr)(h:Heap):Prop:=∃ o,h.get? ea=some o/\o.cls=.ref C
def Zrs(C ea:Addr):HO:=.ext (ZrI C ea)
end
def ZrR(K:PySem.W.Frag)(D:Addr)(i:Nat)(th:Addr->TS)(En:Ends)(σ:St):XK:=λc _ H'=>∃ C,c=.ref C/\exmOne K (.ref C) (.ref D)=some true/\∀ ea,H' ea=none ->
 th ea { nx:=λσ2 H2=>En.nx (σ2.set i none) H2,rt:=En.rt,bk:=λσ2 H2=>En.bk (σ2.set i none) H2,ct:=λσ2 H2=>En.ct (σ2.set i none) H2 } (σ.set i (some (.ref ea))) (upd H' ea (Zrs C ea))
def Zsf(K:PySem.W.Frag)(tb:TSX)(D:Addr)(i:Nat)(th:Addr->TS):TS:=λEn σ H=>tb En (ZrR K D i th En) σ H
section
variable {X:Cx}{body:List Stmt}{x n:Str}{np hpos pos:Pos}{b₀:Stmt}{suite:List Stmt}{tb:TSX}{th:Addr->TS}{D:Addr}{i:Nat}
end
end My
namespace My
open PySem PySem.Spec L2 PySem.W PySem.Builtin PySem.Builtin.ObjectAttr PySem.Builtin.Getset_descriptor
open PyProof.Rows hiding St
section
variable {prog:Program}{w:World}{A:Around}{E:VSP}{s:Shared}{K:Frag}{x D:Addr}
structure ExcK(K:Frag)(D:Addr):Prop where
 cl:(clsIn K D).isSome=true
 ga:findIn K (.ref D) "__getattribute__"=some (some (.builtin "BaseException.__getattribute__"))
 no:findIn K (.ref D) "__getattr__"=some none
 ha:findIn K (.ref D) "__class__"=some (some (.builtin "object.__class__"))
 hn:specialIn K (.builtin "object.__class__") "__get__"=some (some (.builtin "getset_descriptor.__get__"))
 tk:takesIn K (.builtin "object.__class__")=some true
 mo:mroIn K D (.type "object")=some true
 mb:mroIn K D (.type "BaseException")=some true
end
end My
namespace My
open PySem PySem.Spec L2
open PyProof.Rows hiding St
section
variable {X:Cx}{e:Expr}{es:List Expr}{t:TA}{pos p:Pos}
end
structure FunD(K:PySem.W.Frag)(x qual:Str)(st:Stmt)(dV:Value)(f:Addr)(fd:FuncData):Prop where
 ex:∃ (oc:Value) (od:Option Addr) (kV doc pm:Value) (an:Option Addr) (cdv ct:Value) (osl:Array (Option Value)),
  fd=fnOf x qual (ZD st) (Zs st) (Za st) dV kV doc pm an cdv ct/\K.lookup f=some ⟨oc,od,.func fd,osl⟩/\codeIn K cdv qual=true
 kp:keepIn K (.ref f)=true
variable {K:PySem.W.Frag}
def ZnU{x qual:Str}{st:Stmt}{dV:Value}{f:Addr}{oc:Value}{od an:Option Addr}{osl:Array (Option Value)}{kV doc pm cdv ct:Value}(l:K.lookup f=some ⟨oc,od,.func (fnOf x qual (ZD st) (Zs st) (Za st) dV kV doc pm an cdv ct),osl⟩)
  (c:codeIn K cdv qual=true) (k:keepIn K (.ref f)=true):FunD K x qual st dV f (fnOf x qual (ZD st) (Zs st) (Za st) dV kV doc pm an cdv ct):=⟨⟨oc,od,kV,doc,pm,an,cdv,ct,osl,rfl,l,c⟩,k⟩
section
variable {P:Program}{w:World}{K:PySem.W.Frag}{mg:Str->Option Value}{base:Heap}{x qual:Str}{st:Stmt}{dV:Value}{f:Addr}{fd:FuncData}{N ps:List Str}{k:Nat}{sp:Sp}
def Zsr(F:FunD K x qual st dV f fd)(S:FnScope N ps (Za st))(len:∀ vs H Q E,sp vs H Q E->vs.length=ps.length)
  (hbody:∀ (cdv:Value) (A:Around) (outer:List Env) (s:Shared) (H:Hp) (vs:List V) (Q:VK) (E:XK),Room k (A.deeper (envOfC qual (Za st) s.heap.objs.size f cdv))->sp vs H Q E ->
   ∃ t,QB (Zif ZC P w K mg base N qual (Za st) f cdv A outer s H E).nox (Zs st) t/\t { nx:=λ_ H'=>Q .non H',rt:=Q } (Zu N vs) H):FnOk P w K mg base ZC (k + 1) f fd ps sp:=by
 obtain⟨oc,od,kV,doc,pm,an,cdv,ct,osl,rfl,lk,hcd⟩:=F.ex
 refine ZnM lk hcd S len λA outer s H vs Q E hr hsp=>?_
 obtain⟨t,h,q⟩:=hbody cdv A outer s H vs Q E hr hsp
 exact⟨t,h.h.nox,q⟩
end
theorem JK{x y:Int}{a b:Nat}(hx:x.natAbs < 2 ^ a)(hy:y.natAbs < 2 ^ b)(h:a + b<=1000000):IntMulOk x y:=by
 have key:∀ {z:Int}{n:Nat},z.natAbs < 2 ^ n->Builtin.Int.intBits z<=n:=λ{z n} hz=>by
  unfold Builtin.Int.intBits
  split
  ·exact YF _
  ·rename_i h0
   have h1:z.natAbs ≠ 0:=by
    intro q
    apply h0
    have:z=0:=by omega
    simp [this]
   have:=(Nat.log2_lt h1).mpr hz
   omega
 exact IntMulOk.of_le (key hx) (key hy) (by omega)
structure FnD(P:Program)(w:World)(K:PySem.W.Frag)(mg:Str->Option Value)(base:Heap)(CX:CXT)(k:Nat)(x:Str)(ps:List Str)(dvs:List V)(sp:Sp):Prop where
 ex:∃ (f:Addr) (fd:FuncData) (ds:List Value),FnOk P w K mg base CX k f fd ps sp/\ZY K fd ps ds/\Zq dvs ds/\keepIn K (.ref f)=true/\mg x=some (.ref f)
structure QX(X:Cx)(e:Expr)(t:TEX):Prop where
 h:PEX X e t
structure QSX(X:Cx)(sts:List Stmt)(t:TSX):Prop where
 h:ZsB X sts t
section
variable {X:Cx}{E:XK}{j k:Nat}{x:Str}{ps:List Str}{sp:Sp}{p pos:Pos}{e:Expr}{es:List Expr}{t:TA}{dvs:List V}{C:Addr}
def tXE(te:TEX):TSX:=λD EX σ H=>te σ H (λ_ H1=>D.nx σ H1) (EX σ)
def tXS(i:Nat)(te:TEX):TSX:=λD EX σ H=>te σ H (λv H1=>D.nx (σ.set i (some v)) H1) (EX σ)
end
inductive EqD (H:Hp):V->V->Bool->Nat->Prop where
 | flat {x y:V}(fx:JW x=true) (fy:JW y=true):EqD H x y (eqV x y) 0
 | tup {a b:Addr}{xs ys:List V}{e:Nat->Bool}{n:Nat}(ha:H a=some (.tup xs)) (hb:H b=some (.tup ys)) (h:∀ j x y,xs[j]?=some x->ys[j]?=some y->EqD H x y (e j) n) :
   EqD H (.ref a) (.ref b) ((List.range (min xs.length ys.length)).all e && xs.length == ys.length) (n + 1)
 | lst {a b:Addr}{xs ys:List V}{e:Nat->Bool}{n:Nat}(ha:H a=some (.lst xs)) (hb:H b=some (.lst ys)) (hl:xs.length=ys.length) (h:∀ j x y,xs[j]?=some x->ys[j]?=some y->EqD H x y (e j) n) :
   EqD H (.ref a) (.ref b) ((List.range xs.length).all e) (n + 1)
 | lstNe {a b:Addr}{xs ys:List V}{n:Nat}(ha:H a=some (.lst xs)) (hb:H b=some (.lst ys)) (hl:xs.length ≠ ys.length):EqD H (.ref a) (.ref b) false (n + 1)
 | up {x y:V}{b:Bool}{n:Nat}(h:EqD H x y b n):EqD H x y b (n + 1)
def Zdf{x:V}(h:JW x=true):eqV x x=true:=by
 cases x
 case non=>rfl
 case bl b=>simp [eqV]
 case int i=>simp [eqV]
 case str y=>simp [eqV]
 all_goals exact absurd (show false=true from h) (by decide)
def Zd3{n:Nat}{e:Nat->Bool}(h:∀ j,j < n->e j=true):(List.range n).all e=true:=List.all_eq_true.mpr λj hj=>h j (YD.mp hj)
variable {H:Hp}
def EqD.self{x y:V}{b:Bool}{n:Nat}(h:EqD H x y b n):x=y->b=true:=by
 induction h with
 | flat fx fy=>intro e; subst e; exact Zdf fx
 | @tup a b xs ys e n ha hb h ih =>
  intro q
  injection q with q
  subst q
  rw [ha] at hb
  injection hb with hb
  injection hb with hb
  subst hb
  rw [Zd3,Bool.true_and,beq_self_eq_true]
  intro j hj
  rw [Nat.min_self] at hj
  exact ih j _ _ (Yb hj) (Yb hj) rfl
 | @lst a b xs ys e n ha hb hl h ih =>
  intro q
  injection q with q
  subst q
  rw [ha] at hb
  injection hb with hb
  injection hb with hb
  subst hb
  exact Zd3 λj hj=>ih j _ _ (Yb hj) (Yb hj) rfl
 | up h ih=>exact ih
 | lstNe ha hb hl =>
  intro q
  injection q with q
  subst q
  rw [ha] at hb
  injection hb with hb
  injection hb with hb
  subst hb
  exact absurd rfl hl
section
variable {X:Cx}{pins:List (Addr × Obj)}{σ:St}{H:Hp}{s:Shared}
theorem EqD.at(I:Inv X pins σ H s){x y:V}{b:Bool}{n:Nat}(h:EqD H x y b n):∀ {A:Around}{u v:Value},Zt x u->Zt y v->A.units + n < cLine ->
  SeqAt.EqAt A s u v b/\((∃ a c,x=.ref a/\y=.ref c)->SeqAt.RcAt A s u v b):=by
 induction h with
 | flat fx fy =>
  intro A u v r1 r2 _
  refine⟨ZmF r1 r2 fx fy,?_⟩
  rintro⟨a,c,rfl,_⟩
  cases fx
 | @tup a b xs ys e n ha hb h ih =>
  intro A u v r1 r2 hu
  cases r1
  cases r2
  obtain⟨its,v1,t1,_⟩:=I.tuple (SqT.of ha)
  obtain⟨jts,v2,t2,_⟩:=I.tuple (SqT.of hb)
  have rc:SeqAt.RcAt A s (.ref a) (.ref b) ((List.range (min xs.length ys.length)).all e && xs.length == ys.length):=by
   have z:=SeqAt.RcAt.tuples (A:=A) (s:=s) (e:=e) t1 t2 (by omega) λj h1 h2=>by
    have k1:j < xs.length:=by rw [v1.length]; simpa using h1
    have k2:j < ys.length:=by rw [v2.length]; simpa using h2
    obtain⟨u1,q1,w1⟩:=v1.get (Yb k1)
    obtain⟨u2,q2,w2⟩:=v2.get (Yb k2)
    have g1:its.toArray[j]=u1:=by
     have:=Ye.mp q1
     obtain⟨hh,this⟩:=this
     simpa using this
    have g2:jts.toArray[j]=u2:=by
     have:=Ye.mp q2
     obtain⟨hh,this⟩:=this
     simpa using this
    rw [g1,g2]
    exact (ih j _ _ (Yb k1) (Yb k2) w1 w2 (by show A.units + 1 + n < cLine; omega)).1
   simpa [v1.length,v2.length] using z
  refine⟨?_,λ_=>rc⟩
  by_cases q:a=b
  ·have:=(EqD.tup ha hb h).self (by rw [q])
   rw [this,q]
   exact SeqAt.EqAt.same _
  ·exact SeqAt.EqAt.of_refs q rc
 | @lst a b xs ys e n ha hb hl h ih =>
  intro A u v r1 r2 hu
  cases r1
  cases r2
  obtain⟨its,v1,t1,_⟩:=I.list (JC.of ha)
  obtain⟨jts,v2,t2,_⟩:=I.list (JC.of hb)
  have rc:SeqAt.RcAt A s (.ref a) (.ref b) ((List.range xs.length).all e):=by
   have z:=SeqAt.RcAt.lists (A:=A) (s:=s) (e:=e) t1.isList t2.isList (by simp [<- v1.length,<- v2.length,hl]) (by omega) λj h1 h2=>by
    have k1:j < xs.length:=by rw [v1.length]; simpa using h1
    have k2:j < ys.length:=by rw [v2.length]; simpa using h2
    obtain⟨u1,q1,w1⟩:=v1.get (Yb k1)
    obtain⟨u2,q2,w2⟩:=v2.get (Yb k2)
    have g1:its.toArray[j]=u1:=by
     have:=Ye.mp q1
     obtain⟨hh,this⟩:=this
     simpa using this
    have g2:jts.toArray[j]=u2:=by
     have:=Ye.mp q2
     obtain⟨hh,this⟩:=this
     simpa using this
    rw [g1,g2]
    exact (ih j _ _ (Yb k1) (Yb k2) w1 w2 (by show A.units + 1 + n < cLine; omega)).1
   simpa [v1.length,v2.length] using z
  refine⟨?_,λ_=>rc⟩
  by_cases q:a=b
  ·have:=(EqD.lst ha hb hl h).self (by rw [q])
   rw [this,q]
   exact SeqAt.EqAt.same _
  ·exact SeqAt.EqAt.of_refs q rc
 | up h ih =>
  intro A u v r1 r2 hu
  exact ih r1 r2 (by omega)
 | @lstNe a b xs ys n ha hb hl =>
  intro A u v r1 r2 hu
  cases r1
  cases r2
  obtain⟨its,v1,t1,_⟩:=I.list (JC.of ha)
  obtain⟨jts,v2,t2,_⟩:=I.list (JC.of hb)
  have rc:SeqAt.RcAt A s (.ref a) (.ref b) false:=SeqAt.RcAt.lists_lengths t1.isList t2.isList (by simp [<- v1.length,<- v2.length]; exact hl) (by omega)
  have ne:a ≠ b:=λq=>by
   subst q
   rw [ha] at hb
   injection hb with hb
   injection hb with hb
   subst hb
   exact hl rfl
  exact⟨SeqAt.EqAt.of_refs ne rc,λ_=>rc⟩
end
section
variable {X:Cx}{a b:Expr}{ta tb:TE}{pos:Pos}{k:Nat}
def Zsi:R2:=λx y H Q=>∃ t n p c,x=.ref p/\y=.ref c/\EqD H x y t n/\n<=60/\Q (.bl t) H
def ZpR(hr:Room k X.A):OpR X (compareOp .Eq) Zsi:=by
 intro pins s σ H x y v u Q I rx ry h
 obtain⟨t,n,p,c,e1,e2,h,hn,q⟩:=h
 have hu:=hr.units
 exact ((h.at I rx ry (by omega)).2 ⟨p,c,e1,e2⟩) _ _ _ _ ⟨.bl t,H,I,rfl,q⟩
def Zrw(hr:Room k X.A)(ha:QE X a ta)(hb:QE X b tb):QE X (.Compare a [.Eq] [b] pos) (tOp Zsi ta tb):=⟨ZdB (ZpR hr) ha.h hb.h (ZbH _)⟩
end
section
variable {X:Cx}{pins:List (Addr × Obj)}{σ:St}{H:Hp}{s:Shared}{h':Heap}
def ZgF{t':Nat}{ch:List Addr}{o:HO}(I:Inv X pins σ H s)(k:∀ b u,b ∉ ch->s.heap.get? b=some u->h'.get? b=some u)(hf:∀ b∈ch,JJ X pins H b)(new:ZR X.prog X.w (upd H s.heap.objs.size o) h' s.heap.objs.size o) :
  Inv X pins σ (upd H s.heap.objs.size o) { s with heap:=h',toks:=t' }:=by
 have hn:H s.heap.objs.size=none:=I.hok.fresh (Yd _)
 have nch:∀ b u,H b=some u->b ∉ ch:=λb u e z=>by rw [(hf b z).1] at e; cases e
 have old:∀ b u,H b=some u->upd H s.heap.objs.size o b=some u:=λb u e=>by rw [Zg (Zm e hn)]; exact e
 refine I.step (g':=s.gens) (d':=s.drawn) (ch:=ch) (λb hb=>⟨(hf b hb).2.2.2.1,(hf b hb).2.1,(hf b hb).2.2.2.2.1,(hf b hb).2.2.2.2.2⟩) (λb u _ _ hc e _=>k b u hc e) (λb u _ _ hc e _=>⟨u.slots,k b u hc e⟩)
  (λb u hc e n=>by rw [Zg (Nat.ne_of_lt (Heap.lt_size e))]; exact n) (λb u hc e=>⟨u,k b u hc e⟩) (λb xs e=>old b _ e) (λb x u e=>old b _ e) (λb ps e=>⟨#[],by rw [old b _ e]; simp⟩) (λm hm=>?_) (λb u e=>?_) I.bare
 ·obtain⟨u,es,ep,ho,r⟩:=hm
  exact⟨u,es,ep,k _ u (λz=>(hf _ z).2.1 rfl) ho,r⟩
 ·by_cases hb:b=s.heap.objs.size
  ·subst hb; rw [Zf] at e; cases e; exact new
  ·rw [Zg hb] at e
   refine (I.hok b u e).stay (λc v hc q=>k c v ?_ q) (λc q=>old c _ q) (λc xs q=>old c _ q) λc o q=>old c _ q
   rcases hc with z | z
   ·rw [z]; exact nch b u e
   ·exact nch c _ z
theorem Zm7{t':Nat}{ch:List Addr}(I:Inv X pins σ H s)(k:∀ b u,b ∉ ch->s.heap.get? b=some u->h'.get? b=some u)(hf:∀ b∈ch,JJ X pins H b):Inv X pins σ H { s with heap:=h',toks:=t' }:=by
 have nch:∀ b u,H b=some u->b ∉ ch:=λb u e z=>by rw [(hf b z).1] at e; cases e
 refine I.step (g':=s.gens) (d':=s.drawn) (ch:=ch) (λb hb=>⟨(hf b hb).2.2.2.1,(hf b hb).2.1,(hf b hb).2.2.2.2.1,(hf b hb).2.2.2.2.2⟩) (λb u _ _ hc e _=>k b u hc e) (λb u _ _ hc e _=>⟨u.slots,k b u hc e⟩)
  (λb u hc e n=>n) (λb u hc e=>⟨u,k b u hc e⟩) (λb xs e=>e) (λb x u e=>e) (λb ps e=>⟨#[],by rw [e]; simp⟩) (λm hm=>?_) (λb u e=>?_) I.bare
 ·obtain⟨u,es,ep,ho,r⟩:=hm
  exact⟨u,es,ep,k _ u (λz=>(hf _ z).2.1 rfl) ho,r⟩
 ·refine (I.hok b u e).stay (λc v hc q=>k c v ?_ q) (λc q=>q) λc xs q=>q
  rcases hc with z | z
  ·rw [z]; exact nch b u e
  ·exact nch c _ z
def Ite(K:PySem.W.Frag)(a:Addr):It :=
 ⟨λi H=>∃ xs x,JC K H a xs/\xs[i]?=some x,λi H x H'=>∃ p y,x=.ref p/\H p=none/\Zk H H'/\H' p=some (.tup [.int i,y])/\∀ xs,JC K H a xs->xs[i]?=some y,λi H=>∃ xs,JC K H a xs/\xs.length<=i⟩
def Zkf{P:Program}{w:World}{es:List Expr}{x1}{pos:Pos}(a it e:Addr)(hne:e ≠ it):Turn P w K (.Tuple es x1 pos) (Ite K a) [it,e] e (λi h=>(∃ old,IsEnum h e it (i:Nat) old)/\h.IsListIter it a i) where
 mem:=by simp
 obj:=λi h st b hb=>by
  obtain⟨⟨old,he⟩,o,eo,c,d⟩:=st
  rcases Yl.mp hb with z | z
  ·subst z; exact⟨o,eo,λv z=>by rw [d] at z; cases z⟩
  ·have z:b=e:=by simpa using z
   subst z; exact⟨_,he,λv z=>by cases z⟩
 keep:=λi h h' st k=>⟨⟨st.1.choose,k e (by simp) _ st.1.choose_spec⟩,st.2.at λo x=>k it (by simp) o x⟩
 item:=by
  intro X hP hw hK hc i pins s σ H E I hf st hg
  subst hP hw hK
  obtain⟨⟨old,he⟩,hit⟩:=st
  obtain⟨xs,x,hq,hx⟩:=hg
  obtain⟨its,rv,p,hz⟩:=I.list hq
  obtain⟨u,hu,ru⟩:=rv.get hx
  have hn:H s.heap.objs.size=none:=I.hok.fresh (Yd _)
  refine wpAny_pyNext_enum_item he hit p.isList (x:=u) (by simpa using hu) hne λh' eo st' ht hsz kk=>?_
  refine⟨_,rfl,wpAny_letOwnedTupleGo_enum (s:={ s with heap:=h',toks:=s.toks + 1 }) eo λh2 he2 sb=>?_⟩
  have sb2:∀ b,b ≠ e->h2.get? b=h'.get? b:=sb.2
  have hel:s.heap.objs.size ≠ e:=Vn (Yh he)
  have kt:h2.get? s.heap.objs.size=some { cls:=.type "tuple",data:=.seq #[.int i s.toks,u] }:=(sb2 _ hel).trans ht
  have I1:Inv X pins σ (upd H s.heap.objs.size (.tup [.int i,x])) { s with heap:=h2,toks:=s.toks + 1 }:=by
   refine ZgF (ch:=[it,e]) I (λb o hb q=>?_) hf ?_
   ·have hb':b ≠ it/\b ≠ e:=by simpa using hb
    rw [sb2 b hb'.2]
    exact kk b o hb'.2 hb'.1 q
   ·exact⟨by show 2<=sizeLine; decide,[.int i s.toks,u],.cons ⟨_,rfl⟩ (.cons ru .nil),⟨_,kt,rfl,_,rfl⟩⟩
  refine⟨.ref s.heap.objs.size,_,I1,rfl,⟨_,x,rfl,hn,Jh hn _,Zf,λys hy=>by rw [I.list_inj hy hq]; exact hx⟩,⟨⟨u,?_⟩,?_⟩,λb hb=>?_⟩
  ·exact he2
  ·obtain⟨o,q,r⟩:=st'
   exact⟨o,(sb2 it (Ne.symm hne)).trans q,r⟩
  ·have hb1:=(hf b hb).1
   have:b ≠ s.heap.objs.size:=λz=>by
    rcases Yl.mp hb with y | y
    ·obtain⟨o,q,_⟩:=hit
     exact YX _ (by have:=Yh q; rw [<- y,z] at this; exact this)
    ·have y:b=e:=by simpa using y
     exact hel (z.symm.trans y)
   rw [Zg this]
   exact hb1
 done:=by
  intro X hP hw hK hc i pins s σ H E I hf st hg
  subst hP hw hK
  obtain⟨⟨old,he⟩,hit⟩:=st
  obtain⟨xs,hq,hx⟩:=hg
  obtain⟨its,rv,p,hz⟩:=I.list hq
  have hl:=rv.length
  refine wpAny_pyNext_enum_end (I.ok.hd hc) he hit p.isList (by simp; omega) λh' eb=>⟨rfl,Zm7 (t':=s.toks) (ch:=[it,e]) I (λb o hb q=>eb b o (λz=>hb (by simp [z])) q) hf⟩
 self:=λ_ _ _ _ _ st h=>wpAny_pyIter_enum st.1.choose_spec h
def ZnK(K:PySem.W.Frag)(ta:TA):TI:=λσ H R=>ta σ H λvs H1=>∃ a,vs=[.ref a]/\(∃ xs,JC K H1 a xs)/\R (Ite K a) H1
def Zox{l:Expr}{ta:TA}{p pos pos':Pos}{es:List Expr}{x1}(hg:Gl X "enumerate")(hm:X.mg "enumerate"=none)(ha:PA X [l] ta)(hs:starEach [l] X.env=[(false,eval l X.env)]:=by rfl):PI X (.Tuple es x1 pos') (.Call (.Name "enumerate" p) [l] [] pos) (ZnK X.K ta):=by
 intro pins s σ H R I h
 refine Call_ (ZbB I hg hm boot_enumerate (VB (ZZ (ha pos pins s σ H _ I h) λus s1 ⟨vs,H1,I1,r1,q1⟩=>?_) hs rfl))
 obtain⟨a,e,⟨xs,hq⟩,q⟩:=q1
 subst e
 cases r1 with
 | cons r rr =>
  cases rr
  cases r
  obtain⟨its,rv,pl,hz⟩:=I1.list hq
  refine call_enumerate_list pl.isList λh' he hit hsz kk=>?_
  have I2:Inv X pins σ H1 { s1 with heap:=h' }:=I1.kept (t':=s1.toks) kk
  refine wpAny_pyIter_enum (s:={ s1 with heap:=h' }) he ⟨_,[s1.heap.objs.size,s1.heap.objs.size + 1],_,_,H1,rfl,I2,Zkf a _ _ (Nat.succ_ne_self _),⟨⟨.none,he⟩,hit⟩,λb hb=>?_,q⟩
  have hb':s1.heap.objs.size<=b:=by
   rcases Yl.mp hb with z | z
   ·exact Nat.le_of_eq z.symm
   ·have z:b=s1.heap.objs.size + 1:=by simpa using z
    rw [z]; exact Vz _
  exact I1.fpOk hb' (I1.hok.fresh hb')
theorem ZdR:∀ {xs:List V}{us:List Value},xs.length=us.length->(∀ (i:Nat) x u,xs[i]?=some x->us[i]?=some u->Zt x u)->Zq xs us
 | [],[],_,_=>.nil
 | x :: xs,u :: us,hl,h=>.cons (h 0 x u rfl rfl) (ZdR (by simpa using hl) λi x u h1 h2=>h (i + 1) x u h1 h2)
def ZoY(lo hi:Int):List V:=(List.range (hi - lo).toNat).map λk:Nat=>V.int (lo + (k:Int))
theorem Ze4{lo hi:Int}:(ZoY lo hi).length=(hi - lo).toNat:=by simp [ZoY]
def ZkW{lo hi:Int}{i:Nat}(h:i < (hi - lo).toNat):(ZoY lo hi)[i]?=some (.int (lo + i)):=by
 unfold ZoY
 rw [Yg,Yah h]
 rfl
def Zlq(K:PySem.W.Frag):List V->Hp->VK->Prop:=λxs H Q=>∃ p ys,xs=[.ref p]/\(JC K H p ys\/SqT K H p ys\/∃ lo hi,H p=some (.rng lo hi)/\-(2 ^ 62)<=lo/\lo < 2 ^ 62/\-(2 ^ 62)<=hi/\hi < 2 ^ 62/\ys=ZoY lo hi/\hi - lo<=1000000) /\
 ∀ l H2,H l=none->Zk H H2->H2 l=some (.lst ys)->Q (.ref l) H2
def ZhE(hc:X.calm=true):Jl X (.type "list") (Zlq X.K):=by
 intro pins s σ H xs us Q I r h
 obtain⟨p,ys,rfl,hq,q⟩:=h
 have old:∀ l,H l=none->Q (.ref l) (upd H l (.lst ys)):=λl hl=>q l _ hl (Jh hl _) Zf
 rcases hq with hq | hq | ⟨lo,hi,hq,h1,h2,h3,h4,rfl,h5⟩
 ·exact Zc2 pins s σ H [.ref p] us Q I r ⟨p,ys,rfl,.inl hq,old⟩
 ·exact Zc2 pins s σ H [.ref p] us Q I r ⟨p,ys,rfl,.inr hq,old⟩
 ·obtain⟨u,rfl,rx⟩:=JQ r
  cases rx
  obtain⟨t,u,v,hr⟩:=I.hok p _ hq
  have hn:Builtin.Range.rangeSize lo hi 1=((hi - lo).toNat:Int):=by rw [rangeSize_one]; split <;> omega
  refine call_list_range (I.ok.hd hc) hr (small_one h1 h2 h3 h4) hn (by omega) λh' tk acc' c' kk hl ⟨hs,hacc⟩=>?_
  have hf:H s.heap.objs.size=none:=I.hok.fresh (Yd _)
  refine⟨.ref s.heap.objs.size,_,I.laid kk (Nat.le_refl _) (show ZR X.prog X.w _ h' _ (.lst (ZoY lo hi)) from ⟨?_,acc'.toList,c',ZdR ?_ λi x u e1 e2=>?_,by simpa using hl⟩),rfl,old _ hf⟩
  ·rw [Ze4]; exact Yj (m:=1000000) (by omega) (by decide)
  ·rw [Ze4]; simpa using hs.symm
  ·have hi:i < (hi - lo).toNat:=by rw [<- Ze4]; exact (Ye.mp e1).1
   rw [ZkW hi] at e1
   cases e1
   obtain⟨t,rfl⟩:=hacc i u (by simpa using e2)
   exact⟨t,by rw [Int.mul_one]⟩
end
def ZjJ(X:Cx)(N:List Str)(sc:Scope)(cl:List (Str × Addr))(fn:Str->Bool)(s:Shared)(H:Hp)(fp:List Addr):Cx where
 prog:=X.prog
 w:=X.w
 K:=X.K
 mg:=X.mg
 base:=X.base
 A:=X.A
 N:=N
 s₀:=s
 H₀:=H
 env:=compEnvC sc cl s.heap.objs.size X.env
 outer:=X.stack
 stack:=X.stack
 ex:=fp
 calm:=X.calm
 fn:=fn
 pn:=[]
 xe:=λ_ _=>False
abbrev blk(X:Cx)(N:List Str)(sc:Scope)(cl:List (Str × Addr))(s:Shared)(H:Hp)(fp:List Addr):Cx:=ZjJ X N sc cl (λ_=>false) s H fp
def Jv(σ:St)(caps:List Nat):St:=caps.map λi=>(σ[i]?).join
structure Blk(X:Cx)(ts:List Str)(caps:List Nat)(cs:List Str)(sc:Scope)(cl:List (Str × Addr)):Prop where
 clos:closureFor sc X.env=pure cl
 kind:sc.kind=.function
 cell:∀ x∈sc.names,x.2 ≠ .cell
 loc:∀ x∈sc.names,x.2=.local->sc.names.lookup x.1=some .local
 sub:∀ x c,cl.lookup x=some c->X.env.cells.lookup x=some c
 has:∀ x,((relabel sc X.env).names.lookup x=some .cell\/(relabel sc X.env).names.lookup x=some .free)->∃ c,cl.lookup x=some c
 len:caps.length=cs.length
 cap:∀ (k:Nat) i x,caps[k]?=some i->cs[k]?=some x->X.N[i]?=some x/\(X.env.kindOf x=some .cell\/X.env.kindOf x=some .free)
 capK:∀ x∈cs,(relabel sc X.env).names.lookup x=some .cell\/(relabel sc X.env).names.lookup x=some .free
section
variable {X:Cx}{pins:List (Addr × Obj)}{σ:St}{H:Hp}{s:Shared}{ts cs:List Str}{caps:List Nat}{sc:Scope}{cl:List (Str × Addr)}{fp:List Addr}
theorem ZmV(B:Blk X ts caps cs sc cl)(I:Inv X pins σ H s)(hf:∀ b∈fp,JJ X pins H b)(hlt:∀ b∈fp,b < s.heap.objs.size):(blk X (ts ++ cs) sc cl s H fp).Ok where
 mod:=I.ok.mod
 kind:=B.kind
 glob:=I.ok.glob
 blt:=I.ok.blt
 above:=Yd _
 inj:=λx y c h1 h2=>I.ok.inj x y c (B.sub x c h1) (B.sub y c h2)
 has:=λx h=>B.has x h
 cab:=λx c h _=>by cases h
 hd:=I.ok.hd
 frames:=I.ok.frames
 stk:=.inl rfl
 exf:=λb hb=>⟨Yn (hlt b hb),λx c h=>(hf b hb).2.2.2.2.1 x c (B.sub x c h)⟩
 bs:=I.bs
 bsz:=Yj I.ok.bsz I.sz
 noex:=λb o e hb=>by
  rcases (hf b hb).2.2.2.1 with z | z
  ·exact I.ok.noex b o e z
  ·exact YX _ (Yy (Yh (I.ok.bs b o e).1) z)
 exfs:=λb hb z=>by
  rcases Yl.mp (I.stkSub b z) with e | e
  ·exact (hf b hb).2.1 e
  ·exact (hf b hb).2.2.1 e
 funs:=I.stack
 frf:=I.stkFree
def Znn(B:Blk X ts caps cs sc cl)(I:Inv X pins σ H s)(hf:∀ b∈fp,JJ X pins H b)(hlt:∀ b∈fp,b < s.heap.objs.size){h₁:Heap}{t':Nat}(hn:h₁.Ns s.heap.objs.size λ_=>none)(kk:∀ b o,s.heap.get? b=some o->h₁.get? b=some o) :
  Inv (blk X (ts ++ cs) sc cl s H fp) [] (List.replicate ts.length none ++ Jv σ caps) H { s with heap:=h₁,toks:=t' }:=by
 have hfr:H s.heap.objs.size=none:=I.hok.fresh (Yd _)
 refine⟨ZmV B I hf hlt,rfl,I.bare,Un.kept kk,⟨_,hn,λi x v h1 h2 h3=>?_⟩,λx c e=>?_,hfr,λx c e=>I.freeC x c (B.sub x c e),λp hp=>absurd (show p∈([]:List (Addr × Obj)) from hp) (by simp),I.hok.kept kk,?_⟩
 ·have hi:¬ i < ts.length:=λhi=>by
   rw [List.getElem?_append_left (by simpa using hi),List.getElem?_replicate,if_pos hi] at h2
   cases h2
  have h1':(ts ++ cs)[i]?=some x:=h1
  rw [YH (by omega)] at h1'
  rw [List.getElem?_append_right (by simp; omega),List.length_replicate] at h2
  unfold Jv at h2
  rw [Yg] at h2
  cases e:caps[i - ts.length]? with
  | none=>rw [e] at h2; cases h2
  | some j =>
   rw [e] at h2
   have h2':(σ[j]?).join=some v:=by simpa using h2
   have h2'':σ[j]?=some (some v):=by
    cases q:σ[j]? with
    | none=>rw [q] at h2'; cases h2'
    | some o=>rw [q] at h2'; cases h2'; rfl
   obtain⟨hN,hk⟩:=B.cap _ _ _ e h1'
   obtain⟨m,hm,hl⟩:=I.loc
   obtain⟨u,r,l⟩:=hl j x v hN h2'' (.inr hk)
   refine⟨u,r,?_⟩
   rcases l with ⟨l,_⟩ | ⟨_,c,hc,⟨o,ho,hd⟩⟩
   ·rcases hk with z | z <;> (rw [z] at l; cases l)
   ·have ck:=B.capK x (Ym h1')
    obtain⟨c',hc'⟩:=B.has x ck
    have:=B.sub x c' hc'
    rw [hc] at this
    cases this
    exact .inr ⟨ck,c,hc',o,kk c o ho,hd⟩
 ·obtain⟨v,o,ho,hd⟩:=I.cell x c (B.sub x c e)
  exact⟨v,o,kk c o ho,hd⟩
 ·show (List.replicate ts.length (none:Option V) ++ Jv σ caps).length=(ts ++ cs).length
  rw [YM,YM,List.length_replicate]
  unfold Jv
  rw [Yf,B.len]
def Zkc(ifs:List Expr)(env:Env):Sem Bool:=forIn ifs true λc r=>if r=true then do let ok <- isTrue c env (eval c env); pure (ForInStep.yield ok) else pure (ForInStep.yield r)
def PTs(X:Cx)(ifs:List Expr)(t:TT):Prop :=
 ∀ (pins:List (Addr × Obj)) (s:Shared) (σ:St) (H:Hp) (Q:Bool->Hp->Prop),Inv X pins σ H s->t σ H Q->wpAny (model X.prog X.w) X.A (Zkc ifs X.env) (TP X pins σ Q) X.xe s
def ZpJ:TT:=λ_ H Q=>Q true H
def Znw:PTs X [] ZpJ:=λ_ _ _ H _ I h=>wpAny_tests_nil ⟨H,I,h⟩
def Zny{c:Expr}{t:TT}(h:PT X c t):PTs X [c] t:=λpins s σ H Q I hq=>wpAny_tests_one (h pins s σ H Q I hq)
def ZkF{prog:Program}{w:World}{A:Around}{R:Result->Shared->Prop}{s:Shared}{elt target iter:Expr}{ifs:List Expr}{scope:Scope}{pos:Pos}{it acc:Value}{env:Env}(I:Nat->Shared->Prop)
  (turn:∀ n s,I n s->wpAny (model prog w) A (pyNext it) (λr s₁=>match r with
   | none=>R (.ok .next) s₁
   | some v=>wpAny (model prog w) A (letOwnedTupleGo target it v) (λ_ s₁'=>wpAny (model prog w) A (assign target env v) (λ_ s₂=>wpAny (model prog w) A (Zkc ifs env) (λok s₃ =>
     if ok=true then wpAny (model prog w) A (eval elt env) (λx s₄ =>
      wpAny (model prog w) A (call (.builtin "list.append") [acc,x]) (λ_ s₅=>∃ m,m < n/\I m s₅) (notedBy (model prog w) A env λe s'=>R (.error e) s') s₄) (notedBy (model prog w) A env λe s'=>R (.error e) s') s₃
     else ∃ m,m < n/\I m s₃) (notedBy (model prog w) A env λe s'=>R (.error e) s') s₂) (notedBy (model prog w) A env λe s'=>R (.error e) s') s₁') (notedBy (model prog w) A env λe s'=>R (.error e) s') s₁) (notedBy (model prog w) A env λe s'=>R (.error e) s') s)
  (n:Nat) (h:I n s):codeAny (model prog w) A (.compLoop (.ListComp elt [⟨target,iter,ifs,0⟩] scope pos) 0 it acc env) R s:=by
 refine codeAny_loop rfl I (λn s hI=>?_) n h
 show wpAny _ _ ((compTurn (.ListComp elt [⟨target,iter,ifs,0⟩] scope pos) 0 it acc env).onRaise (λx=>do noteFrame x env; theTreesLotGoes x)) _ _ s
 refine wpAny_noted ?_
 rw [compTurn_list]
 refine Ya (wpAny_standAt (Ya (Yx (turn n s hI) (λr s₁ h₁=>?_) λ_ _ h'=>h')))
 cases r with
 | none=>exact Yc h₁
 | some v =>
  refine Ya (Yx h₁ (λ_ s₁' h₁'=>?_) λ_ _ h'=>h')
  refine Ya (Yx h₁' (λ_ s₂ h₂=>Ya (Yx h₂ (λok s₃ h₃=>?_) λ_ _ h'=>h')) λ_ _ h'=>h')
  cases ok with
  | false=>exact Yc ⟨rfl,h₃⟩
  | true=>exact Ya (Ya (Yx h₃ (λx s₄ h₄=>Ya (Yx h₄ (λ_ s₅ h₅=>Yc (Yc ⟨rfl,h₅⟩)) λ_ _ h'=>h')) λ_ _ h'=>h'))
def Zfz(nt:Nat)(cp:St)(J:It)(g:TG)(tt:TT)(te:TE)(H1:Hp)(Q:VK):Prop:=∀ acc H2,H1 acc=none->Zk H1 H2->H2 acc=some (.lst []) ->
 ∃ W:Nat->Nat->List V->Hp->Prop,(∃ m,W 0 m [] H2)/\∀ i m ys H,W i m ys H->H acc=some (.lst ys)/\((J.stop i H/\Q (.ref acc) H)\/(J.go i H/\ys.length < 1000000/\∃ N:List V->Hp->Prop,(∀ ys' H',N ys' H'->∃ m',m' < m/\W (i + 1) m' ys' H') /\
  ∀ os x H',os.length=nt->J.yld i H x H'->g x (os ++ cp) H' λτ H3=>∃ os',os'.length=nt/\τ=os' ++ cp/\tt τ H3 λb H4=>if b=true then te τ H4 λv H5=>H5 acc=some (.lst ys)/\N (ys ++ [v]) (upd H5 acc (.lst (ys ++ [v]))) else N ys H4))
def ZqY(nt:Nat)(cp:St)(J:It)(g:TG)(te:TE)(H1:Hp)(Q:VK):Prop:=Zfz nt cp J g ZpJ te H1 Q
def ZeF(nt:Nat)(caps:List Nat)(wi:TI)(g:TG)(tt:TT)(te:TE):TE:=λσ H Q=>wi σ H λJ H1=>Zfz nt (Jv σ caps) J g tt te H1 Q
def Zec(nt:Nat)(caps:List Nat)(wi:TI)(g:TG)(te:TE):TE:=λσ H Q=>wi σ H λJ H1=>ZqY nt (Jv σ caps) J g te H1 Q
def Zgu(X:Cx)(pins:List (Addr × Obj))(σ:St)(Q:VK)(acc:Value)(C:Addr)(r:Result)(s':Shared):Prop :=
 r=.ok .next/\∃ a H',acc=.ref a/\Inv X pins σ H' s'/\JJ X pins H' C/\(∃ m,s'.heap.Ns C m)/\Q (.ref a) H'
def ZoM{elt target iter:Expr}{ifs:List Expr}{pos:Pos}{g:TG}{tt:TT}{te:TE}{it acc:Addr}{tn:Nat->Heap->Prop}{J:It}{Q:VK}{cells:List (Str × Addr)}{fn:Str->Bool}{s3 s4:Shared}{H3:Hp}{W:Nat->Nat->List V->Hp->Prop}{m0:Nat}(hc:X.calm=true)
  (hg:PG (ZjJ X (ts ++ cs) sc cells fn s3 H3 fp) target g) (ht:PTs (ZjJ X (ts ++ cs) sc cells fn s3 H3 fp) ifs tt) (he:PE (ZjJ X (ts ++ cs) sc cells fn s3 H3 fp) elt te) (ok:(ZjJ X (ts ++ cs) sc cells fn s3 H3 fp).Ok)
  (I3:Inv X pins σ H3 s3) (f3:∀ b∈fp,JJ X pins H3 b) (hlt3:∀ b∈fp,b < s3.heap.objs.size) (T:Turn X.prog X.w X.K target J fp it tn) (J4:Inv (ZjJ X (ts ++ cs) sc cells fn s3 H3 fp) [] (List.replicate ts.length none ++ Jv σ caps) H3 s4) (st4:tn 0 s4.heap) (w0:W 0 m0 [] H3)
  (step:∀ i m ys H,W i m ys H->H acc=some (.lst ys)/\((J.stop i H/\Q (.ref acc) H)\/(J.go i H/\ys.length < 1000000/\∃ N:List V->Hp->Prop,(∀ ys' H',N ys' H'->∃ m',m' < m/\W (i + 1) m' ys' H') /\
   ∀ os x H',os.length=ts.length->J.yld i H x H'->g x (os ++ Jv σ caps) H' λτ H3=>∃ os',os'.length=ts.length/\τ=os' ++ Jv σ caps/\tt τ H3 λb H4=>if b=true then te τ H4 λv H5=>H5 acc=some (.lst ys)/\N (ys ++ [v]) (upd H5 acc (.lst (ys ++ [v]))) else N ys H4))) :
  codeAny (model X.prog X.w) X.A (.compLoop (.ListComp elt [⟨target,iter,ifs,0⟩] sc pos) 0 (.ref it) (.ref acc) (compEnvC sc cells s3.heap.objs.size X.env)) (Zgu X pins σ Q (.ref acc) s3.heap.objs.size) s4:=by
 have stat:∀ {H':Hp},(∀ b∈fp,H' b=none)->∀ b∈fp,JJ (ZjJ X (ts ++ cs) sc cells fn s3 H3 fp) [] H' b:=λhn b hb =>
  ⟨hn b hb,Nat.ne_of_lt (hlt3 b hb),ok.exfs b hb,.inl hb,ok.exf b hb |>.2,λp hp=>absurd (show p∈([]:List (Addr × Obj)) from hp) (by simp)⟩
 refine ZkF (λn s'=>∃ i os ys H',os.length=ts.length/\Inv (ZjJ X (ts ++ cs) sc cells fn s3 H3 fp) [] (os ++ Jv σ caps) H' s'/\tn i s'.heap/\(∀ b∈fp,H' b=none)/\W i n ys H') ?_ m0
  ⟨0,List.replicate ts.length none,[],_,by simp,J4,st4,λb hb=>(f3 b hb).1,w0⟩
 rintro n s5 ⟨i,os,ys,H5,ol,J5,st5,fr5,w5⟩
 obtain⟨ha,hcase⟩:=step i n ys H5 w5
 rcases hcase with ⟨stop,q⟩ | ⟨go,hys,N,hN,turn⟩
 ·refine ZZ (T.done (ZjJ X (ts ++ cs) sc cells fn s3 H3 fp) rfl rfl rfl hc i [] s5 _ H5 _ J5 (stat fr5) st5 stop) λr s6 ⟨hr,J6⟩=>?_
  subst hr
  have hf6:H5 s3.heap.objs.size=none:=J6.free
  obtain⟨m6,hm6,_⟩:=J6.loc
  exact⟨rfl,_,H5,rfl,I3.call' (J6.os) J6.base J6.hok J6.bare (λb hb=>⟨(f3 b hb).2.2.2.1,(f3 b hb).2.1,(f3 b hb).2.2.2.2.1,(f3 b hb).2.2.2.2.2⟩),I3.fpOk (Yd _) hf6,⟨m6,hm6⟩,q⟩
 ·refine ZZ (T.item (ZjJ X (ts ++ cs) sc cells fn s3 H3 fp) rfl rfl rfl hc i [] s5 _ H5 _ J5 (stat fr5) st5 go) λr s6 ⟨u,hr,h6⟩=>?_
  subst hr
  refine ZZ h6 λ_ s7 ⟨x,H7,J7,r7,y7,st7,fr7⟩=>?_
  have J7':=J7.pinned (stat fr7) (T.obj _ _ st7)
  refine Yx (hg _ s7 _ H7 x u _ J7' r7 (turn os x H7 ol y7)) (λ_ s8 ⟨σ8,H8,J8,os',ol',e8,q8⟩=>?_) λ_ _ z=>z.elim
  subst e8
  refine Yx (ht _ s8 _ H8 _ J8 q8) (λb s8' ⟨H8',J8',q8'⟩=>?_) λ_ _ z=>z.elim
  cases b with
  | false =>
   rw [if_neg (by decide)] at q8' ⊢
   obtain⟨m',hm',w9⟩:=hN _ _ q8'
   refine⟨m',hm',i + 1,os',ys,_,ol',J8'.unpinned,T.keep _ _ _ st7 λb hb o e=>(J8'.pin (b,o) (Yv _ (Yv _ (ZaV hb e)))).1,λb hb=>?_,w9⟩
   obtain⟨o,e,d⟩:=T.obj _ _ st7 b hb
   exact (J8'.pin (b,o) (Yv _ (Yv _ (ZaV hb e)))).2.1
  | true =>
   rw [if_pos rfl] at q8' ⊢
   refine Yx (he _ s8' _ H8' _ J8' q8') (λv s9 ⟨v9,H9,J9,r9,ha9,n9⟩=>?_) λ_ _ z=>z.elim
   refine Yx (ZfI (X:=ZjJ X (ts ++ cs) sc cells fn s3 H3 fp) _ s9 _ H9 (.ref acc) [v9] (.ref acc) [v] (λ_ H'=>H'=upd H9 acc (.lst (ys ++ [v9]))) J9 rfl (.cons r9 .nil) ⟨_,ys,v9,rfl,rfl,ha9,Zsm hys,rfl⟩) (λ_ s10 ⟨_,H10,J10,_,e10⟩=>?_) λ_ _ z=>z.elim
   subst e10
   obtain⟨m',hm',w9⟩:=hN _ _ n9
   refine⟨m',hm',i + 1,os',ys ++ [v9],_,ol',J10.unpinned,T.keep _ _ _ st7 λb hb o e=>(J10.pin (b,o) (Yv _ (Yv _ (ZaV hb e)))).1,λb hb=>?_,w9⟩
   obtain⟨o,e,d⟩:=T.obj _ _ st7 b hb
   exact (J10.pin (b,o) (Yv _ (Yv _ (ZaV hb e)))).2.1
def Zi2{elt target iter:Expr}{ifs:List Expr}{pos:Pos}{g:TG}{tt:TT}{te:TE}{it:Addr}{tn:Nat->Heap->Prop}{J:It}{Q:VK}{E:VSP}(B:Blk X ts caps cs sc cl)(hc:X.calm=true)
  (hg:∀ s H fp,PG (blk X (ts ++ cs) sc cl s H fp) target g) (ht:∀ s H fp,PTs (blk X (ts ++ cs) sc cl s H fp) ifs tt) (he:∀ s H fp,PE (blk X (ts ++ cs) sc cl s H fp) elt te)
  (I2:Inv X pins σ H s) (T:Turn X.prog X.w X.K target J fp it tn) (st2:tn 0 s.heap) (f2:∀ b∈fp,JJ X pins H b) (h:Zfz ts.length (Jv σ caps) J g tt te H Q) :
  wpAny (model X.prog X.w) X.A (newList []) (λacc s₃=>wpAny (model X.prog X.w) X.A (newFunctionEnv sc X.env.globals cl [] X.env.qual none .none (some X.env)) (λcenv s₄ =>
   codeAny (model X.prog X.w) X.A (.compStart (.ListComp elt [⟨target,iter,ifs,0⟩] sc pos) 0 (.ref it) acc { cenv with scope:=relabel sc X.env }) (Zgu X pins σ Q acc cenv.locals) s₄) E s₃) E s:=by
 refine wpAny_newObj_type (wpAny_newFunctionEnv B.cell (by intro y hy; simp at hy) (λh₁ hns₁ hsb₁=>?_) B.kind)
 dsimp only at hns₁ hsb₁ ⊢
 have hnew:H s.heap.objs.size=none:=I2.hok.fresh (Yd _)
 have I3:Inv X pins σ (upd H s.heap.objs.size (.lst [])) { s with heap:=s.heap.push { cls:=.type "list",dict:=none,data:=.seq ([]:List Value).toArray } } :=
  I2.laid (t':=s.toks) (λb u e=>Yi _ e) (Yd _) ⟨YF _,[],0,.nil,Yo _ rfl⟩
 obtain⟨W,⟨m0,w0⟩,step⟩:=h s.heap.objs.size _ hnew (Jh hnew _) Zf
 have old2:∀ b o,s.heap.get? b=some o->(s.heap.push { cls:=.type "list",dict:=none,data:=.seq ([]:List Value).toArray }).get? b=some o:=λb o e=>Yi _ e
 generalize hs3:({ s with heap:=s.heap.push { cls:=.type "list",dict:=none,data:=.seq ([]:List Value).toArray } }:Shared)=s3 at I3
 have hh:s.heap.push { cls:=.type "list",dict:=none,data:=.seq ([]:List Value).toArray }=s3.heap:=by rw [<- hs3]
 rw [hh] at hns₁ hsb₁ old2
 have fpO:∀ b∈fp,∃ o,s.heap.get? b=some o:=λb hb=>let ⟨o,e,_⟩:=T.obj 0 _ st2 b hb; ⟨o,e⟩
 have f3:∀ b∈fp,JJ X pins (upd H s.heap.objs.size (.lst [])) b:=λb hb=>⟨by
  obtain⟨o,e⟩:=fpO b hb
  rw [Zg (Yn (Yh e))]; exact (f2 b hb).1,(f2 b hb).2⟩
 have hlt3:∀ b∈fp,b < s3.heap.objs.size:=λb hb=>let ⟨o,e⟩:=fpO b hb; Yh (old2 b o e)
 have kk:∀ b o,s3.heap.get? b=some o->h₁.get? b=some o:=λb o e=>hsb₁.extBut b o (Yn (Yh e)) (Yi _ e)
 have J4:=Znn (t':=s.toks + ([]:List (Str × Value)).length) B I3 f3 hlt3 (h₁:=h₁) hns₁ kk
 have st4:tn 0 h₁:=T.keep _ _ _ st2 λb hb o e=>kk b o (old2 b o e)
 have key:∀ s4:Shared,s4={ s3 with heap:=h₁,toks:=s.toks + ([]:List (Str × Value)).length } ->
   codeAny (model X.prog X.w) X.A (.compLoop (.ListComp elt [⟨target,iter,ifs,0⟩] sc pos) 0 (.ref it) (.ref s.heap.objs.size) (compEnvC sc cl s3.heap.objs.size X.env)) (Zgu X pins σ Q (.ref s.heap.objs.size) s3.heap.objs.size) s4:=by
  rintro s4 rfl
  exact ZoM hc (hg _ _ _) (ht _ _ _) (he _ _ _) (ZmV B I3 f3 hlt3) I3 f3 hlt3 T J4 st4 w0 step
 have key2:=key { s with heap:=h₁,toks:=s.toks + ([]:List (Str × Value)).length } (by rw [<- hs3])
 rw [hh]
 exact codeAny_compStart_list key2 (T.self _ 0 _ _ _ st4 key2)
def Zhn{elt target iter:Expr}{ifs:List Expr}{pos:Pos}{wi:TI}{g:TG}{tt:TT}{te:TE}(B:Blk X ts caps cs sc cl)(hi:PI X target iter wi)
  (hg:∀ s H fp,PG (blk X (ts ++ cs) sc cl s H fp) target g) (ht:∀ s H fp,PTs (blk X (ts ++ cs) sc cl s H fp) ifs tt) (he:∀ s H fp,PE (blk X (ts ++ cs) sc cl s H fp) elt te) (hc:X.calm=true:=by rfl) (hs:∀ x,foldedSetIterable iter X.env x=pure x:=by intro _; rfl) :
  PE X (.ListComp elt [⟨target,iter,ifs,0⟩] sc pos) (ZeF ts.length caps wi g tt te):=by
 intro pins s σ H Q I h
 rw [eval_ListComp]
 refine wpAny_comprehension_free (use:=none) rfl hs B.clos B.kind B.loc (ZZ (hi pins s σ H _ I h) λv s1 h1=>ZZ h1 λitv s2 h2=>?_)
 obtain⟨it,fp,tn,J,H2,e,I2,T,st2,f2,hq⟩:=h2
 subst e
 refine ZZ (Zi2 B hc hg ht he I2 T st2 f2 hq) λacc s3 h3=>ZZ h3 λcenv s4 h4=>Y3 h4 λr s' hp=>?_
 obtain⟨rfl,a,H',rfl,I',fC,⟨m,hm⟩,q⟩:=hp
 exact⟨m,hm,λh' sb=>⟨.ref a,H',I'.turned (t':=s'.toks) (λb o hb e=>sb.extBut b o hb e) fC.1 fC.2.1 fC.2.2.2.1 fC.2.2.2.2.1 fC.2.2.2.2.2,rfl,q⟩⟩
def Zgs{elt target iter:Expr}{ifs:List Expr}{x:Str}{px pos spos:Pos}{wi:TI}{g:TG}{tt:TT}{te:TE}(i:Nat)(B:Blk X ts caps cs sc cl)(hi:PI X target iter wi)
  (hg:∀ s H fp,PG (blk X (ts ++ cs) sc cl s H fp) target g) (ht:∀ s H fp,PTs (blk X (ts ++ cs) sc cl s H fp) ifs tt) (he:∀ s H fp,PE (blk X (ts ++ cs) sc cl s H fp) elt te) (hx:PG X (.Name x px) (Zc6 i))
  (hsw:swapsWith (.ListComp elt [⟨target,iter,ifs,0⟩] sc pos) (some (.Name x px)) spos.line X.env=pure true) (hc:X.calm=true:=by rfl) (hs:∀ x,foldedSetIterable iter X.env x=pure x:=by intro _; rfl) :
  PS X (.Assign [.Name x px] (.ListComp elt [⟨target,iter,ifs,0⟩] sc pos) spos) (Zo2 (ZeF ts.length caps wi g tt te) (Zc6 i)):=by
 intro pins s σ H D I h
 rw [exec_Assign_Name_used _ _ _ _ hsw]
 refine Ya (wpAny_standAt (Ya ?_))
 show wpAny _ X.A (do let _ <- comprehension (.ListComp elt [⟨target,iter,ifs,0⟩] sc pos) sc X.env _ (newList []) false (eval iter X.env) (some (assign (.Name x px) X.env))) _ _ s
 refine Ya (Yx (wpAny_comprehension_free (use:=some (assign (.Name x px) X.env)) (Q:=λ_ s'=>SP X pins D .next s') rfl hs B.clos B.kind B.loc
  (ZZ (hi pins s σ H _ I h) λv s1 h1=>ZZ h1 λitv s2 h2=>?_)) (λ_ s' hq=>Yc (Yc hq)) λ_ _ e=>e)
 obtain⟨it,fp,tn,J,H2,e,I2,T,st2,f2,hq⟩:=h2
 subst e
 refine ZZ (Zi2 B hc hg ht he I2 T st2 f2 hq) λacc s3 h3=>ZZ h3 λcenv s4 h4=>Y3 h4 λr s' hp=>?_
 obtain⟨rfl,a,H',rfl,I',fC,⟨m,hm⟩,q⟩:=hp
 obtain⟨oC,esC,epC,hoC,hdC,rC⟩:=id hm
 have Ip:Inv X (pins ++ [(cenv.locals,oC)]) σ H' s':=I'.pins_of λp hp=>by
  rcases YA.mp hp with z | z
  ·exact I'.pin p (Yv _ z)
  ·have z:p=(cenv.locals,oC):=by simpa using z
   subst z
   exact⟨hoC,fC.1,fC.2.1,fC.2.2.1,λv z=>by rw [show oC.data=_ from hdC] at z; cases z⟩
 refine ZZ (hx _ s' σ H' (.ref a) (.ref a) _ Ip rfl q) λ_ s5 ⟨σ5,H5,I5,q5⟩=>?_
 have pC:=I5.pin (cenv.locals,oC) (List.mem_append_right _ (List.mem_append_right _ (by simp)))
 refine⟨m,⟨oC,esC,epC,pC.1,hdC,rC⟩,λh' sb=>⟨σ5,H5,I5.unpinned.turned (t':=s5.toks) (λb o hb e=>sb.extBut b o hb e) pC.2.1 fC.2.1 fC.2.2.2.1 fC.2.2.2.2.1 fC.2.2.2.2.2,q5⟩⟩
def Zoa{elt target iter:Expr}{pos:Pos}{wi:TI}{g:TG}{te:TE}(B:Blk X ts caps cs sc cl)(hi:PI X target iter wi)
  (hg:∀ s H fp,PG (blk X (ts ++ cs) sc cl s H fp) target g) (he:∀ s H fp,PE (blk X (ts ++ cs) sc cl s H fp) elt te) (hc:X.calm=true:=by rfl) (hs:∀ x,foldedSetIterable iter X.env x=pure x:=by intro _; rfl) :
  PE X (.ListComp elt [⟨target,iter,[],0⟩] sc pos) (Zec ts.length caps wi g te):=Zhn B hi hg (λ_ _ _=>Znw) he hc hs
end
section
variable {X:Cx}{tg e elt it c d:Expr}{te:TE}{ta:TA}{wi:TI}{g:TG}{pos p:Pos}{ts cs:List Str}{caps:List Nat}{sc:Scope}{cl:List (Str × Addr)}
def ZpU{es:List Expr}{x1}{pos':Pos}(hg:Gl X "enumerate")(hm:X.mg "enumerate"=none)(ha:QA X [c] ta)(hp:Zz c=true:=by rfl):QI X (.Tuple es x1 pos') (.Call (.Name "enumerate" p) [c] [] pos) (ZnK X.K ta):=⟨Zox hg hm ha.h (Zx hp)⟩
def ZmY(hg:Gl X "list")(hm:X.mg "list"=none)(ha:QA X [c] ta)(hp:Zz c=true:=by rfl)(hc:X.calm=true:=by rfl):QE X (.Call (.Name "list" p) [c] [] pos) (tCB (Zlq X.K) ta):=⟨Zcj (ZhE hc) hg hm (by decide +kernel) ha.h (by decide) (by decide) (Zx hp) rfl⟩
def Zrv(hg:Gl X "min")(hm:X.mg "min"=none)(ha:QA X [c,d] ta)(hp:Zz c=true:=by rfl)(hq:Zz d=true:=by rfl)(hc:X.calm=true:=by rfl) :
  QE X (.Call (.Name "min" p) [c,d] [] pos) (tCB (λxs H Q=>∃ i j,xs=[.int i,.int j]/\Q (.int (if j < i then j else i)) H) ta):=⟨Zbw (ZjY hc) hg hm (by decide +kernel) ha.h (by decide) (by decide) (Zx hp) (by rw [Zx hq]; rfl)⟩
def Zr0(ts:List Str)(hk:sc.kind=.function:=by rfl)(h:(sc.names.all λx=>x.2 != .free && x.2 != .cell && (x.2 != .local || sc.names.lookup x.1 == some .local))=true:=by decide +kernel):Blk X ts [] [] sc []:=by
 have hh:∀ x∈sc.names,x.2 ≠ .free/\x.2 ≠ .cell/\(x.2=.local->sc.names.lookup x.1=some .local):=λx hx=>by
  have q:=List.all_eq_true.mp h x hx
  simp only [Bool.and_eq_true,bne_iff_ne,ne_eq,Bool.or_eq_true,beq_iff_eq] at q
  exact⟨q.1.1,q.1.2,λz=>q.2.elim (λy=>absurd z y) id⟩
 have rl:relabel sc X.env=sc:=by
  unfold relabel
  rw [map_eq_self λx hx=>by
   have q:(x.2 == NameKind.free)=false:=by simpa using (hh x hx).1
   obtain⟨n,k⟩:=x
   simp only at q
   simp [q]]
 refine⟨closureFor_none λx hx=>(hh x hx).1,hk,λx hx=>(hh x hx).2.1,λx hx=>(hh x hx).2.2,λx c e=>by simp at e,λx e=>?_,rfl,λk i x e=>by simp at e,λx e=>by simp at e⟩
 rw [rl] at e
 rcases e with e | e
 ·exact absurd rfl (hh _ (Y4 e)).2.1
 ·exact absurd rfl (hh _ (Y4 e)).1
def ZeY(cells:List (Str × Addr)):List (Str × NameKind)->List (Str × Addr)->Option (List (Str × Addr))
 | [],acc=>some acc
 | (n,k) :: r,acc=>if k == .free then (match cells.lookup n with | some c=>ZeY cells r ((n,c) :: acc) | none=>none) else ZeY cells r acc
def ZeZ{env:Env}:∀ {ns:List (Str × NameKind)}{acc cl:List (Str × Addr)},ZeY env.cells ns acc=some cl ->
  (forIn ns acc λx r=>(match x with | (name,kind)=>if (kind == NameKind.free)=true then do let c <- PySem.cellOf env name; pure (ForInStep.yield ((name,c) :: r)) else pure (ForInStep.yield r):Sem (ForInStep (List (Str × Addr)))))=(pure cl:Sem _)
 | [],acc,cl,h=>by cases h; rfl
 | (n,k) :: r,acc,cl,h=>by
  unfold ZeY at h
  rw [List.forIn_cons]
  dsimp only
  split at h
  ·rename_i hk
   rw [if_pos hk]
   split at h
   ·rename_i c hc
    have e:PySem.cellOf env n=pure c:=by unfold PySem.cellOf; rw [hc]
    rw [e]
    exact ZeZ h
   ·cases h
  ·rename_i hk
   rw [if_neg hk]
   exact ZeZ h
def Zd2{cells:List (Str × Addr)}:∀ {ns:List (Str × NameKind)}{acc cl:List (Str × Addr)},ZeY cells ns acc=some cl->(∀ p∈acc,cells.lookup p.1=some p.2)->∀ p∈cl,cells.lookup p.1=some p.2
 | [],acc,cl,h,ha=>by cases h; exact ha
 | (n,k) :: r,acc,cl,h,ha=>by
  unfold ZeY at h
  split at h
  ·split at h
   ·rename_i c hc
    exact Zd2 h λp hp=>by
     rcases Yl.mp hp with rfl | hp
     ·exact hc
     ·exact ha p hp
   ·cases h
  ·exact Zd2 h ha
def ZdK{cells:List (Str × Addr)}{x:Str}:∀ {ns:List (Str × NameKind)}{acc cl:List (Str × Addr)},ZeY cells ns acc=some cl->((x,NameKind.free)∈ns\/∃ c,(x,c)∈acc)->∃ c,(x,c)∈cl
 | [],acc,cl,h,ha=>by
  cases h
  rcases ha with z | z
  ·cases z
  ·exact z
 | (n,k) :: r,acc,cl,h,ha=>by
  unfold ZeY at h
  split at h
  ·split at h
   ·rename_i c hc
    refine ZdK h ?_
    rcases ha with z | ⟨c',z⟩
    ·rcases Yl.mp z with e | z
     ·cases e; exact .inr ⟨c,Vt⟩
     ·exact .inl z
    ·exact .inr ⟨c',Vd _ z⟩
   ·cases h
  ·rename_i hk
   refine ZdK h ?_
   rcases ha with z | z
   ·rcases Yl.mp z with e | z
    ·cases e; exact absurd rfl hk
    ·exact .inl z
   ·exact .inr z
def Zct{x:Str}{c:Addr}:∀ {l:List (Str × Addr)},(x,c)∈l->∃ c',l.lookup x=some c'
 | [],h=>by cases h
 | (n,d) :: r,h=>by
  rw [List.lookup_cons]
  cases e:x == n with
  | true=>exact⟨d,rfl⟩
  | false =>
   rcases Yl.mp h with z | z
   ·cases z; simp at e
   ·exact Zct z
def Zcl{env:Env}{x:Str}{k:NameKind}(h:(relabel sc env).names.lookup x=some k):(x,k)∈sc.names\/(k=.cell/\(x,NameKind.free)∈sc.names):=by
 have m:=Y4 h
 unfold relabel at m
 obtain⟨⟨n,k'⟩,hm,e⟩:=Yk.mp m
 dsimp only at e
 split at e
 ·rename_i hc
  cases e
  simp only [Bool.and_eq_true,beq_iff_eq] at hc
  rw [hc.1.1] at hm
  exact .inr ⟨rfl,hm⟩
 ·cases e
  exact .inl hm
theorem ZbJ{env:Env}{x:Str}:∀ {ns:List (Str × NameKind)},ns.lookup x=some NameKind.free ->
  (ns.map λ(n,k)=>if (k == NameKind.free && env.scope.kind == .function && env.kindOf n == some .cell) then (n,NameKind.cell) else (n,k)).lookup x=some .cell \/
  (ns.map λ(n,k)=>if (k == NameKind.free && env.scope.kind == .function && env.kindOf n == some .cell) then (n,NameKind.cell) else (n,k)).lookup x=some .free
 | [],h=>by cases h
 | (n,k) :: r,h=>by
  rw [List.lookup_cons] at h
  rw [Yr]
  dsimp only
  cases e:x == n with
  | true =>
   rw [e] at h
   cases h
   split <;> simp [List.lookup_cons,e]
  | false =>
   rw [e] at h
   split
   ·simp only [List.lookup_cons,e]; exact ZbJ h
   ·simp only [List.lookup_cons,e]; exact ZbJ h
def Zot(ts:List Str)(caps:List Nat)(cs:List Str)(hcl:ZeY X.env.cells sc.names []=some cl:=by rfl)(hcap:caps.map (λi=>X.N[i]?)=cs.map some:=by rfl)(hck:(cs.all λx=>X.env.kindOf x == some .cell || X.env.kindOf x == some .free)=true:=by rfl)
  (hcf:cs.map (λx=>sc.names.lookup x)=cs.map (λ_=>some NameKind.free):=by rfl) (hk:sc.kind=.function:=by rfl) (h:(sc.names.all λx=>x.2 != .cell && (x.2 != .local || sc.names.lookup x.1 == some .local))=true:=by decide +kernel):Blk X ts caps cs sc cl:=by
 have hh:∀ x∈sc.names,x.2 ≠ .cell/\(x.2=.local->sc.names.lookup x.1=some .local):=λx hx=>by
  have q:=List.all_eq_true.mp h x hx
  simp only [Bool.and_eq_true,bne_iff_ne,ne_eq,Bool.or_eq_true,beq_iff_eq] at q
  exact⟨q.1,λz=>q.2.elim (λy=>absurd z y) id⟩
 have len:caps.length=cs.length:=by have:=congrArg List.length hcap; simpa using this
 refine⟨?_,hk,λx hx=>(hh x hx).1,λx hx=>(hh x hx).2,λx c e=>?_,λx e=>?_,len,λk i x e1 e2=>?_,λx hx=>?_⟩
 ·simp only [closureFor]
  rw [ZeZ hcl]
  rfl
 ·exact Zd2 hcl (λp hp=>by cases hp) _ (Y4 e)
 ·have m:(x,NameKind.free)∈sc.names:=by
   rcases e with e | e
   ·rcases Zcl e with z | ⟨_,z⟩
    ·exact absurd rfl (hh _ z).1
    ·exact z
   ·rcases Zcl e with z | ⟨z,_⟩
    ·exact z
    ·cases z
  obtain⟨c,hc⟩:=ZdK hcl (.inl m)
  exact Zct hc
 ·have h1:=congrArg (·[k]?) hcap
  simp only [List.getElem?_map,e1,e2,Option.map_some,Option.some.injEq] at h1
  have h2:=List.all_eq_true.mp hck x (Ym e2)
  simp only [Bool.or_eq_true,beq_iff_eq] at h2
  exact⟨h1,h2⟩
 ·obtain⟨k,hk'⟩:=YC hx
  have h1:=congrArg (·[k]?) hcf
  simp only [List.getElem?_map,hk',Option.map_some,Option.some.injEq] at h1
  exact ZbJ h1
structure QTs(X:Cx)(ifs:List Expr)(t:TT):Prop where
 h:PTs X ifs t
def Zmx{tt:TT}(h:QT X c tt):QTs X [c] tt:=⟨Zny h.h⟩
def Zoh{ifs:List Expr}{tt:TT}(B:Blk X ts caps cs sc cl)(hi:QI X tg it wi)(hg:∀ s H fp,QG (blk X (ts ++ cs) sc cl s H fp) tg g)(ht:∀ s H fp,QTs (blk X (ts ++ cs) sc cl s H fp) ifs tt)(he:∀ s H fp,QE (blk X (ts ++ cs) sc cl s H fp) elt te)(hc:X.calm=true:=by rfl)(hs:∀ x,foldedSetIterable it X.env x=pure x:=by intro _; rfl) :
  QE X (.ListComp elt [⟨tg,it,ifs,0⟩] sc pos) (ZeF ts.length caps wi g tt te):=⟨Zhn B hi.h (λs H fp=>(hg s H fp).h) (λs H fp=>(ht s H fp).h) (λs H fp=>(he s H fp).h) hc hs⟩
def ZhT{ifs:List Expr}{tt:TT}{x:Str}{px spos:Pos}(i:Nat)(B:Blk X ts caps cs sc cl)(hi:QI X tg it wi)(hg:∀ s H fp,QG (blk X (ts ++ cs) sc cl s H fp) tg g)(ht:∀ s H fp,QTs (blk X (ts ++ cs) sc cl s H fp) ifs tt)(he:∀ s H fp,QE (blk X (ts ++ cs) sc cl s H fp) elt te)(hx:QG X (.Name x px) (Zc6 i))
  (hsw:swapsWith (.ListComp elt [⟨tg,it,ifs,0⟩] sc pos) (some (.Name x px)) spos.line X.env=pure true:=by rfl) (hc:X.calm=true:=by rfl) (hs:∀ x,foldedSetIterable it X.env x=pure x:=by intro _; rfl) :
  QS X (.Assign [.Name x px] (.ListComp elt [⟨tg,it,ifs,0⟩] sc pos) spos) (Zo2 (ZeF ts.length caps wi g tt te) (Zc6 i)):=⟨Zgs i B hi.h (λs H fp=>(hg s H fp).h) (λs H fp=>(ht s H fp).h) (λs H fp=>(he s H fp).h) hx.h hsw hc hs⟩
def Zc5(B:Blk X ts caps cs sc cl)(hi:QI X tg it wi)(hg:∀ s H fp,QG (blk X (ts ++ cs) sc cl s H fp) tg g)(he:∀ s H fp,QE (blk X (ts ++ cs) sc cl s H fp) elt te)(hc:X.calm=true:=by rfl)(hs:∀ x,foldedSetIterable it X.env x=pure x:=by intro _; rfl) :
  QE X (.ListComp elt [⟨tg,it,[],0⟩] sc pos) (Zec ts.length caps wi g te):=⟨Zoa B hi.h (λs H fp=>(hg s H fp).h) (λs H fp=>(he s H fp).h) hc hs⟩
end
section
variable {X:Cx}{a b c e:Expr}{ta tb tc te:TE}{pos:Pos}{st:Stmt}
theorem Zpf(ha:QE X a ta)(hb:QE X b tb)(hc:QE X c tc)(hm:lastMarks [CmpOp.LtE,CmpOp.Lt] [b,c]=false:=by with_unfolding_all rfl):QE X (.Compare a [.LtE,.Lt] [b,c] pos) (Zg4 (rI0 λi j=>.bl (decide (i<=j))) (rI0 λi j=>.bl (decide (i < j))) ta tb tc):=⟨Zl8 Zr1 ZnD ha.h hb.h hc.h hm⟩
theorem Zpq(ha:QE X a ta)(hb:QE X b tb)(hm:behindInMarks .NotIn b=false:=by with_unfolding_all rfl):QT X (.Compare a [.NotIn] [b] pos) (Zd5 (tOp (rIn X.K true) ta tb)):=⟨ZbK ZfM ha.h hb.h hm⟩
def Zqf{x:Str}{i:Int}{tk:Tok}(hg:Gl X x)(hm:X.mg x=some (.int i tk))(hd:(x == ("__debug__":Str))=false:=by decide):QE X (.Name x pos) (tC (.int i)):=⟨Znf hg hm ⟨_,rfl⟩ hd⟩
end
def ZqN(K:PySem.W.Frag)(g:TG)(tb:TS)(D:Ends)(σ:St):List V->Hp->Prop:=λvs H1=>∃ a,vs=[.ref a]/\(∃ xs,JC K H1 a xs)/\∃ W:Nat->Nat->St->Hp->Prop,(∃ m,W 0 m σ H1)/\∀ i m σ H,W i m σ H ->
 ((Ite K a).stop i H/\D.nx σ H)\/((Ite K a).go i H/\∃ N:St->Hp->Prop,(∀ σ' H',N σ' H'->∃ m',m' < m/\W (i + 1) m' σ' H')/\∀ x H',(Ite K a).yld i H x H'->g x σ H' λσ2 H2=>tb { D with nx:=N,ct:=N,bk:=D.nx } σ2 H2)
variable {g:TG}{tb:TS}{D:Ends}{σ:St}
theorem Zj8{ta:TA}:ZmC (ZnK K ta) g tb D σ H=ta σ H (ZqN K g tb D σ):=rfl
theorem Zlo{a:Addr}{xs:List V}(Pv:Nat->St->Hp->Prop)(h0:Pv 0 σ H)(hl:∀ i σ H,i<=xs.length->Pv i σ H->JC K H a xs)
  (hs:∀ i x σ H p H',xs[i]?=some x->Pv i σ H->H p=none->Zk H H'->H' p=some (.tup [.int i,x])->g (.ref p) σ H' λσ2 H2=>tb { D with nx:=Pv (i + 1),ct:=Pv (i + 1),bk:=D.nx } σ2 H2) (hd:∀ σ H,Pv xs.length σ H->D.nx σ H) :
  ZqN K g tb D σ [.ref a] H:=by
 refine⟨a,rfl,⟨xs,hl 0 σ H (Nat.zero_le _) h0⟩,λi m σ H=>m=xs.length - i/\i<=xs.length/\Pv i σ H,⟨xs.length,by simp,Nat.zero_le _,h0⟩,?_⟩
 rintro i m σ H ⟨rfl,hi,p⟩
 have q:=hl i σ H hi p
 by_cases hlt:i < xs.length
 ·refine .inr ⟨⟨xs,xs[i],q,by simp [hlt]⟩,Pv (i + 1),λσ' H' p'=>⟨xs.length - (i + 1),by omega,rfl,hlt,p'⟩,λx H' y=>?_⟩
  obtain⟨b,y,rfl,hn,sm,e,hy⟩:=y
  exact hs i y σ H b H' (hy xs q) p hn sm e
 ·have e:i=xs.length:=by omega
  subst e
  exact .inl ⟨⟨xs,q,Yd _⟩,hd _ _ p⟩
variable {tt:TT}{te:TE}
def Zhi{lo:Int}{n nt:Nat}{cp:St}{H1:Hp}{Q:VK}(Pv:Addr->Nat->List V->Hp->Prop)(h0:∀ acc H2,H1 acc=none->Zk H1 H2->H2 acc=some (.lst [])->Pv acc 0 [] H2)
  (hl:∀ acc i ys H,Pv acc i ys H->H acc=some (.lst ys)/\ys.length < 1000000)
  (hs:∀ acc i ys H os,H1 acc=none->i < n->Pv acc i ys H->os.length=nt->g (.int (lo + (i:Nat))) (os ++ cp) H λτ H3=>∃ os',os'.length=nt/\τ=os' ++ cp/\tt τ H3 λb H4=>if b=true then te τ H4 λv H5=>H5 acc=some (.lst ys)/\Pv acc (i + 1) (ys ++ [v]) (upd H5 acc (.lst (ys ++ [v]))) else Pv acc (i + 1) ys H4)
  (hd:∀ acc ys H,H1 acc=none->Pv acc n ys H->Q (.ref acc) H):Zfz nt cp (Itr lo n) g tt te H1 Q:=by
 intro acc H2 hn sm e
 refine⟨λi m ys H=>m=n - i/\i<=n/\Pv acc i ys H,⟨n,by simp,Nat.zero_le _,h0 acc H2 hn sm e⟩,?_⟩
 rintro i m ys H ⟨rfl,hi,p⟩
 obtain⟨q1,q2⟩:=hl acc i ys H p
 refine⟨q1,?_⟩
 by_cases hlt:i < n
 ·refine .inr ⟨hlt,q2,Pv acc (i + 1),λys' H' p'=>⟨n - (i + 1),by omega,rfl,hlt,p'⟩,λos x H' ol y=>?_⟩
  obtain⟨rfl,rfl⟩:=y
  exact hs acc i ys _ os hn hlt p ol
 ·have e:i=n:=by omega
  subst e
  exact .inl ⟨Yd _,hd _ _ _ hn p⟩
theorem Zja{lo:Int}{n nt:Nat}{cp:St}{H1:Hp}{Q:VK}(Pv:Addr->Nat->List V->Hp->Prop)(h0:∀ acc H2,H1 acc=none->Zk H1 H2->H2 acc=some (.lst [])->Pv acc 0 [] H2)
  (hl:∀ acc i ys H,Pv acc i ys H->H acc=some (.lst ys)/\ys.length < 1000000)
  (hs:∀ acc i ys H os,H1 acc=none->i < n->Pv acc i ys H->os.length=nt->g (.int (lo + (i:Nat))) (os ++ cp) H λτ H3=>∃ os',os'.length=nt/\τ=os' ++ cp/\te τ H3 λv H4=>H4 acc=some (.lst ys)/\Pv acc (i + 1) (ys ++ [v]) (upd H4 acc (.lst (ys ++ [v]))))
  (hd:∀ acc ys H,H1 acc=none->Pv acc n ys H->Q (.ref acc) H):ZqY nt cp (Itr lo n) g te H1 Q:=by
 refine Zhi (tt:=ZpJ) Pv h0 hl (λacc i ys H os a b c d=>?_) hd
 have h:=hs acc i ys H os a b c d
 have e:(λτ H3=>∃ os',os'.length=nt/\τ=os' ++ cp/\ZpJ τ H3 λb H4=>if b=true then te τ H4 λv H5=>H5 acc=some (.lst ys)/\Pv acc (i + 1) (ys ++ [v]) (upd H5 acc (.lst (ys ++ [v]))) else Pv acc (i + 1) ys H4) =
   (λτ H3=>∃ os',os'.length=nt/\τ=os' ++ cp/\te τ H3 λv H4=>H4 acc=some (.lst ys)/\Pv acc (i + 1) (ys ++ [v]) (upd H4 acc (.lst (ys ++ [v])))):=by
  funext τ H3
  simp only [ZpJ,if_true]
 rw [e]
 exact h
def ZrT(lo:Int)(n:Nat)(g:TG)(tb:TS)(D:Ends)(σ:St):Hp->Prop:=λH1=>∃ W:Nat->Nat->St->Hp->Prop,(∃ m,W 0 m σ H1)/\∀ i m σ H,W i m σ H ->
 ((Itr lo n).stop i H/\D.nx σ H)\/((Itr lo n).go i H/\∃ N:St->Hp->Prop,(∀ σ' H',N σ' H'->∃ m',m' < m/\W (i + 1) m' σ' H')/\∀ x H',(Itr lo n).yld i H x H'->g x σ H' λσ2 H2=>tb { D with nx:=N,ct:=N,bk:=D.nx } σ2 H2)
theorem Zco{ta:TA}:ZmC (ZjR ta) g tb D σ H=ta σ H λvs H1=>∃ j:Int,vs=[.int j]/\-(2 ^ 62)<=j/\j < 2 ^ 62/\ZrT 0 j.toNat g tb D σ H1:=rfl
def Zfs{ta:TA}:ZmC (Zme ta) g tb D σ H=ta σ H λvs H1=>∃ i j:Int,vs=[.int i,.int j]/\(-(2 ^ 62)<=i/\i < 2 ^ 62/\-(2 ^ 62)<=j/\j < 2 ^ 62)/\ZrT i (j - i).toNat g tb D σ H1:=rfl
def ZcI{lo:Int}{n:Nat}(Pv:Nat->St->Hp->Prop)(h0:Pv 0 σ H)(hs:∀ i σ H,i < n->Pv i σ H->g (.int (lo + (i:Nat))) σ H λσ2 H2=>tb { D with nx:=Pv (i + 1),ct:=Pv (i + 1),bk:=D.nx } σ2 H2)
  (hd:∀ σ H,Pv n σ H->D.nx σ H):ZrT lo n g tb D σ H:=by
 refine⟨λi m σ H=>m=n - i/\i<=n/\Pv i σ H,⟨n,by simp,Nat.zero_le _,h0⟩,?_⟩
 rintro i m σ H ⟨rfl,hi,p⟩
 by_cases hlt:i < n
 ·refine .inr ⟨hlt,Pv (i + 1),λσ' H' p'=>⟨n - (i + 1),by omega,rfl,hlt,p'⟩,λx H' y=>?_⟩
  obtain⟨rfl,rfl⟩:=y
  exact hs i σ _ hlt p
 ·have e:i=n:=by omega
  subst e
  exact .inl ⟨Yd _,hd _ _ p⟩
def ZpD(K:PySem.W.Frag)(g:TG)(tb:TS)(D:Ends)(σ:St):V->Hp->Prop:=λx H1=>∃ a,x=.ref a/\(∃ xs,JC K H1 a xs)/\∃ W:Nat->Nat->St->Hp->Prop,(∃ m,W 0 m σ H1)/\∀ i m σ H,W i m σ H ->
 ((Itl K a).stop i H/\D.nx σ H)\/((Itl K a).go i H/\∃ N:St->Hp->Prop,(∀ σ' H',N σ' H'->∃ m',m' < m/\W (i + 1) m' σ' H')/\∀ x H',(Itl K a).yld i H x H'->g x σ H' λσ2 H2=>tb { D with nx:=N,ct:=N,bk:=D.nx } σ2 H2)
theorem Z9:ZmC (Zed K te) g tb D σ H=te σ H (ZpD K g tb D σ):=rfl
theorem Ji{a:Addr}{xs:List V}(Pv:Nat->St->Hp->Prop)(h0:Pv 0 σ H)(hl:∀ i σ H,i<=xs.length->Pv i σ H->JC K H a xs)
  (hs:∀ i x σ H,xs[i]?=some x->Pv i σ H->g x σ H λσ2 H2=>tb { D with nx:=Pv (i + 1),ct:=Pv (i + 1),bk:=D.nx } σ2 H2) (hd:∀ σ H,Pv xs.length σ H->D.nx σ H):ZpD K g tb D σ (.ref a) H :=
 ⟨a,rfl,⟨xs,hl 0 σ H (YF _) h0⟩,ZgY Pv h0 hl hs hd⟩
structure Mth(P:Program)(w:World)(K:PySem.W.Frag)(mg:Str->Option Value)(base:Heap)(CX:CXT)(k:Nat)(C:Addr)(m:Str)(ps:List Str)(sp:Sp):Prop where
 ex:∃ (f:Addr) (fd:FuncData),FnOk P w K mg base CX k f fd ps sp/\ZY K fd ps []/\Meth K C m f/\Cls K C
structure Mkr(P:Program)(w:World)(K:PySem.W.Frag)(mg:Str->Option Value)(base:Heap)(CX:CXT)(k:Nat)(C:Addr)(x:Str)(ps:List Str)(sp:Sp):Prop where
 ex:∃ (f:Addr) (fd:FuncData),FnOk P w K mg base CX k f fd ps sp/\ZY K fd ps []/\Mk K C f/\mg x=some (.ref C)
section
variable {X:Cx}{CX:CXT}{j k:Nat}{C:Addr}{x m fl:Str}{ps:List Str}{sp:Sp}{p pos apos:Pos}{e o value:Expr}{es:List Expr}{t:TA}{ta tv:TE}{E:XK}
theorem ZbT{pl:Sem Bool}(F:Mth X.prog X.w X.K X.mg X.base ZC j C m ps sp)(hr:Room k X.A)(hj:j<=k)(ho:QE X o ta)(ha:QA X (e :: es) t)(hp:(e :: es).all Zz=true:=by rfl)
  (ht:eval (.Call (.Attribute o m apos) (e :: es) [] pos) X.env=(do
   let ov <- eval o X.env
   standAt apos.atName
   let (f,first) <- holding [ov] (getMethod ov m pl)
   callWith pos f first (backTo pos (starEach (e :: es) X.env)) (backToKw pos (keywordEach [] X.env))):=by rfl) :
  QE X (.Call (.Attribute o m apos) (e :: es) [] pos) (ZhB C m sp [] E0 ta t):=by
 obtain⟨f,fd,G,b,hm,c⟩:=F.ex
 exact⟨Zoq ho.h c hm G (hr.mono hj) b .nil Zla ha.h (Zx (Z5 hp).1) (Zd8 (Z5 hp).2) ht⟩
def ZiB{pl:Sem Bool}(F:Mth X.prog X.w X.K X.mg X.base ZC j C m ps sp)(hr:Room k X.A)(hj:j<=k)(ho:QE X o ta)
  (ht:eval (.Call (.Attribute o m apos) [] [] pos) X.env=(do
   let ov <- eval o X.env
   standAt apos.atName
   let (f,first) <- holding [ov] (getMethod ov m pl)
   callWith pos f first (backTo pos (starEach [] X.env)) (backToKw pos (keywordEach [] X.env))):=by rfl) :
  QE X (.Call (.Attribute o m apos) [] [] pos) (ZhB C m sp [] E0 ta ZoR):=by
 obtain⟨f,fd,G,b,hm,c⟩:=F.ex
 exact⟨Zlk ho.h c hm G (hr.mono hj) b .nil Zla ht⟩
def ZqM(F:Mkr X.prog X.w X.K X.mg X.base ZC j C x ps sp)(hr:Room (k + 1) X.A)(hj:j<=k)(hg:Gl X x)(ha:QA X (e :: es) t)(hp:(e :: es).all Zz=true:=by rfl)(hdb:(x == ("__debug__":Str))=false:=by decide) :
  QE X (.Call (.Name x p) (e :: es) [] pos) (ZlB C sp [] E0 t):=by
 obtain⟨f,fd,G,b,M,hm⟩:=F.ex
 exact⟨Zno M (G.mono hj) hr hg hm b .nil Zla ha.h hdb (Zx (Z5 hp).1) (Zd8 (Z5 hp).2)⟩
def Zlu(ho:QE X e ta)(hb:attributeBase e fl X.env (eval e X.env)=eval e X.env:=by rfl):QE X (.Attribute e fl pos) (Zq2 X.K ta fl):=⟨Zqs ho.h hb⟩
def Zp2{pos':Pos}(ho:QE X o ta)(hv:QE X value tv)(hs:swapsWith value (some (.Attribute o fl pos')) pos.line X.env=pure false:=by rfl):QS X (.Assign [.Attribute o fl pos'] value pos) (Zq3 X.K ta tv fl):=⟨ZqT ho.h hv.h hs⟩
theorem Zqr(K:PySem.W.Frag)(ha:QE X o ta)(hb:QE X e tv)(hK:X.K=K:=by rfl)(hm:behindInMarks .In e=false:=by with_unfolding_all rfl):QT X (.Compare o [.In] [e] pos) (Zd5 (tOp (rIn K false) ta tv)):=by subst hK; exact⟨ZbK Zjo ha.h hb.h hm⟩
def Zmw(C:Addr)(m:Str)(sp:Sp)(ta:TE)(t:TA):TEX:=λσ H Q EX=>ta σ H λx H1=>∃ a dx fs,x=.ref a/\H1 a=some (.ins C dx fs)/\fs.lookup m=none/\t σ H1 λvs H2=>sp (x :: vs) H2 Q EX
end
section
variable {M:Model}{A:Around}{E:VSP}{s:Shared}{B:Heap}{env:Env}{outer:List Env}{L e:Addr}{cls a0:Value}
end
section
variable {X:Cx}{E:XK}{pins:List (Addr × Obj)}{σ:St}{H:Hp}{s:Shared}
variable {ts cs:List Str}{caps:List Nat}{sc:Scope}{cl:List (Str × Addr)}{fp:List Addr}
end
section
variable {X:Cx}{E:XK}{j k:Nat}{x:Str}{ps:List Str}{sp:Sp}{p pos:Pos}{e elt tg it:Expr}{es:List Expr}{t:TA}{ts cs:List Str}{caps:List Nat}{sc:Scope}{cl:List (Str × Addr)}{wi:TI}{g:TG}{te:TE}
end
def ZjC(K:PySem.W.Frag)(D:Addr)(th:Addr->TS)(En:Ends)(σ:St):XK:=λc _ H'=>∃ C,c=.ref C/\exmOne K (.ref C) (.ref D)=some true/\∀ ea,th ea { nx:=En.nx,rt:=En.rt,bk:=En.bk,ct:=En.ct } σ H'
def Zpn(K:PySem.W.Frag)(tb:TSX)(D:Addr)(th:Addr->TS):TS:=λEn σ H=>tb En (ZjC K D th En) σ H
section
variable {X:Cx}{body:List Stmt}{x:Str}{np hpos pos:Pos}{b₀:Stmt}{suite:List Stmt}{tb:TSX}{th:Addr->TS}{D:Addr}
end
def ZmK(C:Addr)(sp:Sp)(t:TA):TEX:=λσ H Q EX=>t σ H λvs H1=>∀ x dx,H1 x=none->H1 dx=none->dx ≠ x->sp (.ref x :: vs) (upd (upd H1 dx (.own x)) x (.ins C dx [])) (λv H2=>v=.non/\Q (.ref x) H2) EX
section
variable {X:Cx}{j k:Nat}{C:Addr}{x:Str}{ps:List Str}{sp:Sp}{p pos:Pos}{e:Expr}{es:List Expr}{t:TA}
end
section
variable {X:Cx}{e:Expr}{te:TE}{p1 p2 p3 pos:Pos}{c1 c2:Str}{k1 k2:Nat}
def tFs(te:TE):TE:=λσ H Q=>te σ H λx H1=>∃ i:Int,x=.int i/\i.natAbs < 2 ^ 30/\∀ z,Q (.str z) H1
end
section
variable {X:Cx}{e:Expr}{t:TA}{p pos:Pos}
end
section
variable {X:Cx}{pins:List (Addr × Obj)}{σ:St}{H:Hp}{s:Shared}
def EqD.neAt(I:Inv X pins σ H s){x y:V}{b:Bool}{n:Nat}(h:EqD H x y b n):∀ {A:Around}{u v:Value},Zt x u->Zt y v->A.units + n < cLine->(∃ a c,x=.ref a/\y=.ref c)->SeqAt.RcNeAt A s u v (!b):=by
 induction h with
 | flat fx fy =>
  rintro A u v r1 r2 _ ⟨a,c,rfl,_⟩
  cases fx
 | up h ih =>
  intro A u v r1 r2 hu w
  exact ih r1 r2 (by omega) w
 | @tup a b xs ys e n ha hb h ih =>
  intro A u v r1 r2 hu _
  cases r1
  cases r2
  obtain⟨its,v1,t1,_⟩:=I.tuple (SqT.of ha)
  obtain⟨jts,v2,t2,_⟩:=I.tuple (SqT.of hb)
  have z:=SeqAt.RcNeAt.tuples (A:=A) (s:=s) (e:=e) t1 t2 (by omega) λj h1 h2=>by
   have k1:j < xs.length:=by rw [v1.length]; simpa using h1
   have k2:j < ys.length:=by rw [v2.length]; simpa using h2
   obtain⟨u1,q1,w1⟩:=v1.get (Yb k1)
   obtain⟨u2,q2,w2⟩:=v2.get (Yb k2)
   have g1:its.toArray[j]=u1:=by
    have:=Ye.mp q1
    obtain⟨hh,this⟩:=this
    simpa using this
   have g2:jts.toArray[j]=u2:=by
    have:=Ye.mp q2
    obtain⟨hh,this⟩:=this
    simpa using this
   rw [g1,g2]
   exact ((h j _ _ (Yb k1) (Yb k2)).at I w1 w2 (by show A.units + 1 + n < cLine; omega)).1
  simpa [v1.length,v2.length] using z
 | @lst a b xs ys e n ha hb hl h ih =>
  intro A u v r1 r2 hu _
  cases r1
  cases r2
  obtain⟨its,v1,t1,_⟩:=I.list (JC.of ha)
  obtain⟨jts,v2,t2,_⟩:=I.list (JC.of hb)
  have z:=SeqAt.RcNeAt.lists (A:=A) (s:=s) (e:=e) t1.isList t2.isList (by simp [<- v1.length,<- v2.length,hl]) (by omega) λj h1 h2=>by
   have k1:j < xs.length:=by rw [v1.length]; simpa using h1
   have k2:j < ys.length:=by rw [v2.length]; simpa using h2
   obtain⟨u1,q1,w1⟩:=v1.get (Yb k1)
   obtain⟨u2,q2,w2⟩:=v2.get (Yb k2)
   have g1:its.toArray[j]=u1:=by
    have:=Ye.mp q1
    obtain⟨hh,this⟩:=this
    simpa using this
   have g2:jts.toArray[j]=u2:=by
    have:=Ye.mp q2
    obtain⟨hh,this⟩:=this
    simpa using this
   rw [g1,g2]
   exact ((h j _ _ (Yb k1) (Yb k2)).at I w1 w2 (by show A.units + 1 + n < cLine; omega)).1
  simpa [v1.length,v2.length] using z
 | @lstNe a b xs ys n ha hb hl =>
  intro A u v r1 r2 hu _
  cases r1
  cases r2
  obtain⟨its,v1,t1,_⟩:=I.list (JC.of ha)
  obtain⟨jts,v2,t2,_⟩:=I.list (JC.of hb)
  exact SeqAt.RcNeAt.lists_lengths t1.isList t2.isList (by simp [<- v1.length,<- v2.length]; exact hl) (by omega)
end
section
variable {X:Cx}{a b:Expr}{ta tb:TE}{pos:Pos}{k:Nat}
def Zsb:R2:=λx y H Q=>∃ t n p c,x=.ref p/\y=.ref c/\EqD H x y t n/\n<=60/\Q (.bl (!t)) H
def Zps(hr:Room k X.A):OpR X (compareOp .NotEq) Zsb:=by
 intro pins s σ H x y v u Q I rx ry h
 obtain⟨t,n,p,c,e1,e2,h,hn,q⟩:=h
 have hu:=hr.units
 exact (h.neAt I rx ry (by omega) ⟨p,c,e1,e2⟩) _ _ _ _ ⟨.bl (!t),H,I,rfl,q⟩
def ZpI(hr:Room k X.A)(ha:QE X a ta)(hb:QE X b tb):QT X (.Compare a [.NotEq] [b] pos) (Zd5 (tOp Zsb ta tb)):=⟨ZbK (Zps hr) ha.h hb.h (ZbH _)⟩
end
section
variable {X:Cx}{o e:Expr}{es:List Expr}{to:TE}{t:TA}{name:Str}{apos cpos:Pos}{id:String}{r:V->List V->Hp->VK->Prop}
def Zsj(r:V->List V->Hp->VK->Prop)(to:TE):TE:=λσ H Q=>to σ H λx H1=>r x [] H1 Q
def tLm(r:V->List V->Hp->VK->Prop)(to:TE)(t:TA):TE:=λσ H Q=>to σ H λx H1=>∃ l zs,x=.ref l/\H1 l=some (.lst zs)/\t σ H1 λvs H2=>r x vs H2 Q
def ZpY(slot:Slot "list" name id)(hty:typeOf (.builtin id)=pure (.type "method_descriptor"))(hm:MtM X id r)(ho:PE X o to)(ha:PA X (e :: es) t)
  (hbase:attributeBase o name X.env (eval o X.env)=eval o X.env:=by rfl)
  (hfew:((backTo cpos (starEach (e :: es) X.env)).all (λx=>!x.1) && (backToKw cpos (keywordEach [] X.env)).all (λx=>x.1.isSome)
   && decide ((e :: es).length + ([]:List Keyword).length + (if ([]:List Keyword).isEmpty then 0 else 1) < 30))=true:=by rfl)
  (hline:(apos.endLine == cpos.line)=true:=by rfl) (hs:starEach (e :: es) X.env=(false,eval e X.env) :: starEach es X.env:=by rfl) (hplain:(backTo cpos (starEach es X.env)).any (·.1)=false:=by rfl) :
  PE X (.Call (.Attribute o name apos) (e :: es) [] cpos) (tLm r to t):=by
 intro pins s σ H Q I h
 refine wpAny_Call_method_late hbase hfew hline rfl (ZZ (ho pins s σ H _ I h) λv s1 ⟨x,H1,I1,r1,l,zs,e1,e2,q1⟩=>?_)
 obtain⟨h1,h2⟩:=Zmv (T:="list") I1 r1 (by rw [e1]; exact .inl ⟨rfl,zs,JC.of e2⟩)
 refine⟨"list",id,PySem.F.plainAttrs_list,slot,hty,h1,h2,?_⟩
 have hA:=ha cpos pins s1 σ H1 _ I1 q1
 rw [hs] at hA ⊢
 refine VR (by show (false || (backTo cpos (starEach es X.env)).any (·.1))=false; rw [hplain] <;> rfl) (Calls.evalArgs_plain ?_)
 exact ZZ hA λus s2 ⟨vs,H2,I2,r2,q2⟩=>hm pins s2 σ H2 x vs v us Q I2 r1 r2 q2
def ZrX(ho:QE X o to)(ha:QA X [e] t)(hbase:attributeBase o "extend" X.env (eval o X.env)=eval o X.env:=by rfl)(hline:(apos.endLine == cpos.line)=true:=by rfl)(hp:Zz e=true:=by rfl) :
  QE X (.Call (.Attribute o "extend" apos) [e] [] cpos) (tLm Ze7 to t) :=
 ⟨ZpY PySem.F.slot_list_extend PySem.F.type_list_extend Zjd ho.h ha.h hbase (by rw [Zx hp]; rfl) hline (Zx hp) rfl⟩
end
def ZnI{P:Program}{w:World}{k:ZQ}{u:Value}(h:(ZT P w).is k u=true):Zt (kV k) u:=by
 rcases Zal h with ⟨i,t,rfl,rfl⟩ | ⟨x,t,rfl,rfl⟩ <;> exact⟨t,rfl⟩
section
variable {X:Cx}{pins:List (Addr × Obj)}{σ:St}{H:Hp}{s:Shared}{a:Addr}{kvs:List (ZQ × V)}
def ZmI(I:Inv X pins σ H s)(e:H a=some (.dK kvs)):∃ o,Inv X pins σ (upd H a (.frz o (.dK kvs))) s:=by
 obtain⟨z,hd,vs,rel,o,es,ep,ho,r⟩:=Zob I.hok e
 refine⟨o,?_⟩
 exact I.write (x:=a) (e:=a) (o:=.frz o (.dK kvs)) (h':=s.heap) (t':=s.toks) (by rw [e]; exact trivial) (.inl rfl) (λb u _ q=>q) ⟨o,ho⟩ ⟨ho,z,hd,vs,rel,o,es,ep,ho,r⟩
def Zsy(i:Nat)(t:TS):TS:=λD σ H=>∃ a kvs,σ[i]?=some (some (.ref a))/\H a=some (.dK kvs)/\∀ o,t D σ (upd H a (.frz o (.dK kvs)))
def ZpQ{sts:List Stmt}{t:TS}(i:Nat)(h:QB X sts t):QB X sts (Zsy i t):=⟨λpins s σ H D I ⟨_,_,_,e,q⟩=>let ⟨o,I'⟩:=ZmI I e; h.h pins s σ _ D I' (q o)⟩
end
def Itd(a:Addr)(o:Obj)(kvs:List (ZQ × V)):It:=⟨λi H=>H a=some (.frz o (.dK kvs))/\i < kvs.length,λi H x H'=>H'=H/\∃ kv,kvs[i]?=some kv/\x=kV kv.1,λi H=>H a=some (.frz o (.dK kvs))/\kvs.length<=i⟩
def ZmX{P:Program}{w:World}{h:Heap}{a:Addr}{o:Obj}{kvs:List (ZQ × V)}{es}{ep:Nat}(ok:HOk P w H h)(e:H a=some (.frz o (.dK kvs)))(hep:o.data=.dict es ep) :
  (a == sysModules)=false/\kvs.length<=sizeLine/\∃ vs,KV kvs vs/\h.DictAt (ZT P w) a vs ep:=by
 obtain⟨ho,z,hd,vs,rel,o',es',ep',ho',h1,h2,h3⟩:=(show ZR P w H h a (.frz o (.dK kvs)) from ok a _ e)
 rw [ho] at ho'
 cases ho'
 rw [hep] at h2
 cases h2
 exact⟨hd,z,vs,rel,o,es,ho,h1,hep,h3⟩
def Zjn{kvs:List (ZQ × V)}{vs:List (ZQ × Value)}(r:KV kvs vs){i:Nat}(hi:i < kvs.length):∃ kv v,kvs[i]?=some kv/\vs[i]?=some (kv.1,v):=by
 have hl:i < vs.length:=by rw [<- r.length]; exact hi
 have hk:=congrArg (·[i]?) r.keys
 simp only [List.getElem?_map,List.getElem?_eq_getElem hi,List.getElem?_eq_getElem hl,Option.map_some,Option.some.injEq] at hk
 exact⟨kvs[i],vs[i].2,Yb hi,by rw [Yb hl,hk]⟩
def ZjK{P:Program}{w:World}{tg:Expr}(a it:Addr)(o:Obj)(kvs:List (ZQ × V)){es}{ep:Nat}(hep:o.data=.dict es ep):Turn P w K tg (Itd a o kvs) [it] it (λi h=>h.IsKeyIter it a i kvs.length ep) where
 mem:=by simp
 obj:=λi h st b hb=>by
  have e:b=it:=by simpa using hb
  subst e
  obtain⟨o,e,c,d⟩:=st
  exact⟨o,e,λv z=>by rw [d] at z; cases z⟩
 keep:=λi h h' st k=>st.at λo e=>k it (by simp) o e
 item:=by
  intro X hP hw hK hc i pins s σ H E I hf st hg
  subst hP hw hK
  obtain⟨e,hi⟩:=hg
  obtain⟨_,_,vs,rel,at_⟩:=ZmX I.hok e hep
  obtain⟨kv,v,g1,g2⟩:=Zjn rel hi
  obtain⟨f0,f1,f2,f3,f4,f5⟩:=hf it (by simp)
  rw [rel.length] at st
  refine wpAny_pyNext_dict_item st at_ g2 λkey h' hk st' sb=>?_
  have I1:Inv X pins σ H { s with heap:=h' }:=I.turned (t':=s.toks) (λb o hb e=>(sb.2 b hb).trans e) f0 f1 f3 f4 f5
  obtain⟨ob,e',c,d⟩:=id st'
  rw [<- rel.length] at st'
  exact⟨key,rfl,ZoT (s:={ s with heap:=h' }) e' c d (by decide) ⟨kV kv.1,H,I1,ZnI hk,⟨rfl,kv,g1,rfl⟩,st',λb hb=>(hf b hb).1⟩⟩
 done:=by
  intro X hP hw hK hc i pins s σ H E I hf st hg
  subst hP hw hK
  obtain⟨e,hi⟩:=hg
  obtain⟨_,_,vs,rel,at_⟩:=ZmX I.hok e hep
  obtain⟨f0,f1,f2,f3,f4,f5⟩:=hf it (by simp)
  rw [rel.length] at st hi
  exact wpAny_pyNext_dict_end (I.ok.hd hc) st at_ (YZ hi) λh' eb=>⟨rfl,I.turned (t':=s.toks) (λb o hb e=>eb b o hb e) f0 f1 f3 f4 f5⟩
 self:=λ_ _ _ _ _ st h=>wpAny_pyIter_keyiter st h
def Zli(tl:TE):TI:=λσ H R=>tl σ H λx H1=>∃ a o kvs,x=.ref a/\H1 a=some (.frz o (.dK kvs))/\R (Itd a o kvs) H1
section
variable {X:Cx}{tg l o i e value:Expr}{tl td ty tv:TE}{t:TA}{pos pos' p:Pos}
def ZoF(hl:PE X l tl):PI X tg l (Zli tl):=by
 intro pins s σ H R I h
 refine ZZ (hl pins s σ H _ I h) λv s1 ⟨x,H1,I1,r1,q1⟩=>?_
 obtain⟨a,o,kvs,e,hq,q⟩:=q1
 subst e
 cases r1
 obtain⟨ho,z,hd,vs,rel,o',es,ep,ho',h1,h2,h3⟩:=(show ZR X.prog X.w H1 s1.heap a (.frz o (.dK kvs)) from I1.hok a _ hq)
 rw [ho] at ho'
 cases ho'
 refine wpAny_pyIter_dict hd ⟨o,es,ho,h1,h2,h3⟩ ?_
 refine⟨s1.heap.objs.size,[s1.heap.objs.size],_,_,H1,rfl,I1.kept (t':=s1.toks) λb o e=>Yi _ e,ZjK a _ o kvs h2,⟨_,Yo _ rfl,rfl,by rw [rel.length]; rfl⟩,λb hb=>?_,q⟩
 have e:b=s1.heap.objs.size:=by simpa using hb
 subst e
 exact I1.fpOk (Yd _) (I1.hok.fresh (Yd _))
def Zkk(hl:QE X l tl):QI X tg l (Zli tl):=⟨ZoF hl.h⟩
def tDG(td ty:TE):TE:=λσ H Q=>td σ H λx H1=>ty σ H1 λy H2=>∃ a kvs k v,x=.ref a/\Rd H2 a (.dK kvs)/\y=kV k/\Z8 kvs k=some v/\Q v H2
def ZbQ(hu:X.A.units + 1 < cLine)(ho:QE X o td)(hi:QE X i ty)(hs:Zsk i:=by intro _ _; rfl):QE X (.Subscript o i pos) (tDG td ty):=⟨by
 intro pins s σ H Q I h
 refine Znj PySem.F.slot_dict_getitem.lookup hs (ZZ (ho.h pins s σ H _ I h) λu s1 ⟨x,H1,I1,rx,q1⟩=>ZZ (hi.h pins s1 σ H1 _ I1 q1) λiv s2 ⟨y,H2,I2,ry,a,kvs,k,v,ex,g,ey,hv,q2⟩=>?_)
 subst ex
 obtain rfl:u=Value.ref a:=rx
 have g':ZmU H2 a y (some v):=.inl ⟨kvs,k,g,ey,hv.symm⟩
 exact⟨ZgB I2 g',ZiY hu I2 g' ry λw' s3 I3 rw'=>⟨v,H2,I3,rw',q2⟩⟩⟩
def sDP(td ty tv:TE):TS:=λD σ H=>tv σ H λv H1=>td σ H1 λx H2=>ty σ H2 λy H3=>∃ a kvs k,x=.ref a/\H3 a=some (.dK kvs)/\y=kV k/\kvs.length < 1000/\D.nx σ (upd H3 a (.dK (Jj kvs k v)))
def Zc4(hu:X.A.units + 1 < cLine)(ho:QE X o td)(hi:QE X i ty)(hv:QE X value tv)(hs:swapsWith value (some (.Subscript o i pos')) pos.line X.env=pure false:=by rfl):QS X (.Assign [.Subscript o i pos'] value pos) (sDP td ty tv):=⟨by
 intro pins s σ H D I h
 refine wpAny_Assign_Subscript (ZZ (hv.h pins s σ H _ I h) λr s1 ⟨v,H1,I1,rv,q1⟩=>ZZ (ho.h pins s1 σ H1 _ I1 q1) λu s2 ⟨x,H2,I2,rx,q2⟩=>ZZ (hi.h pins s2 σ H2 _ I2 q2) λiv s3 ⟨y,H3,I3,ry,a,kvs,k,ex,g,ey,hl,q3⟩=>?_) hs
 subst ex ey
 obtain rfl:u=Value.ref a:=rx
 exact Zjg hu I3 (Zo3.k g (Zf0 (Yp hl))) ry rv λs4 I4=>⟨σ,_,I4,q3⟩⟩
def tDI(neg:Bool)(ty td:TE):TE:=λσ H Q=>ty σ H λy H1=>td σ H1 λx H2=>∃ a kvs k,x=.ref a/\Rd H2 a (.dK kvs)/\y=kV k/\Q (.bl (if neg=true then !(Z8 kvs k).isSome else (Z8 kvs k).isSome)) H2
def ZdT:QE X (.Dict [] [] pos) (λ_ H Q=>∀ p H2,H p=none->Zk H H2->H2 p=some (.dK [])->Q (.ref p) H2):=⟨λpins s σ H Q I h=>ZlJ pins s σ H Q I λp hp=>h p _ hp (Jh hp _) Zf⟩
def Zh8:Jl X (.builtin "len") (λxs H Q=>∃ a kvs,xs=[.ref a]/\Rd H a (.dK kvs)/\Q (.int kvs.length) H):=by
 intro pins s σ H xs us Q I r h
 obtain⟨a,kvs,rfl,e,q⟩:=h
 obtain⟨u,rfl,ru⟩:=JQ r
 cases ru
 exact Zry I e λt s' I'=>⟨.int kvs.length,H,I',⟨t,rfl⟩,q⟩
def Zp3(hg:Gl X "len")(hm:X.mg "len"=none)(ha:QA X [e] t)(hp:Zz e=true:=by rfl):QE X (.Call (.Name "len" p) [e] [] pos) (tCB (λxs H Q=>∃ a kvs,xs=[.ref a]/\Rd H a (.dK kvs)/\Q (.int kvs.length) H) t) :=
 ⟨Zbw Zh8 hg hm PySem.boot_len ha.h (by decide) (by decide) (Zx hp) rfl⟩
def ZmS:List V->Hp->VK->Prop:=λxs H Q=>∃ a kvs,xs=[.ref a]/\Rd H a (.dK kvs)/\∀ p o H2,H p=none->Zk H H2->H2 p=some (.frz o (.dK kvs))->Q (.ref p) H2
def ZhR:Jl X (.type "dict") ZmS:=by
 intro pins s σ H xs us Q I r h
 obtain⟨a,kvs,rfl,e,q⟩:=h
 obtain⟨u,rfl,ru⟩:=JQ r
 cases ru
 refine Zlb I e λp s' hp I'=>?_
 obtain⟨o,I2⟩:=ZmI I' (a:=p) (kvs:=kvs) Zf
 rw [Zn3] at I2
 exact⟨.ref p,_,I2,rfl,q p o _ hp (Jh hp _) Zf⟩
def ZnR(hg:Gl X "dict")(hm:X.mg "dict"=none)(ha:QA X [e] t)(hp:Zz e=true:=by rfl):QE X (.Call (.Name "dict" p) [e] [] pos) (tCB ZmS t):=⟨Zcj ZhR hg hm (by decide +kernel) ha.h (by decide) (by decide) (Zx hp) rfl⟩
def Zmy:List V->Hp->VK->Prop:=λxs H Q=>∃ a kvs,xs=[.ref a]/\Rd H a (.dK kvs)/\∀ l H2,H l=none->Zk H H2->H2 l=some (.lst (kvs.map λkv=>kV kv.1))->Q (.ref l) H2
def ZhV(hc:X.calm=true):Jl X (.type "list") Zmy:=by
 intro pins s σ H xs us Q I r h
 obtain⟨a,kvs,rfl,e,q⟩:=h
 obtain⟨u,rfl,ru⟩:=JQ r
 cases ru
 obtain⟨z,hd,vs,rel,dd⟩:=JS I.hok e
 obtain⟨ep,at_⟩:=dd.dictAt
 have hf:H s.heap.objs.size=none:=I.hok.fresh (Yd _)
 refine kdl_call (kdl_dict hd) (I.ok.hd hc) at_ (by rw [<- rel.length]; exact z) λh' tk acc' c' kk hl ⟨hs,hacc⟩=>?_
 refine⟨.ref s.heap.objs.size,_,I.laid (o:=.lst (kvs.map λkv=>kV kv.1)) kk (Nat.le_refl _) (show ZR X.prog X.w _ h' _ (.lst (kvs.map λkv=>kV kv.1)) from ⟨by rw [List.length_map]; exact z,acc'.toList,c',ZdR ?_ λi x u e1 e2=>?_,by simpa using hl⟩),rfl,q _ _ hf (Jh hf _) Zf⟩
 ·rw [List.length_map,rel.length]; simpa using hs.symm
 ·obtain⟨k,x',g1,g2⟩:=hacc i u (by simpa using e2)
  have hi:i < kvs.length:=by have:=(List.getElem?_eq_some_iff.mp e1).1; simpa using this
  obtain⟨kv,v,g3,g4⟩:=Zjn rel hi
  rw [g1] at g4
  cases g4
  rw [Yg,g3] at e1
  cases e1
  exact ZnI g2
theorem Zfj(hg:Gl X "list")(hm:X.mg "list"=none)(ha:QA X [e] t)(hp:Zz e=true:=by rfl)(hc:X.calm=true:=by rfl):QE X (.Call (.Name "list" p) [e] [] pos) (tCB Zmy t):=⟨Zcj (ZhV hc) hg hm (by decide +kernel) ha.h (by decide) (by decide) (Zx hp) rfl⟩
end
def ZpA(g:TG)(tb:TS)(D:Ends)(σ:St):V->Hp->Prop:=λx H1=>∃ a o kvs,x=.ref a/\H1 a=some (.frz o (.dK kvs))/\∃ W:Nat->Nat->St->Hp->Prop,(∃ m,W 0 m σ H1)/\∀ i m σ H,W i m σ H ->
 ((Itd a o kvs).stop i H/\D.nx σ H)\/((Itd a o kvs).go i H/\∃ N:St->Hp->Prop,(∀ σ' H',N σ' H'->∃ m',m' < m/\W (i + 1) m' σ' H')/\∀ x H',(Itd a o kvs).yld i H x H'->g x σ H' λσ2 H2=>tb { D with nx:=N,ct:=N,bk:=D.nx } σ2 H2)
theorem Zfn:ZmC (Zli te) g tb D σ H=te σ H (ZpA g tb D σ):=rfl
def Zha{a:Addr}{o:Obj}{kvs:List (ZQ × V)}(Pv:Nat->St->Hp->Prop)(h0:Pv 0 σ H)(hl:∀ i σ H,i<=kvs.length->Pv i σ H->H a=some (.frz o (.dK kvs)))
  (hs:∀ i kv σ H,kvs[i]?=some kv->Pv i σ H->g (kV kv.1) σ H λσ2 H2=>tb { D with nx:=Pv (i + 1),ct:=Pv (i + 1),bk:=D.nx } σ2 H2) (hd:∀ σ H,Pv kvs.length σ H->D.nx σ H):ZpA g tb D σ (.ref a) H:=by
 refine⟨a,o,kvs,rfl,hl 0 σ H (Nat.zero_le _) h0,λi m σ H=>m=kvs.length - i/\i<=kvs.length/\Pv i σ H,⟨kvs.length,by simp,Nat.zero_le _,h0⟩,?_⟩
 rintro i m σ H ⟨rfl,hi,p⟩
 have q:=hl i σ H hi p
 by_cases hlt:i < kvs.length
 ·refine .inr ⟨⟨q,hlt⟩,Pv (i + 1),λσ' H' p'=>⟨kvs.length - (i + 1),by omega,rfl,hlt,p'⟩,λx H' y=>?_⟩
  obtain⟨rfl,kv,hkv,rfl⟩:=y
  exact hs i kv σ _ hkv p
 ·have e:i=kvs.length:=by omega
  subst e
  exact .inl ⟨⟨q,Yd _⟩,hd _ _ p⟩
def Zle{a:Addr}{o:Obj}{kvs:List (ZQ × V)}{nt:Nat}{cp:St}{H1:Hp}{Q:VK}(Pv:Addr->Nat->List V->Hp->Prop)(h0:∀ acc H2,H1 acc=none->Zk H1 H2->H2 acc=some (.lst [])->Pv acc 0 [] H2)
  (hl:∀ acc i ys H,Pv acc i ys H->H acc=some (.lst ys)/\ys.length < 1000000/\H a=some (.frz o (.dK kvs)))
  (hs:∀ acc i kv ys H os,H1 acc=none->kvs[i]?=some kv->Pv acc i ys H->os.length=nt->g (kV kv.1) (os ++ cp) H λτ H3=>∃ os',os'.length=nt/\τ=os' ++ cp/\tt τ H3 λb H4=>if b=true then te τ H4 λv H5=>H5 acc=some (.lst ys)/\Pv acc (i + 1) (ys ++ [v]) (upd H5 acc (.lst (ys ++ [v]))) else Pv acc (i + 1) ys H4)
  (hd:∀ acc ys H,H1 acc=none->Pv acc kvs.length ys H->Q (.ref acc) H):Zfz nt cp (Itd a o kvs) g tt te H1 Q:=by
 intro acc H2 hn sm e
 refine⟨λi m ys H=>m=kvs.length - i/\i<=kvs.length/\Pv acc i ys H,⟨kvs.length,by simp,Nat.zero_le _,h0 acc H2 hn sm e⟩,?_⟩
 rintro i m ys H ⟨rfl,hi,p⟩
 obtain⟨q1,q2,q3⟩:=hl acc i ys H p
 refine⟨q1,?_⟩
 by_cases hlt:i < kvs.length
 ·refine .inr ⟨⟨q3,hlt⟩,q2,Pv acc (i + 1),λys' H' p'=>⟨kvs.length - (i + 1),by omega,rfl,hlt,p'⟩,λos x H' ol y=>?_⟩
  obtain⟨rfl,kv,hkv,rfl⟩:=y
  exact hs acc i kv ys _ os hn hkv p ol
 ·have e:i=kvs.length:=by omega
  subst e
  exact .inl ⟨⟨q3,Yd _⟩,hd _ _ _ hn p⟩
def Zl4{a:Addr}{xs:List V}{nt:Nat}{cp:St}{H1:Hp}{Q:VK}(Pv:Addr->Nat->List V->Hp->Prop)(h0:∀ acc H2,H1 acc=none->Zk H1 H2->H2 acc=some (.lst [])->Pv acc 0 [] H2)
  (hl:∀ acc i ys H,H1 acc=none->Pv acc i ys H->H acc=some (.lst ys)/\ys.length < 1000000/\JC K H a xs)
  (hs:∀ acc i x ys H os,H1 acc=none->xs[i]?=some x->Pv acc i ys H->os.length=nt->g x (os ++ cp) H λτ H3=>∃ os',os'.length=nt/\τ=os' ++ cp/\tt τ H3 λb H4=>if b=true then te τ H4 λv H5=>H5 acc=some (.lst ys)/\Pv acc (i + 1) (ys ++ [v]) (upd H5 acc (.lst (ys ++ [v]))) else Pv acc (i + 1) ys H4)
  (hd:∀ acc ys H,H1 acc=none->Pv acc xs.length ys H->Q (.ref acc) H):Zfz nt cp (Itl K a) g tt te H1 Q:=by
 intro acc H2 hn sm e
 refine⟨λi m ys H=>m=xs.length - i/\i<=xs.length/\Pv acc i ys H,⟨xs.length,by simp,Nat.zero_le _,h0 acc H2 hn sm e⟩,?_⟩
 rintro i m ys H ⟨rfl,hi,p⟩
 obtain⟨q1,q2,q3⟩:=hl acc i ys H hn p
 refine⟨q1,?_⟩
 by_cases hlt:i < xs.length
 ·refine .inr ⟨⟨xs,xs[i],q3,by simp [hlt]⟩,q2,Pv acc (i + 1),λys' H' p'=>⟨xs.length - (i + 1),by omega,rfl,hlt,p'⟩,λos x H' ol y=>?_⟩
  obtain⟨rfl,hy⟩:=y
  exact hs acc i x ys _ os hn (hy xs q3) p ol
 ·have e:i=xs.length:=by omega
  subst e
  exact .inl ⟨⟨xs,q3,Yd _⟩,hd _ _ _ hn p⟩
section
variable {X:Cx}{l m:Expr}{ta:TA}{p pos pos':Pos}{es:List Expr}
end
end My
namespace My
open PySem PySem.Spec
open PyProof.Rows hiding St
def ZkI(l:List Nat):Prop:=l.Pairwise (· < ·)
theorem ZkI.at{l:List Nat}(h:ZkI l){i j:Nat}{x y:Nat}(hi:l[i]?=some x)(hj:l[j]?=some y)(hij:i < j):x < y:=by
 obtain⟨hi1,rfl⟩:=Ye.mp hi
 obtain⟨hj1,rfl⟩:=Ye.mp hj
 exact List.pairwise_iff_getElem.mp h i j hi1 hj1 hij
def ZlR(xs:Array Nat)(j:Nat)(h:ZkI xs.toList):∀ (f lo hi:Nat),hi - lo<=f->lo<=hi->hi<=xs.size->(∀ i x,i < lo->xs[i]?=some x->x < j)->(∀ i x,hi<=i->xs[i]?=some x->j<=x) ->
  SetTable.below.go xs j f lo hi<=xs.size/\(∀ i x,i < SetTable.below.go xs j f lo hi->xs[i]?=some x->x < j)/\∀ i x,SetTable.below.go xs j f lo hi<=i->xs[i]?=some x->j<=x:=by
 intro f
 induction f with
 | zero =>
  intro lo hi h1 h2 h3 h4 h5
  have:lo=hi:=by omega
  subst this
  unfold SetTable.below.go
  exact⟨h3,h4,h5⟩
 | succ f ih =>
  intro lo hi h1 h2 h3 h4 h5
  unfold SetTable.below.go
  by_cases c:lo < hi
  ·rw [if_pos c]
   have hm:(lo + hi) / 2 < xs.size:=by omega
   have e:xs[(lo + hi) / 2]?=some xs[(lo + hi) / 2]:=Vc hm
   have e':xs.toList[(lo + hi) / 2]?=some xs[(lo + hi) / 2]:=by rw [YK]; exact e
   dsimp only
   rw [V3,e,Option.getD_some]
   by_cases c2:xs[(lo + hi) / 2] < j
   ·rw [if_pos c2]
    refine ih _ _ (by omega) (by omega) h3 (λi x hi1 hx=>?_) h5
    by_cases c3:i=(lo + hi) / 2
    ·subst c3; rw [e] at hx; cases hx; exact c2
    ·have:=h.at (by rw [YK]; exact hx) e' (show i < (lo + hi) / 2 by omega)
     omega
   ·rw [if_neg c2]
    refine ih _ _ (by omega) (by omega) (by omega) h4 λi x hi1 hx=>?_
    by_cases c3:i=(lo + hi) / 2
    ·subst c3; rw [e] at hx; cases hx; omega
    ·have:=h.at e' (by rw [YK]; exact hx) (show (lo + hi) / 2 < i by omega)
     omega
  ·rw [if_neg c]
   have:lo=hi:=by omega
   subst this
   exact⟨h3,h4,h5⟩
def Zem(xs:Array Nat)(j:Nat)(h:ZkI xs.toList):SetTable.below xs j<=xs.size/\(∀ i x,i < SetTable.below xs j->xs[i]?=some x->x < j)/\∀ i x,SetTable.below xs j<=i->xs[i]?=some x->j<=x :=
 ZlR xs j h xs.size 0 xs.size (by omega) (YF _) (Yd _) (λi x hi=>absurd hi (VI _)) λi x hi hx=>by
  rw [Array.getElem?_eq_none hi] at hx; cases hx
def Zmg{xs:Array Nat}{j:Nat}(h:ZkI xs.toList)(hj:¬ xs[SetTable.below xs j]?=some j):ZkI (SetTable.insertAt xs (SetTable.below xs j) j).toList:=by
 obtain⟨h1,h2,h3⟩:=Zem xs j h
 rw [SetTable.toList_insertAt]
 generalize hp:SetTable.below xs j=p at *
 have hd:∀ y∈xs.toList.drop p,j < y:=λy hy=>by
  obtain⟨i,hi⟩:=YC hy
  rw [List.getElem?_drop,YK] at hi
  have h4:=h3 _ _ (Nat.le_add_right p i) hi
  by_cases c:y=j
  ·subst c
   by_cases ci:i=0
   ·subst ci; exact absurd hi hj
   ·have hps:p < xs.size:=by
     have:=(Array.getElem?_eq_some_iff.mp hi).1
     omega
    have e:=Vc hps
    have h5:=h3 _ _ (Yd p) e
    have h6:=h.at (by rw [YK]; exact e) (by rw [YK]; exact hi) (show p < p + i by omega)
    omega
  ·omega
 have ht:∀ y∈xs.toList.take p,y < j:=λy hy=>by
  obtain⟨i,hi⟩:=YC hy
  have hip:i < p:=by have:=(Ye.mp hi).1; rw [Yz] at this; omega
  rw [List.getElem?_take,if_pos hip,YK] at hi
  exact h2 _ _ hip hi
 refine List.pairwise_append.mpr ⟨h.sublist (List.take_sublist _ _),List.pairwise_cons.mpr ⟨hd,h.sublist (List.drop_sublist _ _)⟩,λa ha b hb=>?_⟩
 rcases Yl.mp hb with rfl | hb
 ·exact ht a ha
 ·exact Nat.lt_trans (ht a ha) (hd b hb)
def TOk(b:Bool)(t:SetTable):Prop:=ZkI t.place.toList/\t.dummies=#[]/\t.led=b
def ZhX(n:Nat):ZkI (Array.range n).toList:=by
 rw [Array.toList_range]
 exact List.pairwise_lt_range
variable {t:SetTable}
def TOk.standIn{b:Bool}(h:TOk b t)(n:Nat):TOk b (t.standIn n):=⟨ZhX n,rfl,h.2.2⟩
theorem TOk.orStandIn{b:Bool}(h:TOk b t)(n:Nat):TOk b (t.orStandIn n):=by
 unfold SetTable.orStandIn
 split
 ·exact h
 ·exact h.standIn n
def ZoA(j:Nat):SetTable.has #[] j=false:=rfl
def Zib(h:t.dummies=#[])(j:Nat):(t.slot j=.empty/\¬ t.place[SetTable.below t.place j]?=some j)\/∃ i,t.slot j=.live i:=by
 unfold SetTable.slot
 dsimp only
 by_cases c:(t.place[SetTable.below t.place j]? == some j)=true
 ·rw [if_pos c]
  exact .inr ⟨_,rfl⟩
 ·rw [if_neg c,h,ZoA]
  exact .inl ⟨rfl,λz=>c (by rw [z]; exact beq_self_eq_true _)⟩
def ZlE(h:t.dummies=#[])(ha:Nat->Int)(x:Int):∀ (f:Nat) (p:SetTable.Probe) (j:Nat) (d:Option Nat),p.dummy=none->SetTable.probe.go t ha x f p=some (.empty j d)->d=none/\¬ t.place[SetTable.below t.place j]?=some j:=by
 intro f
 induction f with
 | zero=>intro p j d _ e; unfold SetTable.probe.go at e; cases e
 | succ f ih =>
  intro p j d hp e
  unfold SetTable.probe.go at e
  have adv:(t.advance p).dummy=none:=by
   unfold SetTable.advance
   split
   ·exact hp
   ·exact hp
  rcases Zib h p.j with ⟨c,c2⟩ | ⟨i,c⟩
  ·rw [c] at e
   cases e
   exact⟨hp,c2⟩
  ·rw [c] at e
   dsimp only at e
   split at e
   ·cases e
   ·exact ih _ _ _ adv e
def Zgn(h:t.dummies=#[]){x:Int}{j:Nat}{b:Bool}(e:t.freeSlot x=some (j,b)):b=false/\¬ t.place[SetTable.below t.place j]?=some j:=by
 unfold SetTable.freeSlot at e
 split at e
 ·rename_i j' d q
  obtain⟨rfl,h2⟩:=ZlE h _ _ _ _ _ _ rfl q
  cases e
  exact⟨rfl,h2⟩
 ·cases e
def TOk.lay{b:Bool}(h:TOk b t)(es:Array (Int × Value))(x:Int)(v:Value):TOk b (layNew t es x v).2.1:=by
 unfold layNew
 split
 ·rename_i j d q
  have h2:=(Zgn h.2.1 q).2
  dsimp only
  have k:TOk b (t.put j).1:=⟨Zmg h.1 h2,by show (if SetTable.has t.dummies j then _ else t.dummies)=#[]; rw [h.2.1]; rfl,h.2.2⟩
  exact k.orStandIn _
 ·exact h.standIn _
def TOk.relay{b:Bool}(h:TOk b t)(es:Array (Int × Value))(n:Nat):TOk b (relayAll t es n).2.1:=by
 unfold relayAll
 split
 ·rename_i t' order q
  dsimp only
  split
  ·unfold SetTable.relaid SetTable.laid at q
   cases ho:SetTable.layClean (SetTable.sizeAbove n - 1) (es.map (·.1)) with
   | none=>rw [ho] at q; cases q
   | some owner =>
    rw [ho] at q
    simp only [Option.bind_eq_bind,Option.bind_some,Option.pure_def,Option.some.injEq,Prod.mk.injEq] at q
    obtain⟨rfl,_⟩:=q
    refine⟨?_,rfl,h.2.2⟩
    show ZkI (List.map (λq:Nat × Nat=>q.1) _).toArray.toList
    have key:∀ (g:Nat->Option Nat) (l:List Nat),l.Pairwise (· < ·)->((l.filterMap λj=>(g j).map (j,·)).map (·.1)).Sublist l:=by
     intro g l _
     induction l with
     | nil=>exact .slnil
     | cons a l ih =>
      rename_i hp
      rw [Yai]
      cases g a with
      | none=>exact (ih (List.pairwise_cons.mp hp).2).cons a
      | some y=>exact (ih (List.pairwise_cons.mp hp).2).cons₂ a
    exact List.pairwise_lt_range.sublist (key (λj=>owner.getD j none) _ List.pairwise_lt_range)
  ·exact h.standIn _
 ·exact h.standIn _
section
variable {prog:Program}{w:World}{A:Around}{E:VSP}{s:Shared}
def byT(w:World):Bool:=w.params.followText "set-order"
def JM(e:Int × Value):Int:=match e.2 with
 | .int k _=>k
 | _=>0
def J2(prog:Program)(w:World)(es:List (Int × Value)):Prop:=∀ e∈es,∃ (k:Int) (t:Tok),e.2=.int k t/\e.1=(intKind prog w).hash k
def J2.elems{es:List (Int × Value)}(h:J2 prog w es):ElemsOf (intKind prog w) es:=λe he=>by
 obtain⟨k,t,h1,h2⟩:=h e he
 rw [h1]
 exact⟨⟨k,intKind_is _ _ _ _,h2⟩,rfl⟩
def J2.perm{es es':List (Int × Value)}(h:J2 prog w es)(p:es'.Perm es):J2 prog w es':=λe he=>h e (p.mem_iff.mp he)
def J2.is{es:List (Int × Value)}(h:J2 prog w es){e:Int × Value}(he:e∈es)(k:Int):(intKind prog w).is k e.2=true ↔ k=JM e:=by
 obtain⟨k',t,h1,h2⟩:=h e he
 have h3:JM e=k':=by unfold JM; rw [h1]
 rw [h1,KeyKind.is_eq_decide (intKind_is _ _ k' t) k,Vj,h3]
def Jx(prog:Program)(w:World)(h:Heap)(a:Addr)(S:Int->Prop)(n:Nat):Prop :=
 ∃ o es ep t,h.get? a=some o/\o.ExactSet/\o.data=.set es ep t/\TOk (!byT w) t/\t.fits es.size=true/\J2 prog w es.toList/\(es.toList.map JM).Nodup/\(∀ k,k∈es.toList.map JM ↔ S k)/\es.size<=n
theorem Jx.keep{h h':Heap}{a:Addr}{S:Int->Prop}{n:Nat}(x:Jx prog w h a S n)(hk:∀ o,h.get? a=some o->h'.get? a=some o):Jx prog w h' a S n :=
 let ⟨o,es,ep,t,ho,r⟩:=x; ⟨o,es,ep,t,hk o ho,r⟩
def Jx.lt{h:Heap}{a:Addr}{S:Int->Prop}{n:Nat}(x:Jx prog w h a S n):a < h.objs.size:=let ⟨_,_,_,_,ho,_⟩:=x; Yh ho
def Jx.store{h:Heap}{a:Addr}{o:Obj}{es:Array (Int × Value)}{ep:Nat}{es':Array (Int × Value)}{t':SetTable}{S:Int->Prop}{n:Nat}(ho:h.get? a=some o)(hex:o.ExactSet)(hd:o.data=.set es ep t)
  (h1:TOk (!byT w) t') (h2:t'.fits es'.size=true) (h3:J2 prog w es'.toList) (h4:(es'.toList.map JM).Nodup) (h5:∀ k,k∈es'.toList.map JM ↔ S k) (h6:es'.size<=n) :
  (h.update a (Obj.putSet es' t')).get? a=some { o with data:=.set es' (ep + 1) t' }/\Jx prog w (h.update a (Obj.putSet es' t')) a S n:=by
 have hg:(h.update a (Obj.putSet es' t')).get? a=some { o with data:=.set es' (ep + 1) t' }:=by
  have:=V7 (Obj.putSet es' t') ho (by rw [putSet_of es' t' hd]; rfl)
  rw [putSet_of es' t' hd] at this; exact this
 exact⟨hg,_,es',ep + 1,t',hg,hex,rfl,h1,h2,h3,h4,h5,h6⟩
def Zj5{es:List (Int × Value)}(h:J2 prog w es){k:Int}(e:es.findIdx? (λe=>(intKind prog w).is k e.2)=none):k ∉ es.map JM:=λhm=>by
 obtain⟨x,hx,rfl⟩:=Yk.mp hm
 have:=List.findIdx?_eq_none_iff.mp e x hx
 rw [(h.is hx _).mpr rfl] at this
 cases this
def Zkj{es:List (Int × Value)}(h:J2 prog w es){k:Int}{j:Nat}(e:es.findIdx? (λe=>(intKind prog w).is k e.2)=some j):k∈es.map JM:=by
 obtain⟨hj,hp,_⟩:=List.findIdx?_eq_some_iff_getElem.mp e
 exact Yk.mpr ⟨_,YQ hj,((h.is (YQ hj) k).mp hp).symm⟩
def Zkb{g:Bool->Sem Unit}(hg:∀ (b:Bool) (s₁:Shared) (Q':Unit->Shared->Prop),Q' () s₁->wpAny (model prog w) A (g b) Q' E s₁){a:Addr}{o:Obj}{es:Array (Int × Value)}{ep:Nat}{t:SetTable}(ho:s.heap.get? a=some o)(hex:o.ExactSet)
  (hd:o.data=.set es ep t) {es1:Array (Int × Value)}{t2:SetTable}{S:Int->Prop}{n:Nat}(h1:TOk (!byT w) t2) (h2:t2.fits es1.size=true) (h3:J2 prog w es1.toList) (h4:(es1.toList.map JM).Nodup) (h5:∀ k,k∈es1.toList.map JM ↔ S k)
  (h6:es1.size<=n) (hn:n < scanBound) {c:Bool}{R:Option Bool->Shared->Prop}(h:∀ h',Heap.SameBut a s.heap h'->Jx prog w h' a S n->R (some true) { s with heap:=h' }) :
  wpAny (model prog w) A (do
    storeSet a es1 t2
    if c=true then do
      g (relayAll t2 es1 (SetTable.grown es1.size)).2.2
      storeSet a (relayAll t2 es1 (SetTable.grown es1.size)).1 (relayAll t2 es1 (SetTable.grown es1.size)).2.1
      pure (some true)
     else pure (some true)) R E s:=by
 have hs1:es1.size<=sizeLine:=fits_of_scanBound (Ys h6 hn)
 refine Ya (wpAny_storeSet_of ho hd ?_ hs1)
 obtain⟨ho1,hS1⟩:=Jx.store (prog:=prog) (w:=w) ho hex hd h1 h2 h3 h4 h5 h6
 have sb1:=V9 s.heap a (Obj.putSet es1 t2)
 cases c with
 | false =>
  rw [if_neg (by decide)]
  exact Yc (h _ sb1 hS1)
 | true =>
  rw [if_pos rfl]
  have hp:=relayAll_perm t2 es1 (SetTable.grown es1.size)
  have hf:=relayAll_fits t2 es1 (SetTable.grown es1.size)
  have ht:=h1.relay es1 (SetTable.grown es1.size)
  generalize relayAll t2 es1 (SetTable.grown es1.size)=Rl at hp hf ht ⊢
  obtain⟨es2,t3,gave⟩:=Rl
  dsimp only at hp hf ht ⊢
  have hz:es2.size=es1.size:=by rw [<- YU,hp.length_eq,YU]
  refine Ya (hg _ _ _ (Ya (wpAny_storeSet_of ho1 rfl ?_ (by rw [hz]; exact hs1))))
  have kp:=hp.map JM
  obtain⟨_,hS2⟩:=Jx.store (prog:=prog) (w:=w) (S:=S) (n:=n) ho1 hex rfl ht hf (h3.perm hp) (kp.nodup_iff.mpr h4) (λk=>(kp.mem_iff).trans (h5 k)) (by rw [hz]; exact h6)
  exact Yc (h _ (sb1.trans (V9 _ a _)) hS2)
def Zjt{a:Addr}{S:Int->Prop}{n:Nat}{k:Int}{tk:Tok}{Q:Bool->Shared->Prop}(hS:Jx prog w s.heap a S n)(hn:n + 1 < scanBound)(h:∀ h' r,Heap.SameBut a s.heap h'->Jx prog w h' a (λk'=>S k'\/k'=k) (n + 1)->Q r { s with heap:=h' }) :
  wpAny (model prog w) A (setAddHashed a (.int k tk) ((intKind prog w).hash k)) Q E s:=by
 obtain⟨o,es,ep,t,ho,hex,hd,hT,hf,hA,hN,hM,hz⟩:=hS
 have hb:es.size < scanBound:=by omega
 unfold setAddHashed setAddHashedIn
 refine Vi (Ya (VH ho hd hf ?_))
 dsimp only
 rw [byScan_of (x:=.int k tk) rfl hb hA.elems]
 simp only [↓reduceIte]
 unfold setAddByScan
 refine Ya (Ya (Vp (Ya (wpAny_setScan_of (intKind_is _ _ k tk) ho hd hf hA.elems ?_))))
 cases hr:List.findIdx? (λe=>(intKind prog w).is k e.2) es.toList with
 | some j =>
  dsimp only
  have hk:=Zkj hA hr
  refine Yc (Yc ?_)
  have:=h s.heap false (Heap.SameBut.refl a s.heap) ⟨o,es,ep,t,ho,hex,hd,hT,hf,hA,hN,λk'=>(hM k').trans ⟨.inl,λz=>z.elim id λe=>(hM k').mp (e ▸ hk)⟩,Nat.le_succ_of_le hz⟩
  exact this
 | none =>
  dsimp only
  have hk:=Zj5 hA hr
  have hperm:=layNew_perm t es ((intKind prog w).hash k) (.int k tk)
  have hfits:=layNew_fits t es ((intKind prog w).hash k) (.int k tk)
  have htab:=hT.lay es ((intKind prog w).hash k) (.int k tk)
  generalize layNew t es ((intKind prog w).hash k) (.int k tk)=Ly at hperm hfits htab ⊢
  obtain⟨es1,t1,wasD,gave⟩:=Ly
  dsimp only at hperm hfits htab ⊢
  rw [Array.toList_push] at hperm
  have kp:(es1.toList.map JM).Perm (es.toList.map JM ++ [k]):=by have:=hperm.map JM; rw [Y8] at this; exact this
  have hA1:J2 prog w es1.toList:=λe he=>by
   rcases YA.mp (hperm.mem_iff.mp he) with he | he
   ·exact hA e he
   ·rw [YY.mp he]; exact⟨k,tk,rfl,rfl⟩
  have hN1:(es1.toList.map JM).Nodup:=kp.nodup_iff.mpr (List.nodup_append.mpr ⟨hN,by simp,λx hx y hy=>by rw [List.mem_singleton.mp hy]; intro e; exact hk (e ▸ hx)⟩)
  have hM1:∀ k',k'∈es1.toList.map JM ↔ (S k'\/k'=k):=λk'=>by rw [kp.mem_iff,YA,hM k',YY]
  have hz1:es1.size<=n + 1:=by rw [<- Array.length_toList,hperm.length_eq,List.length_append,Array.length_toList]; simpa using hz
  have gw:∀ (b:Bool) (s₁:Shared) (Q':Unit->Shared->Prop),Q' () s₁->wpAny (model prog w) A (match b with | true=>rule "set.scan.the-table-gave-way" | false=>pure ()) Q' E s₁ :=
   λb s₁ Q' hq=>by cases b <;> first | exact Yc hq | exact Vp hq
  refine Ya (gw _ _ _ ?_)
  have fin:∀ h',Heap.SameBut a s.heap h'->Jx prog w h' a (λk'=>S k'\/k'=k) (n + 1)->Q true { s with heap:=h' }:=λh'=>h h' true
  split
  ·refine Ya ?_
   rw [hashByValue_scannable 8 (x:=.int k tk) rfl]
   refine Yc ?_
   refine Zkb (λb s₁ Q' hq=>by cases b <;> first | exact Yc hq | exact Vp hq) ho hex hd (S:=λk'=>S k'\/k'=k) (n:=n + 1) ?_ ?_ hA1 hN1 hM1 hz1 hn λh' sb x=>Yc (fin h' sb x)
   ·exact htab
   ·exact hfits
  ·refine Ya (Yc ?_)
   simp only [↓reduceIte]
   exact Zkb (λb s₁ Q' hq=>by cases b <;> first | exact Yc hq | exact Vp hq) ho hex hd (S:=λk'=>S k'\/k'=k) (n:=n + 1) htab hfits hA1 hN1 hM1 hz1 hn λh' sb x=>Yc (fin h' sb x)
end
section
variable {prog:Program}{w:World}{A:Around}{R:Result->Shared->Prop}{I:Addr}{fp wr:List Addr}{G:Array GenState->Array GenState->Prop}{P:Nat->Value->Prop}{St:Nat->Shared->Prop}
def ZeK{ns:List Int}{i:Nat}{v k:Int}(h:ns[i]?=some v):k∈ns.take (i + 1) ↔ k∈ns.take i\/k=v:=by
 rw [YB,h,YA]
 simp
def Zlr{ns:List Int}(W:WalksS prog w A.in1 I fp wr G ns.length P St)(S:Addr)(hSf:S ∉ fp)(hval:∀ i v,P i v->∃ k t,ns[i]?=some k/\v=.int k t)(hb:ns.length + 1 < scanBound) :
  ∀ (k i:Nat) (s:Shared),ns.length - i=k->i<=ns.length->St i s->Jx prog w s.heap S (·∈ns.take i) i ->
   (∀ s',Moved (S :: wr) G s s'->Jx prog w s'.heap S (·∈ns) ns.length->R (.ok (.ret .none)) s')->codeAny (model prog w) A (.builtin "set.update.loop" ⟨[.ref S,.ref I],[]⟩) R s:=by
 have hSw:S ∉ wr:=λh=>hSf (W.sub _ h)
 have hsub:∀ b∈wr,b∈S :: wr:=λb hb=>Vd _ hb
 intro k
 induction k with
 | zero =>
  intro i s hk hi hst hS hR
  obtain rfl:i=ns.length:=by omega
  refine Vm F.entry_set_update_loop ?_
  rw [Vs F.plain_set_update_loop _]
  show wpAny _ A.in1 (pyNext (.ref I) >>= _) _ _ s
  refine Ya (W.done s _ _ hst λs' hm=>?_)
  show wpAny _ A.in1 (ret Value.none) _ _ s'
  rw [Y2] at hS
  exact Yc (hR s' (hm.mono hsub) (hS.keep λo ho=>hm.heap S _ hSw ho))
 | succ k ih =>
  intro i s hk hi hst hS hR
  have hlt:i < ns.length:=by omega
  refine Vm F.entry_set_update_loop ?_
  rw [Vs F.plain_set_update_loop _]
  show wpAny _ A.in1 (pyNext (.ref I) >>= _) _ _ s
  refine Ya (W.item i s _ _ hlt hst λv s' hP hst' hm=>?_)
  obtain⟨z,t,hz,rfl⟩:=hval i v hP
  have hS':=hS.keep (λo ho=>hm.heap S _ hSw ho)
  show wpAny _ A.in1 (holding [Value.int z t] (setAdd S (.int z t)) >>= _) _ _ s'
  refine Ya (Vi ?_)
  unfold setAdd
  refine Vi (Ya ((intKind prog w).pyHash (k:=z) (intKind_is _ _ _ _) ?_))
  refine Zjt (s:={ s' with toks:=s'.toks + 1 }) hS' (by omega) λh' r hsb hS2=>?_
  have hSi:Jx prog w h' S (·∈ns.take (i + 1)) (i + 1):=by
   rw [show (·∈ns.take (i + 1))=(λk'=>k'∈ns.take i\/k'=z) from funext λk'=>propext (ZeK hz)]
   exact hS2
  refine Yc ⟨VO F.plain_set_update_loop _,ih (i + 1) _ (by omega) hlt (W.frame _ s' _ _ hst' (Vz _) λb hb o e=>?_) hSi λs'' hm'' hS''=>?_⟩
  ·rw [hsb.2 b (λh:b=S=>hSf (by rw [<- h]; exact hb))]; exact e
  ·refine hR s'' (Moved.trans W.gtrans ((hm.mono hsub).then_heap (Vz _) λb o hb e=>?_) hm'') hS''
   rw [hsb.2 b (λh:b=S=>hb (by rw [h]; exact Vt))]; exact e
end
section
variable {prog:Program}{w:World}{A:Around}{E:VSP}{s:Shared}
abbrev Zax(w:World):Obj:={ cls:=.type "set",dict:=none,data:=.set #[] 0 (.fresh 0 0 (!byT w)) }
def Zor(a:Value){Q₁:VSP}(h:Q₁ (.ref s.heap.objs.size) { s with heap:=s.heap.push (Zax w) }) :
  codeAny (model prog w) A (.call (.builtin "set.__new__") ⟨[.type "set",a],[]⟩) (wants Q₁ E) s:=by
 refine codeAny_of_tree ?_
 show wpAny _ A.in1 (do checkBuiltinCall "set.__new__" ⟨[.type "set",a],[]⟩; again (.builtin "set.__new__" ⟨[.type "set",a],[]⟩)) _ _ s
 refine Ya (wpAny_of_eq (F.newCall_set_1 a) (Yc ⟨VO F.plain_set_new _,Vm F.entry_set_new ?_⟩))
 rw [Vs F.plain_set_new _]
 unfold Builtin.«set.__new__» Builtin.Frozenset.newClass
 have hsub:=sub_set_self
 obtain⟨hp,g,d,tk,os⟩:=s
 dsimp only
 wp_walk
 refine wpAny_askSetting (Yc ?_)
 dsimp only
 simp only [newObj]
 exact Ya (wpAny_alloc (Yc (Yc h)))
theorem Jx.fresh{h:Heap}{a:Addr}(e:h.get? a=some (Zax w)):Jx prog w h a (·∈([]:List Int)) 0 :=
 ⟨_,#[],0,_,e,⟨rfl,rfl,rfl⟩,rfl,⟨List.Pairwise.nil,rfl,rfl⟩,rfl,(λe he=>by simp at he),List.nodup_nil,λk=>by simp,Nat.le_refl _⟩
set_option maxHeartbeats 3200000 in
theorem Zgi{l:Addr}{items:Array Value}{ns:List Int}{Q:VSP}(hh:A.handled=none)(hl:s.heap.IsList l items)(hi:IntsAre items.toList ns)(hb:ns.length + 1 < scanBound)
  (h:∀ (h':Heap) (tk:Nat),Jx prog w h' s.heap.objs.size (·∈ns) ns.length->(∀ b o,s.heap.get? b=some o->h'.get? b=some o)->Q (.ref s.heap.objs.size) { s with heap:=h',toks:=tk }) :
  wpAny (model prog w) A (call (.type "set") [.ref l]) Q E s:=by
 obtain⟨c,tl,hmro⟩:=F.called_set.mro
 have hmade:=F.called_set.made
 have hsub:=F.called_set.sub
 refine wpAny_call (codeAny_of_tree ?_)
 show wpAny _ _ (callAny (.type "set") _) _ _ _
 refine Yc ⟨Code.quiet_builtin _ (by decide +kernel),Vm F.entry_type_call ?_⟩
 rw [Around.under_plain (weight_type_call_type "set" [.ref l] []) rfl]
 have h1:=F.called_set.notType
 have h2:=F.called_set.canCreate
 have hct:=F.typeCall_set_1 (.ref l)
 repeat (any_goals (first | assumption | wp_step))
 refine Y3 (Zor (.ref l) (E:=E) (Q₁:=λobj s₁=>obj=.ref s.heap.objs.size/\s₁={ s with heap:=s.heap.push (Zax w) }) ⟨rfl,rfl⟩) λr s₁ hr=>?_
 cases r with
 | error e=>exact hr
 | ok fl =>
  cases fl with
  | ret obj =>
   obtain⟨rfl,rfl⟩:=hr
   have hS:(s.heap.push (Zax w)).get? s.heap.objs.size=some (Zax w):=Yo _ rfl
   have hT:Shared.TypeIs { s with heap:=s.heap.push (Zax w) } (.ref s.heap.objs.size) "set":=⟨_,hS,rfl⟩
   have hli:=F.called_set.init.lookup
   have hbi:=F.called_set.init.bind (.ref s.heap.objs.size)
   repeat (any_goals (first | assumption | wp_step))
   refine Y3 (codeAny_call_builtin (R:=wants (λr s₂=>r=.none/\∃ h' tk,s₂={ s with heap:=h',toks:=tk }/\Jx prog w h' s.heap.objs.size (·∈ns) ns.length/\(∀ b o,s.heap.get? b=some o->h'.get? b=some o)) E)
    F.called_set.init.plain F.entry_set_init (check_set_init_1 hT ?_)) λr₂ s₂ hr₂=>?_
   ·obtain⟨ol,hol,hcl,nl,hdl⟩:=hl
    obtain⟨ocls,odict,odata,oslots⟩:=ol
    simp only at hcl hdl
    subst hcl; subst hdl
    have hol':(s.heap.push (Zax w)).get? l=some { cls:=.type "list",dict:=odict,data:=.seq items nl,slots:=oslots }:=Yi _ hol
    have hsls:=F.sub_list_set
    have hslf:=F.sub_list_frozenset
    have hne:(Value.type "list" == Value.type "dict")=false:=by decide
    have hl1:(s.heap.push (Zax w)).IsList l items:=⟨_,hol',rfl,nl,rfl⟩
    have hsz:items.size=ns.length:=by rw [<- YU]; exact IntsAre.length hi
    unfold Builtin.«set.__init__» noKeywords Builtin.Frozenset.updateFrom
    generalize hPI:pyIter=PI
    wp_walk
    subst hPI
    refine wpAny_pyIter_list hl1 (Ya (wpAny_runValue ?_))
    have hlS:l < s.heap.objs.size:=Yh hol
    have hz1:(s.heap.push (Zax w)).objs.size=s.heap.objs.size + 1:=VZ ..
    have hneI:l ≠ (s.heap.push (Zax w)).objs.size:=by rw [hz1]; exact Yn (Vg hlS)
    have hSf:s.heap.objs.size ∉ [(s.heap.push (Zax w)).objs.size,l]:=by
     rw [hz1]; simp only [List.mem_cons,List.not_mem_nil,or_false,not_or]; exact⟨Nat.ne_of_lt (Nat.lt_succ_self _),Nat.ne_of_gt hlS⟩
    have W:=(Walks.list (prog:=prog) (w:=w) (A:=A.in1.in1.in1) (by simp [hh]) _ l hneI items).toS
    rw [hsz] at W
    refine Zlr W s.heap.objs.size hSf (λi v hv=>?_) hb ns.length 0 _ (by omega) (YF _) ⟨⟨_,Yo _ rfl,rfl,rfl⟩,(hl1.push _)⟩ (Jx.fresh (Yi _ hS)) λs' hm hS'=>?_
    ·have hlt:i < ns.length:=by rw [<- hsz]; exact (Array.getElem?_eq_some_iff.mp hv).1
     obtain⟨t,e⟩:=IntsAre.int_at hi i v (by rw [YK]; exact hv)
     exact⟨ns[i],t,Yb hlt,by rw [e,List.getD_eq_getElem?_getD,Yb hlt]; rfl⟩
    ·obtain⟨h',g',d',tk',os'⟩:=s'
     have eg:g'=s.gens:=hm.gens
     have ed:d'=s.drawn:=hm.drawn
     have eo:os'=s.os:=hm.os
     subst eg; subst ed; subst eo
     show wpAny _ _ _ _ _ _
     refine Yc ?_
     show wpAny _ _ (ret Value.none) _ _ _
     refine Yc ⟨rfl,h',tk',rfl,hS',λb o e=>?_⟩
     have hb:=Yh e
     exact hm.heap b o (by rw [hz1]; simp only [List.mem_cons,List.not_mem_nil,or_false,not_or]; exact⟨Nat.ne_of_lt hb,Nat.ne_of_lt (Nat.lt_succ_of_lt hb)⟩) (Heap.get?_push_of_some _ (Heap.get?_push_of_some _ e))
   ·cases r₂ with
    | error e=>exact hr₂
    | ok fl₂ =>
     cases fl₂ with
     | ret r =>
      obtain⟨rfl,h',tk,rfl,hS',hk'⟩:=hr₂
      repeat (any_goals (first | assumption | wp_step))
      exact h _ _ hS' hk'
     | _=>exact hr₂.elim
  | _=>exact hr.elim
end
theorem Zds:Manifest.owners.lookup (String.ofList ['r','o','t','a','r','e','t','i','_','t','e','s'].reverse)=some Manifest.sig_set_iterator:=by kernel_rfl
def Zac:Slot "set_iterator" "__next__" "set_iterator.__next__" :=
 .of (owner:="set_iterator") (n:="__next__") (by rw [typeLookup_type,builtinLookup_eq_fast]; kernel_rfl) (by decide +kernel) (by decide +kernel) (by decide +kernel)
  (by first | exact .inl (by decide +kernel) | exact .inr (by decide +kernel)) (by rw [isSubtype_type]; kernel_rfl)
def Zat:entryFor table "set_iterator.__next__"=some Builtin.«set_iterator.__next__»:=entryFor_of_tree (by kernel_rfl)
def Zaz(a:Value):argsOk "set_iterator.__next__" ⟨[a],[]⟩:=by
 unfold argsOk; rw [signature?_of (id:="set_iterator.__next__") (n:=['_','_','t','x','e','n','_','_']) (o:=['r','o','t','a','r','e','t','i','_','t','e','s']) (by kernel_rfl) Zds]; kernel_rfl
def Zbz:Slot "set_iterator" "__iter__" "set_iterator.__iter__" :=
 .of (owner:="set_iterator") (n:="__iter__") (by rw [typeLookup_type,builtinLookup_eq_fast]; kernel_rfl) (by decide +kernel) (by decide +kernel) (by decide +kernel)
  (by first | exact .inl (by decide +kernel) | exact .inr (by decide +kernel)) (by rw [isSubtype_type]; kernel_rfl)
def Zeg:entryFor table "set.__iter__"=some Builtin.«frozenset.__iter__» :=
 entryFor_alias (id':="frozenset.__iter__") (by kernel_rfl) rfl (by decide +kernel) (by kernel_rfl)
def Zc9:entryFor table "set_iterator.__iter__"=some Builtin.«dict_keyiterator.__iter__» :=
 entryFor_alias (id':="dict_keyiterator.__iter__") (by kernel_rfl) rfl (by decide +kernel) (by kernel_rfl)
def ZdN(a:Value):argsOk "set_iterator.__iter__" ⟨[a],[]⟩:=by
 unfold argsOk; rw [signature?_of (id:="set_iterator.__iter__") (n:=['_','_','r','e','t','i','_','_']) (o:=['r','o','t','a','r','e','t','i','_','t','e','s']) (by kernel_rfl) Zds]; kernel_rfl
def ZeH{α:Type}{l:List α}{i:Nat}(h:i < l.length):(l[i] :: l.eraseIdx i).Perm l:=by
 rw [List.eraseIdx_eq_take_drop_succ]
 have e:l=l.take i ++ l[i] :: l.drop (i + 1):=by rw [List.getElem_cons_drop,Vq]
 conv=>rhs; rw [e]
 exact List.perm_middle.symm
section
variable {prog:Program}{w:World}{A:Around}{E:VSP}{s:Shared}
theorem Zke{src:Source}{n:Nat}{Q:Nat->Shared->Prop}(hn:n ≠ 0)(h:∀ k d,k < n->Q k { s with drawn:=d }):wpAny (model prog w) A (choose src n) Q E s :=
 λ_ _ _=>⟨hn,h _ _ (Nat.mod_lt _ (Nat.pos_of_ne_zero hn))⟩
def Zck{Q:Bool->Shared->Prop}(h:Q (byT w) s):wpAny (model prog w) A setsByText Q E s:=by
 unfold setsByText
 exact Ya (wpAny_askSetting (Yc h))
theorem ZfF{α:Type}:∀ (n:Nat) (xs:List α) (s:Shared) {Q:List α->Shared->Prop},xs.length<=n->(∀ ys d,ys.Perm xs->Q ys { s with drawn:=d })->wpAny (model prog w) A (drawOrder n xs) Q E s:=by
 intro n
 induction n with
 | zero =>
  intro xs s Q hl h
  have:xs=[]:=Yae.mp (by omega)
  subst this
  unfold drawOrder
  exact Yc (h [] s.drawn .nil)
 | succ n ih =>
  intro xs s Q hl h
  cases xs with
  | nil=>unfold drawOrder; exact wpAny_pure (h [] s.drawn .nil)
  | cons x xs =>
   unfold drawOrder
   refine wpAny_bind (Zke (by simp) λk d hk=>?_)
   have e:=Yb hk
   rw [e]
   dsimp only
   refine wpAny_bind (ih _ _ (by rw [List.length_eraseIdx,if_pos hk]; simp at hl ⊢; omega) λys d' hp=>?_)
   exact Yc (h _ d' ((hp.cons _).trans (ZeH hk)))
theorem ZoQ{α:Type}(f:Nat->Nat):∀ (n k:Nat) (xs:List α) (out:Array α),xs.length<=n->(pickOrder.go f n k xs out).toList.Perm (out.toList ++ xs):=by
 intro n
 induction n with
 | zero =>
  intro k xs out hl
  have:xs=[]:=Yae.mp (by omega)
  subst this
  unfold pickOrder.go
  simp
 | succ n ih =>
  intro k xs out hl
  unfold pickOrder.go
  cases xs with
  | nil=>simp
  | cons x xs =>
   have hk:f k % (x :: xs).length < (x :: xs).length:=Nat.mod_lt _ (by simp)
   rw [Yb hk]
   dsimp only
   refine (ih _ _ _ (by rw [List.length_eraseIdx,if_pos hk]; simp at hl ⊢; omega)).trans ?_
   rw [Array.toList_push,List.append_assoc]
   exact List.Perm.append_left _ (ZeH hk)
def ZiG{α:Type}(f:Nat->Nat)(xs:Array α):(pickOrder f xs).toList.Perm xs.toList:=by
 unfold pickOrder
 exact (ZoQ f _ _ _ _ (by simp)).trans (by simp)
def SN(prog:Program)(w:World)(a:Addr)(o:Obj)(ep:Nat)(f:Nat->Nat)(L:List Value):Prop :=
 ∀ (A:Around) (E:VSP) (s:Shared) (Q:Option (Value × Nat)->Shared->Prop) (i:Nat),i<=L.length->s.heap.get? a=some o->Q ((L[i]?).map λv=>(v,f (i + 1))) s->wpAny (model prog w) A (setNext a (f i) i ep) Q E s
def ZnY{a:Addr}{o:Obj}{es:Array (Int × Value)}{ep:Nat}(hd:o.data=.set es ep t)(hf:t.fits es.size=true)(hb:byT w=true):SN prog w a o ep (λ_=>0) ((pickOrder (w.params.setOrder a ep) es).toList.map (·.2)):=by
 intro A E s Q i hi ho h
 unfold setNext
 refine Ya (VH ho hd hf ?_)
 dsimp only
 refine Ya (Zck ?_)
 rw [hb,if_pos rfl,if_neg (by simp)]
 unfold setWalk
 refine Ya (Ya (VH ho hd hf ?_))
 dsimp only
 refine Ya (Zck ?_)
 rw [hb,if_pos rfl]
 refine Ya (wpAny_askSetting (Yc (Yc ?_)))
 rw [Yg,YK,Option.map_map] at h
 exact h
def Zc0(p:Array Nat)(i:Nat):Nat:=match i with
 | 0=>0
 | i + 1=>p.getD i 0 + 1
theorem ZfZ{p:Array Nat}(h:ZkI p.toList){i:Nat}(hi:i<=p.size):SetTable.below p (Zc0 p i)=i:=by
 obtain⟨h1,h2,h3⟩:=Zem p (Zc0 p i) h
 generalize SetTable.below p (Zc0 p i)=b at h1 h2 h3
 rcases Nat.lt_trichotomy b i with c | c | c
 ·have hb:b < p.size:=by omega
  have e:=Vc hb
  have h4:=h3 _ _ (Yd b) e
  cases i with
  | zero=>omega
  | succ i =>
   have hi':i < p.size:=by omega
   have e2:=Vc hi'
   have hs:Zc0 p (i + 1)=p[i] + 1:=by show p.getD i 0 + 1=_; rw [V3,e2]; rfl
   rw [hs] at h4
   by_cases c2:b=i
   ·subst c2; omega
   ·have:=h.at (by rw [YK]; exact e) (by rw [YK]; exact e2) (show b < i by omega)
    omega
 ·exact c
 ·have hi':i < p.size:=by omega
  have e:=Vc hi'
  have h4:=h2 _ _ c e
  cases i with
  | zero=>exact absurd h4 (VI _)
  | succ i =>
   have hi2:i < p.size:=by omega
   have e2:=Vc hi2
   have hs:Zc0 p (i + 1)=p[i] + 1:=by show p.getD i 0 + 1=_; rw [V3,e2]; rfl
   rw [hs] at h4
   have:=h.at (by rw [YK]; exact e2) (by rw [YK]; exact e) (VG i)
   omega
def Zln{a:Addr}{o:Obj}{es:Array (Int × Value)}{ep:Nat}(hd:o.data=.set es ep t)(hf:t.fits es.size=true)(hT:TOk (!byT w) t)(hb:byT w=false)(hp:(!t.plain && decide (es.size > 1))=false) :
  SN prog w a o ep (Zc0 t.place) (es.toList.map (·.2)):=by
 intro A E s Q i hi ho h
 have hz:t.place.size=es.size:=by simp only [SetTable.fits,Bool.and_eq_true,beq_iff_eq] at hf; exact hf.1
 have hl:t.led=true:=by rw [hT.2.2,hb]; rfl
 unfold setNext
 refine Ya (VH ho hd hf ?_)
 dsimp only
 refine Ya (Zck ?_)
 rw [hb,if_neg (by decide)]
 refine VM (λc=>absurd (hp.symm.trans c) (by decide)) (λ_=>?_)
 refine Ya ?_
 show wpAny _ _ (if (!t.led && !es.isEmpty)=true then unsupported _ else pure ()) _ _ _
 rw [hl,if_neg (by simp)]
 refine Yc (Yc ?_)
 rw [ZfZ hT.1 (by rw [hz]; simpa using hi)]
 rw [Yg,YK] at h
 by_cases c:i < es.size
 ·have e:=Vc c
  have e2:=Vc (show i < t.place.size by rw [hz]; exact c)
  rw [e,e2]
  rw [e] at h
  have hs:Zc0 t.place (i + 1)=t.place[i] + 1:=by show t.place.getD i 0 + 1=_; rw [V3,e2]; rfl
  rw [hs] at h
  exact h
 ·rw [Array.getElem?_eq_none (by omega)] at h ⊢
  exact h
abbrev Zeb(f:Value)(i:Nat)(a:Addr)(n ep:Nat):Obj:={ cls:=.type "set_iterator",dict:=none,data:=.fields #[f,.int i 0,.ref a,.int n 0,.int ep 0],slots:=#[] }
def Zjv{I a:Addr}{o:Obj}{es:Array (Int × Value)}{ep:Nat}{f:Nat->Nat}{L:List Value}{i:Nat}{v:Value}{Q:Option Value->Shared->Prop}(hne:I ≠ a)(hd:o.data=.set es ep t)(hf:t.fits es.size=true)(hsn:SN prog w a o ep f L)(hl:L.length=es.size)
  (hit:s.heap.get? I=some (Zeb (.int (f i) 0) i a es.size ep)) (ho:s.heap.get? a=some o) (hi:L[i]?=some v)
  (h:∀ h',h'.get? I=some (Zeb (.int (f (i + 1)) 0) (i + 1) a es.size ep)->Heap.SameBut I s.heap h'->Q (some v) { s with heap:=h' }):wpAny (model prog w) A (pyNext (.ref I)) Q E s:=by
 have hty:s.TypeIs (.ref I) "set_iterator":=⟨_,hit,rfl⟩
 unfold pyNext
 refine Ya (V1 (V5 (name:=Str.ofString "__next__") hty Zac (Y5 Zac hty Zat ?_ (Zaz _))))
 unfold Builtin.«set_iterator.__next__»
 refine Ya (Yc ?_)
 refine Ya (wpAny_fieldsOf hit rfl ?_)
 dsimp only
 refine Ya (VV ho hd hf ?_)
 rw [if_neg (by simp)]
 have hil:i < L.length:=(Ye.mp hi).1
 refine Ya (hsn _ _ s _ i (Yp hil) ho ?_)
 rw [hi]
 dsimp only [Option.map]
 refine wpAny_bind (wpAny_setField_rec hit (by simp) λh1 g1 sb1=>?_)
 refine wpAny_bind (wpAny_setField_rec (s:={ s with heap:=h1 }) g1 (by simp) λh2 g2 sb2=>?_)
 refine Yc ⟨_,rfl,Yc (h h2 ?_ (sb1.trans sb2))⟩
 rw [g2]
 simp [rawInt]
def ZlO{I a:Addr}{o:Obj}{es:Array (Int × Value)}{ep:Nat}{f:Nat->Nat}{L:List Value}{Q:Option Value->Shared->Prop}(hh:A.handled=none)(hd:o.data=.set es ep t)(hf:t.fits es.size=true)(hsn:SN prog w a o ep f L)(hl:L.length=es.size)
  (hit:s.heap.get? I=some (Zeb (.int (f L.length) 0) L.length a es.size ep)) (ho:s.heap.get? a=some o) (h:∀ h',Heap.ExtBut I s.heap h'->Q none { s with heap:=h' }):wpAny (model prog w) A (pyNext (.ref I)) Q E s:=by
 have hty:s.TypeIs (.ref I) "set_iterator":=⟨_,hit,rfl⟩
 unfold pyNext
 refine Ya (V1 (V5 (name:=Str.ofString "__next__") hty Zac (Y5 Zac hty Zat ?_ (Zaz _))))
 unfold Builtin.«set_iterator.__next__»
 refine Ya (Yc ?_)
 refine Ya (wpAny_fieldsOf hit rfl ?_)
 dsimp only
 refine Ya (VV ho hd hf ?_)
 rw [if_neg (by simp)]
 refine Ya (hsn _ _ s _ L.length (Yd _) ho ?_)
 rw [YZ (Yd _)]
 dsimp only [Option.map]
 refine wpAny_bind (wpAny_setField_rec hit (by simp) λh1 g1 sb1=>?_)
 refine Ya ?_
 simp only [newExc,newTuple]
 refine Ya (Vh ?_ (by size_fits))
 refine wpAny_bind (m:=firstArgMember _ _) (wpAny_of_eq (a:=Value.none) (by first | rfl | (simp only [firstArgMember]; rfl)) ?_)
 refine Vh ?_ (by size_fits)
 simp only [raiseNew]
 refine Ya (wpAny_handled ?_)
 rw [show A.in1.handled=none from hh]
 refine Ya (Yc (wpAny_throw ?_))
 refine Ya (VY (T:="StopIteration") (b:=true) ⟨_,Yo _ rfl,rfl⟩ isSubtype_stop ?_)
 exact Yc (h _ ((sb1.extBut.push _).push _))
def Zi7{I a:Addr}{f:Value}{i n ep:Nat}{Q:VSP}(hit:s.heap.get? I=some (Zeb f i a n ep))(h:Q (.ref I) s):wpAny (model prog w) A (pyIter (.ref I)) Q E s:=by
 have hty:s.TypeIs (.ref I) "set_iterator":=⟨_,hit,rfl⟩
 refine wpAny_pyIter_slot hty Zbz (Y5 Zbz hty Zc9 ?_ (ZdN _))
 show wpAny _ _ (ret (.ref I)) _ _ s
 exact Yc ⟨_,rfl,"set_iterator",_,hty,Zac.lookup,h⟩
def ZkN(hh:A.handled=none){I a:Addr}{o:Obj}{es:Array (Int × Value)}{ep:Nat}{t:SetTable}{f:Nat->Nat}{L:List Value}(hne:I ≠ a)(hd:o.data=.set es ep t)(hf:t.fits es.size=true)(hsn:SN prog w a o ep f L)(hl:L.length=es.size) :
  Walks prog w A I [I,a] [I] L.length (λi v=>L[i]?=some v) (λi h=>h.get? I=some (Zeb (.int (f i) 0) i a es.size ep)/\h.get? a=some o) where
 sub:=λb hb=>by simp only [List.mem_singleton] at hb; subst hb; simp
 frame:=λi h h' ⟨h1,h2⟩ hk=>⟨hk I (by simp) _ h1,hk a (by simp) _ h2⟩
 item:=λi s Q E hi ⟨h1,h2⟩ hQ=>Zjv hne hd hf hsn hl h1 h2 (Yb hi) λh' g sb=>by
  have:=hQ _ h' s.toks (List.getElem?_eq_getElem hi) ⟨g,by rw [sb.2 a (λz=>hne z.symm)]; exact h2⟩ λb o hb e=>by rw [sb.2 b (λz=>hb (by rw [z]; simp))]; exact e
  exact this
 done:=λs Q E ⟨h1,h2⟩ hQ=>ZlO hh hd hf hsn hl h1 h2 λh' x=>by
  have:=hQ h' s.toks λb o hb e=>x b o (λz=>hb (by rw [z]; simp)) e
  exact this
 self:=λi s Q E ⟨h1,h2⟩ hQ=>Zi7 h1 hQ
def Zh1{I a T:Addr}{o oT:Obj}{es:Array (Int × Value)}{ep c:Nat}{ps:List Nat}{i p:Nat}{x:Int × Value}{Q:Option Value->Shared->Prop}(hd:o.data=.set es ep t)(hf:t.fits es.size=true)(hT:oT.data=.seq (ps.map λk:Nat=>rawInt k).toArray c)
  (hit:s.heap.get? I=some (Zeb (.ref T) i a es.size ep)) (ho:s.heap.get? a=some o) (hoT:s.heap.get? T=some oT) (hi:ps[i]?=some p) (hx:es[p]?=some x)
  (h:∀ h',h'.get? I=some (Zeb (.ref T) (i + 1) a es.size ep)->Heap.SameBut I s.heap h'->Q (some x.2) { s with heap:=h' }):wpAny (model prog w) A (pyNext (.ref I)) Q E s:=by
 have hty:s.TypeIs (.ref I) "set_iterator":=⟨_,hit,rfl⟩
 unfold pyNext
 refine Ya (V1 (V5 (name:=Str.ofString "__next__") hty Zac (Y5 Zac hty Zat ?_ (Zaz _))))
 unfold Builtin.«set_iterator.__next__»
 refine Ya (Yc ?_)
 refine Ya (wpAny_fieldsOf hit rfl ?_)
 dsimp only
 refine Ya (VV ho hd hf ?_)
 rw [if_neg (by simp)]
 unfold seqItems?
 dsimp only
 refine Ya (Ya (VA hoT ?_))
 rw [hT]
 refine Yc ?_
 dsimp only
 rw [List.getElem?_toArray,Yg,Y1,hi]
 dsimp only [Option.map,rawInt]
 refine Ya ?_
 unfold setNextDrawn
 refine Ya (VH ho hd hf ?_)
 dsimp only
 rw [if_neg (by simp),Int.toNat_natCast,hx]
 refine Yc ?_
 refine wpAny_bind (wpAny_setField_rec hit (by simp) λh1 g1 sb1=>?_)
 refine Yc ⟨_,rfl,Yc (h h1 ?_ sb1)⟩
 rw [g1]
 simp
def Zjc{I a T:Addr}{o oT:Obj}{es:Array (Int × Value)}{ep c:Nat}{ps:List Nat}{Q:Option Value->Shared->Prop}(hh:A.handled=none)(hd:o.data=.set es ep t)(hf:t.fits es.size=true)(hT:oT.data=.seq (ps.map λk:Nat=>rawInt k).toArray c)
  (hit:s.heap.get? I=some (Zeb (.ref T) ps.length a es.size ep)) (ho:s.heap.get? a=some o) (hoT:s.heap.get? T=some oT) (h:∀ h',Heap.ExtBut I s.heap h'->Q none { s with heap:=h' }):wpAny (model prog w) A (pyNext (.ref I)) Q E s:=by
 have hty:s.TypeIs (.ref I) "set_iterator":=⟨_,hit,rfl⟩
 unfold pyNext
 refine Ya (V1 (V5 (name:=Str.ofString "__next__") hty Zac (Y5 Zac hty Zat ?_ (Zaz _))))
 unfold Builtin.«set_iterator.__next__»
 refine Ya (Yc ?_)
 refine Ya (wpAny_fieldsOf hit rfl ?_)
 dsimp only
 refine Ya (VV ho hd hf ?_)
 rw [if_neg (by simp)]
 unfold seqItems?
 dsimp only
 refine Ya (Ya (VA hoT ?_))
 rw [hT]
 refine Yc ?_
 dsimp only
 rw [List.getElem?_toArray,Yg,Y1,YZ (Yd _)]
 dsimp only [Option.map]
 refine wpAny_bind (wpAny_setField_rec hit (by simp) λh0 g0 sb0=>?_)
 refine wpAny_bind (wpAny_setField_rec (s:={ s with heap:=h0 }) g0 (by simp) λh1 g1 sb1=>?_)
 refine Ya ?_
 simp only [newExc,newTuple]
 refine Ya (Vh ?_ (by size_fits))
 refine wpAny_bind (m:=firstArgMember _ _) (wpAny_of_eq (a:=Value.none) (by first | rfl | (simp only [firstArgMember]; rfl)) ?_)
 refine Vh ?_ (by size_fits)
 simp only [raiseNew]
 refine Ya (wpAny_handled ?_)
 rw [show A.in1.handled=none from hh]
 refine Ya (Yc (wpAny_throw ?_))
 refine Ya (VY (T:="StopIteration") (b:=true) ⟨_,Yo _ rfl,rfl⟩ isSubtype_stop ?_)
 exact Yc (h _ (((sb0.trans sb1).extBut.push _).push _))
def Zgg(hh:A.handled=none){I a T:Addr}{o oT:Obj}{es:Array (Int × Value)}{ep c:Nat}{t:SetTable}{ps:List Nat}(hne:I ≠ a)(hnT:I ≠ T)(hd:o.data=.set es ep t)(hf:t.fits es.size=true)(hT:oT.data=.seq (ps.map λk:Nat=>rawInt k).toArray c)
  (hps:∀ (i p:Nat),ps[i]?=some p->p < es.size) :
  Walks prog w A I [I,a,T] [I] ps.length (λi v=>∃ p x,ps[i]?=some p/\es[p]?=some x/\v=x.2) (λi h=>h.get? I=some (Zeb (.ref T) i a es.size ep)/\h.get? a=some o/\h.get? T=some oT) where
 sub:=λb hb=>by simp only [List.mem_singleton] at hb; subst hb; simp
 frame:=λi h h' ⟨h1,h2,h3⟩ hk=>⟨hk I (by simp) _ h1,hk a (by simp) _ h2,hk T (by simp) _ h3⟩
 item:=λi s Q E hi ⟨h1,h2,h3⟩ hQ=>by
  have e:=Yb hi
  have e2:=Vc (hps i _ e)
  refine Zh1 hd hf hT h1 h2 h3 e e2 λh' g sb=>?_
  have:=hQ _ h' s.toks ⟨_,_,e,e2,rfl⟩ ⟨g,by rw [sb.2 a (λz=>hne z.symm)]; exact h2,by rw [sb.2 T (λz=>hnT z.symm)]; exact h3⟩ λb o hb e=>by rw [sb.2 b (λz=>hb (by rw [z]; simp))]; exact e
  exact this
 done:=λs Q E ⟨h1,h2,h3⟩ hQ=>Zjc hh hd hf hT h1 h2 h3 λh' x=>by
  have:=hQ h' s.toks λb o hb e=>x b o (λz=>hb (by rw [z]; simp)) e
  exact this
 self:=λi s Q E ⟨h1,h2⟩ hQ=>Zi7 h1 hQ
def Zjw:∀ {es:List (Int × Value)},J2 prog w es->IntsAre (es.map (·.2)) (es.map JM)
 | [],_=>.nil
 | e :: es,h=>by
  obtain⟨k,t,h1,_⟩:=h e (Vt ..)
  have h3:JM e=k:=by unfold JM; rw [h1]
  rw [Yr,Yr,h1,h3]
  exact .cons k t (Zjw λx hx=>h x (Vd _ hx))
theorem ZmH{es:Array (Int × Value)}:∀ {ps:List Nat},(∀ (i p:Nat),ps[i]?=some p->p < es.size)->∀ vs:List Value,vs.length=ps.length->(∀ (i:Nat) v,vs[i]?=some v->∃ p x,ps[i]?=some p/\es[p]?=some x/\v=x.2)->vs=(ps.filterMap (es[·]?)).map (·.2)
 | [],_,vs,hl,_=>by rw [Yae.mp hl]; rfl
 | p :: ps,hps,vs,hl,hv=>by
  cases vs with
  | nil=>cases hl
  | cons v vs =>
   obtain⟨p',x,e1,e2,rfl⟩:=hv 0 v rfl
   cases e1
   rw [Yai,e2]
   dsimp only
   rw [List.map_cons,<- ZmH (λi p h=>hps (i + 1) p h) vs (by simpa using hl) λi v h=>hv (i + 1) v h]
def ZlD{a:Addr}{S:Int->Prop}{n:Nat}{Q:VSP}(hh:A.handled=none)(hS:Jx prog w s.heap a S n)(hn:n < scanBound)
  (h:∀ (h':Heap) d (I:Addr) (fp:List Addr) (m:Nat) (P:Nat->Value->Prop) (St:Nat->Heap->Prop),(∀ b o,s.heap.get? b=some o->h'.get? b=some o)->Walks prog w A I fp [I] m P St->St 0 h'->s.heap.objs.size<=I->(∀ b∈fp,b=a\/s.heap.objs.size<=b)->(∀ b∈fp,b < h'.objs.size) ->
   m<=n->(∀ vs:List Value,vs.length=m->(∀ (i:Nat) v,vs[i]?=some v->P i v)->∃ ks:List Int,IntsAre vs ks/\ks.Nodup/\∀ k,k∈ks ↔ S k)->Q (.ref I) { s with heap:=h',drawn:=d }) :
  wpAny (model prog w) A (pyIter (.ref a)) Q E s:=by
 obtain⟨o,es,ep,t,ho,hex,hd,hT,hf,hA,hN,hM,hz⟩:=id hS
 have hty:s.TypeIs (.ref a) "set":=⟨_,ho,hex.1⟩
 refine wpAny_pyIter_slot hty F.slot_set_iter (Y5 F.slot_set_iter hty Zeg ?_ (F.args_set_iter_1 _))
 unfold Builtin.«frozenset.__iter__» Builtin.Frozenset.slot0 Builtin.Frozenset.sizeOf
 refine Ya (Ya (Yc (Yc ?_)))
 refine Ya (Ya (VV ho hd hf (Yc ?_)))
 unfold setDrawn
 refine Ya (Ya (VH ho hd hf ?_))
 dsimp only
 refine Ya (Zck (Yc ?_))
 have hlt:a < s.heap.objs.size:=Yh ho
 have told:∀ (es':List (Int × Value)),es'.Perm es.toList->∀ vs:List Value,vs=es'.map (·.2)->∃ ks:List Int,IntsAre vs ks/\ks.Nodup/\∀ k,k∈ks ↔ S k:=λes' hp vs hv =>
  ⟨es'.map JM,by rw [hv]; exact Zjw (hA.perm hp),(hp.map JM).nodup_iff.mpr hN,λk=>((hp.map JM).mem_iff).trans (hM k)⟩
 have plain:∀ (f:Nat->Nat) (es':List (Int × Value)),es'.Perm es.toList->f 0=0->SN prog w a o ep f (es'.map (·.2))->wpAny (model prog w) A.in1 (do
   let first <- pure (rawInt 0)
   let __do_lift <- setEpoch a
   let __do_lift <- newFields "set_iterator" [first,rawInt 0,Value.ref a,rawInt ↑es.size,rawInt ↑__do_lift]
   ret __do_lift) (λfin s'=>∃ v,fin=Fin.done (Flow.ret v)/\∃ T' r,s'.TypeIs v T'/\typeLookup (Value.type T') (Str.ofString "__next__")=pure (some r)/\Q v s') E s:=by
  intro f es' hp hf0 hsn
  refine Ya (Yc (Ya (wpAny_setEpoch_of ho hd hf (Ya ?_))))
  unfold newFields
  refine Vh (Yc ⟨_,rfl,"set_iterator",_,⟨_,Yo _ rfl,rfl⟩,Zac.lookup,?_⟩)
  have hl:(es'.map (·.2)).length=es.size:=by rw [Yf,hp.length_eq,YU]
  have key:=h (s.heap.push (Zeb (.int (f 0) 0) 0 a es.size ep)) s.drawn s.heap.objs.size [s.heap.objs.size,a] _ _ _ (λb o e=>Yi _ e) (ZkN hh (Vn hlt) hd hf hsn hl) ⟨Yo _ rfl,Yi _ ho⟩ (Yd _)
   (λb hb=>by simp only [List.mem_cons,List.not_mem_nil,or_false] at hb; rcases hb with rfl | rfl; exact .inr (Nat.le_refl _); exact .inl rfl)
   (λb hb=>by rw [Heap.size_push]; simp only [List.mem_cons,List.not_mem_nil,or_false] at hb; rcases hb with rfl | rfl; exact Nat.lt_succ_self _; exact Nat.lt_succ_of_lt hlt)
   (by rw [hl]; exact hz) (λvs hvl hv=>told es' hp vs (Vv λi=>by
    by_cases c:i < vs.length
    ·rw [Yb c,hv i _ (Yb c)]
    ·rw [YZ (by omega),YZ (by omega)]))
  rw [hf0] at key
  exact key
 cases hb:byT w with
 | true =>
  rw [if_neg (by simp)]
  exact plain (λ_=>0) _ (ZiG (w.params.setOrder a ep) es) rfl (ZnY hd hf hb)
 | false =>
  refine VM (λc=>?_) (λc=>?_)
  ·refine wpAny_bind (ZfF _ _ _ (by simp) λps d hp=>?_)
   have hpl:ps.length=es.size:=by rw [hp.length_eq,List.length_range]
   have hz2:(ps.map λi:Nat=>rawInt i).length<=sizeLine:=by rw [Yf,hpl]; exact fits_of_scanBound (Ys hz hn)
   refine Ya (wpAny_newTuple ?_ hz2)
   refine Ya (wpAny_setEpoch_of (Yi _ ho) hd hf (Ya ?_))
   unfold newFields
   refine Vh (Yc ⟨_,rfl,"set_iterator",_,⟨_,Yo _ rfl,rfl⟩,Zac.lookup,?_⟩)
   have hps:∀ (i p:Nat),ps[i]?=some p->p < es.size:=λi p e=>YD.mp (hp.mem_iff.mp (Ym e))
   have hz1:(s.heap.push { cls:=.type "tuple",data:=.seq (ps.map λi:Nat=>rawInt i).toArray }).objs.size=s.heap.objs.size + 1:=VZ ..
   refine h _ d (s.heap.push _).objs.size [(s.heap.push _).objs.size,a,s.heap.objs.size] _ _ _ (λb o e=>Yi _ (Yi _ e)) (Zgg hh (ps:=ps) (c:=0) ?_ ?_ hd hf rfl hps) ⟨Yo _ rfl,Yi _ (Yi _ ho),Yi _ (Yo _ rfl)⟩ ?_ ?_ ?_ (by rw [hpl]; exact hz) λvs hvl hv=>?_
   ·rw [hz1]; exact Vn (Vg hlt)
   ·rw [hz1]; exact Nat.succ_ne_self _
   ·rw [hz1]; exact Vz _
   ·intro b hb
    rw [hz1] at hb
    simp only [List.mem_cons,List.not_mem_nil,or_false] at hb
    rcases hb with rfl | rfl | rfl
    ·exact .inr (Vz _)
    ·exact .inl rfl
    ·exact .inr (Yd _)
   ·intro b hb
    rw [hz1] at hb
    rw [VZ,hz1]
    simp only [List.mem_cons,List.not_mem_nil,or_false] at hb
    rcases hb with rfl | rfl | rfl
    ·exact VG _
    ·exact Vg (Vg hlt)
    ·exact Vg (VG _)
   ·refine told (ps.filterMap (es[·]?)) ((hp.filterMap _).trans (by rw [filterMap_getElem?_range])) vs ?_
    exact ZmH hps vs hvl hv
  ·exact plain (Zc0 t.place) es.toList (.refl _) rfl (Zln hd hf hT hb (by cases q:(!t.plain && decide (es.size > 1)) with | false=>rfl | true=>exact absurd (show (!false && (!t.plain && decide (es.size > 1)))=true by rw [q]; rfl) c))
def ZlK{r:Addr}{Q:Bool->Shared->Prop}(hT:s.TypeIs (.ref r) "set")(h:Q false s):wpAny (model prog w) A (Builtin.List.listLengthHint (.ref r)) Q E s:=by
 unfold Builtin.List.listLengthHint
 refine Ya (wpAny_specialOf hT (show typeLookup (.type "set") "__len__"=pure (some (.builtin "set.__len__")) from by rw [typeLookup_type,builtinLookup_eq_fast]; kernel_rfl) ?_)
 generalize hid:("set.__len__":String)=id0
 wp_delta
 rw [show splitId id0=some ("set","__len__") from by subst hid; decide +kernel]
 subst hid
 refine Ya (VY (T:="set") (b:=true) hT (by rw [isSubtype_type]; kernel_rfl) ?_)
 refine VM (λhab=>absurd hab (by decide)) (λ_=>?_)
 refine VM (λ_=>?_) (λhab=>absurd (by decide +kernel) hab)
 refine Ya (wpAny_typeOf hT ?_)
 exact Yc h
theorem Jx.type{a:Addr}{S:Int->Prop}{n:Nat}(x:Jx prog w s.heap a S n):s.TypeIs (.ref a) "set":=let ⟨o,_,_,_,ho,hex,_⟩:=x; ⟨o,ho,hex.1⟩
abbrev Zdx(c:Nat):Obj:={ cls:=.type "list",data:=.seq #[] c }
def ZhS{a L:Addr}{S:Int->Prop}{n c₀:Nat}{res:Value}{R:Result->Shared->Prop}(hh:A.handled=none)(hS:Jx prog w s.heap a S n)(hn:n < scanBound)(hLa:L ≠ a)(hL:s.heap.get? L=some (Zdx c₀))
  (hR:∀ h' d tk (acc:Array Value) (ks:List Int) c',(∀ b o,b ≠ L->s.heap.get? b=some o->h'.get? b=some o)->h'.get? L=some { cls:=.type "list",dict:=none,data:=.seq acc c',slots:=#[] }->IntsAre acc.toList ks->ks.Nodup->(∀ k,k∈ks ↔ S k)->acc.size<=n ->
   R (.ok (.ret res)) { s with heap:=h',drawn:=d,toks:=tk }) :
  wpAny (model prog w) A.in1 (Builtin.List.listExtendWith (.ref L) (.ref a) res)
   (λfin s'=>match fin with | .done f=>R (.ok f) s' | .again c'=>c'.quiet=true/\codeAny (model prog w) A c' R s') (λe s'=>R (.error e) s') s:=by
 unfold Builtin.List.listExtendWith
 refine Ya (wpAny_typeOf (T:="set") hS.type ?_)
 have h1:Builtin.List.listSameRef (.ref L) (.ref a)=false:=by simp [Builtin.List.listSameRef,hLa]
 have h2:(Value.type "set" == Value.type "list")=false:=by decide
 have h3:(Value.type "set" == Value.type "tuple")=false:=by decide
 simp only [h1,h2,h3,Bool.or_false,Bool.false_eq_true,if_false]
 have hLlt:=Yh hL
 refine Ya (ZlD (A:=A.in1) hh hS hn λh' d I fp m P St hk W hst hI hfp hfp2 hm told=>?_)
 have hLf:L ∉ fp:=λz=>by
  rcases hfp L z with e | e
  ·exact hLa e
  ·exact absurd hLlt (Nat.not_lt.mpr e)
 have hL1:h'.get? L=some (Zdx c₀):=hk _ _ hL
 have key:∀ (h1:Heap) (c₁:Nat),(∀ b o,b ≠ L->h'.get? b=some o->h1.get? b=some o)->h1.get? L=some (Zdx c₁)->codeAny (model prog w) A (.builtin "list.extend.loop" ⟨[.ref L,.ref I,res],[]⟩) R { s with heap:=h1,drawn:=d }:=by
  intro h1 c₁ k1 g1
  refine codeAny_extend_loopS W.toS (fits_of_scanBound (Ys hm hn)) L hLf res m 0 _ #[] c₁ rfl (YF _) (W.frame 0 h' h1 hst λb hb o e=>k1 b o (λz=>hLf (z ▸ hb)) e) g1 (ItemsOf.nil _) λs' acc' c' hmv g' hacc=>?_
  rw [Moved.eq_with hmv]
  obtain⟨ks,i1,i2,i3⟩:=told acc'.toList (by rw [YU]; exact hacc.1) λj v e=>hacc.2 j v (by rw [<- YK]; exact e)
  refine hR s'.heap d s'.toks acc' ks c' (λb o hb e=>hmv.heap b o (λz=>?_) (k1 b o hb (hk b o e))) g' i1 i2 i3 (by rw [hacc.1]; exact hm)
  rcases Yl.mp z with z | z
  ·exact hb z
  ·rw [YY.mp z] at e
   exact absurd (Yh e) (Nat.not_lt.mpr hI)
 have hS':Jx prog w h' a S n:=hS.keep λo e=>hk _ _ e
 refine Ya (Vi (ZlK (s:={ s with heap:=h',drawn:=d }) hS'.type ?_))
 refine VM (λ_=>?_) (λ_=>Yc ⟨VO F.plain_extend_loop _,key h' c₀ (λb o _ e=>e) hL1⟩)
 refine Ya (Vp (Ya ?_))
 show wpAny _ _ (updateSeq L (·.push .none) >>= λ_=>updateSeq L (·.pop)) _ _ _
 refine Ya (wpAny_updateSeq hL1 rfl ?_)
 have g2:=V7 (Obj.mapSeq (·.push Value.none)) hL1 rfl
 refine wpAny_updateSeq (hz:=by seq_fits) g2 rfl ?_
 have g3:=V7 (Obj.mapSeq (·.pop)) g2 rfl
 exact Yc ⟨VO F.plain_extend_loop _,key _ _ (λb o hb e=>(Vr _ _ (Ne.symm hb)).trans ((Vr _ _ (Ne.symm hb)).trans e)) g3⟩
def ZgS{a:Addr}{S:Int->Prop}{n:Nat}{Q:List Value->Shared->Prop}(hh:A.handled=none)(hS:Jx prog w s.heap a S n)(hn:n < scanBound)
  (h:∀ h' d tk (vs:List Value) (ks:List Int),(∀ b o,s.heap.get? b=some o->h'.get? b=some o)->IntsAre vs ks->ks.Nodup->(∀ k,k∈ks ↔ S k)->vs.length<=n->s.heap.objs.size<=h'.objs.size->Q vs { s with heap:=h',drawn:=d,toks:=tk }) :
  wpAny (model prog w) A (collect (.ref a)) Q E s:=by
 unfold collect
 refine Ya (wpAny_runValue (Vm entry_proto_collect' ?_))
 rw [Vs F.plain_proto_collect _]
 show wpAny _ A.in1 (newList [] >>= λl=>again (.builtin "list.__iadd__" ⟨[l,.ref a],[]⟩)) _ _ s
 refine Ya (Vh ?_)
 refine Yc ⟨VO Yac _,Vm entry_list_iadd' ?_⟩
 rw [Vs Yac _]
 show wpAny _ A.in1 (Builtin.List.listExtendWith (.ref s.heap.objs.size) (.ref a) (.ref s.heap.objs.size)) _ _ _
 have key:=ZhS (A:=A) (s:={ s with heap:=s.heap.push (Zdx 0) }) (L:=s.heap.objs.size) (c₀:=0) (res:=.ref s.heap.objs.size) (n:=n) (S:=S)
  (R:=λ(q:Result) (s':Shared)=>∃ (h':Heap) (d:Drawn) (tk:Nat) (acc:Array Value) (ks:List Int) (c':Nat),q=.ok (.ret (.ref s.heap.objs.size))/\s'={ s with heap:=h',drawn:=d,toks:=tk }/\(∀ b o,s.heap.get? b=some o->h'.get? b=some o) /\
   h'.get? s.heap.objs.size=some { cls:=.type "list",dict:=none,data:=.seq acc c',slots:=#[] }/\IntsAre acc.toList ks/\ks.Nodup/\(∀ k,k∈ks ↔ S k)/\acc.size<=n)
  hh (hS.keep λo e=>Yi _ e) hn (Vn hS.lt) (Yo _ rfl)
  (λh' d tk acc ks c' hk g i1 i2 i3 i4=>⟨h',d,tk,acc,ks,c',rfl,rfl,λb o e=>hk b o (Yn (Yh e)) (Yi _ e),g,i1,i2,i3,i4⟩)
 refine Yx key (λfin s' x=>?_) λe s' x=>?_
 ·cases fin with
  | done f =>
   obtain⟨h',d,tk,acc,ks,c',e,rfl,hk,g,i1,i2,i3,i4⟩:=x
   cases e
   show wpAny _ A (load s.heap.objs.size >>= _) _ _ _
   exact Ya (VA g (Yc (h h' d tk acc.toList ks hk i1 i2 i3 (by rw [YU]; exact i4) (Yp (Yh g)))))
  | again c₁ =>
   refine⟨x.1,Y3 x.2 λq s₂ y=>?_⟩
   obtain⟨h',d,tk,acc,ks,c',rfl,rfl,hk,g,i1,i2,i3,i4⟩:=y
   show wpAny _ A (load s.heap.objs.size >>= _) _ _ _
   exact Ya (VA g (Yc (h h' d tk acc.toList ks hk i1 i2 i3 (by rw [YU]; exact i4) (Yp (Yh g)))))
 ·obtain⟨_,_,_,_,_,_,e',_⟩:=x
  cases e'
def Zef{ks:List Int}(h:ks.Pairwise (·<=·))(hn:ks.Nodup):ks.Pairwise (· < ·):=by
 have:=List.Pairwise.and h hn
 exact this.imp λ⟨h1,h2⟩=>Int.lt_iff_le_and_ne.mpr ⟨h1,h2⟩
theorem Zb5{h:Heap}{a b:Addr}{o:Obj}{vs:List Value}{out:Array Value}(hb:b ≠ a)(e:h.get? b=some o):(sortedHeap h a vs out).get? b=some o:=by
 unfold sortedHeap
 exact (Vr _ _ (Ne.symm hb)).trans (Yi _ (Yi _ ((Vr _ _ (Ne.symm hb)).trans e)))
def ZdD{h:Heap}{a:Addr}{vs:List Value}{n:Nat}{out:Array Value}(e:h.get? a=some (seqObj "list" vs.toArray n)):∃ c,(sortedHeap h a vs out).get? a=some { cls:=.type "list",dict:=none,data:=.seq out c,slots:=#[] }:=by
 unfold sortedHeap
 exact⟨_,get?_update_seq (Yi _ (Yi _ (get?_update_seq e λ_=>#[]))) λ_=>out⟩
def ZhL{a:Addr}{S:Int->Prop}{n:Nat}{Q:VSP}(hh:A.handled=none)(hS:Jx prog w s.heap a S n)(hn:n < 64)
  (h:∀ (h':Heap) d tk (D:Addr) (out:Array Value) (ks:List Int) c,(∀ b o,s.heap.get? b=some o->h'.get? b=some o)->s.heap.objs.size<=D->h'.get? D=some { cls:=.type "list",dict:=none,data:=.seq out c,slots:=#[] }->IntsAre out.toList ks->ks.Pairwise (· < ·)->(∀ k,k∈ks ↔ S k) ->
   Q (.ref D) { s with heap:=h',drawn:=d,toks:=tk }):wpAny (model prog w) A (call (.builtin "sorted") [.ref a]) Q E s:=by
 refine Calls.call_function_entry kind_sorted plain_sorted entry_sorted (args_sorted1 _) ?_
 unfold Builtin.«sorted»
 refine Ya (m:=checkCount "sorted" 1 1 _) (Yc ?_)
 refine Ya (ZgS (A:=A.in1) hh hS (Nat.lt_trans hn (by decide)) λh' d tk vs ks hk i1 i2 i3 i4 hle=>?_)
 have hv:vs.length < 64:=by omega
 refine Ya (wpAny_newList ?_ (Yj (Yp hv) (by decide)))
 have hoL:(h'.push (seqObj "list" vs.toArray 0)).get? h'.objs.size=some (seqObj "list" vs.toArray 0):=Yo _ rfl
 refine Ya (Vi (Y5 slot_list_sort ⟨_,hoL,rfl⟩ entry_list_sort (list_sort_tree hoL i1 hv λout ks' a1 a2 a3=>⟨_,rfl,?_⟩) (args_list_sort _)))
 obtain⟨c,e1⟩:=ZdD hoL (out:=out)
 refine Yc ⟨_,rfl,h _ d tk h'.objs.size out ks' c (λb o e=>?_) hle e1 a1 (Zef a3 (a2.nodup_iff.mpr i2)) λk=>(a2.mem_iff).trans (i3 k)⟩
 exact Zb5 (Yn (Yy (Yh e) hle)) (Yi _ (hk b o e))
end
end My
namespace My
open PySem PySem.Spec L2
open PyProof.Rows hiding St
def ZbC:∀ {ns:List Int}{us:List Value},Zq (ns.map V.int) us->IntsAre us ns
 | [],us,h=>by cases h; exact .nil
 | n :: ns,us,h=>by
  cases h with
  | cons h1 h2 =>
   obtain⟨t,rfl⟩:=h1
   exact .cons n t (ZbC h2)
theorem Zfo:∀ {ns:List Int}{us:List Value},IntsAre us ns->Zq (ns.map V.int) us
 | _,_,.nil=>.nil
 | _,_,.cons n t h=>.cons ⟨t,rfl⟩ (Zfo h)
section
variable {X:Cx}{e:Expr}{t:TA}{p p' pos pos':Pos}
theorem Zgr{pins:List (Addr × Obj)}{σ:St}{H:Hp}{s:Shared}(I:Inv X pins σ H s)(d:Drawn):Inv X pins σ H { s with drawn:=d }:=⟨I.ok,I.os,I.bare,I.base,I.loc,I.cell,I.free,I.freeC,I.pin,I.hok,I.len⟩
def Jx.few{prog:Program}{w:World}{h:Heap}{a:Addr}{S:Int->Prop}{n:Nat}(x:Jx prog w h a S n)(hb:∀ k,S k->0<=k/\k < 60):Jx prog w h a S 60:=by
 obtain⟨o,es,ep,t,ho,hex,hd,hT,hf,hA,hN,hM,hz⟩:=x
 refine⟨o,es,ep,t,ho,hex,hd,hT,hf,hA,hN,hM,?_⟩
 have hs:es.toList.map JM ⊆ (List.range 60).map λk:Nat=>(k:Int):=λk hk=>by
  obtain⟨h1,h2⟩:=hb k ((hM k).mp hk)
  exact Yk.mpr ⟨k.toNat,YD.mpr (by omega),by omega⟩
 have:=YS hN hs
 simpa using this
def Ze3:List V->Hp->VK->Prop:=λxs H Q=>∃ (a:Addr) (ns:List Int),xs=[.ref a]/\H a=some (.lst (ns.map V.int))/\ns.length < 4000/\(∀ k∈ns,0<=k/\k < 60) /\
 ∀ l H2 (ks:List Int),H l=none->Zk H H2->H2 l=some (.lst (ks.map V.int))->ks.Pairwise (· < ·)->(∀ k,k∈ks ↔ k∈ns)->Q (.ref l) H2
def Zkv(hg:Gl X "sorted")(hm:X.mg "sorted"=none)(hg2:Gl X "set")(hm2:X.mg "set"=none)(ha:QA X [e] t)(hp:Zz e=true:=by rfl)(hc:X.calm=true:=by rfl) :
  QE X (.Call (.Name "sorted" p) [.Call (.Name "set" p') [e] [] pos'] [] pos) (tCB Ze3 t):=⟨by
 intro pins s σ H Q I h
 refine Vf (ZbB I hg hm (show bootBuiltins "sorted"=some (.builtin "sorted") by decide +kernel) ?_ (by decide) (by decide))
 refine PyProof.Rows.callWith_builtin1 ?_ rfl rfl
 show wpAny _ _ (spliced ((false,eval (.Call (.Name "set" p') [e] [] pos') X.env) :: [])) _ _ s
 refine VF ?_
 refine Vf (ZbB I hg2 hm2 (show bootBuiltins "set"=some (.type "set") by decide +kernel) ?_ (by decide) (by decide))
 refine VB (ZZ (ha.h pos' pins s σ H _ I h) λus s1 ⟨vs,H1,I1,r1,q1⟩=>?_) (Zx hp) rfl
 obtain⟨a,ns,rfl,e1,hl,hb,q⟩:=q1
 obtain⟨u,rfl,ru⟩:=JQ r1
 cases ru
 obtain⟨_,its,n,hv,g⟩:=I1.hok a _ e1
 have hi:=ZbC hv
 refine Zgi (I1.ok.hd hc) ⟨_,g,rfl,n,rfl⟩ (by simpa using hi) (by have:scanBound=4096:=rfl; omega) λh' tk hS hk=>Calls.spliced_nil ?_
 refine ZhL (s:={ s1 with heap:=h',toks:=tk }) (I1.ok.hd hc) (hS.few λk hk=>hb k hk) (by decide) λh2 d tk2 D out ks c hk2 hle g2 i1 i2 i3=>?_
 have hD:s1.heap.objs.size<=D:=Yj (Yp hS.lt) hle
 have hf:H1 D=none:=I1.hok.fresh hD
 have hkl:ks.length<=sizeLine:=by
  have hs:ks ⊆ (List.range 60).map λk:Nat=>(k:Int):=λk hk=>by
   obtain⟨h1,h2⟩:=hb k ((i3 k).mp hk)
   exact Yk.mpr ⟨k.toNat,YD.mpr (by omega),by omega⟩
  have hnd:ks.Nodup:=i2.imp λh e=>by rw [e] at h; exact Int.lt_irrefl _ h
  have:=YS hnd hs
  exact Nat.le_trans (by simpa using this) (show 60<=sizeLine by decide)
 exact⟨.ref D,upd H1 D (.lst (ks.map V.int)),Zgr (I1.laid (t':=tk2) (o:=.lst (ks.map V.int)) (λb u e=>hk2 b u (hk b u e)) hD (show ZR X.prog X.w _ h2 _ (.lst (ks.map V.int)) from ⟨by simpa using hkl,out.toList,c,Zfo i1,by simpa using g2⟩)) d,rfl,q D _ ks hf (Jh hf _) Zf i2 i3⟩⟩
end
section
variable {X:Cx}{a b o e:Expr}{es:List Expr}{ta tb to te:TE}{t:TA}{name:Str}{apos cpos pos p p2:Pos}{id:String}{r:V->List V->Hp->VK->Prop}
def ZrG(ha:QE X a ta)(hb:QE X b tb)(hs:Zdz b:=by intro _ _; rfl):QE X (.Subscript a b pos) (tOp Zrh ta tb):=⟨ZlH Zqm ha.h hb.h hs⟩
def Zr5:V->Option Int->Option Int->Hp->VK->Prop:=λx lo hi H Q=>∃ z,x=.str z/\z.length<=1000/\Q (.str (Txt.slice z lo hi)) H
def tXm(r:V->List V->Hp->VK->Prop)(to:TE)(t:TA):TE:=λσ H Q=>to σ H λx H1=>∃ z,x=.str z/\t σ H1 λvs H2=>r x vs H2 Q
def ZpZ:V->List V->Hp->VK->Prop:=λx vs H Q=>∃ z y,x=.str z/\vs=[.str y]/\Q (.int (Txt.find z y)) H
def Zdv:∀ {ss:List Str}{us:List Value},Zq (ss.map V.str) us->StrsAre us ss
 | [],us,h=>by cases h; exact .nil
 | x :: ss,us,h=>by
  cases h with
  | cons h1 h2 =>
   obtain⟨t,rfl⟩:=h1
   exact .cons x t (Zdv h2)
theorem ZdG:∀ {ss:List Str}{us:List Value},StrsAre us ss->Zq (ss.map V.str) us
 | _,_,.nil=>.nil
 | _,_,.cons x t h=>.cons ⟨t,rfl⟩ (ZdG h)
def Zqo:V->List V->Hp->VK->Prop:=λx vs H Q=>∃ z a ss,x=.str z/\vs=[.ref a]/\H a=some (.lst (List.map V.str ss))/\z.length<=16/\(ss.map (·.length)).sum + ss.length<=1048576/\Q (.str (Txt.join z ss)) H
end
def leS(a b:Str):Prop:=a.cps.toList<=b.cps.toList
def Zpw{a b:Str}(h:(!ltCps b.cps.toList a.cps.toList)=true):leS a b:=by
 rw [ltCps_eq,Bool.not_eq_true',decide_eq_false_iff_not] at h
 exact List.not_lt.mp h
def ZlU{a b:Str}(h1:leS a b)(h2:leS b a):a=b:=by
 have:=List.le_antisymm h1 h2
 cases a; cases b
 exact congrArg Str.mk (Array.toList_inj.mp this)
def Zf4:∀ (p:Str) (l:List Str),risingS p l=true->(p :: l).Pairwise leS
 | p,[],_=>List.pairwise_singleton ..
 | p,x :: l,h=>by
  unfold risingS at h
  rw [VW] at h
  have ih:=Zf4 x l h.2
  have hx:=Zpw h.1
  refine List.pairwise_cons.mpr ⟨λy hy=>?_,ih⟩
  rcases Yl.mp hy with rfl | hy
  ·exact hx
  ·exact List.le_trans hx ((List.pairwise_cons.mp ih).1 y hy)
theorem ZfK:∀ {l:List Str},sortedS l=true->l.Pairwise leS
 | [],_=>List.Pairwise.nil
 | x :: l,h=>Zf4 x l h
def Zgq{l m:List Str}(h1:l.Pairwise leS)(h2:m.Pairwise leS)(p:l.Perm m):l=m:=List.Perm.eq_of_pairwise (λ_ _ _ _=>ZlU) h1 h2 p
section
variable {X:Cx}{e:Expr}{t:TA}{p pos:Pos}
def Zdc:List V->Hp->VK->Prop:=λxs H Q=>∃ (a:Addr) (ss:List Str),xs=[.ref a]/\H a=some (.lst (ss.map V.str))/\ss.length < 64/\∀ l H2 (ts:List Str),H l=none->Zk H H2->H2 l=some (.lst (ts.map V.str))->ts.Pairwise leS->ts.Perm ss->Q (.ref l) H2
def ZfR:Jl X (.builtin "sorted") Zdc:=by
 intro pins s σ H xs us Q I r h
 obtain⟨a,ss,rfl,e,hl,q⟩:=h
 obtain⟨u,rfl,ru⟩:=JQ r
 cases ru
 obtain⟨_,its,n,hv,g⟩:=I.hok a _ e
 have hi:=Zdv hv
 have hil:its.length=ss.length:=by rw [<- hv.length,Yf]
 refine sorted_strs (vs:=its) ⟨_,g,rfl,n,rfl⟩ hi (by omega) λout ts o1 o2 o3=>?_
 have hD:s.heap.objs.size<=s.heap.objs.size + 1:=Vz _
 have hf:H (s.heap.objs.size + 1)=none:=I.hok.fresh hD
 have hz1:((s.heap.push (seqObj "list" #[] 0)).update s.heap.objs.size (Obj.mapSeq (· ++ its.toArray))).objs.size=s.heap.objs.size + 1:=by rw [Heap.size_update,size_push']
 have hk:∀ b o,s.heap.get? b=some o->(sortedAll s.heap its out).get? b=some o:=λb o eb=>by
  have hb:=Yh eb
  unfold sortedAll
  exact Zb5 (Yn (Vg hb)) (Yi _ ((Vr _ _ (Vn hb)).trans (Yi _ eb)))
 obtain⟨c,e1⟩:∃ c,(sortedAll s.heap its out).get? (s.heap.objs.size + 1)=some { cls:=.type "list",dict:=none,data:=.seq out c,slots:=#[] }:=by
  unfold sortedAll
  refine ZdD (n:=0) ?_
  rw [<- hz1]
  exact Yo _ rfl
 have hol:ts.length<=sizeLine:=by rw [o2.length_eq]; exact Yj (Yp hl) (by decide)
 exact⟨.ref (s.heap.objs.size + 1),upd H (s.heap.objs.size + 1) (.lst (ts.map V.str)),I.laid (t':=s.toks) (o:=.lst (ts.map V.str)) hk hD (show ZR X.prog X.w _ _ _ (.lst (ts.map V.str)) from ⟨by simpa using hol,out.toList,c,ZdG o1,by simpa using e1⟩),rfl,q _ _ ts hf (Jh hf _) Zf (ZfK o3) o2⟩
def Zij(hg:Gl X "sorted")(hm:X.mg "sorted"=none)(ha:QA X [e] t)(hp:Zz e=true:=by rfl):QE X (.Call (.Name "sorted" p) [e] [] pos) (tCB Zdc t) :=
 ⟨Zbw ZfR hg hm (by decide +kernel) ha.h (by decide) (by decide) (Zx hp) rfl⟩
end
section
variable {prog:Program}{w:World}{A:Around}{E:VSP}{s:Shared}
def ZkK(prog:Program)(w:World)(A:Around)(s:Shared)(u v:Value):Prop:=∀ (E:VSP) (Q:Bool->Shared->Prop),Q true s->wpAny (model prog w) A (eqBool u v) Q E s
theorem ZkK.of{A:Around}{u v:Value}(h:SeqAt.EqAt A s u v true):ZkK prog w A s u v:=λE Q q=>h prog w E Q q
def ZkK.refs{a b:Addr}(h:∀ (E:VSP) (Q:VSP),Q (.bool true) s->wpAny (model prog w) A (richCompare .Eq (.ref a) (.ref b)) Q E s):ZkK prog w A s (.ref a) (.ref b):=λE Q q=>by
 unfold eqBool
 refine Vi ?_
 refine VM (λ_=>Ya (Vp (Yc q))) (λ_=>?_)
 exact Ya (h E _ (Vk q))
def Zmh{l b:Addr}{items items2:Array Value}{Q:VSP}(hl:s.heap.IsTuple l items)(hb:s.heap.IsTuple b items2)(hz:items.size=items2.size)(hu:A.units < cLine)
  (he:∀ j (h1:j < items.size) (h2:j < items2.size),ZkK prog w A.in1 s items[j] items2[j]) (h:Q (.bool false) s):wpAny (model prog w) A (richCompare .NotEq (.ref l) (.ref b)) Q E s:=by
 obtain⟨o1,g1,c1,n1,d1⟩:=id hl
 obtain⟨o2,g2,c2,n2,d2⟩:=id hb
 have t1:s.TypeIs (.ref l) "tuple":=⟨o1,g1,c1⟩
 have t2:s.TypeIs (.ref b) "tuple":=⟨o2,g2,c2⟩
 refine wpAny_richCompare_same_room (op:=.NotEq) t1 t2 F.slot_tuple_ne (Y5 F.slot_tuple_ne t1 F.entry_tuple_ne ?_ (F.args_tuple_ne_2 _ _)) hu
 show wpAny _ _ (slotArgs "__ne__" 1 ⟨[.ref l,.ref b],[]⟩ >>= _) _ _ s
 refine Ya (Yc ?_)
 dsimp only
 refine Ya (VY (T:="tuple") (b:=true) t2 AutoSeq1.sub_tuple_tuple ?_)
 rw [if_neg (by decide)]
 refine Ya (Yaa g1 d1 (Ya (Yaa g2 d2 ?_)))
 refine Ya (wpAny_forIn_list _ (λJk b s'=>b.1=none/\s'=s/\∃ i,Jk=(items.toList.zip items2.toList).drop i) _ ?_ ?_ _ _ ⟨rfl,rfl,0,rfl⟩)
 ·rintro⟨y,x⟩ Jk b' s' ⟨hb',rfl,i,hi⟩
  have hlt:i < (items.toList.zip items2.toList).length:=by
   rcases Nat.lt_or_ge i (items.toList.zip items2.toList).length with h' | h'
   ·exact h'
   ·rw [List.drop_of_length_le h'] at hi; cases hi
  have hlt':=hlt
  rw [List.length_zip,YU,YU] at hlt'
  have k1:i < items.size:=by omega
  have k2:i < items2.size:=by omega
  rw [VP hlt] at hi
  injection hi with hyx hrest
  have hy:y=items[i]:=by have:=congrArg Prod.fst hyx; simpa using this
  have hx:x=items2[i]:=by have:=congrArg Prod.snd hyx; simpa using this
  subst hy hx
  refine Ya (he i k1 k2 _ _ ?_)
  rw [if_neg (by decide)]
  exact Yc ⟨rfl,rfl,i + 1,hrest⟩
 ·rintro⟨b1,b2⟩ s' ⟨hb',rfl,_⟩
  simp only at hb'
  subst hb'
  dsimp only
  refine Yc ⟨_,rfl,?_⟩
  rw [show Builtin.Tuple.tupleCompareSizes CmpOp.NotEq items.size items2.size=Value.bool false by rw [hz]; simp [Builtin.Tuple.tupleCompareSizes]]
  exact⟨(λz=>nomatch z),h⟩
def Zlp{l b:Addr}{items items2:Array Value}{Q:VSP}(hl:s.heap.IsTuple l items)(hb:s.heap.IsTuple b items2)(hz:items.size=items2.size)(hu:A.units < cLine)
  (he:∀ j (h1:j < items.size) (h2:j < items2.size),ZkK prog w A.in1 s items[j] items2[j]) (h:Q (.bool true) s):wpAny (model prog w) A (richCompare .Eq (.ref l) (.ref b)) Q E s:=by
 obtain⟨o1,g1,c1,n1,d1⟩:=id hl
 obtain⟨o2,g2,c2,n2,d2⟩:=id hb
 have t1:s.TypeIs (.ref l) "tuple":=⟨o1,g1,c1⟩
 have t2:s.TypeIs (.ref b) "tuple":=⟨o2,g2,c2⟩
 refine wpAny_richCompare_same_room (op:=.Eq) t1 t2 F.slot_tuple_eq (Y5 F.slot_tuple_eq t1 F.entry_tuple_eq ?_ (F.args_tuple_eq_2 _ _)) hu
 show wpAny _ _ (slotArgs "__eq__" 1 ⟨[.ref l,.ref b],[]⟩ >>= _) _ _ s
 refine Ya (Yc ?_)
 dsimp only
 refine Ya (VY (T:="tuple") (b:=true) t2 AutoSeq1.sub_tuple_tuple ?_)
 rw [if_neg (by decide)]
 refine Ya (Yaa g1 d1 (Ya (Yaa g2 d2 ?_)))
 refine Ya (wpAny_forIn_list _ (λJk b s'=>b.1=none/\s'=s/\∃ i,Jk=(items.toList.zip items2.toList).drop i) _ ?_ ?_ _ _ ⟨rfl,rfl,0,rfl⟩)
 ·rintro⟨y,x⟩ Jk b' s' ⟨hb',rfl,i,hi⟩
  have hlt:i < (items.toList.zip items2.toList).length:=by
   rcases Nat.lt_or_ge i (items.toList.zip items2.toList).length with h' | h'
   ·exact h'
   ·rw [List.drop_of_length_le h'] at hi; cases hi
  have hlt':=hlt
  rw [List.length_zip,YU,YU] at hlt'
  have k1:i < items.size:=by omega
  have k2:i < items2.size:=by omega
  rw [VP hlt] at hi
  injection hi with hyx hrest
  have hy:y=items[i]:=by have:=congrArg Prod.fst hyx; simpa using this
  have hx:x=items2[i]:=by have:=congrArg Prod.snd hyx; simpa using this
  subst hy hx
  refine Ya (he i k1 k2 _ _ ?_)
  rw [if_neg (by decide)]
  exact Yc ⟨rfl,rfl,i + 1,hrest⟩
 ·rintro⟨b1,b2⟩ s' ⟨hb',rfl,_⟩
  simp only at hb'
  subst hb'
  dsimp only
  refine Yc ⟨_,rfl,?_⟩
  rw [show Builtin.Tuple.tupleCompareSizes CmpOp.Eq items.size items2.size=Value.bool true by rw [hz]; simp [Builtin.Tuple.tupleCompareSizes]]
  exact⟨(λz=>nomatch z),h⟩
end
section
variable {X:Cx}{pins:List (Addr × Obj)}{σ:St}{H:Hp}{s:Shared}{a b:Expr}{ta tb:TE}{pos:Pos}{k:Nat}
def Zmc{kvs:List (ZQ × V)}{vs:List (ZQ × Value)}(r:KV kvs vs){i:Nat}{kv:ZQ × V}{k:ZQ}{v:Value}(h1:kvs[i]?=some kv)(h2:vs[i]?=some (k,v)):kv.1=k/\Zt kv.2 v:=by
 induction r generalizing i with
 | nil=>simp at h1
 | cons h _ ih =>
  cases i with
  | zero =>
   simp at h1 h2
   subst h1
   subst h2
   exact h
  | succ i=>exact ih (by simpa using h1) (by simpa using h2)
inductive EqP (H:Hp):V->V->Nat->Prop where
 | deep {x y:V}{n:Nat}(h:EqD H x y true n):EqP H x y n
 | dct {a b:Addr}{ka kb:List (ZQ × V)}{n:Nat}(ha:Rd H a (.dK ka)) (hb:Rd H b (.dK kb)) (hl:ka.length=kb.length) (h:∀ (j:Nat) x y,ka[j]?=some x->kb[j]?=some y->x.1=y.1/\EqD H x.2 y.2 true n) (hN:(ka.map (·.1)).Nodup):EqP H (.ref a) (.ref b) (n + 2)
 | tup {a b:Addr}{xs ys:List V}{n:Nat}(ha:H a=some (.tup xs)) (hb:H b=some (.tup ys)) (hl:xs.length=ys.length) (h:∀ (j:Nat) x y,xs[j]?=some x->ys[j]?=some y->EqP H x y n):EqP H (.ref a) (.ref b) (n + 2)
theorem Zbt:∀ {vs:List (ZQ × Value)}{j:Nat}{k:ZQ}{y:Value},(vs.map (·.1)).Nodup->vs[j]?=some (k,y)->valueAt vs k=some y
 | [],j,k,y,_,h=>by simp at h
 | (k',y') :: vs,0,k,y,_,h=>by
  simp at h
  obtain⟨rfl,rfl⟩:=h
  simp [valueAt]
 | (k',y') :: vs,j + 1,k,y,hN,h=>by
  rw [Yr,Y7] at hN
  have hm:(k,y)∈vs:=List.mem_of_getElem? (by simpa using h)
  have hne:k' ≠ k:=λe=>hN.1 (Yk.mpr ⟨_,hm,e.symm⟩)
  have ih:=Zbt hN.2 (show vs[j]?=some (k,y) by simpa using h)
  unfold valueAt at ih ⊢
  rw [List.find?_cons_of_neg (by simpa using hne)]
  exact ih
def ZiN{A:Around}{vb:List (ZQ × Value)}(hN:(vb.map (·.1)).Nodup):∀ {va:List (ZQ × Value)}(i:Nat),(∀ (j:Nat) k v,va[j]?=some (k,v)->∃ y,vb[i + j]?=some (k,y)/\SeqAt.EqAt A s v y true)->KeqHits A s vb va true
 | [],_,_=>.nil
 | (k,v) :: va,i,h=>by
  obtain⟨y,h1,h2⟩:=h 0 k v rfl
  exact .hit (e:=true) (Zbt hN h1) h2 (ZiN hN (i + 1) λj k v e=>by
   have:=h (j + 1) k v e
   rw [show i + 1 + j=i + (j + 1) by omega]
   exact this)
theorem EqP.at(I:Inv X pins σ H s){x y:V}{n:Nat}(h:EqP H x y n):∀ {A:Around}{u v:Value},Zt x u->Zt y v->A.units + n < cLine->ZkK X.prog X.w A s u v/\((∃ a c,x=.ref a/\y=.ref c) ->
  (∀ (E:VSP) (Q:VSP),Q (.bool true) s->wpAny (model X.prog X.w) A (richCompare .Eq u v) Q E s)/\∀ (E:VSP) (Q:VSP),Q (.bool false) s->wpAny (model X.prog X.w) A (richCompare .NotEq u v) Q E s):=by
 induction h with
 | deep h =>
  intro A u v r1 r2 hu
  obtain⟨z1,z2⟩:=h.at I r1 r2 hu
  exact⟨.of z1,λw=>⟨λE Q q=>z2 w _ _ E Q q,λE Q q=>h.neAt I r1 r2 hu w _ _ E Q q⟩⟩
 | @dct a b ka kb n ha hb hl h hN =>
  intro A u v r1 r2 hu
  cases r1
  cases r2
  obtain⟨_,n1,va,kv1,d1⟩:=JS I.hok ha
  obtain⟨_,n2,vb,kv2,d2⟩:=JS I.hok hb
  have hkeys:ka.map (·.1)=kb.map (·.1):=Vv λj=>by
   rw [Yg,Yg]
   by_cases c:j < ka.length
   ·have c2:j < kb.length:=by omega
    rw [Yb c,Yb c2]
    exact congrArg some (h j _ _ (Yb c) (Yb c2)).1
   ·rw [YZ (by omega),YZ (by omega)]
  have hNb:(vb.map (·.1)).Nodup:=by rw [<- kv2.keys,<- hkeys]; exact hN
  have lA:va.length=ka.length:=kv1.length.symm
  have lB:vb.length=kb.length:=kv2.length.symm
  have hits:∀ A:Around,A.units + n < cLine->KeqHits A s vb va true:=λA hA=>ZiN hNb 0 λj k v e=>by
   have hj:j < ka.length:=by rw [<- lA]; exact (Ye.mp e).1
   have hj2:j < kb.length:=by omega
   obtain⟨p1,r1⟩:=Zmc kv1 (Yb hj) e
   obtain⟨q,e2⟩:∃ q,vb[j]?=some q:=⟨_,Yb (by omega)⟩
   obtain⟨p2,r2⟩:=Zmc kv2 (Yb hj2) (show vb[j]?=some (q.1,q.2) from e2)
   obtain⟨p3,hd⟩:=h j _ _ (Yb hj) (Yb hj2)
   refine⟨q.2,?_,(hd.at I r1 r2 hA).1⟩
   rw [Nat.zero_add,e2,<- p1,p3,p2]
  have e1:∀ (E:VSP) (Q:VSP),Q (.bool true) s->wpAny (model X.prog X.w) A (richCompare .Eq (.ref a) (.ref b)) Q E s:=λE Q q =>
   PySem.W.keq_eq (A:=A) n1 n2 d1 d2 (by omega) (r:=true) (λ_=>hits _ (by show A.units + 1 + n < cLine; omega)) (by rw [show (va.length == vb.length && true)=true by rw [lA,lB,hl]; simp]; exact q)
  refine⟨ZkK.refs e1,λ_=>⟨e1,λE Q q=>?_⟩⟩
  exact PySem.W.keq_ne (A:=A) n1 n2 d1 d2 (by omega) (r:=true) (λ_=>hits _ (by show A.units + 1 + n < cLine; omega)) (by rw [show (!(va.length == vb.length && true))=false by rw [lA,lB,hl]; simp]; exact q)
 | @tup a b xs ys n ha hb hl h ih =>
  intro A u v r1 r2 hu
  cases r1
  cases r2
  obtain⟨its,v1,t1,_⟩:=I.tuple (SqT.of ha)
  obtain⟨jts,v2,t2,_⟩:=I.tuple (SqT.of hb)
  have he:∀ j (h1:j < its.toArray.size) (h2:j < jts.toArray.size),ZkK X.prog X.w A.in1 s its.toArray[j] jts.toArray[j]:=λj h1 h2=>by
   have k1:j < xs.length:=by rw [v1.length]; simpa using h1
   have k2:j < ys.length:=by rw [v2.length]; simpa using h2
   obtain⟨u1,q1,w1⟩:=v1.get (Yb k1)
   obtain⟨u2,q2,w2⟩:=v2.get (Yb k2)
   have g1:its.toArray[j]=u1:=by obtain⟨hh,this⟩:=List.getElem?_eq_some_iff.mp q1; simpa using this
   have g2:jts.toArray[j]=u2:=by obtain⟨hh,this⟩:=List.getElem?_eq_some_iff.mp q2; simpa using this
   rw [g1,g2]
   exact (ih j _ _ (Yb k1) (Yb k2) w1 w2 (by show A.units + 1 + n < cLine; omega)).1
  have hz:its.toArray.size=jts.toArray.size:=by simp [<- v1.length,<- v2.length,hl]
  have e1:∀ (E:VSP) (Q:VSP),Q (.bool true) s->wpAny (model X.prog X.w) A (richCompare .Eq (.ref a) (.ref b)) Q E s:=λE Q q=>Zlp t1 t2 hz (by omega) he q
  exact⟨ZkK.refs e1,λ_=>⟨e1,λE Q q=>Zmh t1 t2 hz (by omega) he q⟩⟩
def Zr3:R2:=λx y H Q=>∃ n a c,x=.ref a/\y=.ref c/\EqP H x y n/\n<=60/\Q (.bl true) H
def Zsh:R2:=λx y H Q=>∃ n a c,x=.ref a/\y=.ref c/\EqP H x y n/\n<=60/\Q (.bl false) H
end
structure BlkM(X:Cx)(ts:List Str)(caps:List Nat)(cs:List Str)(sc:Scope)(cl:List (Str × Addr))(x:Str):Prop where
 clos:closureFor sc X.env=pure cl
 kind:sc.kind=.function
 own:∀ n,cellsFrom n sc.names cl=(x,n) :: cl
 own0:∀ n,cellsFrom n sc.names []=[(x,n)]
 loc:∀ y∈sc.names,y.2=.local->sc.names.lookup y.1=some .local
 sub:∀ y c,cl.lookup y=some c->X.env.cells.lookup y=some c
 has:∀ y,((relabel sc X.env).names.lookup y=some .cell\/(relabel sc X.env).names.lookup y=some .free)->y=x\/∃ c,cl.lookup y=some c
 len:caps.length=cs.length
 cap:∀ (k:Nat) i y,caps[k]?=some i->cs[k]?=some y->X.N[i]?=some y/\(X.env.kindOf y=some .cell\/X.env.kindOf y=some .free)
 capK:∀ y∈cs,(relabel sc X.env).names.lookup y=some .cell\/(relabel sc X.env).names.lookup y=some .free
 capX:∀ y∈cs,y ≠ x
section
variable {X:Cx}{pins:List (Addr × Obj)}{σ:St}{H:Hp}{s:Shared}{ts cs:List Str}{caps:List Nat}{sc:Scope}{cl:List (Str × Addr)}{fp:List Addr}{x:Str}
variable {tg it elt:Expr}{pos:Pos}{wi:TI}{g:TG}{te:TE}
end
section
variable {prog:Program}{w:World}{A:Around}{E:VSP}{s:Shared}
def ZgN{T:String}{r d:Addr}{n:Nat}{Pi:Nat->Value->Prop}{OK:Heap->Prop}{Q:List Value->Shared->Prop}(Ks:PySem.W.KdlSrc prog w T r d n Pi OK)(hh:A.handled=none)(hok:OK s.heap)(hn:n<=sizeLine)
  (h:∀ h' tk (acc:Array Value),(∀ b o,s.heap.get? b=some o->h'.get? b=some o)->ItemsOf Pi acc n->s.heap.objs.size<=h'.objs.size->Q acc.toList { s with heap:=h',toks:=tk }) :
  wpAny (model prog w) A (collect (.ref r)) Q E s:=by
 unfold collect
 refine Ya (wpAny_runValue (Vm entry_proto_collect' ?_))
 rw [Vs F.plain_proto_collect _]
 show wpAny _ A.in1 (newList [] >>= λl=>again (.builtin "list.__iadd__" ⟨[l,.ref r],[]⟩)) _ _ s
 refine Ya (Vh ?_)
 refine Yc ⟨VO Yac _,Vm entry_list_iadd' ?_⟩
 rw [Vs Yac _]
 show wpAny _ A.in1 (Builtin.List.listExtendWith (.ref s.heap.objs.size) (.ref r) (.ref s.heap.objs.size)) _ _ _
 have lt:=Ks.there _ hok
 have key:=PySem.W.kdl_extend (A:=A) (s:={ s with heap:=s.heap.push (Zdx 0) })
  (R:=λ(q:Result) (s':Shared)=>∃ (h':Heap) (tk:Nat) (acc:Array Value) (c':Nat),q=.ok (.ret (.ref s.heap.objs.size))/\s'={ s with heap:=h',toks:=tk }/\(∀ b o,s.heap.get? b=some o->h'.get? b=some o) /\
   h'.get? s.heap.objs.size=some { cls:=.type "list",dict:=none,data:=.seq acc c',slots:=#[] }/\ItemsOf Pi acc n)
  Ks hh (Ks.keep _ _ hok λb _ o e=>Yi _ e) s.heap.objs.size (Vn lt.1) (Vn lt.2) (.ref s.heap.objs.size) 0 (Yo _ rfl)
  (λh' tk acc c' hk g i1=>⟨h',tk,acc,c',rfl,rfl,λb o e=>hk b o (Yn (Yh e)) (Yi _ e),g,i1⟩) hn
 refine Yx key (λfin s' x=>?_) λe s' x=>?_
 ·cases fin with
  | done f =>
   obtain⟨h',tk,acc,c',e,rfl,hk,g,i1⟩:=x
   cases e
   show wpAny _ A (load s.heap.objs.size >>= _) _ _ _
   exact Ya (VA g (Yc (h h' tk acc hk i1 (Yp (Yh g)))))
  | again c₁ =>
   refine⟨x.1,Y3 x.2 λq s₂ y=>?_⟩
   obtain⟨h',tk,acc,c',rfl,rfl,hk,g,i1⟩:=y
   show wpAny _ A (load s.heap.objs.size >>= _) _ _ _
   exact Ya (VA g (Yc (h h' tk acc hk i1 (Yp (Yh g)))))
 ·obtain⟨_,_,_,_,e',_⟩:=x
  cases e'
end
section
variable {X:Cx}{c d:Expr}{p pos:Pos}{ta:TA}
def Zg0:List V->Hp->VK->Prop:=λxs H Q=>∃ (a:Addr) (kvs:List (ZQ × V)) (ss:List Str),xs=[.ref a]/\Rd H a (.dK kvs)/\(kvs.map λkv=>kV kv.1)=ss.map V.str/\ss.length < 64/\∀ l H2 (ts:List Str),H l=none->Zk H H2->H2 l=some (.lst (ts.map V.str))->ts.Pairwise leS->ts.Perm ss->Q (.ref l) H2
def ZhY(hc:X.calm=true):Jl X (.builtin "sorted") Zg0:=by
 intro pins s σ H xs us Q I r h
 obtain⟨a,kvs,ss,rfl,e,hss,hl,q⟩:=h
 obtain⟨u,rfl,ru⟩:=JQ r
 cases ru
 obtain⟨z,hd,vs,rel,dd⟩:=JS I.hok e
 obtain⟨ep,at_⟩:=dd.dictAt
 have hkl:kvs.length=ss.length:=by have:=congrArg List.length hss; simpa using this
 refine Calls.call_function_entry kind_sorted plain_sorted entry_sorted (args_sorted1 _) ?_
 unfold Builtin.«sorted»
 refine Ya (m:=checkCount "sorted" 1 1 _) (Yc ?_)
 refine Ya (ZgN (A:=X.A.in1) (kdl_dict hd) (I.ok.hd hc) at_ (by rw [<- rel.length]; exact z) λh' tk acc hk hacc hD=>?_)
 obtain⟨hs,hacc⟩:=hacc
 have hsz:acc.size=ss.length:=by rw [hs,<- rel.length,hkl]
 have hv:Zq (ss.map V.str) acc.toList:=by
  rw [<- hss]
  refine ZdR ?_ λi x u e1 e2=>?_
  ·rw [Yf,hkl,YU]; exact hsz.symm
  ·obtain⟨k,x',g1,g2⟩:=hacc i u (by simpa using e2)
   have hi:i < kvs.length:=by have:=(List.getElem?_eq_some_iff.mp e1).1; simpa using this
   obtain⟨kv,v,g3,g4⟩:=Zjn rel hi
   rw [g1] at g4
   cases g4
   rw [Yg,g3] at e1
   cases e1
   exact ZnI g2
 have hS:=Zdv hv
 have hal:acc.toList.length < 64:=by rw [YU,hsz]; exact hl
 refine Ya (wpAny_newList ?_ (Yj (Yp hal) (by decide)))
 have hoL:(h'.push (seqObj "list" acc.toList.toArray 0)).get? h'.objs.size=some (seqObj "list" acc.toList.toArray 0):=Yo _ rfl
 refine Ya (Vi (Y5 slot_list_sort ⟨_,hoL,rfl⟩ entry_list_sort (list_sort_treeK strKind_oneLt hoL hS.keysOf (λv₁ v₂ Jk e=>keyKind_strs (by rw [<- e]; exact hS)) hal λst' hp hs'=>⟨_,rfl,?_⟩) (args_list_sort _)))
 obtain⟨ts,h1,h2,h3⟩:=sorted_out_str hS hp hs'
 obtain⟨c,e1⟩:=ZdD hoL (out:=(arrOf st').map (·.2))
 have hf:H h'.objs.size=none:=I.hok.fresh hD
 have hol:ts.length<=sizeLine:=by rw [h2.length_eq]; exact Yj (Yp hl) (by decide)
 refine Yc ⟨_,rfl,?_⟩
 exact⟨.ref h'.objs.size,upd H h'.objs.size (.lst (ts.map V.str)),I.laid (t':=tk) (o:=.lst (ts.map V.str)) (λb o eb=>Zb5 (Nat.ne_of_lt (Nat.lt_of_lt_of_le (Heap.lt_size eb) hD)) (Heap.get?_push_of_some _ (hk b o eb))) hD (show ZR X.prog X.w _ _ _ (.lst (ts.map V.str)) from ⟨by simpa using hol,((arrOf st').map (·.2)).toList,c,ZdG h1,by rw [Array.toArray_toList]; exact e1⟩),rfl,q _ _ ts hf (Jh hf _) Zf (ZfK h3) h2⟩
def Zgo{e:Expr}{t:TA}(hg:Gl X "sorted")(hm:X.mg "sorted"=none)(ha:QA X [e] t)(hp:Zz e=true:=by rfl)(hc:X.calm=true:=by rfl):QE X (.Call (.Name "sorted" p) [e] [] pos) (tCB Zg0 t) :=
 ⟨Zbw (ZhY hc) hg hm (by decide +kernel) ha.h (by decide) (by decide) (Zx hp) rfl⟩
end
def Zew:∀ {ns:List Int}{us:List Value},Zq (ns.map V.int) us->∃ ps:List (Int × Tok),us=ps.map (λp=>Value.int p.1 p.2)/\ps.map (·.1)=ns
 | [],us,h=>by cases h; exact⟨[],rfl,rfl⟩
 | n :: ns,us,h=>by
  cases h with
  | cons h1 h2 =>
   obtain⟨t,rfl⟩:=h1
   obtain⟨ps,rfl,e⟩:=Zew h2
   exact⟨(n,t) :: ps,rfl,by rw [Yr,e]⟩
def Zd6{ps:List (Int × Tok)}:∀ i,i<=ps.length->preSum (numAt ps.toArray) i=((ps.map (·.1)).take i).sum
 | 0,_=>rfl
 | i + 1,h=>by
  have hi:i < ps.length:=h
  show preSum (numAt ps.toArray) i + numAt ps.toArray i=_
  rw [Zd6 i (Yp hi),YB,Yg,Yb hi]
  simp [numAt,hi]
section
variable {X:Cx}{e:Expr}{t:TA}{p pos:Pos}
def Zk0:List V->Hp->VK->Prop:=λxs H Q=>∃ (a:Addr) (ns:List Int),xs=[.ref a]/\H a=some (.lst (ns.map V.int))/\Q (.int ns.sum) H
def ZkA(hc:X.calm=true):Jl X (.builtin "sum") Zk0:=by
 intro pins s σ H xs us Q I r h
 obtain⟨a,ns,rfl,e,q⟩:=h
 obtain⟨u,rfl,ru⟩:=JQ r
 cases ru
 obtain⟨_,its,n,hv,g⟩:=I.hok a _ e
 obtain⟨ps,rfl,ens⟩:=Zew hv
 have hL:s.heap.IsList a (intItems ps.toArray):=⟨_,g,rfl,n,by simp [intItems]⟩
 refine call_sum_walkG (iter_intList hL λs₂ es st hfp hlI=>?_)
 subst es
 refine⟨_,_,_,_,_,_,numAt ps.toArray,rfl,Walks.list (A:=X.A.in1) (I.ok.hd hc) _ a hlI (intItems ps.toArray),st,hfp,(λ_ _=>intItems_at),λh' tk t' hk=>?_⟩
 have hsz:(intItems ps.toArray).size=ps.length:=by simp [intItems]
 rw [hsz,Zd6 _ (Yd _),ens,VQ (by rw [<- ens,Yf]; exact Yd _)]
 exact⟨.int ns.sum,H,I.kept (old_kept hk),⟨t',rfl⟩,q⟩
def ZqD(hg:Gl X "sum")(hm:X.mg "sum"=none)(ha:QA X [e] t)(hp:Zz e=true:=by rfl)(hc:X.calm=true:=by rfl):QE X (.Call (.Name "sum" p) [e] [] pos) (tCB Zk0 t) :=
 ⟨Zbw (ZkA hc) hg hm (by decide +kernel) ha.h (by decide) (by decide) (Zx hp) rfl⟩
end
section
variable {X:Cx}{pins:List (Addr × Obj)}{σ:St}{H:Hp}{s:Shared}{a:Addr}{kvs:List (ZQ × V)}
end
section
variable {X:Cx}{o e f:Expr}{apos cpos:Pos}{td ty tx:TE}
end
section
variable {X:Cx}{a b:Expr}{p2 pos:Pos}{tx tb:TE}
def Zjf(ha:QE X a tx)(hb:QE X b tb):QE X (.Subscript a (.Slice none (some b) none p2) pos) (tSl (Zrj X.K) tx ZcN (ZhP tb)):=⟨Zl1 Znk ha.h Znm (ZoB hb.h)⟩
end
end My
set_option maxHeartbeats 4000000
namespace L2
open PySem PySem.Spec PyProof.Rows PySem.W
def Zd9(H:Hp)(P:Addr)(q:Str):Prop:=∃ t,H P=some (.tbl #[.str q t])
def ZdI(mg:Str->Option Value)(h:Heap):Prop:=∃ bm o,mg "__builtins__"=some (.ref bm)/\bm ≠ builtinsNs/\h.get? bm=some o/\o.cls=.type "module"/\o.dict=some builtinsNs/\o.data=.plain
def ZiO{P:Program}{w:World}{K:PySem.W.Frag}{mg mb:Str->Option Value}{CX:CXT}{k:Nat}{fa a:Addr}{fd:FuncData}{x:Str}{sp:Sp}{s₁:Shared}{vs:List Value}{ns:List Int}{T:Addr->Option Str}
  (KX:K.In s₁.heap) (hns:s₁.heap.Ns mainGlobals mg) (hb:s₁.heap.Ns builtinsNs mb) (hbb:∀ x:Str,x ≠ "__name__"->mb x=bootBuiltins x) (hlim:s₁.heap.NoLimit) (hg:s₁.gens=#[])
  (ha:s₁.heap.get? a=some { cls:=.type "list",data:=.seq vs.toArray }) (hi:IntsAre vs ns) (hl:ns.length<=sizeLine) (hr:Room k callerA)
  (hT:∀ b q,T b=some q->(∃ c,CodeHd s₁.heap c b)/\s₁.heap.get? b=some (tabObj #[])) (hKT:∀ b q,T b=some q->K.lookup b=none)
  (hB:ZdI mg s₁.heap) (F:∀ base:Heap,K.In base->base.Ns mainGlobals mg->ZdI mg base->FnOk P w K mg base CX k fa fd [x] sp) (hbind:∀ (s:Shared) (u:Value),BindsTo s fd ⟨[u],[]⟩ [(x,u)])
  (hsp:∀ H:Hp,(∀ b q,T b=some q->Zd9 H b q)->JC K H a (ns.map V.int)->sp [.ref a] H (λv _=>v=.bl true) λ_ _ _=>False)
  (hCX:∀ H e s',CX [] H s₁ (λ_ _ _=>False) e s'->False) :
  codeAny (model P w) callerA (.call (.ref fa) ⟨[.ref a],[]⟩) (λr s'=>r=.ok (.ret (.bool true))/\OldK s₁.heap s'.heap/\s'.os=s₁.os/\AllBare s'.gens) s₁:=by
 have rv:=ZbC hi
 have lenV:=hi.length
 let so:Obj:={ cls:=.type "list",data:=.seq vs.toArray }
 have hTa:T a=none:=by
  cases q:T a with
  | none=>rfl
  | some z =>
   have e:=(hT a z q).2
   rw [ha] at e
   cases e
 -- what may be tracked: the script,or a table
 have core:∀ H:Hp,(∀ b u,H b=some u->(b=a/\K.lookup a=none/\u=.frz so (.lst (ns.map V.int)))\/∃ q,T b=some q/\u=.tbl #[.str q 0])->(∀ b q,T b=some q->Zd9 H b q)->JC K H a (ns.map V.int) ->
   codeAny (model P w) callerA (.call (.ref fa) ⟨[.ref a],[]⟩) (λr s'=>r=.ok (.ret (.bool true))/\OldK s₁.heap s'.heap/\s'.os=s₁.os/\AllBare s'.gens) s₁:=by
  intro H hO hTH hS
  have hok:HOk P w H s₁.heap:=λb u e=>by
   rcases hO b u e with ⟨rfl,_,rfl⟩ | ⟨q,hq,rfl⟩
   ·exact⟨ha,by rw [Yf]; exact hl,vs,_,rv,ha⟩
   ·exact⟨#[],(hT b q hq).2,trivial,λpos v z=>by cases z⟩
  have free:∀ {b:Addr}{o:Obj},s₁.heap.get? b=some o->(∀ xs n,o.data ≠ .seq xs n)->(∀ ps,o.data ≠ .fields ps)->H b=none:=λ{b o} e d1 d2=>by
   cases q:H b with
   | none=>rfl
   | some u =>
    rcases hO b u q with ⟨rfl,_,_⟩ | ⟨z,hz,_⟩
    ·rw [ha] at e; cases e; exact absurd rfl (d1 _ _)
    ·rw [(hT b z hz).2] at e; cases e; exact absurd rfl (d2 _)
  have nsK:∀ {b:Addr}{m:Str->Option Value},s₁.heap.Ns b m->(ZlQ s₁.heap H).Ns b m:=λ{b m} ⟨o,es,ep,e,d,r⟩ =>
   ⟨o,es,ep,ZeX e (free e (λ_ _ z=>by rw [d] at z; cases z) λ_ z=>by rw [d] at z; cases z),d,r⟩
  have hKb:K.In (ZlQ s₁.heap H):=λb o e=>ZeX (KX b o e) (by
   cases q:H b with
   | none=>rfl
   | some u =>
    rcases hO b u q with ⟨rfl,z,_⟩ | ⟨z,hz,_⟩
    ·rw [z] at e; cases e
    ·rw [hKT b z hz] at e; cases e)
  have hM:Mod K mg (ZlQ s₁.heap H):=⟨hKb,nsK hns,⟨mb,nsK hb,hbb⟩,let ⟨mc,h1,h2⟩:=hlim; ⟨mc,nsK h1,h2⟩⟩
  have hBb:ZdI mg (ZlQ s₁.heap H):=by
   obtain⟨bm,o,b1,b2,b3,b4,b5,b6⟩:=hB
   exact⟨bm,o,b1,b2,ZeX b3 (free b3 (λ_ _ z=>by rw [b6] at z; cases z) λ_ z=>by rw [b6] at z; cases z),b4,b5,b6⟩
  have e0:Env0 P w K mg (ZlQ s₁.heap H) callerA [] s₁ H:=⟨rfl,hM,λb o e=>Znd e,Nat.le_of_eq (Zj9 _ _),trivial,λb hb=>absurd (show b∈([]:List Addr) from hb) (by simp),hok,.of_eq hg⟩
  refine Y3 ((F _ hKb (nsK hns) hBb).run callerA [] s₁ H ⟨[.ref a],[]⟩ [.ref a] [.ref a] _ _ hr e0 (hbind s₁ (.ref a)) (.cons rfl .nil) (hsp H hTH hS)) λr s' h=>?_
  match r,h with
  | .error e,h=>exact (hCX H e s' h).elim
  | .ok .next,h=>exact False.elim h
  | .ok .brk,h=>exact False.elim h
  | .ok .cont,h=>exact False.elim h
  | .ok (.ret u),h =>
   obtain⟨v,H',os,bare,un,hok',r',q⟩:=h
   have q':v=.bl true:=q
   subst q'
   obtain rfl:u=Value.bool true:=r'
   have kept:∀ b o,s₁.heap.get? b=some o->s'.heap.get? b=some o\/∃ ps,o=tabObj #[]/\isCodeTable s₁.heap b/\s'.heap.get? b=some (tabObj ps):=λb o e=>by
    cases q:H b with
    | none=>exact .inl (un.keep b o e q (by intro z; exact absurd (show b∈([]:List Addr) from z) (by simp)) (by simp))
    | some u =>
     rcases hO b u q with ⟨rfl,_,rfl⟩ | ⟨z,hz,rfl⟩
     ·obtain⟨e2,_⟩:=hok' b _ (un.frzs b _ _ q)
      rw [ha] at e
      cases e
      exact .inl e2
     ·obtain⟨more,q2⟩:=un.tbls b _ q
      obtain⟨ps,e2,_⟩:=hok' b _ q2
      obtain⟨⟨c,hc⟩,e3⟩:=hT b z hz
      rw [e3] at e
      cases e
      exact .inr ⟨ps,rfl,(hc.tab e3).isCodeTable,e2⟩
   refine⟨rfl,⟨λb o e=>?_,λb o e=>?_⟩,os,bare⟩
   ·rcases kept b o e with z | ⟨ps,rfl,ht,z⟩
    ·exact .inl z
    ·exact .inr (.inl ⟨ht,rfl,#[],ps,rfl,by rw [Array.empty_append]; exact z⟩)
   ·rcases kept b o e with z | ⟨ps,rfl,ht,z⟩
    ·exact⟨o,z⟩
    ·exact⟨_,z⟩
 cases hk:K.lookup a with
 | some o =>
  have e:=KX a o hk
  rw [ha] at e
  cases e
  refine core (λb=>(T b).map λq=>.tbl #[.str q 0]) (λb u z=>?_) (λb q z=>⟨0,by simp [z]⟩) (.inr ⟨_,vs.toArray,_,hk,rfl,rfl,rfl,by rw [List.size_toArray,lenV]; exact hl,by simpa using rv⟩)
  obtain⟨q,h1,h2⟩:=YT.mp z
  exact .inr ⟨q,h1,h2.symm⟩
 | none =>
  refine core (λb=>if b=a then some (.frz so (.lst (ns.map V.int))) else (T b).map λq=>.tbl #[.str q 0]) (λb u z=>?_) (λb q z=>⟨0,?_⟩) (.inl (.inr ⟨so,if_pos rfl⟩))
  ·by_cases hb:b=a
   ·have z':=(if_pos hb).symm.trans z
    cases z'
    exact .inl ⟨hb,hk,rfl⟩
   ·have z':=(if_neg hb).symm.trans z
    obtain⟨q,h1,h2⟩:=YT.mp z'
    exact .inr ⟨q,h1,h2.symm⟩
  ·have hb:b ≠ a:=λe=>by rw [e,hTa] at z; cases z
   show (if b=a then some (HO.frz so (.lst (ns.map V.int))) else (T b).map λq=>.tbl #[.str q 0])=_
   rw [if_neg hb,z]
   rfl
def Zhy(pos pos':Pos)(c:Value)(l:List Value)(h:TriplesOk l)(v:Value)(e:codeAmong pos' (l ++ [rawInt pos.line,rawInt pos.col,c])=some v):codeAmong pos' l=some v\/v=c:=by
 fun_induction TriplesOk l with
 | case1 =>
  simp only [List.nil_append,codeAmong,rawInt] at e
  split at e
  ·cases e; exact .inr rfl
  ·cases e
 | case2 a t b u x Jk ih =>
  simp only [List.cons_append,codeAmong] at e ⊢
  split at e
  ·rename_i q
   rw [if_pos q]
   exact .inl e
  ·rename_i q
   rw [if_neg q]
   exact ih h e
 | case3=>exact h.elim
def ZsC(P:Addr)(q:Str)(clos:List (Str × Addr))(params:Arguments)(body:Expr)(scope:Scope):TE:=λ_ H Q =>
 ∃ t,H P=some (.tbl #[.str q t])/\∀ (f c':Addr) (oc:Obj) (pm ctv:Value) (vs:Array Value) (t':Tok) (H2:Hp),H f=none->H2 f=some (.frz (kla_obj "<lambda>" q params body scope clos pm c' ctv) (.own P)) ->
  H2 c'=some (.frz oc (.own P))->oc.data=.fields vs->vs[1]?=some (.str q t')->Zk H H2->Q (.ref f) H2
def ZqB{X:Cx}{params:Arguments}{body:Expr}{scope:Scope}{pos:Pos}{c P:Addr}{q:Str}{clos:List (Str × Addr)}(hdef:defaultsOf params X.env=([],[]))(hcl:closureFor scope X.env=pure clos)(hcode:X.env.code=.ref c)
  (hC:CodeHd X.base c P) (hb:X.base.BuiltinsAt X.mg P) (hq:X.env.qual ++ "<lambda>"=q):PE X (.Lambda params body scope pos) (ZsC P q clos params body scope):=by
 intro pins s σ H Q I ⟨t,hP,k⟩
 subst hq
 obtain⟨qs,e,ht,hf⟩:=I.hok P _ hP
 have hgs:s.heap.Ns mainGlobals X.mg:=I.ok.mod.glob.keeps I.bk
 obtain⟨bm,ob,b1,b2,b3,b4,b5,b6⟩:=hb
 have hb':s.heap.BuiltinsAt X.mg P:=⟨bm,ob,b1,b2,b3,b4,I.bk _ _ b5,b6⟩
 have hgP:mainGlobals ≠ P:=λz=>by
  obtain⟨o,es,ep,e1,_⟩:=I.ok.mod.glob
  have:=(I.bs _ _ e1).2
  rw [z,hP] at this
  cases this
 have same:∀ {f:Addr}{u:HO},H f=none->Zk H (upd H f u):=λh b o z=>by rw [Zg (Zm z h)]; exact z
 cases hn:codeAmong pos qs.toList with
 | some v =>
  obtain⟨c',oc,vs,q0,t0,t1,rfl,h1,h2,h3,h4⟩:=hf pos v hn
  have hq0:q0=X.env.qual ++ "<lambda>":=by
   have h5:some (Value.str (X.env.qual ++ "<lambda>") t)=some (.str q0 t1):=h4
   cases h5
   rfl
  subst hq0
  refine kla_eval hdef (kla_makeFunctionHit (mg:=X.mg) hcl I.ok.glob hgs hcode (hC.keeps I.bk) e ht hn hb' λctv h' tk hk hsz=>?_)
  have hF:H h'.objs.size=none:=I.hok.fresh hsz
  refine⟨.ref h'.objs.size,upd H h'.objs.size (.frz _ (.own P)),I.laid (t':=tk) (λb o z=>Yi _ (hk b o z)) hsz ⟨Yo _ rfl,⟨_,Yo _ rfl⟩⟩,rfl,?_⟩
  exact k _ c' oc _ ctv vs t0 _ hF Zf (same hF _ _ h1) h2 h3 (same hF)
 | none =>
  refine kla_eval hdef (kla_makeFunction (mg:=X.mg) hcl I.ok.glob hgs hcode (hC.keeps I.bk) e ht hn hgP hb' λc' ctv h' tk hx hge hlt hrec htb=>?_)
  obtain⟨c2,oc,vs,t2,e2,hoc,hd,hv⟩:=hrec
  cases e2
  have hc:H c'=none:=I.hok.fresh hge
  have hF0:s.heap.objs.size<=h'.objs.size:=Yj hge (Yp hlt)
  have hF:H h'.objs.size=none:=I.hok.fresh hF0
  have hne:c' ≠ h'.objs.size:=Yn hlt
  let fo:Obj:=kla_obj "<lambda>" (X.env.qual ++ "<lambda>") params body scope clos ((X.mg "__name__").getD .none) c' ctv
  let H1:Hp:=upd H c' (.frz oc (.own P))
  let H2:Hp:=upd H1 h'.objs.size (.frz fo (.own P))
  have hF1:H1 h'.objs.size=none:=by show upd H c' _ _=_; rw [Zg (Ne.symm hne)]; exact hF
  have old:∀ b o,H b=some o->H2 b=some o:=λb o z=>by
   show upd H1 _ _ b=_
   rw [Zg (Zm (same hc b o z) hF1)]
   exact same hc b o z
  have keep:∀ b u,b ≠ P->s.heap.get? b=some u->(h'.push fo).get? b=some u:=λb u hb z=>Yi _ (hx b u hb z)
  have neP:∀ b,H b=none->b ≠ P:=λb z w=>by rw [w,hP] at z; cases z
  have atc:H2 c'=some (.frz oc (.own P)):=by show upd H1 _ _ c'=_; rw [Zg hne]; exact Zf
  have tab:(h'.push fo).get? P=some (tabObj (qs ++ #[rawInt pos.line,rawInt pos.col,.ref c'])):=Yi _ htb
  have un:Un X.fs [] H H2 s.heap (h'.push fo):=⟨λb o z n _ _=>keep b o (neP b n) z,λb o z n _ _=>⟨o.slots,keep b o (neP b n) z⟩,λb o z n _=>by
    have hlt:b < s.heap.objs.size:=Yh z
    show upd H1 _ _ b=_
    rw [Zg (Yn (Yy hlt hF0))]
    show upd H _ _ b=_
    rw [Zg (Yn (Yy hlt hge))]
    exact n,λb o z _=>by
    by_cases w:b=P
    ·subst w; exact⟨_,tab⟩
    ·exact⟨o,keep b o w z⟩,λb xs z=>old b _ z,λb o u z=>old b _ z,λb ps z=>⟨#[],by rw [Array.append_empty]; exact old b _ z⟩⟩
  have hok:HOk X.prog X.w H2 (h'.push fo):=λb u z=>by
   by_cases w1:b=h'.objs.size
   ·subst w1
    have z':some (HO.frz fo (.own P))=some u:=Zf.symm.trans z
    cases z'
    exact⟨Yo _ rfl,⟨_,Yo _ rfl⟩⟩
   ·by_cases w2:b=c'
    ·subst w2
     rw [atc] at z
     cases z
     exact⟨Yi _ hoc,⟨_,Yi _ hoc⟩⟩
    ·have z':H b=some u:=by
      have z2:upd H1 h'.objs.size (.frz fo (.own P)) b=some u:=z
      rw [Zg w1] at z2
      have z3:upd H c' (.frz oc (.own P)) b=some u:=z2
      rw [Zg w2] at z3
      exact z3
     by_cases w3:b=P
     ·subst w3
      rw [hP] at z'
      cases z'
      refine⟨_,tab,?_,λpos' v g=>?_⟩
      ·rw [Array.toList_append]; exact TriplesOk_snoc _ _ _ _ ht
      ·rw [Array.toList_append] at g
       rcases Zhy pos pos' _ _ ht v g with g | g
       ·obtain⟨c3,o3,v3,q3,t3,t4,g1,g2,g3⟩:=hf pos' v g
        exact⟨c3,o3,v3,q3,t3,t4,g1,old _ _ g2,g3⟩
       ·exact⟨c',oc,vs,_,t2,t,g,atc,hd,hv,rfl⟩
     ·refine (I.hok b u z').stay (λx v hxx g=>keep x v (λw=>?_) g) (λx g=>old x _ g) (λx xs g=>old x _ g) λx o g=>old x _ g
      rcases hxx with w4 | w4
      ·exact w3 (w4.symm.trans w)
      ·rw [w,hP] at w4
       cases w4
  exact⟨.ref h'.objs.size,H2,I.un (t':=tk) un hok,rfl,k _ c' oc _ ctv vs t2 H2 hF Zf atc hd hv old⟩
theorem ZbP{u:Value}{y:Str}:∀ {ps:List Str}{us:List Value}{i:Nat},ps.Nodup->us.length=ps.length->ps[i]?=some y->us[i]?=some u->(ps.zip us).reverse.lookup y=some u
 | [],_,_,_,_,h,_=>by simp at h
 | _ :: _,[],_,_,h,_,_=>by simp at h
 | p :: ps,v :: us,0,nd,_,h1,h2=>by
  simp at h1 h2
  subst h1 h2
  rw [List.zip_cons_cons,List.reverse_cons]
  have:(ps.zip us).reverse.lookup p=none:=by
   rw [List.lookup_eq_none_iff]
   intro z hz
   have hz':=(VX (a:=z.1) (b:=z.2) (List.mem_reverse.mp hz)).1
   simp only [beq_eq_false_iff_ne,ne_eq,Bool.not_eq_true,bne_iff_ne]
   intro e
   exact (Y7.mp nd).1 (by rw [e]; exact hz')
  rw [List.lookup_append,this]
  simp
 | p :: ps,v :: us,i + 1,nd,hl,h1,h2=>by
  rw [List.zip_cons_cons,List.reverse_cons,List.lookup_append,ZbP (List.nodup_cons.mp nd).2 (by simpa using hl) (by simpa using h1) (by simpa using h2)]
  rfl
def Zl6(CX:CXT)(P:Program)(w:World)(K:PySem.W.Frag)(mg:Str->Option Value)(base:Heap)(N:List Str)(q:Str)(scope:Scope)(f c':Addr)(clos:List (Str × Addr))(A:Around)(outer:List Env)(s:Shared)(H:Hp)(E:XK):Cx where
 prog:=P
 w:=w
 K:=K
 mg:=mg
 base:=base
 A:=A.deeper (envX q scope s.heap.objs.size f (.ref c') clos)
 N:=N
 s₀:=s
 H₀:=H
 env:=envX q scope s.heap.objs.size f (.ref c') clos
 outer:=outer
 stack:=envX q scope s.heap.objs.size f (.ref c') clos :: outer
 ex:=[]
 calm:=true
 fn:=λ_=>false
 pn:=[]
 xe:=λe s'=>wpAny (model P w) (A.deeper (envX q scope s.heap.objs.size f (.ref c') clos)) (leaving (envX q scope s.heap.objs.size f (.ref c') clos) e) (λ_ s''=>CX outer H s E e s'') (λe' s''=>CX outer H s E e' s'') s'
structure LamScope(ps fs:List Str)(sc:Scope)(clos:List (Str × Addr)):Prop where
 kind:sc.kind=.function
 co:sc.isCoroutine=false
 gen:sc.isGenerator=false
 nd:(ps ++ fs).Nodup
 par:∀ x∈ps,sc.names.lookup x=some .local
 fre:∀ x∈fs,sc.names.lookup x=some .free
 nocell:∀ y∈sc.names,y.2 ≠ .cell
 has:∀ y,sc.names.lookup y=some .free->∃ c,clos.lookup y=some c
structure Frees(fs:List Str)(ws:List V)(clos:List (Str × Addr))(outer:List Env)(H:Hp)(h:Heap):Prop where
 len:fs.length=ws.length
 val:∀ (i:Nat) (x:Str) (v:V),fs[i]?=some x->ws[i]?=some v->∃ c u,clos.lookup x=some c/\Zt v u/\h.IsCell c (some u)
 cell:∀ x c,clos.lookup x=some c->(∃ v,h.IsCell c v)/\H c=none
 inj:∀ x y c,clos.lookup x=some c->clos.lookup y=some c->x=y
def ZqS{CX:CXT}{P:Program}{w:World}{K:PySem.W.Frag}{mg:Str->Option Value}{base:Heap}{k:Nat}{f c':Addr}{q:Str}{params:Arguments}{body:Expr}{scope:Scope}{clos:List (Str × Addr)}{pm ctv:Value}{ps fs:List Str}
  {A:Around}{outer:List Env}{s:Shared}{H:Hp}{args:Args}{us:List Value}{vs ws:List V}{Q:VK}{E:XK}{t:TE}
  (hr:Room (k + 1) A) (e0:Env0 P w K mg base A outer s H) (ho:s.heap.get? f=some (kla_obj "<lambda>" q params body scope clos pm c' ctv)) (hcd:s.heap.CodeRec (.ref c') q)
  (hbind:bindArgs (kla_fn "<lambda>" q params body scope clos pm (.ref c') ctv) args=pure (ps.zip us)) (hl:vs.length=ps.length) (r:Zq vs us) (S:LamScope ps fs scope clos) (W:Frees fs ws clos outer H s.heap)
  (hbody:PE (Zl6 CX P w K mg base (ps ++ fs) q scope f c' clos A outer s H E) body t) (hq:t ((vs ++ ws).map some) H Q):codeAny (model P w) A (.call (.ref f) args) (CR CX outer P w H s Q E) s:=by
 have lim:s.heap.NoLimit:=e0.mod.nolimit.keeps λb o e=>(e0.bs b o e).1
 have hlu:us.length=ps.length:=by rw [<- r.length]; exact hl
 refine kla_callFunE (by have:=hr.dp; omega) ho rfl S.co S.gen rfl hcd ?_
 rw [hbind]
 refine Yc (wpAny_newFunctionEnv S.nocell (λy hy=>S.par _ (VX hy).1) (λh₁ hns hsb=>⟨lim.fresh _ hsb,?_⟩) S.kind)
 show codeAny _ _ (.expr body (envX q scope s.heap.objs.size f (.ref c') clos)) _ _
 have hk:∀ b o,s.heap.get? b=some o->h₁.get? b=some o:=λb o e=>hsb.extBut b o (Yn (Yh e)) (Yi _ e)
 have I:Inv (Zl6 CX P w K mg base (ps ++ fs) q scope f c' clos A outer s H E) [] ((vs ++ ws).map some) H { s with heap:=h₁,toks:=s.toks + (ps.zip us).length }:=by
  have noA:∀ b:Addr,b ∉ (Zl6 CX P w K mg base (ps ++ fs) q scope f c' clos A outer s H E).ex:=λb z=>absurd (show b∈([]:List Addr) from z) (by simp)
  refine⟨⟨e0.mod,S.kind,rfl,rfl,Yd _,W.inj,λy hy=>?_,λy c z _=>absurd z Yt,λ_=>hr.hd,Around.frames_deeper e0.frames,.inr ⟨rfl,rfl⟩,λb z=>absurd z (noA b),e0.bs,e0.bsz,λb _ _=>noA b,λb z=>absurd z (noA b),e0.funs,e0.frf⟩,
   rfl,e0.bare,Un.kept hk,⟨_,hns,λi y v h1 h2 h3=>?_⟩,λy c h=>?_,e0.hok.fresh (Nat.le_refl _),λy c h=>(W.cell y c h).2,λp hp=>absurd (show p∈([]:List (Addr × Obj)) from hp) (by simp),e0.hok.kept hk,?_⟩
  ·have hy:scope.names.lookup y=some .cell\/scope.names.lookup y=some .free:=hy
   rcases hy with hy | hy
   ·exact absurd rfl (S.nocell _ (Y4 hy))
   ·exact S.has y hy
  ·have h1:(ps ++ fs)[i]?=some y:=h1
   rw [Yg] at h2
   obtain⟨v',h2,h4⟩:=YT.mp h2
   cases h4
   by_cases hi:i < ps.length
   ·rw [YJ hi] at h1
    rw [YJ (by omega)] at h2
    obtain⟨u,hu,rv⟩:=r.get h2
    refine⟨u,rv,.inl ⟨S.par y (Ym h1),?_⟩⟩
    have nd:ps.Nodup:=(Vu.mp S.nd).1
    exact ZbP nd hlu h1 hu
   ·rw [YH (by omega)] at h1
    rw [YH (by omega),hl] at h2
    obtain⟨c,u,g1,g2,g3⟩:=W.val _ y v h1 h2
    obtain⟨o,g4,g5⟩:=g3
    exact⟨u,g2,.inr ⟨.inr (S.fre y (Ym h1)),c,g1,o,hk _ _ g4,g5⟩⟩
  ·obtain⟨⟨v,o,g1,g2⟩,_⟩:=W.cell y c h
   exact⟨v,o,hk _ _ g1,g2⟩
  ·show ((vs ++ ws).map some).length=(ps ++ fs).length
   rw [Yf,YM,YM,hl,W.len]
 refine kla_codeExpr (Yx (hbody [] _ _ H Q I hq) (λv s' hs=>?_) λe s' hs=>hs)
 obtain⟨x,H',J,rv,g⟩:=hs
 exact⟨x,H',J.os,J.bare,J.base,J.hok,rv,g⟩
end L2
namespace My
open PySem PySem.Spec L2
open PyProof.Rows hiding St
def ZrK(h:Heap)(ex:List Addr):List (Addr × Obj):=(List.range h.objs.size).filterMap λa=>if a∈ex then none else (h.get? a).map λo=>(a,o)
theorem Zde{h:Heap}{ex:List Addr}{a:Addr}{o:Obj}:(a,o)∈ZrK h ex ↔ a ∉ ex/\h.get? a=some o:=by
 unfold ZrK
 rw [List.mem_filterMap]
 constructor
 ·rintro⟨b,_,e⟩
  split at e
  ·cases e
  ·rename_i hb
   obtain⟨o',ho,e'⟩:=YT.mp e
   cases e'
   exact⟨hb,ho⟩
 ·rintro⟨n1,ho⟩
  refine⟨a,YD.mpr (Yh ho),?_⟩
  rw [if_neg n1,ho] <;> rfl
def Zdp(b:Bool)(ks:List Int)(xs ys:List V):Prop:=∃ ps:List (Int × V),ps.Perm (ks.zip xs)/\ys=ps.map Prod.snd/\ps.Pairwise (λp q=>if b then q.1<=p.1 else p.1<=q.1)
def Zix{zs:List (Int × V)}{ws ps:List (Int × Value)}(h:Paired (λ(p:Int × V) (q:Int × Value)=>p.1=q.1/\Zt p.2 q.2) zs ws)(p:ps.Perm ws):∃ qs:List (Int × V),qs.Perm zs/\Paired (λ(p:Int × V) (q:Int × Value)=>p.1=q.1/\Zt p.2 q.2) qs ps:=by
 induction p generalizing zs with
 | nil=>exact⟨zs,.refl _,h⟩
 | @cons x l1 l2 _ ih =>
  cases h with
  | @cons a b as bs h1 h2 =>
   obtain⟨qs,g1,g2⟩:=ih h2
   exact⟨_ :: qs,.cons _ g1,.cons h1 g2⟩
 | @swap x y l =>
  cases h with
  | @cons a b as bs h1 h2 =>
   cases h2 with
   | @cons c d cs ds h3 h4=>exact⟨_,.swap _ _ _,.cons h3 (.cons h1 h4)⟩
 | @trans l1 l2 l3 _ _ ih1 ih2 =>
  obtain⟨q2,g1,g2⟩:=ih2 h
  obtain⟨q1,g3,g4⟩:=ih1 g2
  exact⟨q1,g3.trans g1,g4⟩
def Zg7:∀ {ks:List Int}{xs:List V}{vs:List Value},Zq xs vs->Paired (λ(p:Int × V) (q:Int × Value)=>p.1=q.1/\Zt p.2 q.2) (ks.zip xs) (ks.zip vs)
 | [],_,_,_=>by rw [List.zip_nil_left,List.zip_nil_left]; exact .nil
 | _ :: _,_,_,.nil=>.nil
 | k :: ks,_,_,.cons h1 h2=>.cons ⟨rfl,h1⟩ (Zg7 h2)
def Zk7{b:Bool}{ks:List Int}{xs:List V}{vs out:List Value}(hv:Zq xs vs)(h:KskOut b ks vs out):∃ ys,Zq ys out/\Zdp b ks xs ys:=by
 obtain⟨ps,h1,rfl,h3⟩:=h
 obtain⟨qs,g1,g2⟩:=Zix (Zg7 (ks:=ks) hv) h1
 refine⟨qs.map Prod.snd,?_,qs,g1,rfl,?_⟩
 ·clear h1 h3 g1
  induction g2 with
  | nil=>exact .nil
  | cons h _ ih=>exact .cons h.2 ih
 ·clear h1 g1
  induction g2 with
  | nil=>exact .nil
  | @cons p q ps' qs' h t ih =>
   rw [List.pairwise_cons] at h3 ⊢
   refine⟨λx hx=>?_,ih h3.2⟩
   have:∃ y∈qs',x.1=y.1:=by
    clear ih h3
    induction t with
    | nil=>cases hx
    | cons h' _ ih' =>
     rcases Yl.mp hx with rfl | hx
     ·exact⟨_,Vt ..,h'.1⟩
     ·obtain⟨y,hy,e⟩:=ih' hx
      exact⟨y,Vd _ hy,e⟩
   obtain⟨y,hy,e⟩:=this
   have:=h3.1 y hy
   rw [h.1,e]
   exact this
section
variable {X:Cx}{pins:List (Addr × Obj)}{σ:St}{H:Hp}{s:Shared}{l:Addr}{xs:List V}{ks:List Int}{b:Bool}{f:Value}{kw:List (Str × Value)}{E:VSP}{Q:VSP}
def ZlT{D kS:Addr}{oK oD:Obj}{H1:Hp}{s1:Shared}{h':Heap}{tk c:Nat}{out:Array Value}{ys:List V}(I:Inv X (pins ++ [(kS,oK),(D,oD)]) σ H1 s1)(fD:JJ X pins H1 D)(fK:JJ X pins H1 kS)
  (ns:∀ m,s1.heap.Ns X.env.locals m->h'.Ns X.env.locals m) (kp:∀ a o,a ≠ X.env.locals->a ≠ kS->a ≠ D->s1.heap.get? a=some o->h'.get? a=some o) (eD:h'.get? D=some (seqObj "list" out c)) (hz:ys.length<=sizeLine) (hv:Zq ys out.toList) :
  Inv X pins σ (upd H1 D (.lst ys)) { s1 with heap:=h',toks:=tk }:=by
 have I0:Inv X pins σ H1 s1:=I.unpinned
 have ne:∀ {a:Addr}{o:HO},H1 a=some o->a ≠ D/\a ≠ kS:=λe=>⟨Zm e fD.1,Zm e fK.1⟩
 have off:∀ {a:Addr}{o:HO},H1 a=some o->upd H1 D (.lst ys) a=some o:=λe=>by rw [Zg (ne e).1]; exact e
 refine I0.step (g':=s1.gens) (d':=s1.drawn) (t':=tk) (ch:=[kS,D]) (λa ha=>?_) (λa o h1 _ hc e _=>?_) (λa o h1 _ hc e _=>?_) (λa o hc e n=>?_) (λa o hc e=>?_) (λa zs e=>off e) (λa o u e=>off e) (λa ps e=>⟨#[],by rw [Array.append_empty]; exact off e⟩) ns (λa u e=>?_) I0.bare
 ·rcases Yl.mp ha with rfl | ha
  ·exact⟨fK.2.2.2.1,fK.2.1,fK.2.2.2.2.1,fK.2.2.2.2.2⟩
  ·rw [YY.mp ha]
   exact⟨fD.2.2.2.1,fD.2.1,fD.2.2.2.2.1,fD.2.2.2.2.2⟩
 ·exact kp a o h1 (λz=>hc (by simp [z])) (λz=>hc (by simp [z])) e
 ·exact⟨o.slots,kp a o h1 (λz=>hc (by simp [z])) (λz=>hc (by simp [z])) e⟩
 ·rw [Zg (λz=>hc (by simp [z]))]
  exact n
 ·by_cases z:a=X.env.locals
  ·subst z
   obtain⟨m,hn,_⟩:=I0.loc
   obtain⟨o',_,_,e',_⟩:=ns m hn
   exact⟨o',e'⟩
  ·exact⟨o,kp a o z (λz=>hc (by simp [z])) (λz=>hc (by simp [z])) e⟩
 ·by_cases z:a=D
  ·subst z
   rw [Zf] at e
   cases e
   exact⟨hz,out.toList,c,hv,by simpa using eD⟩
  ·rw [Zg z] at e
   have trk:∀ c':Addr,(c'=a\/H1 c'=some (.own a))->c' ≠ X.env.locals/\c' ≠ kS/\c' ≠ D:=λc' hc=>by
    have:∃ o',H1 c'=some o':=by
     rcases hc with rfl | hc
     ·exact⟨_,e⟩
     ·exact⟨_,hc⟩
    obtain⟨o',e'⟩:=this
    exact⟨(λw=>by rw [w,I0.free] at e'; cases e'),(ne e').2,(ne e').1⟩
   refine (I0.hok a u e).stay (λc' v hc q=>?_) (λc' q=>off q) (λc' zs q=>off q) λc' o q=>off q
   obtain⟨n1,n2,n3⟩:=trk c' hc
   exact kp c' v n1 n2 n3 q
def Zmk{D kS:Addr}{e1:Nat}{vs:List Value}{P:PySem.Fin->Shared->Prop}{s0:Shared}{H0:Hp}(I:Inv X (pins ++ [(kS,seqObj "list" #[] 0),(D,seqObj "list" #[] e1)]) σ H0 s0)(sH:Zk H H0)(hHD:H D=none)(fD:JJ X pins H0 D)(fK:JJ X pins H0 kS)(hDK:kS ≠ D)(hv:Zq xs vs)(hlen:ks.length=xs.length)(h64:xs.length < 64)
  (turn:∀ (i:Nat) (x:V) (k:Int),xs[i]?=some x->ks[i]?=some k->∀ (pins':List (Addr × Obj)) (H':Hp) (s':Shared) (u:Value),Inv X pins' σ H' s'->Zk H H'->Zt x u ->
   wpAny (model X.prog X.w) X.A.in1.in1 (call f [u]) (λv s''=>∃ t H'',v=.int k t/\Inv X pins' σ H'' s''/\Zk H' H'') (λ_ _=>False) s')
  (h:∀ (H':Hp) (s':Shared) (ys:List V),Inv X pins σ H' s'->Zk H H'->H' D=some (.lst ys)->Zdp b ks xs ys->P (.done (.ret .none)) s') :
  wpAny (model X.prog X.w) X.A.in1.in1 (ksk_rest D f b vs.toArray e1 (.ref kS)) P E s0:=by
 have hvl:vs.length=xs.length:=hv.length.symm
 have mK:∀ {oK oD:Obj},(kS,oK)∈X.pn ++ (pins ++ [(kS,oK),(D,oD)]):=Yv _ (Yv _ (.head _))
 have mD:∀ {oK oD:Obj},(D,oD)∈X.pn ++ (pins ++ [(kS,oK),(D,oD)]):=Yv _ (Yv _ (.tail _ (.head _)))
 unfold ksk_rest
 refine Ya (Vp ?_)
 first
  | rw [List.forIn_toArray]
  | (rw [<- Array.forIn_toList]; simp only [List.toList_toArray])
  | rw [<- Array.forIn_toList]
 refine wpAny_bind (ksk_fold (λi s'=>∃ kA e H',Inv X (pins ++ [(kS,seqObj "list" kA e),(D,seqObj "list" #[] e1)]) σ H' s'/\Zk H H'/\IntsAre kA.toList (ks.take i)) vs 0 s0 ⟨#[],0,H0,I,sH,by simpa using IntsAre.nil⟩ ?step ?done)
 case step =>
  rintro j x s' hx ⟨kA,e,H1,I1,sH1,hk⟩
  simp only [Nat.zero_add] at hk ⊢
  have hj:j < vs.length:=(Ye.mp hx).1
  obtain⟨k,hkj⟩:∃ k,ks[j]?=some k:=⟨_,Yb (by omega)⟩
  have hxj:xs[j]?=some xs[j]:=Yb (by omega)
  obtain⟨u,hu,rv⟩:=hv.get hxj
  rw [hx] at hu
  cases hu
  have hz:kA.size<=vs.length:=by
   have h1:=hk.length
   rw [YU,Yz] at h1
   omega
  refine Ya (V1 (Yx (turn j _ k hxj hkj _ H1 s' x I1 sH1 rv) (λv s'' he=>?_) λ_ _ hF=>hF.elim))
  obtain⟨t,H2,rfl,I2,sH2⟩:=he
  try dsimp only
  have nk:=I2.pin (kS,seqObj "list" kA e) mK
  have na:=I2.pin (D,seqObj "list" #[] e1) mD
  have s1:=V9 s''.heap kS (Obj.mapSeq (·.push (.int k t)))
  obtain⟨c2,hc2⟩:∃ c2,(s''.heap.update kS (Obj.mapSeq (·.push (.int k t)))).get? kS=some (seqObj "list" (kA.push (.int k t)) c2):=⟨_,get?_update_seq nk.1 (·.push (.int k t))⟩
  have ek:ks.take (j + 1)=ks.take j ++ [k]:=by rw [List.take_add_one,hkj]; simp
  have ea:(kA.push (Value.int k t)).toList=kA.toList ++ [Value.int k t]:=by simp
  refine Ya (listUpdate_at nk.1 rfl ?_ (by rw [Va]; omega) (Yj (Nat.le_of_eq (Array.size_push ..)) (by rw [Va]; omega)))
  have I3:Inv X pins σ H2 s'':=I2.unpinned
  have I4:Inv X pins σ H2 { s'' with heap:=s''.heap.update kS (Obj.mapSeq (·.push (.int k t))),toks:=s''.toks }:=I3.turned (λb o hb q=>(s1.2 b hb).trans q) nk.2.1 fK.2.1 fK.2.2.2.1 fK.2.2.2.2.1 fK.2.2.2.2.2
  refine Yc ⟨rfl,kA.push (.int k t),c2,H2,I4.pins_of λp hp=>?_,sH1.trans sH2,by rw [ea,ek]; exact ksk_snoc hk⟩
  rcases YA.mp hp with hp | hp
  ·exact I4.pin p (Yv _ hp)
  ·rcases Yl.mp hp with rfl | hp
   ·exact⟨hc2,nk.2.1,nk.2.2.1,nk.2.2.2.1,λv z=>by cases z⟩
   ·rw [YY.mp hp]
    exact⟨(s1.2 D hDK.symm).trans na.1,na.2.1,na.2.2.1,na.2.2.2.1,λv z=>by cases z⟩
 case done =>
  rintro s' ⟨kA,e,H1,I1,sH1,hk⟩
  have hk':IntsAre kA.toList ks:=by
   have e3:ks.take (0 + vs.length)=ks:=VQ (by omega)
   rw [e3] at hk
   exact hk
  have nk:=I1.pin (kS,seqObj "list" kA e) mK
  have na:=I1.pin (D,seqObj "list" #[] e1) mD
  obtain⟨m0,hn,_⟩:=id I1.loc
  try dsimp only
  refine Ya (listItems_at nk.1 rfl ?_)
  have N:News (Att.noObjs s'.heap) X.env.locals s'.heap (ZrK s'.heap [X.env.locals,kS,D] ++ [(kS,seqObj "list" kA e),(D,seqObj "list" #[] e1)]):=by
   rintro⟨a,o⟩ hp
   rcases YA.mp hp with hp | hp
   ·obtain⟨g1,g2⟩:=Zde.mp hp
    exact⟨g2,λz=>g1 (by simp [show a=X.env.locals from z]),Att.noObjs_get _ _⟩
   ·rcases Yl.mp hp with q | hp
    ·cases q
     exact⟨nk.1,fK.2.1,Att.noObjs_get _ _⟩
    ·cases YY.mp hp
     exact⟨na.1,fD.2.1,Att.noObjs_get _ _⟩
  refine ksk_end_ (h₀:=Att.noObjs s'.heap) (L:=X.env.locals) (m:=m0) (Att.fr_all hn) N hDK (λp hp z=>?_) (λp hp z=>?_) hk' (by omega) (by omega) λh3 tk3 out c F3 N3 k3=>?_
  ·obtain⟨a,o⟩:=p
   exact (Zde.mp hp).1 (by simp [show a=kS from z])
  ·obtain⟨a,o⟩:=p
   exact (Zde.mp hp).1 (by simp [show a=D from z])
  ·obtain⟨ys,hys,hsk⟩:=Zk7 hv k3
   have hyl:ys.length=xs.length:=by
    obtain⟨ps,g1,g2,_⟩:=hsk
    rw [g2,Yf,g1.length_eq,List.length_zip]
    omega
   have fD1:JJ X pins H1 D:=⟨na.2.1,fD.2⟩
   have fK1:JJ X pins H1 kS:=⟨nk.2.1,fK.2⟩
   refine h _ _ ys (ZlT (tk:=tk3) (c:=c) (out:=out) I1 fD1 fK1 (λm hm=>?_) (λa o n1 n2 n3 q=>?_) (N3 (D,seqObj "list" out c) (Vt ..)).1 (by rw [hyl,Va]; omega) hys) (Zo hHD sH1) Zf hsk
   ·rw [hm.eq_nsMap,<- hn.eq_nsMap]
    exact F3.ns
   ·exact (N3 (a,o) (List.mem_cons_of_mem _ (Zde.mpr ⟨by simp [n1,n2,n3],q⟩))).1
def ZhZ(I:Inv X pins σ H s)(hl:H l=some (.lst xs))(h64:xs.length < 64)
  (ha1:argsOk "sorted" ⟨[.ref l],kw⟩) (ha2:∀ x,argsOk "list.sort" ⟨[.ref x],kw⟩) (ht:∀ x,Builtin.«list.sort» ⟨[.ref x],kw⟩=ksk_tree x f b)
  (Jk:∀ (D kS:Addr) (e1:Nat) (vs:List Value) (s0:Shared) (P:PySem.Fin->Shared->Prop),Inv X (pins ++ [(kS,seqObj "list" #[] 0),(D,seqObj "list" #[] e1)]) σ H s0->H D=none->JJ X pins H D->JJ X pins H kS->kS ≠ D->Zq xs vs ->
   (∀ s',Q (.ref D) s'->P (.done (.ret .none)) s')->wpAny (model X.prog X.w) X.A.in1.in1 (ksk_rest D f b vs.toArray e1 (.ref kS)) P E s0) :
  wpAny (model X.prog X.w) X.A (call (.builtin "sorted") [.ref l] kw) Q E s:=by
 obtain⟨hz,vs,n,hv,hvl,e⟩:=I.lstM hl
 have hvl':vs.length=xs.length:=by omega
 refine call_function_entry_kw kind_sorted plain_sorted entry_sorted ha1 ?_
 unfold Builtin.«sorted»
 refine Ya (m:=checkCount "sorted" 1 1 _) (Yc ?_)
 refine Ya (collect_list (vs:=vs) ⟨_,e,rfl,n,rfl⟩ ?_ (by rw [Va]; omega))
 refine Ya (wpAny_newList ?_ (by rw [Va]; omega))
 have hsz:((s.heap.push (seqObj "list" #[] 0)).update s.heap.objs.size (Obj.mapSeq (· ++ vs.toArray))).objs.size=s.heap.objs.size + 1:=by
  rw [Heap.size_update,size_push']
 have hoL:(((s.heap.push (seqObj "list" #[] 0)).update s.heap.objs.size (Obj.mapSeq (· ++ vs.toArray))).push (seqObj "list" vs.toArray 0)).get? (s.heap.objs.size + 1)=some (seqObj "list" vs.toArray 0):=by
  rw [<- hsz]; exact Yo _ rfl
 have keep:∀ b o,s.heap.get? b=some o->(((s.heap.push (seqObj "list" #[] 0)).update s.heap.objs.size (Obj.mapSeq (· ++ vs.toArray))).push (seqObj "list" vs.toArray 0)).get? b=some o:=λb o q=>by
  have hlt:b < s.heap.objs.size:=Yh q
  rw [Heap.get?_push_ne _ _ _ (by rw [hsz]; exact Yn (Vg hlt)),Heap.get?_update_ne _ _ _ _ (Yn hlt),Heap.get?_push_ne _ _ _ (Yn hlt)]
  exact q
 have hsz3:(((s.heap.push (seqObj "list" #[] 0)).update s.heap.objs.size (Obj.mapSeq (· ++ vs.toArray))).push (seqObj "list" vs.toArray 0)).objs.size=s.heap.objs.size + 2:=by rw [size_push',hsz]
 show wpAny _ _ _ _ _ { s with heap:=((s.heap.push (seqObj "list" #[] 0)).update s.heap.objs.size (Obj.mapSeq (· ++ vs.toArray))).push (seqObj "list" vs.toArray 0) }
 rw [hsz]
 generalize hh3:((s.heap.push (seqObj "list" #[] 0)).update s.heap.objs.size (Obj.mapSeq (· ++ vs.toArray))).push (seqObj "list" vs.toArray 0)=h3 at hoL keep hsz3 ⊢
 clear hh3 hsz
 refine Ya (Vi (wpAny_call_entry_kw slot_list_sort ⟨_,hoL,rfl⟩ entry_list_sort ?body (ha2 _)))
 case body =>
  have ht':=ht (s.heap.objs.size + 1)
  show wpAny (model X.prog X.w) X.A.in1.in1 (Builtin.«list.sort» ⟨[.ref (s.heap.objs.size + 1)],kw⟩) _ _ _
  rw [ht']
  generalize hD:s.heap.objs.size + 1=D at hoL ⊢
  obtain⟨e1,ho1⟩:∃ e1,(h3.update D (Obj.mapSeq λ_=>(#[]:Array Value))).get? D=some (seqObj "list" #[] e1):=⟨_,get?_update_seq hoL λ_=>#[]⟩
  have s1:=V9 h3 D (Obj.mapSeq λ_=>(#[]:Array Value))
  have hsz4:(h3.update D (Obj.mapSeq λ_=>(#[]:Array Value))).objs.size=s.heap.objs.size + 2:=by rw [Heap.size_update,hsz3]
  have keep4:∀ b o,s.heap.get? b=some o->(h3.update D (Obj.mapSeq λ_=>(#[]:Array Value))).get? b=some o:=λb o q=>(s1.2 b (Yn (hD ▸ Vg (Yh q)))).trans (keep b o q)
  unfold ksk_tree
  refine Ya (listItems_at hoL rfl ?_)
  refine Ya (listUpdate_at hoL rfl ?_ (by rw [YO,Va]; omega) (YF _))
  refine Ya (seqEpoch_at ho1 rfl ?_)
  refine Ya (wpAny_newTuple ?_ (by show vs.length<=_; rw [Va]; omega))
  refine Ya (wpAny_newList ?_ (YF _))
  refine Vi ?_
  have hkS:((h3.update D (Obj.mapSeq λ_=>(#[]:Array Value))).push (seqObj "tuple" vs.toArray 0)).objs.size=s.heap.objs.size + 3:=by rw [size_push',hsz4]
  have keep5:∀ b o,s.heap.get? b=some o->(((h3.update D (Obj.mapSeq λ_=>(#[]:Array Value))).push (seqObj "tuple" vs.toArray 0)).push (seqObj "list" #[] 0)).get? b=some o:=λb o q=>Yi _ (Yi _ (keep4 b o q))
  have fD:JJ X pins H D:=I.fpOk (by omega) (I.hok.fresh (by omega))
  have fK:JJ X pins H (s.heap.objs.size + 3):=I.fpOk (by omega) (I.hok.fresh (by omega))
  have I5:Inv X (pins ++ [(s.heap.objs.size + 3,seqObj "list" #[] 0),(D,seqObj "list" #[] e1)]) σ H { s with heap:=((h3.update D (Obj.mapSeq λ_=>(#[]:Array Value))).push (seqObj "tuple" vs.toArray 0)).push (seqObj "list" #[] 0),toks:=s.toks }:=by
   refine (I.kept (t':=s.toks) keep5).pins_of λp hp=>?_
   rcases YA.mp hp with hp | hp
   ·exact (I.kept (t':=s.toks) keep5).pin p (Yv _ hp)
   ·rcases Yl.mp hp with rfl | hp
    ·exact⟨by rw [<- hkS]; exact Yo _ rfl,fK.1,fK.2.1,fK.2.2.1,λv z=>by cases z⟩
    ·rw [YY.mp hp]
     exact⟨Yi _ (Yi _ ho1),fD.1,fD.2.1,fD.2.2.1,λv z=>by cases z⟩
  show wpAny (model X.prog X.w) X.A.in1.in1 (ksk_rest D f b vs.toArray e1 (.ref ((h3.update D (Obj.mapSeq λ_=>(#[]:Array Value))).push (seqObj "tuple" vs.toArray 0)).objs.size)) _ E { s with heap:=((h3.update D (Obj.mapSeq λ_=>(#[]:Array Value))).push (seqObj "tuple" vs.toArray 0)).push (seqObj "list" #[] 0),toks:=s.toks }
  rw [hkS]
  exact Jk D _ e1 vs _ _ I5 fD.1 fD fK (λz=>absurd (hD.trans z.symm) (by omega)) hv λs' hq=>⟨_,rfl,Yc ⟨_,rfl,hq⟩⟩
def ZrJ(I:Inv X pins σ H s)(hl:H l=some (.lst xs))(hlen:ks.length=xs.length)(h64:xs.length < 64)
  (ha1:argsOk "sorted" ⟨[.ref l],kw⟩) (ha2:∀ x,argsOk "list.sort" ⟨[.ref x],kw⟩) (ht:∀ x,Builtin.«list.sort» ⟨[.ref x],kw⟩=ksk_tree x f b)
  (turn:∀ (i:Nat) (x:V) (k:Int),xs[i]?=some x->ks[i]?=some k->∀ (pins':List (Addr × Obj)) (H':Hp) (s':Shared) (u:Value),Inv X pins' σ H' s'->Zk H H'->Zt x u ->
   wpAny (model X.prog X.w) X.A.in1.in1 (call f [u]) (λv s''=>∃ t H'',v=.int k t/\Inv X pins' σ H'' s''/\Zk H' H'') (λ_ _=>False) s')
  (h:∀ (D:Addr) (H':Hp) (s':Shared) (ys:List V),H D=none->Inv X pins σ H' s'->Zk H H'->H' D=some (.lst ys)->Zdp b ks xs ys->Q (.ref D) s') :
  wpAny (model X.prog X.w) X.A (call (.builtin "sorted") [.ref l] kw) Q E s:=by
 refine ZhZ I hl h64 ha1 ha2 ht λD kS e1 vs s0 P I5 hD fD fK hDK hv hP=>?_
 exact Zmk I5 (λ_ _ q=>q) hD fD fK hDK hv hlen h64 turn λH' s' ys I' sH' e' hsk=>hP _ (h D H' s' ys hD I' sH' e' hsk)
end
end My
namespace My
open PySem PySem.W PySem.Calls PyProof.Rows
structure KaOrd(lt:Nat->Nat->Bool):Prop where
 refl:∀ a,lt a a=false
 trans:∀ a b c,lt b a=false->lt c b=false->lt c a=false
 asym:∀ a b,lt a b=true->lt b a=false
section
variable {lt:Nat->Nat->Bool}{cmp:Nat->Nat->(Bool->Shared->Prop)->Shared->Prop}{I:Shared->Prop}{N:Nat}
def Zr9(N:Nat)(p:Array Nat):Prop:=p.Perm (List.range N).toArray
theorem Zr9.size{p:Array Nat}(h:Zr9 N p):p.size=N:=by
 have:=(Array.perm_iff_toList_perm.mp h).length_eq
 simpa using this
end
end My
namespace My
open PySem PySem.SeqAt PySem.MeetsSeq PySem.MeetsSeq2 PySem.MeetsSeq3 PyProof.Rows
open AutoSeq1 (wpAny_loadPart')
end My
namespace My
open PySem PySem.Spec L2
open PyProof.Rows hiding St
open PySem.W (kat_end kas_ask KatFin KasFin katRev)
section
variable {X:Cx}{pins:List (Addr × Obj)}{σ:St}{H:Hp}{s:Shared}{l:Addr}{xs:List V}{f:Value}{kw:List (Str × Value)}{E:VSP}{Q:VSP}{KeyIs:Nat->Hp->Value->Prop}{lt:Nat->Nat->Bool}{κ:SortKind}
end
end My
namespace My
open PySem PySem.Spec L2
open PyProof.Rows hiding St
open PySem.W (kat_lt kat_cons kat_nil kat_yes kat_no kat_one kat_kind KatTups KatLex KatGo)
structure Sto{α:Type}(r:α->α->Bool):Prop where
 irr:∀ a,r a a=false
 tr:∀ a b c,r a b=true->r b c=true->r a c=true
 tri:∀ a b,r a b=false->r b a=false->a=b
def Sto.asym{α:Type}{r:α->α->Bool}(h:Sto r){a b:α}(e:r a b=true):r b a=false:=by
 cases q:r b a with
 | false=>rfl
 | true=>have:=h.tr _ _ _ e q; rw [h.irr] at this; cases this
def Sto.ka{α:Type}{r:α->α->Bool}(h:Sto r)(f:Nat->α):KaOrd λi j=>r (f i) (f j) where
 refl a:=h.irr _
 trans a b c h1 h2:=by
  cases q:r (f c) (f a) with
  | false=>rfl
  | true =>
   exfalso
   cases q2:r (f b) (f c) with
   | true=>have:=h.tr _ _ _ q2 q; rw [h1] at this; cases this
   | false =>
    have e:=h.tri _ _ q2 h2
    rw [e,q] at h1
    cases h1
 asym a b e:=h.asym e
section
variable {X:Cx}{pins:List (Addr × Obj)}{σ:St}{H:Hp}{s:Shared}{E:VSP}
end
end My
namespace My
open PySem PySem.Spec L2
open PyProof.Rows hiding St
def Zsc(q:V->Hp->Prop):List V->Hp->Prop
 | [v],H=>q v H
 | _,_=>False
def Zm5{q:V->Hp->Prop}{vs:List V}{H:Hp}(h:Zsc q vs H):∃ v,vs=[v]/\q v H:=by
 match vs,h with
 | [v],h=>exact⟨v,rfl,h⟩
section
variable {X:Cx}{p pos kp:Pos}{e ek:Expr}{te tk:TE}{k:Nat}
end
section
variable {X:Cx}{j k:Nat}{x y:Str}{sp:Sp}{p:Pos}
def Zpu{pins:List (Addr × Obj)}{σ:L2.St}{H:Hp}{s:Shared}{Q:VK}{us:List Value}{f:Addr}(I:Inv X pins σ H s)(h:codeAny (model X.prog X.w) X.A.in1.in1 (.call (.ref f) ⟨us,[]⟩) (CR ZC X.stack X.prog X.w H s Q E0) s) :
  wpAny (model X.prog X.w) X.A.in1.in1 (call (.ref f) us) (EP X pins σ Q) (λ_ _=>False) s:=by
 refine wpAny_call (Y3 h λr s' hq=>?_)
 cases r with
 | error e=>exact hq
 | ok fl =>
  cases fl with
  | ret u=>exact I.after hq
  | next=>exact False.elim hq
  | brk=>exact False.elim hq
  | cont=>exact False.elim hq
def Zss{P:Program}{w:World}{K:PySem.W.Frag}{mg:Str->Option Value}{base:Heap}{x qual:Str}{st:Stmt}{f c:Addr}{fd:FuncData}{N ps:List Str}{k:Nat}{sp:Sp}(F:Fun K x qual st f fd)(hc:fd.code=.ref c)(S:FnScope N ps (Za st))(len:∀ vs H Q E,sp vs H Q E->vs.length=ps.length)
  (hbody:∀ (A:Around) (outer:List Env) (s:Shared) (H:Hp) (vs:List V) (Q:VK) (E:XK),Room k (A.deeper (envOfC qual (Za st) s.heap.objs.size f (.ref c)))->sp vs H Q E ->
   ∃ t,QB (Zif ZC P w K mg base N qual (Za st) f (.ref c) A outer s H E).nox (Zs st) t/\t { nx:=λ_ H'=>Q .non H',rt:=Q } (Zu N vs) H):FnOk P w K mg base ZC (k + 1) f fd ps sp:=by
 obtain⟨oc,od,kV,doc,pm,an,cdv,ct,osl,rfl,lk,hcd⟩:=F.ex
 have hc:cdv=.ref c:=hc
 subst hc
 refine ZnM lk hcd S len λA outer s H vs Q E hr hsp=>?_
 obtain⟨t,h,q⟩:=hbody A outer s H vs Q E hr hsp
 exact⟨t,h.h.nox,q⟩
end
end My
namespace L2
open PySem PySem.Spec PyProof.Rows PySem.W
def Zjx{l:PySem.W.OpenLaw}{n k:Nat}{q:Program}{loose:List Str}{XP:(Str->Option Value)->Heap->Prop}{YP:World->Heap->Prop}{d:DefRec}{K:Params->PySem.W.Frag}{CX:CXT}{sp:PySem.W.Frag->Sp}{x:Str}(T:Addr->Option Str)
  (hn:l.most=some n) (hn2:n<=sizeLine) (hdf:d.params.defaults=[]) (hr:Room k callerA)
  (hY:∀ (w:World) (h:Heap),YP w h->(K w.params).In h)
  (hT:∀ (w:World) (h:Heap),YP w h->∀ b q,T b=some q->(∃ c,CodeHd h c b)/\h.get? b=some (tabObj #[])) (hKT:∀ (w:World) b q,T b=some q->(K w.params).lookup b=none)
  (F:∀ (w:World) (mg:Str->Option Value) (fa:Addr) (h:Heap),(K w.params).In h->h.Ns mainGlobals mg->mg d.name=some (.ref fa) ->
   ∃ fd:FuncData,(∀ (s:Shared) (u:Value),BindsTo s fd ⟨[u],[]⟩ [(x,u)]) /\
    ∀ base:Heap,(K w.params).In base->base.Ns mainGlobals mg->ZdI mg base->FnOk l.prog w (K w.params) mg base CX k fa fd [x] (sp (K w.params)))
  (hsp:∀ (K:PySem.W.Frag) (H:Hp) (a:Addr) (ns:List Int),ns.length<=n->(∀ b q,T b=some q->Zd9 H b q)->JC K H a (ns.map V.int)->sp K [.ref a] H (λv _=>v=.bl true) λ_ _ _=>False)
  (hCX:∀ (H:Hp) (s:Shared) (e:Value) (s':Shared),CX [] H s (λ_ _ _=>False) e s'->False) :
  PySem.W.WalkO q loose XP YP l.row.toRowW d [] (λf vs=>PySem.call f vs):=by
 refine Att.attach_call hn hdf λw s₀ s₁ mg mb fa o pm cd doc a vs ns G Y ho hd hcd hmg hobj hints hlen hg=>?_
 have KX:=hY w _ Y
 obtain⟨fd,hb,hF⟩:=F w mg fa _ KX G.T.g hmg
 exact ZiO (T:=T) KX G.T.g G.T.b G.T.builtins G.T.nolimit hg hobj hints (Yj hlen hn2) hr (hT w _ Y) (hKT w) (by obtain⟨bm,o,b1,b2,b3,b4,b5,b6⟩:=G.T.bmain; exact⟨bm,o,b1,b2,b3,b4,b5,b6⟩) hF hb (λH hO hS=>hsp (K w.params) H a ns hlen hO hS) λH e s'=>hCX H s₁ e s'
end L2
namespace My
open PySem PySem.Spec L2
open PyProof.Rows hiding St
instance (a b:Str):Decidable (leS a b):=inferInstanceAs (Decidable (a.cps.toList<=b.cps.toList))
def leB(a b:Str):Bool:=decide (leS a b)
def srt(l:List Str):List Str:=l.mergeSort leB
def Zi5{a b c:Str}(h1:leS a b)(h2:leS b c):leS a c:=List.le_trans h1 h2
def ZiV(a b:Str):leS a b\/leS b a:=List.le_total _ _
def ZaH(l:List Str):(srt l).Perm l:=List.mergeSort_perm _ _
def Zql(l:List Str):(srt l).Pairwise leS:=by
 have:=List.pairwise_mergeSort (le:=leB) (λa b c h1 h2=>YR (Zi5 (YN h1) (YN h2))) (λa b=>by
  rcases ZiV a b with h | h
  ·rw [Bool.or_eq_true]; exact .inl (YR h)
  ·rw [Bool.or_eq_true]; exact .inr (YR h)) l
 exact this.imp λh=>YN h
def Zhb{l m:List Str}(h:m.Pairwise leS)(p:m.Perm l):m=srt l:=Zgq h (Zql l) (p.trans (ZaH l).symm)
def Zmq(X:Cx)(σ:L2.St)(H:Hp)(ky:V->Int)(xs:List V)(fv:V):Prop:=∃ f,fv=.ref f/\∀ (pins:List (Addr × Obj)) (H':Hp) (s':Shared) (x:V) (u:Value),x∈xs->Inv X pins σ H' s'->Zk H H'->Zt x u ->
 wpAny (model X.prog X.w) X.A.in1.in1 (call (.ref f) [u]) (λv s''=>∃ t H'',v=.int (ky x) t/\Inv X pins σ H'' s''/\Zk H' H'') (λ_ _=>False) s'
def Zn5(X:Cx)(σ:L2.St)(Q:VK)(v:V):V->Hp->Prop:=λfv H2=>∃ a xs ky,v=.ref a/\H2 a=some (.lst xs)/\xs.length < 64/\Zmq X σ H2 ky xs fv/\∀ D H3 ys,H2 D=none->Zk H2 H3->H3 D=some (.lst ys)->Zdp true (xs.map ky) xs ys->Q (.ref D) H3
def Zmn(X:Cx)(te tk:TE):TE:=λσ H Q=>te σ H λv H1=>tk σ H1 (Zn5 X σ Q v)
def Zr4(q:V->Hp->Prop):List V->Hp->Prop
 | [v,.bl true],H=>q v H
 | _,_=>False
def Znq{q:V->Hp->Prop}{vs:List V}{H:Hp}(h:Zr4 q vs H):∃ v,vs=[v,.bl true]/\q v H:=by
 match vs,h with
 | [v,.bl true],h=>exact⟨v,rfl,h⟩
section
variable {X:Cx}{p pos kp kp2:Pos}{e ek eb:Expr}{te tk:TE}
def Zlf(hg:Gl X "sorted")(hm:X.mg "sorted"=none)(ha:PE X e te)(hk:PE X ek tk)(hb:PE X eb (tC (.bl true)))(hs:starEach [e] X.env=[(false,eval e X.env)]:=by rfl)
  (hks:(backToKw pos (keywordEach [⟨some "key",ek,kp⟩,⟨some "reverse",eb,kp2⟩] X.env)).filterMap (·.1)=[Str.ofString "key",Str.ofString "reverse"]:=by rfl) :
  PE X (.Call (.Name "sorted" p) [e] [⟨some "key",ek,kp⟩,⟨some "reverse",eb,kp2⟩] pos) (Zmn X te tk):=by
 intro pins s σ H Q I h
 refine Vf (ZbB I hg hm (show bootBuiltins "sorted"=some (.builtin "sorted") from rfl) ?_ (by decide) (by decide))
 refine callWith_kw ?_ (by rw [hs]; rfl) (by rw [hs]; rfl)
 refine ZZ (Zit ha ZmB hs pos pins s σ H (Zsc λv H1=>tk σ H1 (Zn5 X σ Q v)) I h) ?_
 rintro us s1 ⟨vs,H1,I1,r1,q⟩
 obtain⟨v,rfl,q⟩:=Zm5 q
 refine ZZ (Zj3 (kws:=[⟨some "reverse",eb,kp2⟩]) hk (Zj3 hb ZpN) pos pins s1 σ H1 (Zr4 (Zn5 X σ Q v)) I1 q) ?_
 rintro ws s2 ⟨zs,H2,I2,r2,q2⟩
 obtain⟨fv,rfl,q2⟩:=Znq q2
 obtain⟨a,xs,ky,rfl,hl,h64,⟨f,rfl,hf⟩,q3⟩:=q2
 cases r1 with
 | cons r1 r1' =>
  cases r1'
  cases r1
  cases r2 with
  | cons r2 r2' =>
   cases r2' with
   | cons r3 r3' =>
    cases r3'
    cases r2
    cases r3
    rw [hks]
    refine ZrJ (b:=true) (f:=.ref f) (ks:=xs.map ky) I2 hl (Yf ..) h64 (ksk_s2 _ _ _) (λx=>ksk_l2 _ _ _) (λx=>ksk_t2 _ _ _) (λi x k hx hki pins' H' s' u I' sm r=>?_) λD H' s' ys hD I' sm e' hs=>⟨.ref D,H',I',rfl,q3 D H' ys hD sm e' hs⟩
    rw [Yg,hx] at hki
    cases hki
    exact hf pins' H' s' x u (Ym hx) I' sm r
def Zlx(X:Cx)(P:Addr)(q:Str)(i:Nat)(t:TE):TE:=λσ H Q=>Zd9 H P q/\∃ w,σ[i]?=some (some w)/\∀ fv H2,Zk H H2->(∀ (xs:List V) (ky:V->Int),(∀ x∈xs,∀ (H':Hp) (k:VK),Zk H2 H'->(∀ H'',Zk H' H''->k (.int (ky x)) H'')->t [some x,some w] H' k)->Zmq X σ H2 ky xs fv)->Q fv H2
theorem ZhH{params:Arguments}{body:Expr}{scope:Scope}{c P cz:Addr}{q y z:Str}{t:TE}{i k:Nat}(hdef:defaultsOf params X.env=([],[]))(hcl:closureFor scope X.env=pure [(z,cz)])(hcz:X.env.cells.lookup z=some cz)(hcode:X.env.code=.ref c)
  (hC:codeHdIn X.K c P=true) (hB:ZdI X.mg X.base) (hq:X.env.qual ++ "<lambda>"=q) (hr:Room (k + 3) X.A) (S:LamScope [y] [z] scope [(z,cz)]) (hN:X.N[i]?=some z) (hv:Vis X.env.scope z) (hloc:X.env.scope.names.lookup z ≠ some .local)
  (hbind:∀ (pm ctv u:Value) (c':Addr),bindArgs (PySem.W.kla_fn "<lambda>" q params body scope [(z,cz)] pm (.ref c') ctv) ⟨[u],[]⟩=pure [(y,u)])
  (hbody:∀ (f c':Addr) (s:Shared) (H:Hp),QE (Zl6 ZC X.prog X.w X.K X.mg X.base [y,z] q scope f c' [(z,cz)] X.A.in1.in1 X.stack s H E0) body t) :
  PE X (.Lambda params body scope pos) (Zlx X P q i t):=by
 intro pins s σ H Q I ⟨⟨tk,hP⟩,w,hw,h⟩
 have hb:X.base.BuiltinsAt X.mg P:=by
  obtain⟨bm,o,b1,b2,b3,b4,b5,b6⟩:=hB
  refine⟨bm,o,b1,b2,λz=>?_,λz=>?_,b3,b4,b5,b6⟩
  ·obtain⟨o',es,ep,e,d,_⟩:=I.ok.mod.glob
   rw [z,e] at b3
   cases b3
   rw [d] at b6
   cases b6
  ·have:=(I.bs _ _ b3).2
   rw [z,hP] at this
   cases this
 refine ZqB hdef hcl hcode (codeHd_of_K I.ok.mod.kin hC) hb hq pins s σ H Q I ⟨tk,hP,λf c' oc pm ctv vs t' H2 hf hf2 hc2 hd hv' sm=>h _ H2 sm λxs ky hx=>⟨f,rfl,λpins' H' s' x u hxm I' sm' r=>?_⟩⟩
 have ho:=(I'.hok f _ (sm' _ _ hf2)).1
 have hoc:=(I'.hok c' _ (sm' _ _ hc2)).1
 refine ZZ (Zpu (Q:=λv H''=>v=.int (ky x)/\Zk H' H'') I' (ZqS (k:=k) (ps:=[y]) (fs:=[z]) (ws:=[w]) (vs:=[x]) (us:=[u]) hr.in1.in1 ?_ ho ⟨c',oc,vs,t',rfl,hoc,hd,hv'⟩ (hbind _ _ _ _) rfl (.cons r .nil) S ?_ (hbody f c' s' H').h (hx x hxm H' _ sm' λH'' sm2=>⟨rfl,sm2⟩))) ?_
 ·exact⟨I'.ok.frames,I'.ok.mod,I'.bs,Yj I'.ok.bsz I'.sz,I'.stack,I'.stkFree,I'.hok,I'.bare⟩
 ·have hcell:∀ x c0,List.lookup x [(z,cz)]=some c0->x=z/\c0=cz:=λx c0 e=>by
   simp only [List.lookup] at e
   split at e
   ·rename_i hh
    cases e
    exact⟨by simpa using hh,rfl⟩
   ·cases e
  refine⟨rfl,λj x v e1 e2=>?_,λx c0 e=>?_,λx x' c0 e e'=>by rw [(hcell _ _ e).1,(hcell _ _ e').1]⟩
  ·match j with
   | 0 =>
    cases e1
    cases e2
    obtain⟨m,_,hl⟩:=I'.loc
    obtain⟨u',ru,lk⟩:=hl i z w hN hw hv
    rcases lk with ⟨hl',_⟩ | ⟨_,c0,hc0,hce⟩
    ·exact absurd hl' hloc
    ·have:c0=cz:=YW (hc0.symm.trans hcz)
     subst this
     exact⟨c0,u',by simp,ru,hce⟩
   | j + 1=>cases e1
  ·obtain⟨rfl,rfl⟩:=hcell x c0 e
   exact⟨I'.cell _ _ hcz,I'.freeC _ _ hcz⟩
 ·rintro v s'' ⟨w',H'',I'',r'',rfl,sm2⟩
  obtain⟨t2,rfl⟩:=r''
  exact⟨t2,H'',rfl,I'',sm2⟩
theorem Zm8(hg:Gl X "sorted")(hm:X.mg "sorted"=none)(ha:QE X e te)(hk:QE X ek tk)(hb:QE X eb (tC (.bl true)))(hp:Zz e=true:=by rfl):QE X (.Call (.Name "sorted" p) [e] [⟨some "key",ek,kp⟩,⟨some "reverse",eb,kp2⟩] pos) (Zmn X te tk) :=
 ⟨Zlf hg hm ha.h hk.h hb.h (Zx hp) rfl⟩
end
section
variable {prog:Program}{w:World}{A:Around}{E:VSP}{s:Shared}{κ:Type}[DecidableEq κ]{knd:KeyKind prog w κ}
end
section
variable {prog:Program}{w:World}{A:Around}{E:VSP}{s:Shared}
end
section
variable {X:Cx}{l m:Expr}{ta:TA}{p pos pos':Pos}{es:List Expr}
end
section
variable {X:Cx}{a b o i e:Expr}{ta tb to ti te:TE}{pos tpos:Pos}{t:TA}{p:Pos}
def ZlG(ha:QE X a ta)(hb:QE X b tb):QE X (.BinOp a .Mult b pos) (tOp Zre ta tb):=⟨Zc7 ZqJ ha.h hb.h⟩
def Zig:Zr6 X ZgC:=by
 intro pins s σ H x y v u Q I rx ry h
 obtain⟨p,xs,i,z,rfl,rfl,hq,he,q⟩:=h
 cases rx
 obtain⟨t,rfl⟩:=ry
 obtain⟨its,r,pl,hz⟩:=I.list (JC.of hq)
 obtain⟨j,h1,h2,h3,h4,h5⟩:=Ze6 he
 obtain⟨w,ew,rw'⟩:=r.get h2
 have hl:=r.length
 have hn:=Zer
 have fin:EP X pins σ Q w s:=⟨z,H,I,rw',q⟩
 by_cases h0:0<=i
 ·have hj:i.toNat=j:=by
   rw [seqIndex_of h0 h5] at h1
   exact YW h1
  exact wpAny_getItem_list pl.isList h0 (by omega) (by rw [hj]; simpa using ew) fin
 ·have hj:(i + (its.toArray.size:Int)).toNat=j:=by
   rw [seqIndex_neg (by omega) h4] at h1
   rw [YO,<- hl]
   exact YW h1
  exact wpAny_getItem_list_neg pl.isList (by omega) (by rw [List.size_toArray] <;> omega) (by omega) (by rw [hj]; simpa using ew) fin
def ZmE(ho:QE X o to)(hi:QE X i ti)(he:QE X e te)(ha:∀ ov iv new,augStore i ov iv new=(do holding [new,ov,iv] (setItem ov iv new); release [new,ov,iv] []; pure .next):=by intros; rfl) :
  QS X (.AugAssign (.Subscript o i tpos) .Add e pos) (Zj6 to ti te ZgC (ipI λi j=>i + j) ZjE):=⟨Zi8 ho.h hi.h Zig he.h Zp7 Zhk ha⟩
def Zqa(ho:QE X o to)(hi:QE X i ti)(he:QE X e te)(ha:∀ ov iv new,augStore i ov iv new=(do holding [new,ov,iv] (setItem ov iv new); release [new,ov,iv] []; pure .next):=by intros; rfl) :
  QS X (.AugAssign (.Subscript o i tpos) .Sub e pos) (Zj6 to ti te ZgC (rI0 λi j=>.int (i - j)) ZjE):=⟨Zi8 ho.h hi.h Zig he.h ZoP Zhk ha⟩
def Zl2:List V->Hp->VK->Prop:=λxs H Q=>∃ (a:Addr) (bs:List Bool),xs=[.ref a]/\H a=some (.lst (bs.map V.bl))/\Q (.bl (bs.all id)) H
def Zez:∀ {bs:List Bool}{us:List Value},Zq (bs.map V.bl) us->us=bs.map Value.bool
 | [],us,h=>by cases h; rfl
 | b :: bs,us,h=>by
  cases h with
  | cons h1 h2 =>
   cases h1
   rw [Zez h2]
   rfl
theorem ZkP{bs:List Bool}:(List.range bs.length).all (λi=>bs.getD i false)=bs.all id:=by
 rw [Vl,List.all_eq_true,List.all_eq_true]
 constructor
 ·intro h x hx
  obtain⟨i,hi⟩:=YC hx
  have:=h i (YD.mpr (Ye.mp hi).1)
  rw [List.getD_eq_getElem?_getD,hi] at this
  exact this
 ·intro h i hi
  have hi':=YD.mp hi
  rw [List.getD_eq_getElem?_getD,Yb hi']
  exact h _ (YQ hi')
def ZiP(hc:X.calm=true):Jl X (.builtin "all") Zl2:=by
 intro pins s σ H xs us Q I r h
 obtain⟨a,bs,rfl,e,q⟩:=h
 obtain⟨u,rfl,ru⟩:=JQ r
 cases ru
 obtain⟨_,its,n,hv,g⟩:=I.hok a _ e
 have ei:=Zez hv
 subst ei
 have hL:s.heap.IsList a (bs.map Value.bool).toArray:=⟨_,g,rfl,n,by simp⟩
 refine call_all_walk (wpAny_pyIter_list hL ?_)
 have hn:a ≠ s.heap.objs.size:=Yn (Yh g)
 refine⟨_,_,_,_,_,_,λi=>bs.getD i false,rfl,Walks.list (A:=X.A.in1) (I.ok.hd hc) _ a hn (bs.map Value.bool).toArray,?_,?_,λh' tk hk=>?_⟩
 ·exact⟨⟨_,Heap.get?_push_size _ rfl,rfl,rfl⟩,⟨_,Heap.get?_push_of_some _ g,rfl,n,by simp⟩⟩
 ·intro i v s1 Q1 E1 hP hQ
  have:v=Value.bool (bs.getD i false):=by
   have hP':(bs.map Value.bool).toArray[i]?=some v:=hP
   rw [List.getElem?_toArray,Yg] at hP'
   rw [List.getD_eq_getElem?_getD]
   cases hb:bs[i]? with
   | none=>rw [hb] at hP'; cases hP'
   | some b=>rw [hb] at hP'; cases hP'; rfl
  subst this
  exact Vk hQ
 ·rw [show (bs.map Value.bool).toArray.size=bs.length by simp,ZkP]
  exact⟨.bl (bs.all id),H,I.kept (old_kept hk),rfl,q⟩
def ZpS(hg:Gl X "all")(hm:X.mg "all"=none)(ha:QA X [e] t)(hp:Zz e=true:=by rfl)(hc:X.calm=true:=by rfl):QE X (.Call (.Name "all" p) [e] [] pos) (tCB Zl2 t) :=
 ⟨Zbw (ZiP hc) hg hm (by decide +kernel) ha.h (by decide) (by decide) (Zx hp) rfl⟩
end
section
variable {X:Cx}{pins:List (Addr × Obj)}{σ:St}{H:Hp}{s:Shared}{a:Addr}{kvs:List (ZQ × V)}{k:ZQ}{u:Value}{A:Around}{E:VSP}
def Zo8{y:V}{r:Value}{Q:VSP}(I:Inv X pins σ H s)(e:H a=some (.dK kvs))(ry:Zt (kV k) u)(rv:Zt y r)(hl:kvs.length < 1000)
  (h1:∀ v w' s',Z8 kvs k=some v->Inv X pins σ H s'->Zt v w'->Q w' s') (h2:∀ s',Z8 kvs k=none->Inv X pins σ (upd H a (.dK (Jj kvs k y))) s'->Q r s'):wpAny (model X.prog X.w) A (call (.builtin "dict.setdefault") [.ref a,u,r]) Q E s:=by
 obtain⟨z,hd,vs,rel,dd⟩:=Zob I.hok e
 have hz:vs.length<=sizeLine:=by rw [<- rel.length]; exact z
 have hz2:(Jj kvs k y).length<=sizeLine:=Yj (Za7 kvs k y) (Yj (show kvs.length + 1<=1000 by omega) (by decide))
 refine call_meetsIn PySem.F.slot_dict_setdefault dd.typeIs PySem.F.entry_dict_setdefault (PySem.F.args_dict_setdefault_3 _ _ _) (kt_meets_setdefault (ZT X.prog X.w) a (Zl9 ry) hd r) ⟨vs,dd,hz,λw' hw=>?_,λhn h' dd' hs=>?_⟩
 ·cases hv:Z8 kvs k with
  | none =>
   have:=JT.none_of (by rw [<- hv]; exact rel.val k)
   rw [this] at hw; cases hw
  | some v =>
   obtain⟨w2,hw2,rw2⟩:=JT.some_of (v:=v) (o:=valueAt vs k) (by rw [<- hv]; exact rel.val k)
   rw [hw2] at hw
   cases hw
   exact h1 v _ _ hv (I.tok _) rw2
 ·have he:∃ q,h'.get? a=some q:=let ⟨q,_,_,hq,_⟩:=dd'; ⟨q,hq⟩
  refine h2 _ ?_ (ZgQ I (by rw [e]; exact True.intro) hs he (Zii hz2 hd (rel.put k rv) dd'))
  cases hv:Z8 kvs k with
  | none=>rfl
  | some v =>
   obtain⟨w2,hw2,_⟩:=JT.some_of (v:=v) (o:=valueAt vs k) (by rw [<- hv]; exact rel.val k)
   rw [hw2] at hn; cases hn
end
section
variable {X:Cx}{o e f:Expr}{apos cpos:Pos}{td ty tx:TE}
def Zjp(td ty tx:TE):TE:=λσ H Q=>td σ H λx H1=>∃ a,x=.ref a/\(∃ zs,H1 a=some (.dK zs))/\ty σ H1 λy H2=>tx σ H2 λz H3=>∃ kvs k,H3 a=some (.dK kvs)/\y=kV k/\kvs.length < 1000 /\
 (∀ v,Z8 kvs k=some v->Q v H3)/\(Z8 kvs k=none->Q z (upd H3 a (.dK (Jj kvs k z))))
def ZnW(ho:QE X o td)(he:QE X e ty)(hf:QE X f tx)(m:M2 X o "setdefault" apos e f cpos:=by exact⟨rfl,rfl,rfl,rfl⟩):QE X (.Call (.Attribute o "setdefault" apos) [e,f] [] cpos) (Zjp td ty tx):=⟨by
 intro pins s σ H Q I h
 refine wpAny_Call_method m.base m.few m.line PySem.F.plainAttrs_dict PySem.F.slot_dict_setdefault PySem.F.type_dict_setdefault (ZZ (ho.h pins s σ H _ I h) λu s1 ⟨x,H1,I1,rx,a,ex,d,q1⟩=>?_)
 subst ex
 obtain rfl:u=Value.ref a:=rx
 obtain⟨zs,d⟩:=d
 obtain⟨t1,t2,_⟩:=ZjV I1 (.inl ⟨zs,.inl d⟩)
 refine⟨t1,t2,?_⟩
 rw [m.trees]
 refine VR rfl (Calls.evalArgs_plain (VF (ZZ (he.h pins s1 σ H1 _ I1 q1) λiv s2 ⟨y,H2,I2,ry,q2⟩ =>
  VF (ZZ (hf.h pins s2 σ H2 _ I2 q2) λfv s3 ⟨z,H3,I3,rz,kvs,k,ea,ey,hl,q3,q4⟩=>Yad ?_))))
 subst ey
 exact Zo8 I3 ea ry rz hl (λv w' s' hv I' rw'=>⟨v,H3,I',rw',q3 v hv⟩) λs' hv I'=>⟨z,_,I',rz,q4 hv⟩⟩
end
section
variable {X:Cx}{e:Expr}{t:TA}{pos p:Pos}
def Zqv:List V->Hp->VK->Prop:=λxs H Q=>∃ (a:Addr) (bs:List Bool),xs=[.ref a]/\H a=some (.lst (bs.map V.bl))/\Q (.bl (bs.any id)) H
end
def Ziw(td:TE):TE:=λσ H Q=>td σ H λx H1=>∃ a kvs,x=.ref a/\Rd H1 a (.dK kvs)/\∀ l H2,H1 l=none->Zk H1 H2->H2 l=some (.lst (kvs.map (·.2)))->Q (.ref l) H2
def Zm4{kvs:List (ZQ × V)}{vs:List (ZQ × Value)}(r:KV kvs vs):∀ {i:Nat}{kv:ZQ × V}{k:ZQ}{u:Value},kvs[i]?=some kv->vs[i]?=some (k,u)->Zt kv.2 u:=by
 unfold KV at r
 induction r with
 | nil=>intro i kv k u h; simp at h
 | cons h t ih =>
  intro i kv k u h1 h2
  cases i with
  | zero=>simp at h1 h2; subst h1; rw [h2] at h; exact h.2
  | succ i=>exact ih (by simpa using h1) (by simpa using h2)
section
variable {X:Cx}{o:Expr}{td:TE}{p pos apos cpos:Pos}
def ZeD(hg:Gl X "list")(hm:X.mg "list"=none)(ho:QE X o td)(hbase:attributeBase o "values" X.env (eval o X.env)=eval o X.env:=by rfl)(hline:(apos.endLine == cpos.line)=true:=by rfl)(hc:X.calm=true:=by rfl) :
  QE X (.Call (.Name "list" p) [.Call (.Attribute o "values" apos) [] [] cpos] [] pos) (Ziw td):=⟨by
 intro pins s σ H Q I h
 refine Vf (ZbB I hg hm (show bootBuiltins "list"=some (.type "list") by decide +kernel) ?_ (by decide) (by decide))
 refine VB ?_ rfl rfl
 show wpAny _ _ (spliced ((false,eval (.Call (.Attribute o "values" apos) [] [] cpos) X.env) :: [])) _ _ s
 refine VF ?_
 refine wpAny_Call_method0_late hbase hline (ZZ (ho.h pins s σ H _ I h) λv s1 ⟨x,H1,I1,r1,a,kvs,ex,ea,q⟩=>?_)
 subst ex
 obtain rfl:v=Value.ref a:=r1
 obtain⟨t1,t2,_⟩:=ZjV I1 (.inl ⟨kvs,ea⟩)
 obtain⟨z,hd,vs,rel,dd⟩:=JS I1.hok ea
 refine⟨"dict","dict.values",PySem.F.plainAttrs_dict,PySem.F.slot_dict_values,PySem.F.type_dict_values,t1,t2,VR rfl (PySem.evalArgs_none ?_)⟩
 refine call_meetsIn PySem.F.slot_dict_values dd.typeIs PySem.F.entry_dict_values (PySem.F.args_dict_values_1 _) (meets_dict_values (ZT X.prog X.w) a hd) ⟨⟨vs,dd⟩,Yad ?_⟩
 have I2:Inv X pins σ H1 { s1 with heap:=s1.heap.push { cls:=.type "dict_values",data:=.fields #[.ref a] } }:=I1.kept (t':=s1.toks) λb o e=>Yi _ e
 obtain⟨ep,at_⟩:=dd.dictAt
 have hf:=I2.hok.fresh (Yd _)
 refine kdl_call (PySem.W.kdl_values (knd:=ZT X.prog X.w) (kvs:=vs) (ep:=ep)) (I1.ok.hd hc) ⟨⟨_,Yo _ rfl,rfl,rfl⟩,at_.push _⟩ (by rw [<- rel.length]; exact z) λh' tk acc' c' kk hl ⟨hs,hacc⟩=>?_
 refine⟨.ref _,_,I2.laid (o:=.lst (kvs.map (·.2))) kk (Nat.le_refl _) (show ZR X.prog X.w _ h' _ (.lst (kvs.map (·.2))) from ⟨by rw [List.length_map]; exact z,acc'.toList,c',ZdR ?_ λi x u e1 e2=>?_,by simpa using hl⟩),rfl,q _ _ hf (Jh hf _) Zf⟩
 ·rw [List.length_map,rel.length]; simpa using hs.symm
 ·obtain⟨k,g1⟩:=hacc i u (by simpa using e2)
  rw [Yg] at e1
  obtain⟨kv,g3,rfl⟩:=YT.mp e1
  exact Zm4 rel g3 g1⟩
end
section
variable {X:Cx}{o e:Expr}{apos cpos:Pos}{td ty te:TE}
def Zpb(td:TE):TE:=λσ H Q=>td σ H λx H1=>∃ a kvs,x=.ref a/\H1 a=some (.dK kvs)/\Q .non (upd H1 a (.dK []))
end
section
variable {X:Cx}{t:TA}
end
def Zoj(td:TE):TE:=λσ H Q=>td σ H λx H1=>∃ (a:Addr) (kvs:List (ZQ × V)) (ns:List Int),x=.ref a/\Rd H1 a (.dK kvs)/\kvs.map (·.2)=ns.map V.int/\Q (.int ns.sum) H1
def ZdQ:∀ (ns:List Int) i,i<=ns.length->preSum (λi=>(ns[i]?).getD 0) i=(ns.take i).sum
 | _,0,_=>rfl
 | ns,i + 1,h=>by
  show preSum _ i + _=_
  have e:=Yb (show i < ns.length from h)
  rw [ZdQ ns i (Yp h),YB,e,List.sum_append]
  simp [e]
section
variable {X:Cx}{o:Expr}{td:TE}{p pos apos cpos:Pos}
def ZjS(hg:Gl X "sum")(hm:X.mg "sum"=none)(ho:QE X o td)(hbase:attributeBase o "values" X.env (eval o X.env)=eval o X.env:=by rfl)(hline:(apos.endLine == cpos.line)=true:=by rfl)(hc:X.calm=true:=by rfl) :
  QE X (.Call (.Name "sum" p) [.Call (.Attribute o "values" apos) [] [] cpos] [] pos) (Zoj td):=⟨by
 intro pins s σ H Q I h
 refine Vf (ZbB I hg hm (show bootBuiltins "sum"=some (.builtin "sum") by decide +kernel) ?_ (by decide) (by decide))
 refine PyProof.Rows.callWith_builtin1 ?_ rfl rfl
 show wpAny _ _ (spliced ((false,eval (.Call (.Attribute o "values" apos) [] [] cpos) X.env) :: [])) _ _ s
 refine VF ?_
 refine wpAny_Call_method0_late hbase hline (ZZ (ho.h pins s σ H _ I h) λv s1 ⟨x,H1,I1,r1,a,kvs,ns,ex,ea,en,q⟩=>?_)
 subst ex
 obtain rfl:v=Value.ref a:=r1
 obtain⟨t1,t2,_⟩:=ZjV I1 (.inl ⟨kvs,ea⟩)
 obtain⟨z,hd,vs,rel,dd⟩:=JS I1.hok ea
 refine⟨"dict","dict.values",PySem.F.plainAttrs_dict,PySem.F.slot_dict_values,PySem.F.type_dict_values,t1,t2,VR rfl (PySem.evalArgs_none ?_)⟩
 refine call_meetsIn PySem.F.slot_dict_values dd.typeIs PySem.F.entry_dict_values (PySem.F.args_dict_values_1 _) (meets_dict_values (ZT X.prog X.w) a hd) ⟨⟨vs,dd⟩,Yad ?_⟩
 have I2:Inv X pins σ H1 { s1 with heap:=s1.heap.push { cls:=.type "dict_values",data:=.fields #[.ref a] } }:=I1.kept (t':=s1.toks) λb o e=>Yi _ e
 obtain⟨ep,at_⟩:=dd.dictAt
 have hlen:vs.length=ns.length:=by rw [<- rel.length]; have:=congrArg List.length en; simpa using this
 have K:=PySem.W.kdl_values (knd:=ZT X.prog X.w) (kvs:=vs) (ep:=ep) (prog:=X.prog) (w:=X.w) (r:=s1.heap.objs.size) (d:=a)
 have hok:(s1.heap.push { cls:=.type "dict_values",data:=.fields #[.ref a] }).IsValuesView s1.heap.objs.size a/\(s1.heap.push { cls:=.type "dict_values",data:=.fields #[.ref a] }).DictAt (ZT X.prog X.w) a vs ep:=⟨⟨_,Yo _ rfl,rfl,rfl⟩,at_.push _⟩
 refine call_sum_walkAnyS ?_
 obtain⟨oI,St,hit,W,st⟩:=K.iter X.A.in1 { s1 with heap:=s1.heap.push { cls:=.type "dict_values",data:=.fields #[.ref a] } } (I1.ok.hd hc) hok
 refine hit _ _ ⟨_,_,_,_,_,_,_,λi=>(ns[i]?).getD 0,rfl,W.toS,st,λb hb=>?_,λi v hv=>?_,λs' t' hm=>?_⟩
 ·show b < ((s1.heap.push _).push oI).objs.size
  rw [size_push']
  rcases Yl.mp hb with e | hb
  ·rw [e]; exact VG _
  ·rw [YY.mp hb]; exact Vg (K.there _ hok).2
 ·obtain⟨k,hv⟩:=hv
  have hi:i < vs.length:=(Ye.mp hv).1
  have hk:=Yb (show i < kvs.length by rw [rel.length]; exact hi)
  have hn:=Yb (show i < ns.length by rw [<- hlen]; exact hi)
  have h3:=Zm4 rel hk hv
  have h4:=congrArg (λl=>l[i]?) en
  simp only [List.getElem?_map,hk,hn,Option.map_some,Option.some.injEq] at h4
  rw [h4] at h3
  obtain⟨t,rfl⟩:=h3
  exact⟨t,by simp [hn]⟩
 ·have hk:∀ b o,s1.heap.get? b=some o->s'.heap.get? b=some o:=λb o e =>
   hm.heap b o (λhI=>absurd (Yh (Yi { cls:=.type "dict_values",data:=.fields #[.ref a] } e)) (by rw [YY.mp hI]; exact YX _)) (Yi _ (Yi _ e))
  rw [Moved.eq_with hm,hlen,ZdQ ns _ (Yd _),Y2]
  exact⟨.int ns.sum,H1,I1.kept hk,⟨t',rfl⟩,q⟩⟩
end
section
variable {X:Cx}{E:XK}{t:TA}
def Ze2:V->List V->Hp->VK->Prop:=λx vs H Q=>∃ l xs i y,x=.ref l/\vs=[.int i,y]/\H l=some (.lst xs)/\0<=i/\i<=xs.length/\xs.length < 1000/\Q .non (upd H l (.lst (xs.take i.toNat ++ y :: xs.drop i.toNat)))
def ZiD:MtM X "list.insert" Ze2:=by
 intro pins s σ H x vs v us Q I rx rv h
 obtain⟨l,xs,i,y,rfl,rfl,hH,h0,hk,hz,q⟩:=h
 cases rx
 cases rv with
 | cons r1 rv =>
 cases rv with
 | cons r2 rv =>
 cases rv
 obtain⟨t,rfl⟩:=r1
 obtain⟨z,its,n,r,hl,e⟩:=I.lstM hH
 have hsl:(1000:Nat)<=sizeLine:=by decide
 have hil:i.toNat<=its.length:=by omega
 refine call_meets F.slot_list_insert ⟨_,e,rfl⟩ F.entry_list_insert (F.args_list_insert_3 _ _ _) (PySem.AutoListH.list_insert_list_int_val_1 l its.toArray n i t _ (by rw [fitsIndex_both (k:=i) (by omega) (by omega)]; decide) (by rw [YO]; omega)) ⟨e,?_⟩
 refine⟨.non,_,I.lset (its':=its.take i.toNat ++ _ :: its.drop i.toNat) hH e ?_ ((r.take i.toNat).append (.cons r2 (r.drop i.toNat))) ?_,rfl,q⟩
 ·have c:¬ i < 0:=by omega
  simp only [c,if_false]
  rw [YO,Nat.min_eq_left hil]
  apply Array.ext'
  simp
  exact List.take_of_length_le (by simp)
 ·simp
  omega
def ZrW{o e1 e2:Expr}{to:TE}{apos cpos:Pos}(ho:QE X o to)(ha:QA X [e1,e2] t)(hbase:attributeBase o "insert" X.env (eval o X.env)=eval o X.env:=by rfl)(hline:(apos.endLine == cpos.line)=true:=by rfl)(hp:[e1,e2].all Zz=true:=by rfl) :
  QE X (.Call (.Attribute o "insert" apos) [e1,e2] [] cpos) (tLm Ze2 to t) :=
 ⟨ZpY PySem.F.slot_list_insert PySem.F.type_list_insert ZiD ho.h ha.h hbase (by rw [Zx (Z5 hp).1,Zx (Z5 (Z5 hp).2).1]; rfl) hline (Zx (Z5 hp).1) (Zd8 (Z5 hp).2)⟩
end
section
variable {X:Cx}{pins:List (Addr × Obj)}{s:Shared}{σ:St}{H:Hp}{k:Nat}{a b:Expr}{ta tb:TE}{pos:Pos}
def Zg9{A:Around}{vb:List (ZQ × Value)}(hN:(vb.map (·.1)).Nodup):∀ {va:List (ZQ × Value)},(∀ k v,(k,v)∈va->∃ (j:Nat) (y:Value),vb[j]?=some (k,y)/\SeqAt.EqAt A s v y true)->KeqHits A s vb va true
 | [],_=>.nil
 | (k,v) :: va,h=>by
  obtain⟨j,y,h1,h2⟩:=h k v (.head _)
  exact .hit (e:=true) (Zbt hN h1) h2 (Zg9 hN λk v e=>h k v (.tail _ e))
def Zq6:R2:=λx y H Q=>∃ (a b:Addr) (ka kb:List (ZQ × V)) (n:Nat),x=.ref a/\y=.ref b/\Rd H a (.dK ka)/\Rd H b (.dK kb)/\ka.length=kb.length/\(kb.map (·.1)).Nodup/\(∀ i,i < ka.length->∀ kv,ka[i]?=some kv->∃ (j:Nat) (v:V),kb[j]?=some (kv.1,v)/\EqD H kv.2 v true n)/\n<=50/\Q (.bl true) H
def Zqg(hr:Room k X.A):OpR X (compareOp .Eq) Zq6:=by
 intro pins s σ H x y v u Q I rx ry h
 obtain⟨a,b,ka,kb,n,rfl,rfl,ha,hb,hl,hN,h,hn,q⟩:=h
 have hu:=hr.units
 cases rx
 cases ry
 obtain⟨_,n1,va,kv1,d1⟩:=JS I.hok ha
 obtain⟨_,n2,vb,kv2,d2⟩:=JS I.hok hb
 have hNb:(vb.map (·.1)).Nodup:=by rw [<- kv2.keys]; exact hN
 have lA:va.length=ka.length:=kv1.length.symm
 have lB:vb.length=kb.length:=kv2.length.symm
 have hits:∀ A:Around,A.units + n < cLine->KeqHits A s vb va true:=λA hA=>Zg9 hNb λk v e=>by
  obtain⟨i,e⟩:=YC e
  have hi:i < ka.length:=by rw [<- lA]; exact (Ye.mp e).1
  obtain⟨p1,r1⟩:=Zmc kv1 (Yb hi) e
  obtain⟨j,w,hj,hd⟩:=h i hi _ (Yb hi)
  have hjl:j < kb.length:=(Ye.mp hj).1
  obtain⟨q,e2⟩:∃ q,vb[j]?=some q:=⟨_,Yb (by omega)⟩
  obtain⟨p2,r2⟩:=Zmc kv2 hj (show vb[j]?=some (q.1,q.2) from e2)
  refine⟨j,q.2,?_,(hd.at I r1 r2 hA).1⟩
  rw [e2,<- p1,p2]
 exact PySem.W.keq_eq n1 n2 d1 d2 (by omega) (r:=true) (λ_=>hits _ (by show X.A.units + 1 + n < cLine; omega)) (by rw [show (va.length == vb.length && true)=true by rw [lA,lB,hl]; simp]; exact⟨.bl true,H,I,rfl,q⟩)
def ZrS(hr:Room k X.A)(ha:QE X a ta)(hb:QE X b tb):QE X (.Compare a [.Eq] [b] pos) (tOp Zq6 ta tb):=⟨ZdB (Zqg hr) ha.h hb.h (ZbH _)⟩
end
end My
set_option maxHeartbeats 4000000
namespace My
open PySem L2
theorem Zi4{i j:Int}:ZqZ (.int i) (.int j)=true:=rfl
theorem ZjM{i j:Str}:ZqZ (.str i) (.str j)=true:=rfl
end My
local macro_rules | `(tactic| walk_at "rd") => `(tactic| ((try dsimp only [L2.Zp5, L2.Zk6, L2.Zq0, L2.ZqG, L2.Zqx, L2.Zl5, L2.Zo2, L2.Zc6, L2.Zo0, L2.tC, L2.tOp, L2.tUn, L2.rI, L2.rI0, L2.rU, L2.rEq, L2.rNe, L2.Zd5, L2.tB, L2.ZqX, L2.tOr, L2.Zq5, L2.ZkR, L2.Zrb, L2.Zlz, L2.tIf, L2.ZgH, L2.tCB, L2.ZoR, L2.Zh5, My.ZkQ, My.ZlL, L2.Zq8, My.Zll, L2.Zld, L2.Zq4, My.ZlP, My.ZgC, L2.Zri, L2.Zrg, L2.Zrc, L2.Zo1, L2.Zrd, L2.tBM, L2.ZgM, List.getElem?_cons_zero, List.getElem?_cons_succ, List.set_cons_zero, List.set_cons_succ, List.cons_append, List.nil_append, My.Zi4, My.ZjM, Bool.not_true, Bool.not_false, List.length_cons, List.length_nil, My.Zq7, My.ZmK, My.Zpn, My.ZjC, My.tFs, My.Zsj, My.tLm, L2.Zhj, L2.ZmJ, L2.Zsd, L2.Ze7, My.tDG, My.sDP, My.tDI, L2.Zrh, L2.tSl, L2.ZcN, L2.ZhP, My.tXm, My.ZpZ, My.Zqo, My.Zr5, My.Ze3, My.Zr3, My.Zsh, My.Zdc, My.Zg0, My.Zk0, L2.Zm0, L2.Zj6, L2.ipI, L2.Zre, My.Zl2, My.Zjp, My.Zqv, My.Ziw, My.Zpb, L2.tSl, L2.ZcN, L2.ZhP, My.Zoj, My.Ze2, My.Zq6, My.Zmw, L2.Zg4, L2.Zr2, L2.ZjE, L2.ZhB, L2.ZlB, L2.Zq2, L2.Zq3, My.Zsf, My.tXE, My.tXS, My.ZmT, My.ZmZ]); (try simp only [L2.Zp5, L2.Zk6, L2.Zq0, L2.ZqG, L2.Zqx, L2.Zl5, L2.Zo2, L2.Zc6, L2.Zo0, L2.tC, L2.tOp, L2.tUn, L2.rI, L2.rI0, L2.rU, L2.rEq, L2.rNe, L2.Zd5, L2.tB, L2.ZqX, L2.tOr, L2.Zq5, L2.ZkR, L2.Zrb, L2.Zlz, L2.tIf,
 L2.ZgH,L2.tCB,L2.ZoR,L2.Zh5,My.ZkQ,My.ZlL,L2.Zq8,My.Zll,L2.Zld,L2.Zq4,My.ZlP,My.ZgC,L2.Zri,L2.Zrg,L2.Zrc,L2.Zo1,L2.Zrd,L2.tBM,L2.ZgM,
 List.getElem?_cons_zero,List.getElem?_cons_succ,List.set_cons_zero,List.set_cons_succ,Vx,List.cons_append,List.nil_append,Option.some.injEq,Option.some_inj,exists_eq_left,exists_eq_left',exists_eq_right,exists_eq,exists_eq',exists_and_left,exists_and_right,exists_const,
 L2.V.int.injEq,L2.V.bl.injEq,L2.V.ref.injEq,L2.V.str.injEq,L2.V.ty.injEq,L2.HO.lst.injEq,L2.HO.tup.injEq,reduceCtorEq,List.cons.injEq,and_true,true_and,and_false,false_and,exists_false,or_false,false_or,My.Zi4,My.ZjM,Bool.not_true,Bool.not_false,Vj,Bool.false_eq_true,if_true,if_false,Bool.not_eq_true',decide_eq_false_iff_not,ite_self,ge_iff_le,gt_iff_lt,My.ZsE,My.ZsJ,My.Zsu,My.Zsp,YV,List.length_nil,Nat.zero_add,and_assoc,My.Zq7,My.ZmK,My.Zpn,My.ZjC,My.tFs,My.Zsj,My.tLm,L2.Zhj,L2.ZmJ,L2.Zsd,L2.Ze7,My.tDG,My.sDP,My.tDI,L2.Zrh,L2.tSl,L2.ZcN,L2.ZhP,My.tXm,My.ZpZ,My.Zqo,My.Zr5,My.Ze3,My.Zr3,My.Zsh,My.Zdc,My.Zg0,My.Zk0,L2.Zm0,L2.Zj6,L2.ipI,L2.Zre,My.Zl2,My.Zjp,My.Zqv,My.Ziw,My.Zpb,L2.tSl,L2.ZcN,L2.ZhP,My.Zoj,My.Ze2,My.Zq6,My.Zmw,L2.Zg4,L2.Zr2,L2.ZjE,L2.ZhB,L2.ZlB,L2.Zq2,L2.Zq3,My.Zsf,My.tXE,My.tXS,My.ZmT,My.ZmZ,My.ZnV,My.ZlZ,My.Znp,My.Zmi,My.ZjX,My.ZkO,My.Znz,My.ZpO,My.Zqn,My.Zpp,My.ZpT,My.Zp9,My.ZpE,Bool.true_eq_false,Int.reduceToNat,Int.reducePow,Int.reduceLT,Int.reduceLE,Int.reduceNeg,Int.reduceAbs,Int.reduceSub,Int.reduceMul,Nat.reduceLT,Nat.reduceLeDiff,Nat.reducePow,Int.zero_add,true_or,or_true,eq_self])))
namespace My
open PySem PySem.Spec L2
open PyProof.Rows hiding St
theorem JO{N P:List Str}{sc:Scope}(a:sc.kind=.function:=by rfl)(b:sc.isCoroutine=false:=by rfl)(c:sc.isGenerator=false:=by rfl)(d:N.Nodup:=by decide +kernel)(e:N.take P.length=P:=by rfl)(f:∀ x∈P,sc.names.lookup x=some .local\/sc.names.lookup x=some .cell:=by decide +kernel)(g:∀ y∈sc.names,y.2 ≠ .free:=by decide +kernel):FnScope N P sc:=⟨a,b,c,d,e,f,g⟩
variable {K:PySem.W.Frag}{mg:Str->Option Value}{fd:FuncData}{k:Nat}
theorem JU{P:Program}{w:World}{base:Heap}{x qual:Str}{st:Stmt}{f:Addr}{N ps:List Str}{sp:Sp}(F:Fun K x qual st f fd)(S:FnScope N ps (Za st))(hb:∀ (cdv:Value) (A:Around) (outer:List Env) (s:Shared) (H:Hp) (vs:List V) (Q:VK) (E:XK),Room k (A.deeper (envOfC qual (Za st) s.heap.objs.size f cdv))->sp vs H Q E->∃ t,QB (Zif ZC P w K mg base N qual (Za st) f cdv A outer s H E).nox (Zs st) t/\t { nx:=λ_ H'=>Q .non H',rt:=Q } (Zu N vs) H)(len:∀ vs H Q E,sp vs H Q E->vs.length=ps.length:=by intro vs H Q E h; repeat (first | (obtain⟨e,_⟩:=h; subst e; rfl) | (obtain⟨_,h⟩:=h))):FnOk P w K mg base ZC (k + 1) f fd ps sp:=okQ F S len hb
def JN(i:Nat):Stmt:=PySem.Challenge.pw_roadshare_k44_whole_evenest_of_all.main.body.getD i (.Pass ⟨0,0,0,0⟩)
abbrev ZcQ:Stmt:=JN 7
def ZgI:FnScope ["thing"] ["thing"] (Za ZcQ):=JO
abbrev ZaB:Stmt:=JN 8
def Zah:FnScope ["one","other","larger","smaller","rest"] ["one","other"] (Za ZaB):=JO
abbrev Zcz:Stmt:=JN 11
def Zca:FnScope ["thing","top","bottom"] ["thing"] (Za Zcz):=JO
abbrev Jw:Stmt:=JN 12
def ZeT:FnScope ["top","bottom","divisor"] ["top","bottom"] (Za Jw):=JO
abbrev ZaP:Stmt:=JN 9
def ZcJ:FnScope ["one","other"] ["one","other"] (Za ZaP):=JO
abbrev Zba:Stmt:=JN 13
def Zas:FnScope ["some","bottom","one"] ["some"] (Za Zba):=JO
abbrev ZcR:Stmt:=JN 14
def Zgm:FnScope ["one","bottom"] ["one","bottom"] (Za ZcR):=JO
abbrev ZcV:Stmt:=JN 30
def Zgw:FnScope ["thing"] ["thing"] (Za ZcV):=JO
abbrev ZdC:Stmt:=JN 31
def ZeC:FnScope ["thing","many","to"] ["thing","many"] (Za ZdC):=JO
abbrev ZbD:Stmt:=JN 32
def Zbu:FnScope ["thing","many","road"] ["thing"] (Za ZbD):=JO
abbrev ZcK:Stmt:=JN 33
def Zbx:FnScope ["roads","k","way","place"] ["roads","k"] (Za ZcK):=JO
abbrev Zaf:Stmt:=ZbX (JN 34) 0
def Zda:FnScope ["self","roads"] ["self","roads"] (Za Zaf):=JO
abbrev Zan:Stmt:=ZbX (JN 34) 2
def Zf1:FnScope ["self"] ["self"] (Za Zan):=JO
abbrev Zak:Stmt:=ZbX (JN 34) 4
def ZeM:FnScope ["self","k"] ["self","k"] (Za Zak):=JO
abbrev Zae:Stmt:=ZbX (JN 34) 3
def Zc8:FnScope ["self","k"] ["self","k"] (Za Zae):=JO
abbrev Zaa:Stmt:=ZbX (JN 34) 7
def ZbG:FnScope ["self","k"] ["self","k"] (Za Zaa):=JO
abbrev Zad:Stmt:=ZbX (JN 34) 8
def ZcT:FnScope ["self","k"] ["self","k"] (Za Zad):=JO
abbrev Zaq:Stmt:=ZbX (JN 34) 5
def ZgT:FnScope ["self","k"] ["self","k"] (Za Zaq):=JO
abbrev Ze8:Stmt:=JN 16
def Zdm:FnScope ["tree","homes","group","roads","name"] ["tree","homes","group"] (Za Ze8):=JO
abbrev Zaj:Stmt:=JN 17
def Zcn:FnScope ["tree","homes"] ["tree","homes"] (Za Zaj):=JO
abbrev ZaA:Stmt:=JN 18
def Zb2:FnScope ["tree","homes"] ["tree","homes"] (Za ZaA):=JO
abbrev Zbh:Stmt:=JN 19
def ZaY:FnScope ["tree","homes","bottom","prices","k"] ["tree","homes","bottom"] (Za Zbh):=JO
abbrev ZbA:Stmt:=JN 20
def ZeJ:FnScope ["tree","homes","group","prices"] ["tree","homes","group","prices"] (Za ZbA):=JO
abbrev Zfk:Stmt:=JN 22
def ZaC:FnScope ["tree","homes","bottom","prices","group","told","joining","share","k"] ["tree","homes"] (Za Zfk):=JO
abbrev Za3:Stmt:=JN 24
def ZaQ:FnScope ["homes","group","left","name"] ["homes","group"] (Za Za3):=JO
abbrev Zcy:Stmt:=JN 25
def Zbc:FnScope ["tree","homes","prices","group","staying"] ["tree","homes","prices"] (Za Zcy):=JO
abbrev Zbv:Stmt:=JN 26
def ZaI:FnScope ["tree","homes","prices","brought","heads","left","name","k"] ["tree","homes","prices","brought","heads"] (Za Zbv):=JO
abbrev Zd0:Stmt:=JN 27
def ZhF:FnScope ["way","left"] ["way","left"] (Za Zd0):=JO
abbrev Zdl:Stmt:=JN 23
def Zbn:FnScope ["tree","homes","shares","group","share","name"] ["tree","homes"] (Za Zdl):=JO
abbrev Zbs:Stmt:=JN 36
def Zeh:FnScope ["_law_script","_law_k"] ["_law_script","_law_k"] (Za Zbs):=JO
abbrev Zb4:Stmt:=JN 37
def Zao:FnScope ["_law_cell","_law_bases","_law_row","_law_rest","_law_k","_law_base","_law_one"] ["_law_cell","_law_bases"] (Za Zb4):=JO
abbrev Zdu:Stmt:=JN 38
def Zbl:FnScope ["_law_top","_law_bottom","_law_one","_law_other"] ["_law_top","_law_bottom"] (Za Zdu):=JO
abbrev ZcG:Stmt:=JN 39
def ZgG:FnScope ["_law_one","_law_other"] ["_law_one","_law_other"] (Za ZcG):=JO
abbrev ZbY:Stmt:=JN 41
def ZfW:FnScope ["_law_one","_law_other"] ["_law_one","_law_other"] (Za ZbY):=JO
abbrev Zb7:Stmt:=JN 42
def Zbe:FnScope ["_law_some","_law_total_here","_law_one"] ["_law_some"] (Za Zb7):=JO
abbrev Zb3:Stmt:=JN 43
def Zfy:FnScope ["_law_one","_law_other","_law_wide"] ["_law_one","_law_other","_law_wide"] (Za Zb3):=JO
abbrev Za9:Stmt:=JN 44
def ZG:FnScope ["_law_script","_law_most","_law_head","_law_many","_law_base","_law_row","_law_roads_here","_law_k","_law_to","_law_place","_law_ahead"] ["_law_script","_law_most"] (Za Za9):=JO
abbrev Zcb:Stmt:=JN 45
def Zai:FnScope ["_law_cell","_law_many","_law_letters","_law_row","_law_size","_law_spot","_law_names_here","_law_k","_law_word","_law_j"] ["_law_cell","_law_many"] (Za Zcb):=JO
abbrev ZbW:Stmt:=JN 46
def ZaN:FnScope ["_law_script","_law_roads_here","_law_most","_law_row","_law_names_here","_law_homes_here","_law_k"] ["_law_script","_law_roads_here","_law_most"] (Za ZbW):=JO
abbrev ZdE:Stmt:=JN 47
def ZcM:FnScope ["_law_roads_here","_law_k","_law_way_here"] ["_law_roads_here","_law_k"] (Za ZdE):=JO
abbrev ZcO:Stmt:=JN 48
def ZgK:FnScope ["_law_roads_here"] ["_law_roads_here"] (Za ZcO):=JO
abbrev Zb0:Stmt:=JN 40
def ZfP:FnScope ["_law_one","_law_other"] ["_law_one","_law_other"] (Za Zb0):=JO
abbrev ZcS:Stmt:=JN 49
def ZJ:FnScope ["_law_script","_law_roads_here","_law_homes_here","_law_shares","_law_names_here","_law_name","_law_row","_law_road","_law_using","_law_weights","_law_k","_law_whole","_law_part"] ["_law_script","_law_roads_here","_law_homes_here"] (Za ZcS):=JO
abbrev Zbg:Stmt:=JN 50
def Zap:FnScope ["_law_some","_law_row","_law_one","_law_at"] ["_law_some"] (Za Zbg):=JO
abbrev ZeR:Stmt:=JN 51
def ZbS:FnScope ["_law_script","_law_roads_here","_law_homes_here","_law_even","_law_good_here","_law_one","_law_other","_law_k","_law_mine","_law_yours"] ["_law_script"] (Za ZeR):=JO
variable {σ:St}{H:Hp}
def Zfl{c:TT}{a b:TS}{D:Ends}(h:∀ A:St->Hp->Prop,A=a D->∀ B:St->Hp->Prop,B=b D->c σ H λx H1=>if x=true then A σ H1 else B σ H1):Zqx c a b D σ H:=h _ rfl _ rfl
def Zy{a b:TS}{D:Ends}(h:∀ B:St->Hp->Prop,B=b D->a { D with nx:=B } σ H):Zp5 a b D σ H:=h _ rfl
def isW:V->Bool
 | .int _=>true
 | _=>false
def Th0(H:Hp)(x:V):Prop:=∃ t,JP H x=some t
def ZaS:Sp:=λvs H Q _=>∃ x,vs=[x]/\Th0 H x/\Q (.bl (isW x)) H
def Zd4:Sp:=λvs H Q _=>∃ a b:Int,vs=[.int a,.int b]/\Q (.int (Int.gcd a b)) H
def Zb8(K:PySem.W.Frag):Sp:=λvs H Q _=>∃ (a:Addr) (ns:List Int) (k:Nat),vs=[.ref a,.int k]/\JC K H a (ns.map V.int)/\∀ c:Int,Q (.int c) H
variable {P:Program}{w:World}{K:PySem.W.Frag}{mg:Str->Option Value}{base:Heap}{f:Addr}{fd:FuncData}{CT:Addr}{CNP:Addr}{pt:Addr}{c:Addr}
variable {x:V}
def Zl0{t:String}(e:JP H x=some t):(isA t "int" && !isA t "bool")=isW x:=by
 unfold JP at e
 split at e
 ·cases e; rfl
 ·cases e; rfl
 ·cases e; rfl
 ·cases e; rfl
 ·split at e
  ·cases e; rfl
  ·cases e; rfl
  ·cases e; rfl
  ·cases e
 ·cases e
def ZgP(F:Fun K "is_whole" "is_whole" ZcQ f fd)(Zv:mg "isinstance"=none)(Ze5:mg "int"=none)(ZiL:mg "bool"=none) :
  FnOk P w K mg base ZC 1 f fd ["thing"] ZaS:=by
 refine JU F ZgI λcdv A outer s H vs Q E hr h=>?_
 obtain⟨x,rfl,⟨t,ht⟩,q⟩:=h
 refine⟨_,(Zj (ZF (ZhD (Zev rfl Zv (Zl (Ze 0) (Zl (ZoZ rfl Ze5 rfl) Zb))) (Zid (ZrO (Zev rfl Zv (Zl (Ze 0) (Zl (ZoZ rfl ZiL rfl) Zb)))))))),?_⟩
 rw [show Zu ["thing"] [x]=[some (x)] from rfl]
 rw [<- Zl0 ht] at q
 refine⟨_,rfl,x,"int",t,rfl,ht,by decide,_,rfl,?_⟩
 refine JI (λc=>?_) (λc=>?_)
 ·refine⟨_,rfl,x,"bool",t,rfl,ht,by decide,_,rfl,?_⟩
  rw [c] at q
  exact q
 ·rw [Bool.eq_false_iff.mpr c] at q
  exact q
def Pg(a b:Int)(H:Hp)(σ:St)(H':Hp):Prop:=∃ (l m:Int) (r:Option V),σ=[some (.int a),some (.int b),some (.int l),some (.int m),r]/\H'=H/\0<=l/\0<=m/\Int.gcd l m=Int.gcd a b
def Zqj(F:Fun K "greatest_divisor" "greatest_divisor" ZaB f fd)(ZfQ:mg "abs"=none) :
  FnOk P w K mg base ZC 1 f fd ["one","other"] Zd4:=by
 refine JU F Zah λcdv A outer s H vs Q E hr h=>?_
 obtain⟨a,b,rfl,q⟩:=h
 refine⟨_,(Zc (Zn 2 Zah.nd (ZlV rfl ZfQ (Zl (Ze 0) Zb)))
   (Zc (Zn 3 Zah.nd (ZlV rfl ZfQ (Zl (Ze 1) Zb)))
   (Zc (Zb1 Yq (Zrf (Ze 3) Zd) (Zc (Zn 4 Zah.nd (JY (Ze 2) (Ze 3)))
   (Zc (Zn 2 Zah.nd (Ze 3))
   (Zj (Zn 3 Zah.nd (Ze 4))))))
   (Zj (ZF (Ze 2)))))),?_⟩
 rw [show Zu ["one","other","larger","smaller","rest"] [.int a,.int b]=[some (.int a),some (.int b),none,none,none] from rfl]
 walk_at "rd"
 simp only [ZiF]
 refine Zce (Pg a b H) (λσ _=>(Zi0 σ 3).toNat) ⟨_,_,none,rfl,rfl,by omega,by omega,Znv a b⟩ ?_
 rintro σ H' ⟨l,m,r,rfl,rfl,hl,hm,hg⟩
 walk_at "rd"
 refine JI (λc=>?_) (λc=>?_)
 ·have hm':0 < m:=by omega
  refine⟨_,λσ' H' z=>z,hm',_,?_,rfl,m,l % m,some (.int (l % m)),rfl,rfl,hm,VL _ (by omega),?_⟩
  ·exact Zdr hm'
  ·rw [ZgZ]; exact hg
 ·have e:m=0:=by omega
  subst e
  have e2:(Int.gcd a b:Int)=l:=by rw [<- hg]; simp; omega
  rw [e2] at q
  exact q
def Znc(F:Fun K "_law_cell_at" "_law_cell_at" Zbs f fd)(ZA:mg "len"=none) :
  FnOk P w K mg base ZC 1 f fd ["_law_script","_law_k"] (Zb8 K):=by
 refine JU F Zeh λcdv A outer s H vs Q E hr h=>?_
 obtain⟨a,ns,k,rfl,hS,q⟩:=h
 refine⟨_,(Zc (JL (ZqC (Ze 1) (Zqk rfl ZA (Zl (Ze 0) Zb))) (Zj (ZF (Zrk (Ze 0) (Ze 1)))) Jm)
   (Zj (ZF Zd))),?_⟩
 rw [show Zu ["_law_script","_law_k"] [.ref a,.int k]=[some (.ref a),some (.int k)] from rfl]
 walk_at "rd"
 refine⟨_,.inl hS,?_⟩
 rw [Yf]
 refine JI (λc=>?_) (λc=>?_)
 ·exact⟨_,hS,_,Zn0 (by omega),q _⟩
 ·exact q _
def ZcP(i:Int):Th0 H (.int i):=⟨"int",rfl⟩
def Jd(H:Hp)(x:V)(q:Rat):Prop:=∃ p,x=.ref p/\H p=some (.tup [.int q.num,.int (q.den:Int)])
variable {q:Rat}
def Jd.same{H H':Hp}(h:Jd H x q)(s:Zk H H'):Jd H' x q:=by
 obtain⟨p,e,h⟩:=h
 exact⟨p,e,s _ _ h⟩
def Big(b:Int):Prop:=b.natAbs < 2 ^ 8990
variable {n:Nat}
theorem Big.of{b:Int}(h:b.natAbs < 2 ^ n)(hn:n<=8990):Big b:=Ja h hn
def ZdJ{t b:Int}(hb:0 < b):t.fdiv (Int.gcd t b:Int)=(Rat.divInt t b).num/\b.fdiv (Int.gcd t b:Int)=((Rat.divInt t b).den:Int):=by
 have e:Z7 t b=(Int.gcd t b:Int):=by unfold Z7; rw [if_neg (by omega)]
 have h:=Za4 (t:=t) (b:=b) (by omega)
 rw [<- e,Zbq (ZaR t b),Zbq (Zar t b)]
 exact h
def ZbE:Sp:=λvs H Q _=>∃ t b:Int,vs=[.int t,.int b]/\Big b/\0 < b/\∀ r H',Zk H H'->Jd H' r (Rat.divInt t b)->Q r H'
def Zkr{x y:V}(hx:Jd H x q)(hy:Jd H y q):∃ p c,x=.ref p/\y=.ref c/\EqD H x y true 1:=by
 obtain⟨p,rfl,hp⟩:=hx
 obtain⟨c,rfl,hc⟩:=hy
 refine⟨p,c,rfl,rfl,?_⟩
 have h:=EqD.tup (e:=λ_=>true) (n:=0) hp hc λj x y h1 h2=>by
  rw [h1] at h2
  cases h2
  match j,h1 with
  | 0,h1=>cases h1; have z:=EqD.flat (H:=H) (x:=.int q.num) (y:=.int q.num) rfl rfl; rw [Zdf rfl] at z; exact z
  | 1,h1=>cases h1; have z:=EqD.flat (H:=H) (x:=.int (q.den:Int)) (y:=.int (q.den:Int)) rfl rfl; rw [Zdf rfl] at z; exact z
 exact h
def ZfO:Sp:=λvs H Q _=>∃ t b:Int,vs=[.int t,.int b]/\Big b/\b ≠ 0/\∀ r H',Zk H H'->Jd H' r (Rat.divInt t b)->Q r H'
section
variable {P:Program}{w:World}{K:PySem.W.Frag}{mg:Str->Option Value}{base:Heap}{f:Addr}{fd:FuncData}{dV:Value}{cNF:Addr}
def ZlN(F:FunD K "ratio" "ratio" Jw dV f fd)(ZN:Fn P w K mg base ZC 1 "is_whole" ["thing"] ZaS)(Zab:Fn P w K mg base ZC 1 "greatest_divisor" ["one","other"] Zd4) :
  FnOk P w K mg base ZC 2 f fd ["top","bottom"] ZfO:=by
 refine Zsr F ZeT (λvs H Q E h=>?_) (λcdv A outer s H vs Q E hr h=>?_)
 ·obtain⟨t,b,rfl,_⟩:=h; rfl
 obtain⟨t,b,rfl,hz,hb0,q⟩:=h
 refine⟨_,(Zc (JL (t_w (ZoL (Zee (JR (Jn ZN hr (Zl (Ze 0) Zb)))) (Zhx (Zee (JR (Jn ZN hr (Zl (Ze 1) Zb))))))) (Zj ZbI) Jm)
   (Zc (JL (Zo5 (Ze 1) Zd) (Zj ZbI) Jm)
   (Zc (Zn 2 ZeT.nd (Jn Zab hr (Zl (Ze 0) (Zl (Ze 1) Zb))))
   (Zc (JL (ZqC (Ze 1) Zd) (Zj (Zn 2 ZeT.nd (ZpL (Ze 2)))) Jm)
   (Zj (ZF (Zgl (Zl (ZcL (Ze 0) (Ze 2)) (Zl (ZcL (Ze 1) (Ze 2)) Zb))))))))),?_⟩
 rw [show Zu ["top","bottom","divisor"] [.int t,.int b]=[some (.int t),some (.int b),none] from rfl]
 refine Zy λB hB=>?_
 refine Zfl λA hA C hC=>?_
 walk_at "rd"
 simp only [ZaS]
 walk_at "rd"
 refine⟨ZcP _,?_⟩
 rw [if_neg (by simp [isW])]
 refine⟨ZcP _,?_⟩
 rw [if_neg (by simp [isW])]
 subst hC
 walk_at "rd"
 subst hB
 try dsimp only
 refine Zy λB hB=>?_
 refine Zfl λA hA C hC=>?_
 walk_at "rd"
 refine JI (λc=>absurd c hb0) (λc=>?_)
 subst hC
 walk_at "rd"
 subst hB
 try dsimp only
 walk_at "rd"
 simp only [Zd4]
 walk_at "rd"
 have hne:=Zgk (t:=t) c
 have hlog:(Z7 t b).natAbs.log2 < 9000:=by rw [Zhf]; exact Zbo (Ja (Ys (ZeA c) hz) (by omega)) (by omega)
 have fin:∀ (p:Addr) (H2:Hp),H p=none->Zk H H2->H2 p=some (.tup [.int (t.fdiv (Z7 t b)),.int (b.fdiv (Z7 t b))])->Q (.ref p) H2:=λp H2 _ hs e=>q _ _ hs ⟨p,rfl,by
  rw [Zbq (ZaR t b),Zbq (Zar t b),(Za4 c).1,(Za4 (t:=t) c).2] at e
  exact e⟩
 refine JI (λcb=>?_) (λcb=>?_)
 ·have e:Z7 t b=-(Int.gcd t b:Int):=by unfold Z7; rw [if_pos cb]
  rw [e] at hne hlog fin
  exact⟨hne,hlog,hne,hlog,fin⟩
 ·have e:Z7 t b=(Int.gcd t b:Int):=by unfold Z7; rw [if_neg cb]
  rw [e] at hne hlog fin
  exact⟨hne,hlog,hne,hlog,fin⟩
end
theorem Zpe(h:SzQ n q):(q.den:Int).natAbs < 2 ^ n:=by simpa using h.2
def J1(qs:List Rat)(i:Nat):Rat:=(qs.take i).foldl (· + ·) 0
variable {qs:List Rat}{i:Nat}
def ZfT(h:qs[i]?=some q):J1 qs (i + 1)=J1 qs i + q:=by
 unfold J1
 rw [YB,h,List.foldl_append]
 rfl
def Jt(H:Hp)(xs:List V)(qs:List Rat):Prop:=xs.length=qs.length/\∀ (i:Nat) x q,xs[i]?=some x->qs[i]?=some q->Jd H x q
def Zm9(h:n ≠ 0):SzQ n 0:=⟨Vw n,Nat.one_lt_two_pow h⟩
def ZkJ(a b:Nat):Nat:=a / Nat.gcd a b * b
def Zos{a b:Nat}(ha:0 < a):∃ c d,a=Nat.gcd a b * c/\b=Nat.gcd a b * d/\ZkJ a b=Nat.gcd a b * c * d:=by
 have hg:0 < Nat.gcd a b:=Nat.gcd_pos_of_pos_left _ ha
 obtain⟨c,hc⟩:=Nat.gcd_dvd_left a b
 obtain⟨d,hd⟩:=Nat.gcd_dvd_right a b
 refine⟨c,d,hc,hd,?_⟩
 unfold ZkJ
 have e:a / Nat.gcd a b=c:=Nat.div_eq_of_eq_mul_right hg hc
 rw [e]
 conv=>lhs; rw [hd]
 rw [<- Nat.mul_assoc,Nat.mul_comm c]
def Ziz{a b:Nat}(ha:0 < a):a ∣ ZkJ a b:=by
 obtain⟨c,d,h1,h2,h3⟩:=Zos (b:=b) ha
 rw [h3]
 conv=>lhs; rw [h1]
 exact Nat.dvd_mul_right _ _
theorem Zia{a b:Nat}(ha:0 < a):b ∣ ZkJ a b:=by unfold ZkJ; exact Nat.dvd_mul_left _ _
def ZlM{a b:Nat}(ha:0 < a)(hb:0 < b):0 < ZkJ a b:=YI (Nat.div_pos (Nat.le_of_dvd ha (Nat.gcd_dvd_left a b)) (Nat.gcd_pos_of_pos_left _ ha)) hb
def Zi3(qs:List Rat)(i:Nat):Nat:=(qs.take i).foldl (λb q=>ZkJ b q.den) 1
def Zfv(h:qs[i]?=some q):Zi3 qs (i + 1)=ZkJ (Zi3 qs i) q.den:=by
 unfold Zi3
 rw [YB,h,List.foldl_append]
 rfl
def Zfc(hz:∀ (i:Nat) q,qs[i]?=some q->SzQ n q):∀ i,i<=qs.length->0 < Zi3 qs i/\Zi3 qs i<=2 ^ (n * i)/\∀ (j:Nat) q,j < i->qs[j]?=some q->q.den ∣ Zi3 qs i
 | 0,_=>⟨Nat.one_pos,Nat.one_le_two_pow,λj q h=>absurd h (VI j)⟩
 | i + 1,h=>by
  obtain⟨h1,h2,h3⟩:=Zfc hz i (Yp h)
  have hq:=Yb h
  rw [Zfv hq]
  refine⟨ZlM h1 qs[i].den_pos,?_,λj q hj hq2=>?_⟩
  ·unfold ZkJ
   refine Yj (Y9 (Yj (VJ _ _) h2) (Yp (hz i _ hq).2)) ?_
   rw [<- YG,Nat.mul_succ]
   exact Yd _
  ·by_cases c:j=i
   ·subst c
    rw [hq] at hq2
    cases hq2
    exact Zia h1
   ·exact Nat.dvd_trans (h3 j q (by omega) hq2) (Ziz h1)
def Zr7(qs:List Rat):Prop:=(∀ (i:Nat) q,qs[i]?=some q->SzQ 4000 q)/\∀ i,i<=qs.length->Zi3 qs i<=2 ^ 4000
def ZnA(hz:∀ (i:Nat) q,qs[i]?=some q->SzQ n q)(hn:n * qs.length<=4000):Zr7 qs :=
 ⟨λi q h=>(hz i q h).mono (Yj (Nat.le_mul_of_pos_right _ (Ys (YF _) (Ye.mp h).1)) hn),λi hi=>Yj (Zfc hz i hi).2.1 (Y0 (by decide) (Yj (Nat.mul_le_mul_left _ hi) hn))⟩
def ZkD(B:Nat)(q:Rat):Int:=q.num * ((B:Int) / (q.den:Int))
variable {B:Nat}
def Znl(hB:0 < B)(h:q.den ∣ B):Rat.divInt (ZkD B q) (B:Int)=q:=by
 obtain⟨c,rfl⟩:=h
 have hd:=q.den_pos
 have hc:(c:Int) ≠ 0:=by
  intro z
  have:c=0:=by omega
  rw [this] at hB
  simp at hB
 unfold ZkD
 rw [YE,Int.mul_ediv_cancel_left _ (by omega),VS hc]
 exact Ve q
def Zma{a b c:Int}(h:c ≠ 0):Rat.divInt a c + Rat.divInt b c=Rat.divInt (a + b) c:=by
 rw [Rat.divInt_add_divInt _ _ h h,<- Int.add_mul,VS h]
def ZiI:Sp:=λvs H Q _=>∃ a b:Nat,vs=[.int a,.int b]/\0 < a/\0 < b/\a<=2 ^ 4000/\b<=2 ^ 4000/\Q (.int (ZkJ a b:Nat)) H
def ZfU(K:PySem.W.Frag):Sp:=λvs H Q _=>∃ (a:Addr) (xs:List V) (qs:List Rat),vs=[.ref a]/\JC K H a xs/\Jt H xs qs/\Zr7 qs/\Q (.int (Zi3 qs qs.length:Nat)) H
def Zms:Sp:=λvs H Q _=>∃ (x:V) (q:Rat) (B:Nat),vs=[x,.int B]/\Jd H x q/\SzQ 4000 q/\B<=2 ^ 4000/\Q (.int (ZkD B q)) H
def Zhq{a n:Nat}(h:a<=2 ^ n):((a:Nat):Int).natAbs < 2 ^ (n + 1):=by
 rw [VU,Nat.pow_succ]
 have:=Vw n
 omega
def Zo6(F:Fun K "least_multiple" "least_multiple" ZaP f fd)(Zab:Fn P w K mg base ZC 1 "greatest_divisor" ["one","other"] Zd4):FnOk P w K mg base ZC 2 f fd ["one","other"] ZiI:=by
 refine JU F ZcJ λcdv A outer s H vs Q E hr h=>?_
 obtain⟨a,b,rfl,ha,hb,za,zb,q⟩:=h
 refine⟨_,(Zj (ZF (Jr (ZcL (Ze 0) (Jn Zab hr (Zl (Ze 0) (Zl (Ze 1) Zb)))) (Ze 1)))),?_⟩
 rw [show Zu ["one","other"] [.int a,.int b]=[some (.int a),some (.int b)] from rfl]
 walk_at "rd"
 simp only [Zd4]
 walk_at "rd"
 have eg:Int.gcd (a:Int) (b:Int)=Nat.gcd a b:=rfl
 have hg:0 < Nat.gcd a b:=Nat.gcd_pos_of_pos_left _ ha
 have hga:Nat.gcd a b<=a:=Nat.le_of_dvd ha (Nat.gcd_dvd_left a b)
 have ef:(a:Int).fdiv (Int.gcd (a:Int) (b:Int):Int)=((a / Nat.gcd a b:Nat):Int):=by
  rw [eg,V4 _ (by omega)]
  rfl
 refine⟨by rw [eg]; omega,?_,?_,?_⟩
 ·rw [eg]
  exact Zbo (Ja (Zhq (Yj hga za)) (by decide)) (by decide)
 ·rw [ef]
  exact JK (Zhq (Yj (VJ _ _) za)) (Zhq zb) (by decide)
 ·rw [ef,<- YE]
  exact q
variable {xs:List V}
def ZsI{a:Addr}{g:TG}{tb:TS}{D:Ends}{te:TE}(hv:∀ R:V->Hp->Prop,R (.ref a) H->te σ H R)(hS:JC K H a xs)(Pv:Nat->St->Hp->Prop)(h0:Pv 0 σ H)(hl:∀ i σ H,i<=xs.length->Pv i σ H->JC K H a xs)
  (hs:∀ i x σ H,xs[i]?=some x->Pv i σ H->g x σ H λσ2 H2=>tb { D with nx:=Pv (i + 1),ct:=Pv (i + 1),bk:=D.nx } σ2 H2) (hd:∀ σ H,Pv xs.length σ H->D.nx σ H):ZmC (Zed K te) g tb D σ H :=
 hv _ ⟨a,rfl,⟨xs,hS⟩,ZgY Pv h0 hl hs hd⟩
def Pcb(a:Addr)(qs:List Rat)(H0:Hp)(i:Nat)(σ:St)(H:Hp):Prop:=H=H0/\∃ o,σ=[some (.ref a),some (.int (Zi3 qs i:Nat)),o]
def Zj0(F:Fun K "common_bottom" "common_bottom" Zba f fd)(ZaO:Fn P w K mg base ZC 2 "least_multiple" ["one","other"] ZiI):FnOk P w K mg base ZC 3 f fd ["some"] (ZfU K):=by
 refine JU F Zas λcdv A outer s H vs Q E hr h=>?_
 obtain⟨a,xs,qs,rfl,hS,hR,hz,q⟩:=h
 refine⟨_,(Zc (Zn 1 Zas.nd Zd)
   (Zc (Jq Yq (Jg (Ze 0)) (ZE 2 Zas.nd) (Zj (Zn 1 Zas.nd (Jn ZaO hr (Zl (Ze 1) (Zl (Jf (Ze 2) Zd) Zb))))))
   (Zj (ZF (Ze 1))))),?_⟩
 rw [show Zu ["some","bottom","one"] [.ref a]=[some (.ref a),none,none] from rfl]
 walk_at "rd"
 refine ZsI (xs:=xs) (λR h=>by first | exact⟨_,rfl,h⟩ | (walk_at "rd"; exact h)) hS (Pcb a qs H) ⟨rfl,_,rfl⟩ (λi σ H' _ h=>by rw [h.1]; exact hS) (λi x σ H' hx h=>?_) (λσ H' h=>?_)
 ·obtain⟨rfl,o,rfl⟩:=h
  have hi:i < qs.length:=by rw [<- hR.1]; exact (Ye.mp hx).1
  have hq:=Yb hi
  obtain⟨p,rfl,hp⟩:=hR.2 _ _ _ hx hq
  obtain⟨h1,_,_⟩:=Zfc hz.1 i (Yp hi)
  have h2:=hz.2 i (Yp hi)
  walk_at "rd"
  simp only [ZiI]
  walk_at "rd"
  refine⟨_,hp,_,rfl,Zi3 qs i,rfl,qs[i].den,rfl,h1,qs[i].den_pos,h2,Yp (hz.1 i _ hq).2,rfl,some (.ref p),by rw [Zfv hq]⟩
 ·obtain⟨rfl,o,rfl⟩:=h
  rw [hR.1]
  walk_at "rd"
  exact q
def ZqA(F:Fun K "top_over" "top_over" ZcR f fd):FnOk P w K mg base ZC 1 f fd ["one","bottom"] Zms:=by
 refine JU F Zgm λcdv A outer s H vs Q E hr h=>?_
 obtain⟨x,t,B,rfl,⟨p,rfl,hp⟩,z,zB,q⟩:=h
 refine⟨_,(Zj (ZF (Jr (Jf (Ze 0) Zd) (ZcL (Ze 1) (Jf (Ze 0) Zd))))),?_⟩
 rw [show Zu ["one","bottom"] [.ref p,.int B]=[some (.ref p),some (.int B)] from rfl]
 walk_at "rd"
 simp only [hp]
 walk_at "rd"
 have hd:=t.den_pos
 have ef:(B:Int).fdiv (t.den:Int)=(B:Int) / (t.den:Int):=V4 _ (by omega)
 have en:(B:Int) / (t.den:Int)=((B / t.den:Nat):Int):=rfl
 refine⟨by omega,Zbo (Ja (Zpe z) (by decide)) (by decide),?_,?_⟩
 ·rw [ef,en]
  exact JK z.1 (Zhq (Yj (VJ _ _) zB)) (by decide)
 ·rw [ef]
  exact q
def ZhM{t b:Int}(ht:0<=t)(hb:0 < b):0<=(Rat.divInt t b).num:=by
 rw [<- (ZdJ hb).1]
 exact Int.fdiv_nonneg ht (by omega)
def JE(H:Hp)(x:V)(r:Nat × Rat):Prop:=∃ p y,x=.ref p/\H p=some (.tup [.int r.1,y])/\Jd H y r.2
def Js(H:Hp)(xs:List V)(rs:List (Nat × Rat)):Prop:=xs.length=rs.length/\∀ (i:Nat) x r,xs[i]?=some x->rs[i]?=some r->JE H x r
def JB(rs:List (Nat × Rat)):Prop:=∃ rank:Nat->Nat,rank 0=0/\(∀ v,rank v<=rs.length)/\∀ (k:Nat) r,rs[k]?=some r->r.1<=rs.length/\rank r.1 < rank (k + 1)
def Zmd(lo:Int)(n:Nat):List Int:=(List.range n).map λk:Nat=>lo + (k:Int)
theorem Zk5{lo:Int}:(Zmd lo n).length=n:=by simp [Zmd]
def Zhm{lo:Int}{x:Int}(h:x∈Zmd lo n):lo<=x/\x < lo + n:=by
 obtain⟨k,hk,e⟩:=Yk.mp h
 have:=YD.mp hk
 omega
def Zes{lo:Int}:(Zmd lo n).Nodup:=by
 refine List.Pairwise.map _ (λa b h=>?_) List.nodup_range
 intro e
 exact h (by omega)
theorem ZiC{n i:Nat}(h:i < n):ixN n (i:Int)=some i:=by
 unfold ixN
 simp
 omega
def Pr(H0:Hp)(a p pn:Addr)(m c n:Int)(b:Bool)(zs:List V)(i:Nat)(σ:St)(H:Hp):Prop:=∃ (o1 o2 o3:Option V) (ts:List Int),σ=[some (.ref a),some (.int m),some (.int c),some (.int n),some (.bl b),some (.ref p),o1,o2,o3,none,none,none] /\
 Zk H0 H/\H p=some (.lst (ts.map V.int))/\H pn=some (.lst zs)/\ts.Perm (Zmd 1 n.toNat)
theorem Pr.at{H0:Hp}{a p pn:Addr}{m c n:Int}{b:Bool}{zs:List V}(h:Pr H0 a p pn m c n b zs i σ H):JC K H pn zs:=let ⟨_,_,_,_,_,_,_,e,_⟩:=h; .of e
def Zsa(H:Hp)(ts:List Int)(ys:List V)(j:Nat):Prop:=∃ (k:Nat) (x:V) (r:Nat × Rat),ts[j]?=some ((k:Int) + 1)/\ys[k]?=some x/\JE H x r/\SzQ 110 r.2/\0<=r.2.num/\(r.1=0\/∃ j',j' < j/\ts[j']?=some (r.1:Int))
def Pq(H0:Hp)(a p acc pp pn:Addr)(m c n:Int)(b:Bool)(ts ps:List Int)(zs:List V)(i:Nat)(σ:St)(H:Hp):Prop:=∃ (o1 o2 o3 o4:Option V) (ys:List V),σ=[some (.ref a),some (.int m),some (.int c),some (.int n),some (.bl b),some (.ref p),o1,o2,o3,some (.ref acc),some (.ref pp),o4] /\
 Zk H0 H/\H p=some (.lst (ts.map V.int))/\H pp=some (.lst (ps.map V.int))/\H pn=some (.lst zs)/\H acc=some (.lst ys)/\(ys.length:Int)=n/\∀ j,j < i->Zsa H ts ys j
theorem Pq.at{H0:Hp}{a p acc pp pn:Addr}{m c n:Int}{b:Bool}{ts ps:List Int}{zs:List V}(h:Pq H0 a p acc pp pn m c n b ts ps zs i σ H):JC K H pn zs:=let ⟨_,_,_,_,_,_,_,_,_,e,_⟩:=h; .of e
def JE.same{H H':Hp}{r:Nat × Rat}(h:JE H x r)(s:Zk H H'):JE H' x r:=let ⟨p,y,e,h1,h2⟩:=h; ⟨p,y,e,s _ _ h1,h2.same s⟩
theorem JE.upd{r:Nat × Rat}{l:Addr}{ys:List V}{o:HO}(h:JE H x r)(hl:H l=some (.lst ys)):JE (upd H l o) x r:=by
 obtain⟨p,y,e,h1,z,e2,h3⟩:=h
 exact⟨p,y,e,by rw [Zg (JF h1 hl (by intro z; cases z))]; exact h1,z,e2,by rw [Zg (JF h3 hl (by intro z; cases z))]; exact h3⟩
variable {α:Type}
def ZgL[Inhabited α]{n:Nat}{P:Nat->α->Prop}(h:∀ k,k < n->∃ r,P k r):∃ rs:List α,rs.length=n/\∀ (k:Nat) r,rs[k]?=some r->P k r:=by
 induction n with
 | zero=>exact⟨[],rfl,λk r e=>by simp at e⟩
 | succ n ih =>
  obtain⟨rs,hl,hr⟩:=ih λk hk=>h k (by omega)
  obtain⟨r0,h0⟩:=h n (by omega)
  refine⟨rs ++ [r0],by simp [hl],λk r e=>?_⟩
  by_cases hk:k < rs.length
  ·rw [YJ hk] at e; exact hr k r e
  ·rw [YH (by omega)] at e
   have hk2:k=n:=by
    have:=(Ye.mp e).1
    simp at this; omega
   subst hk2
   simp [hl] at e
   rw [<- e]; exact h0
open Classical in
noncomputable def rankOf(ts:List Int)(v:Nat):Nat:=if h:∃ j:Nat,ts[j]?=some (v:Int) then h.choose + 1 else 0
def Zgt{ts:List Int}(hnd:ts.Nodup){j v:Nat}(h:ts[j]?=some (v:Int)):rankOf ts v=j + 1:=by
 have hh:∃ j:Nat,ts[j]?=some (v:Int):=⟨j,h⟩
 unfold rankOf
 rw [dif_pos hh]
 have e:=hh.choose_spec
 have:=(List.getElem?_inj (Ye.mp e).1 hnd).mp (e.trans h.symm)
 omega
def Zog{ts:List Int}{v:Nat}:rankOf ts v<=ts.length:=by
 unfold rankOf
 split
 ·rename_i hh
  exact (Ye.mp hh.choose_spec).1
 ·exact YF _
def ZeS{lo:Int}(h:k < n):lo + (k:Int)∈Zmd lo n:=Yk.mpr ⟨k,YD.mpr h,rfl⟩
def ZkZ{ts:List Int}{ys:List V}(hpm:ts.Perm (Zmd 1 n))(hy:ys.length=n)(h:∀ j,j < n->Zsa H ts ys j):∃ rs:List (Nat × Rat),Js H ys rs/\JB rs/\rs.length=n/\∀ r∈rs,SzQ 110 r.2/\0<=r.2.num:=by
 have hl:ts.length=n:=by rw [hpm.length_eq,Zk5]
 have hnd:ts.Nodup:=hpm.nodup_iff.mpr Zes
 have hbd:∀ x∈ts,1<=x/\x<=n:=λx hx=>by have:=Zhm (hpm.mem_iff.mp hx); omega
 obtain⟨rs,hrl,hr⟩:=ZgL (α:=Nat × Rat) (n:=n) (P:=λk r=>∃ x,ys[k]?=some x/\JE H x r/\SzQ 110 r.2/\0<=r.2.num/\∃ j,ts[j]?=some (((k + 1:Nat)):Int)/\(r.1=0\/∃ j',j' < j/\ts[j']?=some (r.1:Int))) λk hk=>by
  have hm:(1:Int) + (k:Int)∈ts:=hpm.mem_iff.mpr (ZeS hk)
  obtain⟨j,hj⟩:=YC hm
  obtain⟨k',x,r,g1,g2,g3,g4,g5,g6⟩:=h j (by rw [<- hl]; exact (Ye.mp hj).1)
  have hkk:k'=k:=by rw [hj] at g1; have:=YW g1; omega
  subst hkk
  exact⟨r,x,g2,g3,g4,g5,j,by rw [g1]; simp,g6⟩
 have rz:rankOf ts 0=0:=by
  unfold rankOf
  rw [dif_neg λ⟨j,hj⟩=>by have:=hbd _ (List.mem_of_getElem? hj); simp at this]
 refine⟨rs,⟨by omega,λi x r h1 h2=>?_⟩,⟨rankOf ts,rz,λv=>by rw [hrl,<- hl]; exact Zog,λk r h1=>?_⟩,hrl,λr hm=>?_⟩
 ·obtain⟨x',g,g2,_⟩:=hr i r h2
  rw [h1] at g
  cases g
  exact g2
 ·obtain⟨x',_,_,_,_,j,hj,hc⟩:=hr k r h1
  rcases hc with z | ⟨j',hlt,hj'⟩
  ·exact⟨by omega,by rw [z,rz,Zgt hnd hj]; omega⟩
  ·have:=hbd _ (Ym hj')
   exact⟨by omega,by rw [Zgt hnd hj',Zgt hnd hj]; omega⟩
 ·obtain⟨k,hk⟩:=YC hm
  obtain⟨_,_,_,g4,g5,_⟩:=hr k r hk
  exact⟨g4,g5⟩
theorem cxK{CX:CXT}{N:List Str}{qual:Str}{scope:Scope}{cd:Value}{A:Around}{outer:List Env}{s:Shared}{E:XK}:(Zif CX P w K mg base N qual scope f cd A outer s H E).K=K:=rfl
inductive WayR (rs:List (Nat × Rat)):Nat->List Nat->Prop where
 | nil:WayR rs 0 []
 | cons {k:Nat}{r:Nat × Rat}{w:List Nat}(h:rs[k]?=some r) (hw:WayR rs r.1 w):WayR rs (k + 1) ((k + 1) :: w)
variable {rs:List (Nat × Rat)}
def WayR.uniq{w:List Nat}(h:WayR rs k w):∀ {w':List Nat},WayR rs k w'->w'=w:=by
 induction h with
 | nil=>intro w' h'; cases h'; rfl
 | cons h _ ih =>
  intro w' h'
  cases h' with
  | cons h2 hw2 =>
   rw [h] at h2
   cases h2
   rw [ih hw2]
def Zcm(T:JB rs){k:Nat}(hk:k<=rs.length):∃ w,WayR rs k w/\w.length<=rs.length:=by
 obtain⟨rank,r0,hb,hr⟩:=T
 have key:∀ m k,k<=rs.length->rank k<=m->∃ w,WayR rs k w/\w.length<=rank k:=by
  intro m
  induction m with
  | zero =>
   intro k hk hm
   cases k with
   | zero=>exact⟨[],.nil,YF _⟩
   | succ j =>
    have h2:=(hr j _ (Yb (l:=rs) (i:=j) (by omega))).2
    omega
  | succ m ih =>
   intro k hk hm
   cases k with
   | zero=>exact⟨[],.nil,YF _⟩
   | succ j =>
    have e:=Yb (l:=rs) (i:=j) (by omega)
    obtain⟨h1,h2⟩:=hr j _ e
    obtain⟨w,hw,hl⟩:=ih rs[j].1 h1 (by omega)
    exact⟨(j + 1) :: w,.cons e hw,by simp; omega⟩
 obtain⟨w,hw,hl⟩:=key _ k hk (Yd _)
 exact⟨w,hw,Yj hl (hb k)⟩
theorem WayR.mem{w:List Nat}(h:WayR rs k w):∀ x∈w,1<=x/\x<=rs.length:=by
 induction h with
 | nil=>intro x hx; cases hx
 | cons h _ ih =>
  intro x hx
  rcases Yl.mp hx with z | z
  ·have:=(Ye.mp h).1
   omega
  ·exact ih x z
open Classical in
noncomputable def wayM(rs:List (Nat × Rat))(k:Nat):Nat:=if h:∃ w,WayR rs k w then h.choose.length else 0
def Zfd{w:List Nat}(h:WayR rs k w):wayM rs k=w.length:=by
 have hh:∃ w,WayR rs k w:=⟨w,h⟩
 unfold wayM
 rw [dif_pos hh,h.uniq hh.choose_spec]
def Zw(w:List Nat):List V:=w.map λk:Nat=>V.int (k:Int)
theorem WayR.zero{w:List Nat}(h:WayR rs 0 w):w=[]:=by cases h; rfl
def Pl(a b:Int)(H:Hp)(σ:St)(H':Hp):Prop:=∃ l m:Int,σ=[some (.int a),some (.int b),some (.int l),some (.int m)]/\H'=H/\0<=l/\0<=m/\Int.gcd l m=Int.gcd a b
theorem ZlF(a b:Int):Int.gcd (a.natAbs:Int) (b.natAbs:Int)=Int.gcd a b:=by simp [Int.gcd]
def ZoU(F:Fun K "_law_low" "_law_low" Zdu f fd)(ZfQ:mg "abs"=none):FnOk P w K mg base ZC 1 f fd ["_law_top","_law_bottom"] ZbE:=by
 refine JU F Zbl λcdv A outer s H vs Q E hr h=>?_
 obtain⟨a,b,rfl,hz,hb,q⟩:=h
 refine⟨_,(Zc (Zn 2 Zbl.nd (ZlV rfl ZfQ (Zl (Ze 0) Zb)))
   (Zc (Zn 3 Zbl.nd (ZlV rfl ZfQ (Zl (Ze 1) Zb)))
   (Zc (Zb1 Yq (Zoc (Ze 3) Zd) (Zj (Zrz 2 3 Zbl.nd (Zl (Ze 3) (Zl (JY (Ze 2) (Ze 3)) Zb)))))
   (Zc (JL (ZqC (Ze 1) Zd) (Zj (Zn 2 Zbl.nd (ZpL (Ze 2)))) Jm)
   (Zj (ZF (Zgl (Zl (ZcL (Ze 0) (Ze 2)) (Zl (ZcL (Ze 1) (Ze 2)) Zb))))))))),?_⟩
 rw [show Zu ["_law_top","_law_bottom","_law_one","_law_other"] [.int a,.int b]=[some (.int a),some (.int b),none,none] from rfl]
 walk_at "rd"
 simp only [ZiF]
 refine Zce (Pl a b H) (λσ _=>(Zi0 σ 3).toNat) ⟨_,_,rfl,rfl,by omega,by omega,ZlF a b⟩ ?_
 rintro σ H' ⟨l,m,rfl,rfl,hl,hm,hg⟩
 walk_at "rd"
 refine JI (λc=>?_) (λc=>?_)
 ·refine⟨_,λσ' H' z=>z,c,_,Zdr c,rfl,m,l % m,rfl,rfl,hm,VL _ (by omega),?_⟩
  rw [ZgZ]; exact hg
 ·have e:m=0:=by omega
  subst e
  have e2:l=(Int.gcd a b:Int):=by rw [<- hg]; simp; omega
  subst e2
  have h1:=V2 a (Int.ne_of_gt hb)
  have h3:(Int.gcd a b:Int).natAbs.log2 < 9000:=Zbo (Ja (Ys (ZeA (Int.ne_of_gt hb)) hz) (by omega)) (by omega)
  refine JI (λc2=>absurd c2 (by omega)) (λ_=>⟨by omega,h3,by omega,h3,λp H' _ hs e=>q _ H' hs ⟨p,rfl,?_⟩⟩)
  rw [(ZdJ hb).1,(ZdJ (t:=a) hb).2] at e
  exact e
def ZmP:Sp:=λvs H Q _=>∃ (a:Addr) (xs:List V) (rs:List (Nat × Rat)) (k:Nat) (w:List Nat),vs=[.ref a,.int k]/\H a=some (.lst xs)/\Js H xs rs/\WayR rs k w/\w.length<=1000/\∀ p H',H p=none->Zk H H'->H' p=some (.lst (Zw w))->Q (.ref p) H'
def Pw(H0:Hp)(a p:Addr)(rs:List (Nat × Rat))(w0:List Nat)(σ:St)(H:Hp):Prop:=∃ (k:Nat) (pre w:List Nat),σ=[some (.ref a),some (.int k),some (.ref p)]/\Zk H0 H/\H p=some (.lst (Zw pre))/\WayR rs k w/\w0=pre ++ w
def ZqL(F:Fun K "_law_way" "_law_way" ZdE f fd):FnOk P w K mg base ZC 1 f fd ["_law_roads_here","_law_k"] ZmP:=by
 refine JU F ZcM λcdv A outer s H vs Q E hr h=>?_
 obtain⟨a,xs,rs,k,w0,rfl,ha,hR,hw0,hwl,q⟩:=h
 refine⟨_,(Zc (Zn 2 ZcM.nd (JD Zb))
   (Zc (Zb1 Yq (Zoc (Ze 1) Zd) (Zc (Jy (ZhI (Ze 2) (Zl (Ze 1) Zb)))
   (Zj (Zn 1 ZcM.nd (Jf (ZX (Ze 0) (Zea (Ze 1) Zd)) Zd)))))
   (Zj (ZF (Ze 2))))),?_⟩
 rw [show Zu ["_law_roads_here","_law_k","_law_way_here"] [.ref a,.int k]=[some (.ref a),some (.int k),none] from rfl]
 walk_at "rd"
 intro p H1 hp s1 e1
 refine Zce (Pw H a p rs w0) (λσ _=>wayM rs (Zi0 σ 1).toNat) ⟨k,[],w0,rfl,s1,e1,hw0,rfl⟩ ?_
 rintro σ H2 ⟨k,pre,w,rfl,s2,e2,hw,hw1⟩
 walk_at "rd"
 have hap:a ≠ p:=λz=>by rw [z,hp] at ha; cases ha
 refine JI (λhc=>?_) (λhc=>?_)
 ·cases hw with
  | nil=>exact absurd hc (by simp)
  | @cons k r w h hw' =>
   have hkl:k < rs.length:=(Ye.mp h).1
   have hkx:k < xs.length:=by rw [hR.1]; exact hkl
   obtain⟨pr,y,ex,hpr,hy⟩:=hR.2 k _ r (Yb hkx) h
   have hrp:pr ≠ p:=λz=>by rw [z,hp] at hpr; cases hpr
   have hlen:(Zw pre).length < 1000000:=by
    have:=congrArg List.length hw1
    simp [Zw] at this ⊢
    omega
   refine⟨λσ' H'=>σ'=[some (.ref a),some (.int r.1),some (.ref p)]/\Pw H a p rs w0 σ' H',λσ' H' ⟨e,hP⟩=>⟨_,?_,rfl,hP⟩,⟨_,e2⟩,_,e2,hlen,xs,by rw [Zg hap]; exact s2 _ _ ha,xs[k],?_,pr,ex,_,by rw [Zg hrp]; exact s2 _ _ hpr,_,rfl,rfl,?_⟩
   ·subst e
    show wayM rs ((r.1:Nat):Int).toNat < wayM rs (((k + 1:Nat)):Int).toNat
    rw [Y1,Y1,Zfd hw',Zfd (.cons h hw')]
    simp
   ·rw [show (((k + 1:Nat)):Int) - 1=(k:Int) by omega]
    exact ZP (Yb hkx)
   ·exact⟨r.1,pre ++ [k + 1],w,rfl,Zo hp s2,by rw [Zf]; simp [Zw],hw',by simp [hw1]⟩
 ·have hk0:k=0:=by omega
  subst hk0
  have e:=hw.zero
  subst e
  rw [Vx] at hw1
  subst hw1
  exact q p H2 hp s2 e2
def PrP(H:Hp)(x:V):Prop:=∃ a t b,x=.ref a/\H a=some (.tup [.int t,.int b])/\1<=b/\Int.gcd t b=1/\0<=t
def RdP(H:Hp)(x:V)(n:Int):Prop:=∃ a t y,x=.ref a/\H a=some (.tup [.int t,y])/\0<=t/\t < n/\PrP H y
def Zow:Sp:=λvs H Q _=>∃ x,vs=[x]/\PrP H x/\Q (.bl true) H
def ZcC:Sp:=λvs H Q _=>∃ x,vs=[x]/\PrP H x/\Q (.bl true) H
def Zdq:Sp:=λvs H Q _=>∃ x n,vs=[x,.int n]/\RdP H x n/\Q (.bl true) H
def Zgb(F:Fun K "is_ratio" "is_ratio" Zcz f fd)(Zv:mg "isinstance"=none)(ZcF:mg "tuple"=none)(ZA:mg "len"=none)
  (ZN:Fn P w K mg base ZC 1 "is_whole" ["thing"] ZaS) (Zab:Fn P w K mg base ZC 1 "greatest_divisor" ["one","other"] Zd4) :
  FnOk P w K mg base ZC 2 f fd ["thing"] Zow:=by
 refine JU F Zca λcdv A outer s H vs Q E hr h=>?_
 obtain⟨x,rfl,⟨a,t,b,rfl,ha,h1,h2,h3⟩,q⟩:=h
 refine⟨_,(Zc (JL (t_w (ZoL (Zee (JR (Zev rfl Zv (Zl (Ze 0) (Zl (ZoZ rfl ZcF rfl) Zb))))) (Zhx (Zrf (Ju rfl ZA (Zl (Ze 0) Zb)) Zd)))) (Zj (ZF Zo4)) Jm)
   (Zc (Zn 1 Zca.nd (Jf (Ze 0) Zd))
   (Zc (Zn 2 Zca.nd (Jf (Ze 0) Zd))
   (Zc (JL (t_w (ZoL (Zee (JR (Jn ZN hr (Zl (Ze 1) Zb)))) (Zhx (Zee (JR (Jn ZN hr (Zl (Ze 2) Zb))))))) (Zj (ZF Zo4)) Jm)
   (Zj (ZF (ZhD (Zrx (Ze 2) Zd) (Zid (Zq9 (Jn Zab hr (Zl (Ze 1) (Zl (Ze 2) Zb))) Zd))))))))),?_⟩
 rw [show Zu ["thing","top","bottom"] [.ref a]=[some (.ref a),none,none] from rfl]
 refine Zy λB hB=>?_
 refine Zfl λA hA C hC=>?_
 walk_at "rd"
 simp only [Zhg ha,ha]
 walk_at "rd"
 rw [if_neg (by decide)]
 subst hC
 walk_at "rd"
 subst hB
 try dsimp only
 refine Zy λB hB=>?_
 walk_at "rd"
 refine⟨_,ha,_,rfl,?_⟩
 subst hB
 try dsimp only
 refine Zy λB hB=>?_
 walk_at "rd"
 refine⟨_,ha,_,rfl,?_⟩
 subst hB
 try dsimp only
 refine Zy λB hB=>?_
 refine Zfl λA hA C hC=>?_
 walk_at "rd"
 simp only [ZaS]
 walk_at "rd"
 refine⟨ZcP _,?_⟩
 rw [if_neg (show ¬ isW (V.int t)=false from nofun)]
 refine⟨ZcP _,?_⟩
 rw [if_neg (show ¬ isW (V.int b)=false from nofun)]
 subst hC
 walk_at "rd"
 subst hB
 try dsimp only
 walk_at "rd"
 simp only [Zd4]
 walk_at "rd"
 rw [if_pos h1,h2]
 exact q
def ZgD(F:Fun K "is_price" "is_price" ZcV f fd)(ZcH:Fn P w K mg base ZC 2 "is_ratio" ["thing"] Zow):FnOk P w K mg base ZC 3 f fd ["thing"] ZcC:=by
 refine JU F Zgw λcdv A outer s H vs Q E hr h=>?_
 obtain⟨x,rfl,⟨a,t,b,rfl,ha,h1,h2,h3⟩,q⟩:=h
 refine⟨_,(Zj (ZF (ZhD (Jn ZcH hr (Zl (Ze 0) Zb)) (Zid (Zrx (Jf (Ze 0) Zd) Zd))))),?_⟩
 rw [show Zu ["thing"] [.ref a]=[some (.ref a)] from rfl]
 walk_at "rd"
 simp only [Zow,ha]
 walk_at "rd"
 rw [YR h3]
 exact⟨⟨a,t,b,rfl,ha,h1,h2,h3⟩,q⟩
def ZhN(F:Fun K "is_road" "is_road" ZdC f fd)(Zv:mg "isinstance"=none)(ZcF:mg "tuple"=none)(ZA:mg "len"=none)(ZN:Fn P w K mg base ZC 1 "is_whole" ["thing"] ZaS)
  (ZcW:Fn P w K mg base ZC 3 "is_price" ["thing"] ZcC):FnOk P w K mg base ZC 4 f fd ["thing","many"] Zdq:=by
 refine JU F ZeC λcdv A outer s H vs Q E hr h=>?_
 obtain⟨x,n,rfl,⟨a,t,y,rfl,ha,h1,h2,hp⟩,q⟩:=h
 refine⟨_,(Zc (JL (t_w (ZoL (Zee (JR (Zev rfl Zv (Zl (Ze 0) (Zl (ZoZ rfl ZcF rfl) Zb))))) (Zhx (Zrf (Ju rfl ZA (Zl (Ze 0) Zb)) Zd)))) (Zj (ZF Zo4)) Jm)
   (Zc (Zn 2 ZeC.nd (Jf (Ze 0) Zd))
   (Zj (ZF (ZhD (Jn ZN hr (Zl (Ze 2) Zb)) (ZhD (Zpf Zd (Ze 2) (Ze 1)) (Zid (Jn ZcW hr (Zl (Jf (Ze 0) Zd) Zb))))))))),?_⟩
 rw [show Zu ["thing","many","to"] [.ref a,.int n]=[some (.ref a),some (.int n),none] from rfl]
 refine Zy λB hB=>?_
 refine Zfl λA hA C hC=>?_
 walk_at "rd"
 simp only [Zhg ha,ha]
 walk_at "rd"
 rw [if_neg (by decide)]
 subst hC
 walk_at "rd"
 subst hB
 try dsimp only
 refine Zy λB hB=>?_
 walk_at "rd"
 refine⟨_,ha,_,rfl,?_⟩
 subst hB
 try dsimp only
 walk_at "rd"
 simp only [ZaS,ZcC,ha]
 walk_at "rd"
 refine⟨ZcP _,?_⟩
 rw [if_pos (show isW (V.int t)=true from rfl),if_pos h1,if_pos h2]
 exact⟨hp,q⟩
def Zgc:Sp:=λvs H Q _=>∃ (a:Addr) (xs:List V),vs=[.ref a]/\H a=some (.lst xs)/\xs.length<=40/\(∀ x∈xs,RdP H x (xs.length + 1))/\Q .non H
def ZiX:Sp:=λvs H Q _=>∃ (a:Addr) (xs:List V) (rs:List (Nat × Rat)) (k:Nat) (w:List Nat),vs=[.ref a,.int k]/\H a=some (.lst xs)/\Js H xs rs/\WayR rs k w/\w.length<=rs.length/\rs.length<=40/\k<=rs.length/\(∀ r∈rs,r.1<=rs.length) /\
 ∀ p H',H p=none->Zk H H'->H' p=some (.lst (Zw w))->Q (.ref p) H'
def Plk(H0:Hp)(a:Addr)(n:Nat)(i:Nat)(σ:St)(H:Hp):Prop:=∃ o,σ=[some (.ref a),some (.int ((n:Int) + 1)),o]/\H=H0
def Zn2{tk:Tok}(F:Fun K "look_roads" "look_roads" ZbD f fd)(Zv:mg "isinstance"=none)(ZV:mg "list"=none)(ZA:mg "len"=none)(g_MOST_ROADS:mg "MOST_ROADS"=some (.int 40 tk))
  (ZdS:Fn P w K mg base ZC 4 "is_road" ["thing","many"] Zdq):FnOk P w K mg base ZC 5 f fd ["thing"] Zgc:=by
 refine JU F Zbu λcdv A outer s H vs Q E hr h=>?_
 obtain⟨a,xs,rfl,ha,hl,hx,q⟩:=h
 refine⟨_,(Zc (JL (Zee (JR (Zev rfl Zv (Zl (Ze 0) (Zl (ZoZ rfl ZV rfl) Zb))))) (Zj ZbI) Jm)
   (Zc (JL (Zoc (Ju rfl ZA (Zl (Ze 0) Zb)) (Zqf rfl g_MOST_ROADS)) (Zj ZbI) Jm)
   (Zc (Zn 1 Zbu.nd (Je (Ju rfl ZA (Zl (Ze 0) Zb)) Zd))
   (Zj (Jq Yq (Jg (Ze 0)) (ZE 2 Zbu.nd) (Zj (JL (Zee (JR (Jn ZdS hr (Zl (Ze 2) (Zl (Ze 1) Zb))))) (Zj ZbI) Jm))))))),?_⟩
 rw [show Zu ["thing","many","road"] [.ref a]=[some (.ref a),none,none] from rfl]
 refine Zy λB hB=>?_
 refine Zfl λA hA C hC=>?_
 walk_at "rd"
 simp only [ZkS ha]
 walk_at "rd"
 subst hC
 walk_at "rd"
 subst hB
 try dsimp only
 refine Zy λB hB=>?_
 refine Zfl λA hA C hC=>?_
 walk_at "rd"
 refine⟨xs,.inl ha,?_⟩
 rw [if_neg (by omega)]
 subst hC
 walk_at "rd"
 subst hB
 try dsimp only
 refine Zy λB hB=>?_
 walk_at "rd"
 refine⟨xs,.inl ha,?_⟩
 subst hB
 try dsimp only
 simp only [Z9]
 walk_at "rd"
 refine Ji (Plk H a xs.length) ⟨_,rfl,rfl⟩ (λi σ H' _ ⟨o,_,e⟩=>by rw [e]; exact .of ha) (λi x σ H' hi hP=>?_) (λσ H' hP=>?_)
 ·obtain⟨o,rfl,rfl⟩:=hP
  walk_at "rd"
  simp only [Zdq]
  walk_at "rd"
  exact⟨hx x (Ym hi),_,rfl,rfl⟩
 ·obtain⟨o,rfl,rfl⟩:=hP
  exact q
def Pwf(H0:Hp)(a p:Addr)(k0:Nat)(rs:List (Nat × Rat))(w0:List Nat)(σ:St)(H:Hp):Prop:=∃ (k:Nat) (pre w:List Nat),σ=[some (.ref a),some (.int k0),some (.ref p),some (.int k)]/\Zk H0 H/\H p=some (.lst (Zw pre))/\WayR rs k w/\w0=pre ++ w
def ZnH(F:Fun K "way_from" "way_from" ZcK f fd)(ZA:mg "len"=none):FnOk P w K mg base ZC 1 f fd ["roads","k"] ZiX:=by
 refine JU F Zbx λcdv A outer s H vs Q E hr h=>?_
 obtain⟨a,xs,rs,k0,w0,rfl,ha,hR,hw0,hwl,hrl,_,_,q⟩:=h
 refine⟨_,(Zc (Zn 2 Zbx.nd (JD Zb))
   (Zc (Zn 3 Zbx.nd (Ze 1))
   (Zc (Zb1 Yq (Zrf (Ze 3) Zd) (Zc (JL (Zo5 (Ju rfl ZA (Zl (Ze 2) Zb)) (Ju rfl ZA (Zl (Ze 0) Zb))) (Zj ZbI) Jm)
   (Zc (Jy (ZhI (Ze 2) (Zl (Ze 3) Zb)))
   (Zj (Zn 3 Zbx.nd (Jf (ZX (Ze 0) (Zea (Ze 3) Zd)) Zd))))))
   (Zj (ZF (Ze 2)))))),?_⟩
 rw [show Zu ["roads","k","way","place"] [.ref a,.int k0]=[some (.ref a),some (.int k0),none,none] from rfl]
 walk_at "rd"
 intro p H1 hp s1 e1
 refine Zce (Pwf H a p k0 rs w0) (λσ _=>wayM rs (Zi0 σ 3).toNat) ⟨k0,[],w0,rfl,s1,e1,hw0,rfl⟩ ?_
 rintro σ H2 ⟨k,pre,w,rfl,s2,e2,hw,hw1⟩
 walk_at "rd"
 have hap:a ≠ p:=λz=>by rw [z,hp] at ha; cases ha
 refine JI (λhc=>?_) (λhc=>?_)
 ·cases hw with
  | nil=>exact absurd rfl hc
  | @cons k r w h hw' =>
   have hkl:k < rs.length:=(Ye.mp h).1
   have hkx:k < xs.length:=by rw [hR.1]; exact hkl
   obtain⟨pr,y,ex,hpr,hy⟩:=hR.2 k _ r (Yb hkx) h
   have hrp:pr ≠ p:=λz=>by rw [z,hp] at hpr; cases hpr
   have hpl:pre.length < rs.length:=by
    have:=congrArg List.length hw1
    simp at this
    omega
   have hlen:(Zw pre).length < 1000000:=by simp [Zw]; omega
   simp only [e2,s2 _ _ ha]
   walk_at "rd"
   refine⟨λσ' H'=>σ'=[some (.ref a),some (.int k0),some (.ref p),some (.int r.1)]/\Pwf H a p k0 rs w0 σ' H',λσ' H' ⟨e,hP⟩=>⟨_,?_,rfl,hP⟩,?_⟩
   ·subst e
    show wayM rs ((r.1:Nat):Int).toNat < wayM rs (((k + 1:Nat)):Int).toNat
    rw [Y1,Y1,Zfd hw',Zfd (.cons h hw')]
    simp
   rw [if_neg (by have:=hR.1; simp [Zw]; omega)]
   refine⟨hlen,xs,by rw [Zg hap]; exact s2 _ _ ha,xs[k],?_,pr,ex,_,by rw [Zg hrp]; exact s2 _ _ hpr,_,rfl,rfl,?_⟩
   ·rw [show (((k + 1:Nat)):Int) - 1=(k:Int) by omega]
    exact ZP (Yb hkx)
   ·exact⟨r.1,pre ++ [k + 1],w,rfl,Zo hp s2,by rw [Zf]; simp [Zw],hw',by simp [hw1]⟩
 ·have hk0:k=0:=by omega
  subst hk0
  have e:=hw.zero
  subst e
  rw [Vx] at hw1
  subst hw1
  exact q p H2 hp s2 e2
theorem Jd.keep{H H':Hp}(h:Jd H x q)(s:∀ b ys,H b=some (.tup ys)->H' b=some (.tup ys)):Jd H' x q:=let ⟨p,e,h1⟩:=h; ⟨p,e,s _ _ h1⟩
theorem JE.keep{H H':Hp}{r:Nat × Rat}(h:JE H x r)(s:∀ b ys,H b=some (.tup ys)->H' b=some (.tup ys)):JE H' x r:=let ⟨p,y,e,h1,h2⟩:=h; ⟨p,y,e,s _ _ h1,h2.keep s⟩
theorem Js.keep{H H':Hp}(h:Js H xs rs)(s:∀ b ys,H b=some (.tup ys)->H' b=some (.tup ys)):Js H' xs rs:=⟨h.1,λi x r h1 h2=>(h.2 i x r h1 h2).keep s⟩
def Js.same{H H':Hp}(h:Js H xs rs)(s:Zk H H'):Js H' xs rs:=h.keep λb ys=>s b _
def ZrZ(H:Hp)(ws:List V)(rs:List (Nat × Rat)):Prop:=ws.length=rs.length + 1/\∀ (k:Nat) x,ws[k]?=some x->∃ p w,x=.ref p/\H p=some (.lst (Zw w))/\WayR rs k w/\w.length<=rs.length
def Jp(C:Addr)(H:Hp)(x:V)(rs:List (Nat × Rat)):Prop:=∃ a dx la wa ls ws,x=.ref a/\H a=some (.ins C dx [("lanes",.ref la),("ways",.ref wa)])/\H la=some (.lst ls)/\Js H ls rs/\H wa=some (.lst ws)/\ZrZ H ws rs
def Jp.same{C:Addr}{H H':Hp}(h:Jp C H x rs)(s:Zk H H'):Jp C H' x rs:=by
 obtain⟨a,dx,la,wa,ls,ws,e,h1,h2,h3,h4,h5,h6⟩:=h
 exact⟨a,dx,la,wa,ls,ws,e,s _ _ h1,s _ _ h2,h3.same s,s _ _ h4,h5,λk x hx=>let ⟨p,w,e,g1,g2⟩:=h6 k x hx; ⟨p,w,e,s _ _ g1,g2⟩⟩
def Zhz{r:Nat × Rat}{n:Int}(h:JE H x r)(h1:(r.1:Int) < n)(h2:0<=r.2.num):RdP H x n:=by
 obtain⟨p,y,rfl,hp,q,rfl,hq⟩:=h
 have hg:Int.gcd r.2.num (r.2.den:Int)=1:=by
  show Nat.gcd r.2.num.natAbs (Int.natAbs (r.2.den:Int))=1
  rw [VU]
  exact r.2.reduced
 have hd:1<=(r.2.den:Int):=by have:=r.2.den_pos; omega
 exact⟨p,_,_,rfl,hp,by omega,h1,q,_,_,rfl,hq,hd,hg,h2⟩
def ZjG(C:Addr):Sp:=λvs H Q _=>∃ (x dx a:Addr) (xs:List V) (rs:List (Nat × Rat)),vs=[.ref x,.ref a]/\H x=some (.ins C dx [])/\H a=some (.lst xs)/\Js H xs rs/\JB rs/\rs.length<=40/\(∀ r∈rs,0<=r.2.num) /\
 ∀ H',(∀ b o,b ≠ x->H b=some o->H' b=some o)->Jp C H' (.ref x) rs->(∀ l zs,H l=some (.lst zs)->∀ H'',Zk H' H''->∀ ys,Jp C (upd H'' l (.lst ys)) (.ref x) rs)->Q .non H'
def ZnP(F:Fun K "__init__" "Tree.__init__" Zaf f fd)(ZV:mg "list"=none)(ZA:mg "len"=none)(ZS:mg "range"=none)(ZH:Cls K CT)(ZaU:JG K CT "lanes")(Zby:JG K CT "ways")
  (ZbL:Fn P w K mg base ZC 5 "look_roads" ["thing"] Zgc) (ZcA:Fn P w K mg base ZC 1 "way_from" ["roads","k"] ZiX):FnOk P w K mg base ZC 6 f fd ["self","roads"] (ZjG CT):=by
 refine JU F Zda λcdv A outer s H vs Q E hr h=>?_
 obtain⟨x,dx,a,xs,rs,rfl,hx,ha,hR,hT,hl,hn,q⟩:=h
 refine⟨_,(Zc (Jy (Jn ZbL hr (Zl (Ze 1) Zb)))
   (Zc (Zp2 (Ze 0) (ZmY rfl ZV (Zl (Ze 1) Zb)))
   (Zj (Zp2 (Ze 0) (Zc5 (Zot ["k"] [1] ["roads"]) (Zei rfl ZS (Zl (Je (Ju rfl ZA (Zl (Ze 1) Zb)) Zd) Zb)) (by exact λs H fp=>(ZE 0 (show List.Nodup (["k","roads"]:List Str) from by decide +kernel))) (by exact λs H fp=>(Jn ZcA hr (Zl (Ze 1) (Zl (Ze 0) Zb))))))))),?_⟩
 rw [show Zu ["self","roads"] [.ref x,.ref a]=[some (.ref x),some (.ref a)] from rfl]
 walk_at "rd"
 simp only [Zgc,Zlq]
 walk_at "rd"
 refine⟨xs,ha,by rw [hR.1]; exact hl,λy hy=>?_,xs,.inl (.of ha),λl H1 hl1 s1 e1=>?_⟩
 ·obtain⟨i,hi⟩:=YC hy
  have hi':i < rs.length:=by rw [<- hR.1]; exact (Ye.mp hi).1
  obtain⟨_,_,_,hT2⟩:=hT
  have h2:=hT2 i _ (Yb hi')
  exact Zhz (hR.2 i y _ hi (Yb hi')) (by rw [hR.1]; omega) (hn _ (YQ hi'))
 refine⟨CT,dx,[],s1 _ _ hx,ZH,ZaU,by decide,?_⟩
 have hax:a ≠ x:=JF ha hx (by intro z; cases z)
 rw [show J0 (Str.ofString "lanes") (.ref l) []=[(Str.ofString "lanes",V.ref l)] from rfl]
 have k1:∀ b o,b ≠ x->H b=some o->upd H1 x (.ins CT dx [(Str.ofString "lanes",V.ref l)]) b=some o:=λb o hb e=>by rw [Zg hb]; exact s1 _ _ e
 have ha2:upd H1 x (.ins CT dx [(Str.ofString "lanes",V.ref l)]) a=some (.lst xs):=k1 _ _ hax ha
 have hl2:upd H1 x (.ins CT dx [(Str.ofString "lanes",V.ref l)]) l=some (.lst xs):=by rw [Zg (JF e1 (s1 _ _ hx) (by intro z; cases z))]; exact e1
 have hx2:upd H1 x (.ins CT dx [(Str.ofString "lanes",V.ref l)]) x=some (.ins CT dx [(Str.ofString "lanes",V.ref l)]):=Zf
 generalize upd H1 x (.ins CT dx [(Str.ofString "lanes",V.ref l)])=H2 at k1 ha2 hl2 hx2 ⊢
 simp only [Zec,ZjR,cxK]
 walk_at "rd"
 have hxl:=hR.1
 have hto:∀ r∈rs,r.1<=rs.length:=λr hr=>by
  obtain⟨_,_,_,g⟩:=id hT
  obtain⟨i,hi⟩:=YC hr
  exact (g i r hi).1
 refine⟨xs,.inl ha2,by omega,by omega,?_⟩
 rw [show Jv [some (V.ref x),some (V.ref a)] [1]=[some (V.ref a)] from rfl]
 have tk:∀ H3,Zk H2 H3->Js H3 xs rs:=λH3 sm=>hR.keep λb ys e=>sm _ _ (k1 b _ (JF e hx (by intro z; cases z)) e)
 refine Zja (λacc i ys H'=>Zk H2 H'/\H' acc=some (.lst ys)/\ys.length=i/\i<=50/\∀ (k:Nat) y,ys[k]?=some y->∃ p w,y=.ref p/\p ≠ acc/\H2 p=none/\H' p=some (.lst (Zw w))/\WayR rs k w/\w.length<=rs.length)
  (λacc H3 hn sm e=>⟨sm,e,rfl,by omega,λk y hy=>by simp at hy⟩) (λacc i ys H3 ⟨_,e,hl,hi,_⟩=>⟨e,by omega⟩) (λacc i ys H3 os hn hi hP ol=>?_) (λacc ys H3 hn' hP=>?_)
 ·obtain⟨sm,e,hyl,hi2,hE⟩:=hP
  obtain⟨o,rfl⟩:∃ o,os=[o]:=by match os,ol with | [o],_=>exact⟨o,rfl⟩
  obtain⟨w,hw,hwl⟩:=Zcm hT (k:=i) (by omega)
  walk_at "rd"
  refine⟨[some (.int (i:Int))],rfl,rfl,?_⟩
  refine⟨a,xs,rs,i,w,rfl,sm _ _ ha2,tk _ sm,hw,hwl,by omega,by omega,hto,λp' H4 hp' s4 e4=>⟨s4 _ _ e,Zo hn (sm.trans s4),Zf,by simp [hyl],by omega,λk y hy=>?_⟩⟩
  by_cases hk:k < ys.length
  ·rw [YJ hk] at hy
   obtain⟨p,w,e5,hpa,hpn,e6,e7⟩:=hE k y hy
   exact⟨p,e5,hpa,hpn,w,by rw [Zg hpa]; exact s4 _ _ e6,e7⟩
  ·have hk2:k=i:=by
    have:=(Ye.mp hy).1
    simp at this; omega
   subst hk2
   rw [YH (by omega),hyl] at hy
   have hy':V.ref p'=y:=by simpa using hy
   subst hy'
   have hpa:p' ≠ acc:=λz=>by rw [z,e] at hp'; cases hp'
   exact⟨p',rfl,hpa,sm.free hp',w,by rw [Zg hpa]; exact e4,hw,hwl⟩
 ·obtain⟨sm,e,hyl,hi2,hE⟩:=hP
  have nx:∀ b ys,H3 b=some (.lst ys)->b ≠ x:=λb ys e=>JF e (sm _ _ hx2) (by intro z; cases z)
  have gen:∀ H5:Hp,H5 x=some (.ins CT dx [("lanes",.ref l),("ways",.ref acc)])->H5 l=some (.lst xs)->H5 acc=some (.lst ys)->(∀ p w,H2 p=none->H3 p=some (.lst (Zw w))->H5 p=some (.lst (Zw w)))->(∀ b zs,H3 b=some (.tup zs)->H5 b=some (.tup zs))->Jp CT H5 (.ref x) rs:=by
   intro H5 g1 g2 g3 g4 g5
   refine⟨x,dx,l,acc,xs,ys,rfl,g1,g2,(tk _ sm).keep g5,g3,by omega,λk y hy=>?_⟩
   obtain⟨p,w,e5,_,hpn,e6,e7⟩:=hE k y hy
   exact⟨p,w,e5,g4 _ _ hpn e6,e7⟩
  refine⟨CT,dx,_,sm _ _ hx2,ZH,Zby,by show (1:Nat) < 1000; decide,q _ (λb o hb e=>by rw [Zg hb]; exact sm _ _ (k1 b o hb e)) ?_ (λl0 zs h0 H'' s'' us=>?_)⟩
  ·exact gen _ Zf (by rw [Zg (nx _ _ (sm _ _ hl2))]; exact sm _ _ hl2) (by rw [Zg (nx _ _ e)]; exact e) (λp w _ h=>by rw [Zg (nx _ _ h)]; exact h) (λb zs h=>by rw [Zg (JF h (sm _ _ hx2) (by intro z; cases z))]; exact h)
  ·have n1:x ≠ l0:=JF hx h0 (by intro z; cases z)
   have h2:H2 l0=some (.lst zs):=k1 _ _ (λz=>n1 z.symm) h0
   have h3:H'' l0=some (.lst zs):=s'' _ _ (by rw [Zg (λz=>n1 z.symm)]; exact sm _ _ h2)
   have keepL:∀ b ws,b ≠ l0->H3 b=some (.lst ws)->upd H'' l0 (.lst us) b=some (.lst ws):=λb ws hb h=>by
    rw [Zg hb]; exact s'' _ _ (by rw [Zg (nx _ _ h)]; exact h)
   have n2:l ≠ l0:=λz=>by rw [z,h0] at hl1; cases hl1
   have n3:acc ≠ l0:=λz=>by rw [z,h2] at hn'; cases hn'
   exact gen _ (by rw [Zg n1]; exact s'' _ _ Zf) (keepL _ _ n2 (sm _ _ hl2)) (keepL _ _ n3 e) (λp w hp h=>keepL _ _ (λz=>by rw [z,h2] at hp; cases hp) h)
    (λb zs' h=>by
     have hb:b ≠ l0:=JF h (sm _ _ h2) (by intro z; cases z)
     rw [Zg hb]; exact s'' _ _ (by rw [Zg (JF h (sm _ _ hx2) (by intro z; cases z))]; exact h))
def Zff(C:Addr):Sp:=λvs H Q _=>∃ x rs,vs=[x]/\Jp C H x rs/\Q (.int ((rs.length:Int) + 1)) H
def ZoV(F:Fun K "many" "Tree.many" Zan f fd)(ZA:mg "len"=none)(ZH:Cls K CT)(Zby:JG K CT "ways"):FnOk P w K mg base ZC 1 f fd ["self"] (Zff CT):=by
 refine JU F Zf1 λcdv A outer s H vs Q E hr h=>?_
 obtain⟨x,rs,rfl,⟨a,dx,la,wa,ls,ws,rfl,h1,h2,h3,h4,h5,h6⟩,q⟩:=h
 refine⟨_,(Zj (ZF (Ju rfl ZA (Zl (Zlu (Ze 0)) Zb)))),?_⟩
 rw [show Zu ["self"] [.ref a]=[some (.ref a)] from rfl]
 walk_at "rd"
 refine⟨CT,dx,_,h1,ZH,Zby,.ref wa,rfl,wa,rfl,ws,.inl h4,?_⟩
 rw [show ((ws.length:Nat):Int)=(rs.length:Int) + 1 by omega]
 exact q
def inT(rs:List (Nat × Rat))(k:Int):Prop:=0<=k/\k<=rs.length
def ZeU(C CNP:Addr):Sp:=λvs H Q E=>∃ x rs k,vs=[x,.int k]/\Jp C H x rs/\(inT rs k->Q .non H)/\(¬ inT rs k->E (.ref CNP) none H)
def Zmj(F:Fun K "look_crossing" "Tree.look_crossing" Zaa f fd)(ZN:Fn P w K mg base ZC 1 "is_whole" ["thing"] ZaS)
  (Zey:Mth P w K mg base ZC 1 CT "many" ["self"] (Zff CT)):FnOk P w K mg base ZC 2 f fd ["self","k"] (λvs H Q _=>ZeU CT CNP vs H Q E0):=by
 refine JU F ZbG λcdv A outer s H vs Q E hr h=>?_
 obtain⟨x,rs,k,rfl,hT,q1,q2⟩:=h
 have hin:inT rs k:=Vb λz=>q2 z
 refine⟨_,(Zj (JL (t_w (ZoL (Zee (JR (Jn ZN hr (Zl (Ze 1) Zb)))) (ZoL (ZqC (Ze 1) Zd) (Zhx (Zr8 (Ze 1) (ZiB Zey hr (by decide) (Ze 0))))))) (Zj ZbI) Jm)),?_⟩
 rw [show Zu ["self","k"] [x,.int k]=[some (x),some (.int k)] from rfl]
 walk_at "rd"
 simp only [ZaS,Zff]
 walk_at "rd"
 refine⟨ZcP k,?_⟩
 rw [if_neg (by simp [isW])]
 refine JI (λc=>absurd hin (by unfold inT; omega)) (λc=>?_)
 obtain⟨a,dx,la,wa,ls,ws,rfl,h1,_⟩:=id hT
 exact⟨a,rfl,dx,_,h1,rfl,rs,hT,JI (λc2=>absurd hin (by unfold inT; omega)) (λc2=>q1 hin)⟩
def Ze9(C CNP:Addr):Sp:=λvs H Q E=>∃ x rs k,vs=[x,.int k]/\Jp C H x rs/\(∀ (p:Addr) (H':Hp) (k':Nat) (w:List Nat),k=(k':Int)->H p=none->Zk H H'->H' p=some (.lst (Zw w))->WayR rs k' w->w.length<=rs.length->Q (.ref p) H')/\(¬ inT rs k->E (.ref CNP) none H)
def ZoN(F:Fun K "way" "Tree.way" Zaq f fd)(ZV:mg "list"=none)(ZH:Cls K CT)(Zby:JG K CT "ways")
  (Zam:Mth P w K mg base ZC 2 CT "look_crossing" ["self","k"] (λvs H Q _=>ZeU CT CNP vs H Q E0)):FnOk P w K mg base ZC 3 f fd ["self","k"] (λvs H Q _=>Ze9 CT CNP vs H Q E0):=by
 refine JU F ZgT λcdv A outer s H vs Q E hr h=>?_
 obtain⟨x,rs,k,rfl,hT,q1,q2⟩:=h
 have hin:inT rs k:=Vb λz=>q2 z
 refine⟨_,(Zc (Jy (ZbT Zam hr (by decide) (Ze 0) (Zl (Ze 1) Zb)))
   (Zj (ZF (ZmY rfl ZV (Zl (ZX (Zlu (Ze 0)) (Ze 1)) Zb))))),?_⟩
 rw [show Zu ["self","k"] [x,.int k]=[some (x),some (.int k)] from rfl]
 walk_at "rd"
 simp only [Zlq]
 walk_at "rd"
 obtain⟨a,dx,la,wa,ls,ws,rfl,h1,h2,h3,h4,h5,h6⟩:=id hT
 refine⟨a,rfl,dx,_,h1,rfl,.ref a,rs,k,rfl,hT,λ_=>?_,λz=>z hin⟩
 obtain⟨k',hk'⟩:∃ k':Nat,k=(k':Int):=⟨k.toNat,by unfold inT at hin; omega⟩
 subst hk'
 have hlt:k' < ws.length:=by unfold inT at hin; omega
 obtain⟨p,w,e5,e6,e7,e8⟩:=h6 k' _ (Yb hlt)
 exact⟨a,rfl,CT,dx,_,h1,ZH,Zby,.ref wa,rfl,wa,rfl,ws,h4,_,ZP (Yb hlt),p,e5,Zw w,.inl (.of e6),λl H2 hl s e=>q1 l H2 k' w rfl hl s e e7 e8⟩
def WayR.le{w:List Nat}(h:WayR rs k w):k<=rs.length:=by
 cases h with
 | nil=>exact YF _
 | cons h hw=>exact (Ye.mp h).1
def inR(rs:List (Nat × Rat))(k:Int):Prop:=1<=k/\k<=rs.length
def ZeN(C CNP:Addr):Sp:=λvs H Q E=>∃ x rs k,vs=[x,.int k]/\Jp C H x rs/\(inR rs k->Q .non H)/\(¬ inR rs k->E (.ref CNP) none H)
def Zlg(F:Fun K "look_road" "Tree.look_road" Zad f fd)
  (Zam:Mth P w K mg base ZC 2 CT "look_crossing" ["self","k"] (λvs H Q _=>ZeU CT CNP vs H Q E0)):FnOk P w K mg base ZC 3 f fd ["self","k"] (λvs H Q _=>ZeN CT CNP vs H Q E0):=by
 refine JU F ZcT λcdv A outer s H vs Q E hr h=>?_
 obtain⟨x,rs,k,rfl,hT,q1,q2⟩:=h
 have hin:inR rs k:=Vb λz=>q2 z
 refine⟨_,(Zc (Jy (ZbT Zam hr (by decide) (Ze 0) (Zl (Ze 1) Zb)))
   (Zj (JL (Zo5 (Ze 1) Zd) (Zj ZbI) Jm))),?_⟩
 rw [show Zu ["self","k"] [x,.int k]=[some (x),some (.int k)] from rfl]
 walk_at "rd"
 obtain⟨a,dx,la,wa,ls,ws,rfl,h1,_⟩:=id hT
 refine⟨a,rfl,dx,_,h1,rfl,.ref a,rs,k,rfl,hT,λ_=>?_,λz=>z ⟨by unfold inR at hin; omega,by unfold inR at hin; omega⟩⟩
 exact JI (λc=>absurd hin (by unfold inR; omega)) (λc=>q1 hin)
open Classical in
noncomputable def wayL(rs:List (Nat × Rat))(k:Nat):List Nat:=if h:∃ w,WayR rs k w then h.choose else []
theorem Zbi{w:List Nat}(h:WayR rs k w):wayL rs k=w:=by
 have hh:∃ w,WayR rs k w:=⟨w,h⟩
 unfold wayL
 rw [dif_pos hh]
 exact h.uniq hh.choose_spec
def Zm6{w:List Nat}:inV (.int (k:Int)) (Zw w)=decide (k∈w):=by
 unfold inV Zw
 rw [List.any_map,Vl,List.any_eq_true,Vj]
 constructor
 ·rintro⟨y,hy,e⟩
  have e:(y:Int)=(k:Int):=by simpa [eqV] using e
  have:y=k:=by omega
  rw [<- this]; exact hy
 ·intro h
  exact⟨k,h,by simp [eqV]⟩
def ZkY{w:List Nat}:(Zw w).all JW=true:=by
 rw [List.all_eq_true]
 intro v hv
 obtain⟨k,_,rfl⟩:=Yk.mp hv
 rfl
def ZdO(C CNP:Addr):Sp:=λvs H Q E=>∃ x rs k,vs=[x,.int k]/\Jp C H x rs/\(∀ (k':Nat) r y,k=(k':Int) + 1->rs[k']?=some r->Jd H y r.2->Q y H)/\(¬ inR rs k->E (.ref CNP) none H)
def Zi9(F:Fun K "price" "Tree.price" Zak f fd)(ZH:Cls K CT)(ZaU:JG K CT "lanes")
  (ZaE:Mth P w K mg base ZC 3 CT "look_road" ["self","k"] (λvs H Q _=>ZeN CT CNP vs H Q E0)):FnOk P w K mg base ZC 4 f fd ["self","k"] (λvs H Q _=>ZdO CT CNP vs H Q E0):=by
 refine JU F ZeM λcdv A outer s H vs Q E hr h=>?_
 obtain⟨x,rs,k,rfl,hT,q1,q2⟩:=h
 have hin:inR rs k:=Vb λz=>q2 z
 refine⟨_,(Zc (Jy (ZbT ZaE hr (by decide) (Ze 0) (Zl (Ze 1) Zb)))
   (Zj (ZF (Jf (ZX (Zlu (Ze 0)) (Zea (Ze 1) Zd)) Zd)))),?_⟩
 rw [show Zu ["self","k"] [x,.int k]=[some (x),some (.int k)] from rfl]
 walk_at "rd"
 obtain⟨a,dx,la,wa,ls,ws,rfl,h1,h2,h3,_⟩:=id hT
 refine⟨a,rfl,dx,_,h1,rfl,.ref a,rs,k,rfl,hT,λ_=>?_,λz=>z hin⟩
 obtain⟨k',hk'⟩:∃ k':Nat,k=(k':Int) + 1:=⟨(k - 1).toNat,by unfold inR at hin; omega⟩
 subst hk'
 have hl:=h3.1
 have hlr:k' < rs.length:=by unfold inR at hin; omega
 have hls:k' < ls.length:=by omega
 obtain⟨p,y,e,e2,e3⟩:=h3.2 k' _ _ (Yb hls) (Yb hlr)
 refine⟨a,rfl,CT,dx,_,h1,ZH,ZaU,.ref la,rfl,la,rfl,ls,h2,_,?_,p,e,_,e2,_,rfl,q1 k' _ y rfl (Yb hlr) e3⟩
 rw [show (k':Int) + 1 - 1=(k':Int) by omega]
 exact ZP (Yb hls)
def ZfC(C CNP:Addr):Sp:=λvs H Q E=>∃ x rs k,vs=[x,.int k]/\Jp C H x rs/\(∀ (k':Nat) r,k=(k':Int) + 1->rs[k']?=some r->Q (.int (r.1:Int)) H)/\(¬ inR rs k->E (.ref CNP) none H)
def ZiA(F:Fun K "leads_to" "Tree.leads_to" Zae f fd)(ZH:Cls K CT)(ZaU:JG K CT "lanes")
  (ZaE:Mth P w K mg base ZC 3 CT "look_road" ["self","k"] (λvs H Q _=>ZeN CT CNP vs H Q E0)):FnOk P w K mg base ZC 4 f fd ["self","k"] (λvs H Q _=>ZfC CT CNP vs H Q E0):=by
 refine JU F Zc8 λcdv A outer s H vs Q E hr h=>?_
 obtain⟨x,rs,k,rfl,hT,q1,q2⟩:=h
 have hin:inR rs k:=Vb λz=>q2 z
 refine⟨_,(Zc (Jy (ZbT ZaE hr (by decide) (Ze 0) (Zl (Ze 1) Zb)))
   (Zj (ZF (Jf (ZX (Zlu (Ze 0)) (Zea (Ze 1) Zd)) Zd)))),?_⟩
 rw [show Zu ["self","k"] [x,.int k]=[some (x),some (.int k)] from rfl]
 walk_at "rd"
 obtain⟨a,dx,la,wa,ls,ws,rfl,h1,h2,h3,_⟩:=id hT
 refine⟨a,rfl,dx,_,h1,rfl,.ref a,rs,k,rfl,hT,λ_=>?_,λz=>z hin⟩
 obtain⟨k',hk'⟩:∃ k':Nat,k=(k':Int) + 1:=⟨(k - 1).toNat,by unfold inR at hin; omega⟩
 subst hk'
 have hl:=h3.1
 have hlr:k' < rs.length:=by unfold inR at hin; omega
 have hls:k' < ls.length:=by omega
 obtain⟨p,y,e,e2,e3⟩:=h3.2 k' _ _ (Yb hls) (Yb hlr)
 refine⟨a,rfl,CT,dx,_,h1,ZH,ZaU,.ref la,rfl,la,rfl,ls,h2,_,?_,p,e,_,e2,_,rfl,q1 k' _ rfl (Yb hlr)⟩
 rw [show (k':Int) + 1 - 1=(k':Int) by omega]
 exact ZP (Yb hls)
def Zeq(kvs:List (ZQ × V))(n:Nat):Prop:=∀ kv∈kvs,∃ (z:Str) (h:Nat),kv=(Sum.inr z,.int (h:Int))/\h<=n
def Zeq.put{kvs:List (ZQ × V)}(h:Zeq kvs n){z:Str}{k:Nat}(hk:k<=n):Zeq (Jj kvs (Sum.inr z) (.int (k:Int))) n:=by
 unfold Jj
 split
 ·intro kv hkv
  obtain⟨kv',h1,rfl⟩:=Yk.mp hkv
  split
  ·rename_i e
   exact⟨z,k,by rw [e],hk⟩
  ·exact h _ h1
 ·intro kv hkv
  rcases YA.mp hkv with h1 | h1
  ·exact h _ h1
  ·rw [YY.mp h1]
   exact⟨z,k,rfl,hk⟩
def Zkd{kvs:List (ZQ × V)}(h:(kvs.map (·.1)).Nodup)(k:ZQ)(v:V):((Jj kvs k v).map (·.1)).Nodup:=by
 unfold Jj
 split
 ·rw [Yw]
  have:((λkv:ZQ × V=>kv.1) ∘ λkv=>if kv.1=k then (kv.1,v) else kv)=λkv=>kv.1:=by
   funext kv
   show (if kv.1=k then (kv.1,v) else kv).1=kv.1
   split <;> rfl
  rw [this]
  exact h
 ·rename_i c
  rw [Y8]
  refine List.nodup_append.mpr ⟨h,by simp,λx hx y hy=>?_⟩
  simp only [List.map_cons,List.map_nil,List.mem_singleton] at hy
  subst hy
  intro e
  subst e
  obtain⟨kv,h1,h2⟩:=Yk.mp hx
  exact c (List.any_eq_true.mpr ⟨kv,h1,by rw [h2]; simp⟩)
def ZeW(kvs:List (ZQ × V))(ss:List Str)(hs:List Nat)(n:Nat):Prop:=ss.length=hs.length/\∀ (i:Nat) z h,ss[i]?=some z->hs[i]?=some h->Z8 kvs (Sum.inr z)=some (.int (h:Int))/\h<=n
def Jo(rs:List (Nat × Rat))(hs:List Nat)(k:Nat):Prop:=∃ h∈hs,∃ w,WayR rs h w/\k∈w
def Zdk{H H':Hp}{a:Addr}{u:HO}(h:Rd H a u)(s:Zk H H'):Rd H' a u:=h.elim (λe=>.inl (s _ _ e)) λ⟨o,e⟩=>.inr ⟨o,s _ _ e⟩
variable {hs:List Nat}
def Zkn{i h:Nat}{w:List Nat}(hh:hs[i]?=some h)(hw:WayR rs h w)(k:Nat):Jo rs (hs.take (i + 1)) k ↔ Jo rs (hs.take i) k\/k∈w:=by
 unfold Jo
 rw [YB,hh]
 constructor
 ·rintro⟨h',hm,w',hw',hk⟩
  rcases YA.mp hm with hm | hm
  ·exact .inl ⟨h',hm,w',hw',hk⟩
  ·have e:h'=h:=by simpa using hm
   subst e
   rw [hw.uniq hw'] at hk
   exact .inr hk
 ·rintro (⟨h',hm,w',hw',hk⟩ | hk)
  ·exact⟨h',VT _ hm,w',hw',hk⟩
  ·exact⟨h,List.mem_append_right _ (by simp),w,hw,hk⟩
def Zbk(C:Addr):Sp:=λvs H Q _=>∃ (x:V) (rs:List (Nat × Rat)) (d g:Addr) (kvs:List (ZQ × V)) (ss:List Str) (hs:List Nat),vs=[x,.ref d,.ref g]/\Jp C H x rs/\Rd H d (.dK kvs)/\H g=some (.lst (ss.map V.str))/\ZeW kvs ss hs rs.length/\rs.length<=40/\ss.length < 50/\JB rs /\
 ∀ p H' (ks:List Nat),H p=none->Zk H H'->H' p=some (.lst (Zw ks))->ks.Pairwise (· < ·)->(∀ k,k∈ks ↔ Jo rs hs k)->Q (.ref p) H'
def Pnd(H0:Hp)(x:V)(d g l:Addr)(rs:List (Nat × Rat))(hs:List Nat)(i:Nat)(σ:St)(H:Hp):Prop:=∃ (o:Option V) (acc:List Nat),σ=[some x,some (.ref d),some (.ref g),some (.ref l),o]/\Zk H0 H/\H l=some (.lst (Zw acc))/\acc.length<=40 * i/\∀ k,k∈acc ↔ Jo rs (hs.take i) k
def ZjP(F:Fun K "needed" "needed" Ze8 f fd)(ZW:mg "sorted"=none)(Zn6:mg "set"=none)(Zfm:Mth P w K mg base ZC 3 CT "way" ["self","k"] (λvs H Q _=>Ze9 CT CNP vs H Q E0)):FnOk P w K mg base ZC 4 f fd ["tree","homes","group"] (Zbk CT):=by
 refine JU F Zdm λcdv A outer s H vs Q E hr h=>?_
 obtain⟨x,rs,d,g,kvs,ss,hs,rfl,hT,hd,hg,hH,hrl,hsl,hO,q⟩:=h
 refine⟨_,(Zc (Zn 3 Zdm.nd (JD Zb))
   (Zc (Jq Yq (Jg (Ze 2)) (ZE 4 Zdm.nd) (Zj (Jy (ZrX (Ze 3) (Zl (ZbT Zfm hr (by decide) (Ze 0) (Zl (ZbQ (JA hr) (Ze 1) (Ze 4)) Zb)) Zb)))))
   (Zj (ZF (Zkv rfl ZW rfl Zn6 (Zl (Ze 3) Zb)))))),?_⟩
 rw [show Zu ["tree","homes","group","roads","name"] [x,.ref d,.ref g]=[some (x),some (.ref d),some (.ref g),none,none] from rfl]
 walk_at "rd"
 simp only [Z9]
 walk_at "rd"
 intro l H1 hl s1 e1
 refine Ji (Pnd H x d g l rs hs) ⟨_,[],rfl,s1,e1,Nat.zero_le _,λk=>⟨(λz=>by cases z),(λ⟨h,hm,_⟩=>by simp at hm)⟩⟩ (λi σ H' _ ⟨_,_,_,sm,_⟩=>.of (sm _ _ hg)) (λi y σ H' hi hP=>?_) (λσ H' hP=>?_)
 ·obtain⟨o,acc,rfl,sm,e2,hal,hm⟩:=hP
  rw [Yg] at hi
  obtain⟨z,hz,rfl⟩:∃ z,ss[i]?=some z/\y=V.str z:=by cases h:ss[i]? with | none=>rw [h] at hi; cases hi | some z=>rw [h] at hi; cases hi; exact⟨z,rfl,rfl⟩
  have hi':i < ss.length:=(Ye.mp hz).1
  have hih:i < hs.length:=by rw [<- hH.1]; exact hi'
  have hh:=Yb hih
  obtain⟨hv,hle⟩:=hH.2 i z _ hz hh
  obtain⟨w0,hw0,hwl0⟩:=Zcm hO hle
  walk_at "rd"
  obtain⟨xa,dx,la,wa,ls,ws,rfl,h1,_⟩:=id (hT.same sm)
  refine⟨⟨_,e2⟩,xa,rfl,dx,_,h1,rfl,kvs,Zdk hd sm,.inr z,rfl,_,hv,.ref xa,rs,_,rfl,hT.same sm,λp H2 k' w1 ek hp s2 e3 hw1 hwl1=>?_,λzz=>absurd ⟨by omega,by omega⟩ zz⟩
  have ek':hs[i]=k':=by omega
  subst ek'
  have ew:=hw0.uniq hw1
  subst ew
  refine⟨p,rfl,_,s2 _ _ e2,_,e3,?_,_,acc ++ w1,rfl,Zo hl (sm.trans s2),by rw [Zf]; simp [Zw],by simp; omega,λk=>?_⟩
  ·exact Nat.le_trans (show _<=10000 by simp [Zw]; omega) (by decide)
  ·rw [Zkn hh hw0 k,YA,hm k]
 ·obtain⟨o,acc,rfl,sm,e2,hal,hm⟩:=hP
  walk_at "rd"
  have hss:ss.length=hs.length:=hH.1
  rw [Yf,hss,Y2] at hm
  have hbd:∀ k∈acc,1<=k/\k<=rs.length:=λk hk=>by
   obtain⟨h,_,w0,hw,hk2⟩:=(hm k).mp hk
   exact hw.mem k hk2
  refine⟨acc.map Int.ofNat,by rw [e2]; simp [Zw],by simp at hal ⊢; omega,λk hk=>?_,λp H2 ks hp s2 e3 hpw hmem=>?_⟩
  ·obtain⟨k',hk',rfl⟩:=Yk.mp hk
   have:=hbd k' hk'
   show 0<=(k':Int)/\(k':Int) < 60
   omega
  ·have hnat:∀ k∈ks,0<=k:=λk hk=>by
    obtain⟨k',_,rfl⟩:=Yk.mp ((hmem k).mp hk)
    exact Int.natCast_nonneg k'
   have eks:(ks.map Int.toNat).map Int.ofNat=ks:=by
    rw [Yw]
    conv=>rhs; rw [<- List.map_id ks]
    exact YL λk hk=>V6 (hnat k hk)
   refine q p H2 (ks.map Int.toNat) (sm.free hp) (sm.trans s2) ?_ ?_ λk=>?_
   ·rw [e3]
    conv=>lhs; rw [<- eks]
    simp [Zw]
   ·rw [List.pairwise_map]
    exact hpw.imp_of_mem λha hb h=>by have:=hnat _ ha; have:=hnat _ hb; omega
   ·rw [<- hm k]
    constructor
    ·intro h
     obtain⟨k',hk',rfl⟩:=Yk.mp h
     obtain⟨k2,hk2,e⟩:=Yk.mp ((hmem k').mp hk')
     have:k'.toNat=k2:=by rw [<- e]; rfl
     rw [this]
     exact hk2
    ·intro h
     exact Yk.mpr ⟨(k:Int),(hmem _).mpr (Yk.mpr ⟨k,h,rfl⟩),rfl⟩
def Zr(rs:List (Nat × Rat))(k:Nat):Rat:=((rs[k - 1]?).map (·.2)).getD 0
theorem Jt.keep{H H':Hp}(h:Jt H xs qs)(s:∀ b ys,H b=some (.tup ys)->H' b=some (.tup ys)):Jt H' xs qs:=⟨h.1,λi x q h1 h2=>(h.2 i x q h1 h2).keep s⟩
theorem Jt.snoc(h:Jt H xs qs)(hx:Jd H x q):Jt H (xs ++ [x]) (qs ++ [q]):=⟨by simp [h.1],λi y r h1 h2=>by
 by_cases c:i < xs.length
 ·rw [YJ c] at h1
  rw [YJ (by rw [<- h.1]; exact c)] at h2
  exact h.2 i y r h1 h2
 ·have hi:i=xs.length:=by have:=(List.getElem?_eq_some_iff.mp h1).1; simp at this; omega
  subst hi
  rw [YH (Yd _)] at h1
  rw [h.1,YH (Yd _)] at h2
  simp at h1 h2
  subst h1
  subst h2
  exact hx⟩
variable {ks:List Nat}
def Zdw(h:ks.Pairwise (· < ·))(hb:∀ k∈ks,1<=k/\k<=n):ks.length<=n:=by
 have hs:ks ⊆ List.range' 1 n:=λk hk=>by
  obtain⟨h1,h2⟩:=hb k hk
  exact List.mem_range'_1.mpr ⟨h1,by omega⟩
 have hn:ks.Nodup:=h.imp λh e=>by rw [e] at h; exact YX _ h
 have:=YS hn hs
 simpa using this
def Zkx{ks ls:List Nat}(h1:ks.Pairwise (· < ·))(h2:ls.Pairwise (· < ·))(h:∀ k,k∈ks ↔ k∈ls):ks=ls:=by
 have n1:ks.Nodup:=h1.imp λh e=>by rw [e] at h; exact YX _ h
 have n2:ls.Nodup:=h2.imp λh e=>by rw [e] at h; exact YX _ h
 have p:ks.Perm ls:=(List.perm_ext_iff_of_nodup n1 n2).mpr h
 exact List.Perm.eq_of_pairwise (λa b _ _ h1 h2=>absurd h2 (Nat.lt_asymm h1)) h1 h2 p
def Jb(h:Jo rs hs k):1<=k/\k<=rs.length:=by
 obtain⟨_,_,_,hw,hk⟩:=h
 exact hw.mem k hk
variable {z:Str}{ss:List Str}
def ZnB:inV (V.str z) (ss.map V.str)=decide (z∈ss):=by
 unfold inV
 rw [List.any_map]
 induction ss with
 | nil=>simp
 | cons y ss ih =>
  rw [VN,ih]
  show ((y == z) || _)=_
  by_cases c:y=z
  ·subst c; simp
  ·have:(y == z)=false:=by simpa using c
   rw [this,Bool.false_or]
   simp [Ne.symm c]
def ZiR(ss:List Str):(ss.map V.str).all JW=true:=by
 rw [List.all_eq_true]
 intro x hx
 obtain⟨z,_,rfl⟩:=Yk.mp hx
 rfl
variable {hf:Str->Nat}
def ZlX{gs:List Str}:Jo rs (gs.map hf) k ↔ ∃ z∈gs,∃ w,WayR rs (hf z) w/\k∈w:=by
 unfold Jo
 constructor
 ·rintro⟨h,hm,w⟩
  obtain⟨z,hz,rfl⟩:=Yk.mp hm
  exact⟨z,hz,w⟩
 ·rintro⟨z,hz,w⟩
  exact⟨_,Yk.mpr ⟨z,hz,rfl⟩,w⟩
def Zcp(qs:List Rat):Rat:=qs.foldl (· + ·) 0
def ZfA(qs:List Rat):∀ a:Rat,qs.foldl (· + ·) a=a + qs.foldl (· + ·) 0:=by
 induction qs with
 | nil=>intro a; exact (Rat.add_zero a).symm
 | cons q qs ih =>
  intro a
  show qs.foldl (· + ·) (a + q)=a + qs.foldl (· + ·) (0 + q)
  rw [ih (a + q),ih (0 + q),Rat.zero_add,Rat.add_assoc]
def ZdH(q:Rat)(qs:List Rat):Zcp (q :: qs)=q + Zcp qs:=by
 show qs.foldl (· + ·) (0 + q)=_
 rw [Rat.zero_add,ZfA]
 rfl
def SzA(q:Rat):Prop:=q.num.natAbs < 2 ^ 20000/\q.den < 2 ^ 4490
theorem SzA.den(h:SzA q):(q.den:Int).natAbs < 2 ^ 4490:=by simpa using h.2
theorem SzQ.a(h:SzQ n q)(hn:n<=4490:=by decide):SzA q:=⟨(h.mono (show n<=20000 by omega)).1,(h.mono hn).2⟩
def Zfb(qs ps:List Rat):Zcp (qs ++ ps)=Zcp qs + Zcp ps:=by
 unfold Zcp
 rw [List.foldl_append,ZfA]
def ZaX(hz:∀ r∈rs,SzQ 110 r.2)(k:Nat):SzQ 110 (Zr rs k):=by
 unfold Zr
 cases h:rs[k - 1]? with
 | none=>exact Zm9 (by decide)
 | some r=>exact hz r (Ym h)
def ZgU:Sp:=λvs H Q _=>∃ (x y:V) (p q:Rat),vs=[x,y]/\Jd H x p/\Jd H y q/\SzA p/\SzA q/\∀ r H',Zk H H'->Jd H' r (p + q)->Q r H'
def ZoH(F:Fun K "_law_plus" "_law_plus" ZcG f fd)(ZU:Fn P w K mg base ZC 1 "_law_low" ["_law_top","_law_bottom"] ZbE):FnOk P w K mg base ZC 2 f fd ["_law_one","_law_other"] ZgU:=by
 refine JU F ZgG λcdv A outer s H vs Q E hr h=>?_
 obtain⟨x,y,p,t,rfl,⟨a,rfl,ha⟩,⟨b,rfl,hb⟩,z1,z2,q⟩:=h
 refine⟨_,(Zj (ZF (Jn ZU hr (Zl (Je (Jr (Jf (Ze 0) Zd) (Jf (Ze 1) Zd)) (Jr (Jf (Ze 1) Zd) (Jf (Ze 0) Zd))) (Zl (Jr (Jf (Ze 0) Zd) (Jf (Ze 1) Zd)) Zb))))),?_⟩
 rw [show Zu ["_law_one","_law_other"] [.ref a,.ref b]=[some (.ref a),some (.ref b)] from rfl]
 walk_at "rd"
 simp only [ha,hb,ZbE]
 walk_at "rd"
 have hp:=p.den_pos
 have ht:=t.den_pos
 refine⟨JK z1.1 z2.den (by decide),JK z2.1 z1.den (by decide),JK z1.den z2.den (by decide),Big.of (Zbm z1.den z2.den) (by decide),Int.mul_pos (by omega) (by omega),λr H' hs v=>q r H' hs ?_⟩
 rw [ZhO]
 exact v
def ZiU{a:Addr}{o:Obj}{kvs:List (ZQ × V)}{cp:St}{tt:TT}{H1:Hp}{Q:VK}(r:Str->Bool)(ha:H1 a=some (.frz o (.dK kvs)))(he:(kvs.map λkv=>kV kv.1)=ss.map V.str)(hl:ss.length < 1000)(ht:∀ z∈ss,∀ H' (k:Bool->Hp->Prop),Zk H1 H'->(∀ H2,Zk H' H2->k (r z) H2)->tt (some (V.str z) :: cp) H' k)
  (q:∀ p H',H1 p=none->Zk H1 H'->H' p=some (.lst ((ss.filter r).map V.str))->Q (.ref p) H'):Zfz 1 cp (Itd a o kvs) (Zc6 0) tt (Zo0 0) H1 Q:=by
 have hlen:kvs.length=ss.length:=by have:=congrArg List.length he; simpa using this
 refine Zle (λacc i ys H'=>Zk H1 H'/\H' acc=some (.lst ys)/\ys=((ss.take i).filter r).map V.str/\i<=ss.length)
  (λacc H2 hn sm e=>⟨sm,e,by simp,Nat.zero_le _⟩) (λacc i ys H2 ⟨sm,e,e2,hi⟩=>⟨e,?_,sm _ _ ha⟩) (λacc i kv ys H2 os hn hi hP ol=>?_) (λacc ys H2 hn hP=>?_)
 ·rw [e2,Yf]
  exact Ys (VC _ _) (by rw [Yz]; omega)
 ·obtain⟨sm,e,e2,_⟩:=hP
  obtain⟨o',rfl⟩:∃ o',os=[o']:=by match os,ol with | [o'],_=>exact⟨o',rfl⟩
  obtain⟨z,hz,ek⟩:∃ z,ss[i]?=some z/\kV kv.1=V.str z:=by
   have h1:=congrArg (·[i]?) he
   simp only [List.getElem?_map,hi,Option.map_some] at h1
   cases h:ss[i]? with
   | none=>rw [h] at h1; cases h1
   | some z=>rw [h] at h1; exact⟨z,rfl,by simpa using h1⟩
  rw [ek]
  have hil:=(Ye.mp hz).1
  refine⟨[some (V.str z)],rfl,rfl,ht z (Ym hz) H2 _ sm λH3 s3=>?_⟩
  replace sm:=sm.trans s3
  replace e:=s3 _ _ e
  have tk:(ss.take (i + 1)).filter r=(ss.take i).filter r ++ (if r z=true then [z] else []):=by
   rw [YB,hz,List.filter_append]
   congr 1
   show [z].filter r=_
   by_cases c:r z=true
   ·rw [Yaf c,if_pos c]; rfl
   ·rw [Yag c,if_neg c]; rfl
  refine JI (λc=>⟨V.str z,rfl,e,Zo hn sm,Zf,?_,hil⟩) (λc=>⟨sm,e,?_,hil⟩)
  ·rw [tk,if_pos c,e2,Y8]; rfl
  ·rw [tk,if_neg c,Vx,e2]
 ·obtain⟨sm,e,e2,_⟩:=hP
  rw [hlen,Y2] at e2
  subst e2
  exact q acc H2 hn sm e
def Vil(kvs:List (ZQ × V))(ss:List Str)(hf:Str->Nat)(n:Nat):Prop:=(kvs.map λkv=>kV kv.1)=ss.map V.str/\ss.length < 50/\∀ z∈ss,Z8 kvs (Sum.inr z)=some (.int (hf z:Int))/\hf z<=n
theorem Vil.of{kvs:List (ZQ × V)}(h1:(kvs.map λkv=>kV kv.1)=ss.map V.str)(hl:ss.length < 50)(h2:∀ gs:List Str,(∀ z∈gs,z∈ss)->ZeW kvs gs (gs.map hf) n):Vil kvs ss hf n :=
 ⟨h1,hl,λz hz=>(h2 [z] (λy hy=>by rw [YY.mp hy]; exact hz)).2 0 z (hf z) rfl rfl⟩
section
variable {P:Program}{w:World}{K:PySem.W.Frag}{mg:Str->Option Value}{base:Heap}{f:Addr}{fd:FuncData}{CT CNP CNT CSE:Addr}
end
def JV(R:Hp->V->α->Prop)(H:Hp)(xs:List V)(as:List α):Prop:=xs.length=as.length/\∀ (i:Nat) x a,xs[i]?=some x->as[i]?=some a->R H x a
def Zku(R:Hp->V->α->Prop):Prop:=∀ H H' v a,R H v a->(∀ b ys,H b=some (.tup ys)->H' b=some (.tup ys))->R H' v a
theorem JV.keep{R:Hp->V->α->Prop}(kR:Zku R){H H':Hp}{xs:List V}{as:List α}(h:JV R H xs as)(s:∀ b ys,H b=some (.tup ys)->H' b=some (.tup ys)):JV R H' xs as:=⟨h.1,λi x a h1 h2=>kR _ _ _ _ (h.2 i x a h1 h2) s⟩
theorem JV.snoc{R:Hp->V->α->Prop}{as:List α}{a:α}(h:JV R H xs as)(hx:R H x a):JV R H (xs ++ [x]) (as ++ [a]):=⟨by simp [h.1],λi y r h1 h2=>by
 by_cases c:i < xs.length
 ·rw [YJ c] at h1
  rw [YJ (by rw [<- h.1]; exact c)] at h2
  exact h.2 i y r h1 h2
 ·have hi:i=xs.length:=by have:=(List.getElem?_eq_some_iff.mp h1).1; simp at this; omega
  subst hi
  rw [YH (Yd _)] at h1
  rw [h.1,YH (Yd _)] at h2
  simp at h1 h2
  subst h1
  subst h2
  exact hx⟩
theorem Zcw{a:Addr}{nt:Nat}{cp:St}{g:TG}{te:TE}{H1:Hp}{Q:VK}(R:Hp->V->α->Prop)(kR:Zku R){xs:List V}{as:List α}(ha:H1 a=some (.lst xs))(hlen:xs.length=as.length)(hl:xs.length < 1000)
  (ht:∀ (i:Nat) x b,xs[i]?=some x->as[i]?=some b->∀ H' (k:VK) os,Zk H1 H'->os.length=nt->(∀ v H2,Zk H' H2->R H2 v b->k v H2)->g x (os ++ cp) H' λτ H3=>∃ os',os'.length=nt/\τ=os' ++ cp/\te τ H3 k)
  (q:∀ p H' ys,H1 p=none->Zk H1 H'->H' p=some (.lst ys)->JV R H' ys as->Q (.ref p) H'):ZqY nt cp (Itl K a) g te H1 Q:=by
 unfold ZqY
 refine Zl4 (xs:=xs) (λacc i ys H'=>Zk H1 H'/\H' acc=some (.lst ys)/\JV R H' ys (as.take i)/\i<=as.length)
  (λacc H2 hn sm e=>⟨sm,e,⟨by simp,λi v r h1 h2=>by simp at h1⟩,Nat.zero_le _⟩) (λacc i ys H2 hn ⟨sm,e,e2,hi⟩=>⟨e,?_,.of (sm _ _ ha)⟩) (λacc i y ys H2 os hn hi hP ol=>?_) (λacc ys H2 hn hP=>?_)
 ·rw [e2.1,Yz]; omega
 ·obtain⟨sm,e,e2,_⟩:=hP
  have hil:i < as.length:=by rw [<- hlen]; exact (Ye.mp hi).1
  have hb:=Yb hil
  refine ht i y _ hi hb H2 (λv H5=>H5 acc=some (.lst ys)/\(Zk H1 (upd H5 acc (.lst (ys ++ [v])))/\upd H5 acc (.lst (ys ++ [v])) acc=some (.lst (ys ++ [v]))/\JV R (upd H5 acc (.lst (ys ++ [v]))) (ys ++ [v]) (as.take (i + 1))/\i + 1<=as.length)) os sm ol λv H3 s3 hv=>⟨s3 _ _ e,Zo hn (sm.trans s3),Zf,?_,hil⟩
  have kp:∀ b ys',H3 b=some (.tup ys')->upd H3 acc (.lst (ys ++ [v])) b=some (.tup ys'):=λb ys' eb=>by rw [Zg (JF eb (s3 _ _ e) (by intro z; cases z))]; exact eb
  rw [YB,hb]
  exact ((e2.keep kR λb ys' eb=>s3 _ _ eb).keep kR kp).snoc (kR _ _ _ _ hv kp)
 ·obtain⟨sm,e,e2,_⟩:=hP
  rw [hlen,Y2] at e2
  exact q acc H2 ys hn sm e e2
def ZrB(_:Hp)(v:V)(n:Int):Prop:=v=.int n
theorem Zjl:Zku ZrB:=λ_ _ _ _ h _=>h
def Zlv{ys:List V}{ns:List Int}(h:JV ZrB H ys ns):ys=ns.map V.int:=by
 refine Vv λi=>?_
 rw [Yg]
 by_cases c:i < ys.length
 ·have c2:i < ns.length:=by rw [<- h.1]; exact c
  rw [Yb c,Yb c2]
  exact congrArg some (h.2 i _ _ (Yb c) (Yb c2))
 ·rw [YZ (by omega),YZ (by rw [<- h.1]; omega)]
  rfl
def Zet(qs:List Rat):Prop:=(∀ i,i<=qs.length->SzA (J1 qs i))/\∀ (i:Nat) q,qs[i]?=some q->SzA q
def ZfY:Sp:=λvs H Q _=>∃ (a:Addr) (xs:List V) (qs:List Rat),vs=[.ref a]/\H a=some (.lst xs)/\Jt H xs qs/\Zet qs/\∀ r H',Zk H H'->Jd H' r (J1 qs qs.length)->Q r H'
def Zik{ys:List V}(h:JV Jd H ys qs):Jt H ys qs:=h
theorem Zju:Zku Jd:=λ_ _ _ _ h s=>h.keep s
def Plt(H1:Hp)(a:Addr)(qs:List Rat)(i:Nat)(σ:St)(H':Hp):Prop:=∃ r o,σ=[some (V.ref a),some r,o]/\Zk H1 H'/\Jd H' r (J1 qs i)
def Ziv(F:Fun K "_law_total" "_law_total" Zb7 f fd)(ZaW:Fn P w K mg base ZC 2 "_law_plus" ["_law_one","_law_other"] ZgU):FnOk P w K mg base ZC 3 f fd ["_law_some"] ZfY:=by
 refine JU F Zbe λcdv A outer s H vs Q E hr h=>?_
 obtain⟨a,xs,qs,rfl,ha,hR,hz,q⟩:=h
 refine⟨_,(Zc (Zn 1 Zbe.nd (Zgl (Zl Zd (Zl Zd Zb))))
   (Zc (Jq Yq (Jg (Ze 0)) (ZE 2 Zbe.nd) (Zj (Zn 1 Zbe.nd (Jn ZaW hr (Zl (Ze 1) (Zl (Ze 2) Zb))))))
   (Zj (ZF (Ze 1))))),?_⟩
 rw [show Zu ["_law_some","_law_total_here","_law_one"] [.ref a]=[some (.ref a),none,none] from rfl]
 walk_at "rd"
 intro pt H1 hpt s1 e1
 simp only [Z9]
 walk_at "rd"
 refine Ji (Plt H1 a qs) ⟨.ref pt,_,rfl,λ_ _ z=>z,pt,rfl,e1⟩ (λi σ H' _ ⟨_,_,_,sm,_⟩=>.of ((s1.trans sm) _ _ ha)) (λi x σ H' hx hP=>?_) (λσ H' hP=>?_)
 ·obtain⟨r,o,rfl,sm,hv⟩:=hP
  have hi:i < qs.length:=by rw [<- hR.1]; exact (Ye.mp hx).1
  have hq:=Yb hi
  walk_at "rd"
  refine⟨r,x,J1 qs i,qs[i],rfl,hv,(hR.2 i _ _ hx hq).same (s1.trans sm),hz.1 i (Yp hi),hz.2 i _ hq,λr2 H2 s2 v2=>⟨_,_,rfl,sm.trans s2,?_⟩⟩
  rw [ZfT hq]
  exact v2
 ·obtain⟨r,o,rfl,sm,hv⟩:=hP
  walk_at "rd"
  rw [hR.1] at hv
  exact q r H' (s1.trans sm) hv
def ZmD(pt C:Addr):Sp:=λvs H Q _=>∃ (x:V) (rs:List (Nat × Rat)) (d:Addr) (kvs:List (ZQ × V)) (ss:List Str) (hf:Str->Nat),vs=[x,.ref d]/\Jp C H x rs/\Rd H d (.dK kvs)/\(kvs.map λkv=>kV kv.1)=ss.map V.str/\(∀ gs:List Str,(∀ z∈gs,z∈ss)->ZeW kvs gs (gs.map hf) rs.length)/\rs.length<=20/\ss.length < 50/\JB rs/\Zd9 H pt "far_roads_first.<locals>.<lambda>" /\
 ∀ p H' (fr:List Nat),H p=none->Zk H H'->H' p=some (.lst (Zw fr))->fr.Nodup->(∀ k,k∈fr ↔ Jo rs (ss.map hf) k)->fr.Pairwise (λa b=>(wayL rs b).length<=(wayL rs a).length)->Q (.ref p) H'
noncomputable def kyW(rs:List (Nat × Rat))(v:V):Int:=match v with | .int i=>((wayL rs i.toNat).length:Nat) | _=>0
def Zhw(v:V):Nat:=match v with | .int i=>i.toNat | _=>0
def Zh9{ys:List V}(h:Zdp true ((Zw ks).map (kyW rs)) (Zw ks) ys):∃ fr:List Nat,ys=Zw fr/\fr.Perm ks/\fr.Pairwise (λa b=>(wayL rs b).length<=(wayL rs a).length):=by
 obtain⟨ps,hp,rfl,hw⟩:=h
 have ez:((Zw ks).map (kyW rs)).zip (Zw ks)=ks.map λk:Nat=>((((wayL rs k).length:Nat):Int),V.int (k:Int)):=by
  unfold Zw
  rw [Yw,List.zip_map']
  exact List.map_congr_left λk _=>by simp [kyW]
 rw [ez] at hp
 have hm:∀ p∈ps,∃ k:Nat,p=((((wayL rs k).length:Nat):Int),V.int (k:Int)):=λp hpm=>by
  obtain⟨k,_,e⟩:=Yk.mp (hp.mem_iff.mp hpm)
  exact⟨k,e.symm⟩
 refine⟨ps.map λp=>Zhw p.2,?_,?_,?_⟩
 ·unfold Zw
  rw [Yw]
  refine YL λp hpm=>?_
  obtain⟨k,rfl⟩:=hm p hpm
  simp [Zhw]
 ·have:=hp.map λp:Int × V=>Zhw p.2
  rw [Yw] at this
  refine this.trans (List.Perm.of_eq ?_)
  rw [show ((λp:Int × V=>Zhw p.2) ∘ λk:Nat=>((((wayL rs k).length:Nat):Int),V.int (k:Int)))=id from funext λk=>by simp [Zhw],List.map_id]
 ·rw [List.pairwise_map]
  refine List.Pairwise.imp_of_mem (λ{a b} ha hb hab=>?_) hw
  obtain⟨k,rfl⟩:=hm a ha
  obtain⟨j,rfl⟩:=hm b hb
  simp [Zhw] at hab ⊢
  omega
def Zqu(F:Fun K "far_roads_first" "far_roads_first" Zaj f fd)(hc:fd.code=.ref c)(hC:codeHdIn K c pt=true)(hB:ZdI mg base)(ZA:mg "len"=none)(ZW:mg "sorted"=none)(ZV:mg "list"=none)(Z3:Fn P w K mg base ZC 4 "needed" ["tree","homes","group"] (Zbk CT))
  (Zfm:Mth P w K mg base ZC 3 CT "way" ["self","k"] (λvs H Q _=>Ze9 CT CNP vs H Q E0)):FnOk P w K mg base ZC 8 f fd ["tree","homes"] (ZmD pt CT):=by
 refine Zss F hc Zcn (λvs H Q E h=>?_) (λA outer s H vs Q E hr h=>?_)
 ·obtain⟨x,rs,d,kvs,ss,hf,rfl,_⟩:=h; rfl
 obtain⟨x,rs,d,kvs,ss,hf,rfl,hT,hd,hkv,hat,hrl,hsl,hO,hB2,q⟩:=h
 refine⟨_,(Zj (ZF (Zm8 rfl ZW (Jn Z3 hr (Zl (Ze 0) (Zl (Ze 1) (Zl (Zfj rfl ZV (Zl (Ze 1) Zb)) Zb)))) (QE.mk (ZhH (z:="tree") (y:="road") (i:=0) (k:=4) rfl rfl rfl rfl hC hB rfl hr ⟨rfl,rfl,rfl,by decide +kernel,by decide +kernel,by decide +kernel,by decide +kernel,λy e=>by have h:=PySem.mem_of_lookup e; simp at h; subst h; exact⟨_,rfl⟩⟩ rfl (Or.inr (Or.inl rfl)) (λz=>absurd ((show _=some NameKind.cell from rfl).symm.trans z) (by decide)) (λ_ _ _ _=>rfl) (λ_ _ _ _=>Ju rfl ZA (Zl (ZbT Zfm (hr.in1.in1.deeper _) (by decide) (Ze 1) (Zl (Ze 0) Zb)) Zb)))) Zo4))),?_⟩
 rw [show Zu ["tree","homes"] [x,.ref d]=[some (x),some (.ref d)] from rfl]
 walk_at "rd"
 show ZgH _ _ _ _ _ _ _
 walk_at "rd"
 refine⟨d,kvs,rfl,hd,λl H1 hl s1 e1=>?_⟩
 rw [hkv] at e1
 refine⟨x,rs,d,l,kvs,ss,ss.map hf,rfl,hT.same s1,Zdk hd s1,e1,hat ss λ_ hz=>hz,by omega,hsl,hO,λp H2 ks hp s2 e2 hpw hmem=>?_⟩
 have s12:=s1.trans s2
 have hbd:∀ k∈ks,1<=k/\k<=rs.length:=λk hk=>Jb ((hmem k).mp hk)
 have hkl:=Zdw hpw hbd
 refine⟨let ⟨t,ht⟩:=hB2; ⟨t,s12 _ _ ht⟩,x,rfl,λfv H3 s3 hfv=>⟨p,Zw ks,kyW rs,rfl,s3 _ _ e2,by simp [Zw]; omega,hfv _ _ λy hy H' k sm hk=>?_,λD H4 ys hD s4 e4 hs=>?_⟩⟩
 ·obtain⟨k0,hk0,rfl⟩:=Yk.mp hy
  obtain⟨b1,b2⟩:=hbd k0 hk0
  have hT2:=hT.same (s12.trans (s3.trans sm))
  obtain⟨xa,dx,la,wa,ls,ws,rfl,h1,_⟩:=id hT2
  walk_at "rd"
  refine⟨dx,_,h1,rfl,.ref xa,rs,k0,rfl,hT2,λp5 H5 k' w0 ek hp5 s5 e5 hw hwl=>⟨p5,rfl,_,.inl e5,?_⟩,λzz=>absurd ⟨by omega,by omega⟩ zz⟩
  have e:k'=k0:=by omega
  subst e
  have e2:kyW rs (.int (k':Int))=((Zw w0).length:Nat):=by simp [kyW,Zw,Zbi hw]
  rw [<- e2]
  exact hk H5 s5
 ·obtain⟨fr,rfl,hfp,hfw⟩:=Zh9 hs
  have hkn:ks.Nodup:=hpw.imp λh e=>by rw [e] at h; exact YX _ h
  exact q D H4 fr ((s12.trans s3).free hD) (s12.trans (s3.trans s4)) e4 (hfp.symm.nodup hkn) (λk=>(hfp.mem_iff).trans (hmem k)) hfw
def ZaT:Sp:=λvs H Q _=>∃ (c:Int) (a:Addr) (bs:List Int),vs=[.int c,.ref a]/\H a=some (.lst (bs.map V.int))/\bs.length < 1000/\(∀ b∈bs,0 < b/\b.natAbs < 2 ^ 110) /\
 ∀ p H' (xs:List Int),H p=none->Zk H H'->H' p=some (.lst (xs.map V.int))->xs.length=bs.length->(∀ (i:Nat) x b,xs[i]?=some x->bs[i]?=some b->0<=x/\x < b)->Q (.ref p) H'
def Pdr(H0:Hp)(c:Int)(a p:Addr)(bs:List Int)(i:Nat)(σ:St)(H:Hp):Prop:=∃ (r:Int) (o1 o2 o3:Option V) (xs:List Int),σ=[some (.int c),some (.ref a),some (.ref p),some (.int r),o1,o2,o3]/\Zk H0 H/\H p=some (.lst (xs.map V.int))/\xs.length=i /\
 ∀ (i:Nat) x b,xs[i]?=some x->bs[i]?=some b->0<=x/\x < b
def Zk8(F:Fun K "_law_drawn" "_law_drawn" Zb4 f fd)(Zcd:mg "enumerate"=none):FnOk P w K mg base ZC 1 f fd ["_law_cell","_law_bases"] ZaT:=by
 refine JU F Zao λcdv A outer s H vs Q E hr h=>?_
 obtain⟨c,a,bs,rfl,ha,hbl,hb,q⟩:=h
 refine⟨_,(Zc (Zn 2 Zao.nd (JD Zb))
   (Zc (Zn 3 Zao.nd (Ze 0))
   (Zc (Jq Yq (ZpU rfl Zcd (Zl (Ze 1) Zb)) (ZnC (n:=2) (ZcX (ZE 4 Zao.nd) (ZcX (ZE 5 Zao.nd) ZjB))) (Zj (JL (Zr8 (Ze 0) (Zpz Zd Zd)) (Zc (Jy (ZhI (Ze 2) (Zl (JY (Ze 3) (Ze 5)) Zb)))
   (Zj (Zn 3 Zao.nd (Zoy (Ze 3) (Ze 5))))) (Zc (Zn 6 Zao.nd (JY (Je (Je (Je (ZgA (Ze 0) Zd) (ZgA (Jr (Ze 4) (Ze 4)) Zd)) (ZgA Zd (Ze 4))) Zd) Zd))
   (Zj (Jy (ZhI (Ze 2) (Zl (JY (Zmr (JY (Je (ZgA (Ze 6) Zd) (Jr (Zmr (Ze 6) Zd) (Je (Ze 4) Zd))) Zd) Zd) (Ze 5)) Zb))))))))
   (Zj (ZF (Ze 2)))))),?_⟩
 rw [show Zu ["_law_cell","_law_bases","_law_row","_law_rest","_law_k","_law_base","_law_one"] [.int c,.ref a]=[some (.int c),some (.ref a),none,none,none,none,none] from rfl]
 walk_at "rd"
 intro p H1 hp s1 e1
 simp only [Zj8]
 walk_at "rd"
 have hap:a ≠ p:=λz=>by rw [z,hp] at ha; cases ha
 refine Zlo (xs:=bs.map V.int) (Pdr H c a p bs) ⟨_,_,_,_,[],rfl,s1,e1,rfl,λi x b h=>by simp at h⟩ (λi σ H' _ ⟨_,_,_,_,_,_,sm,_⟩=>.of (sm _ _ ha)) (λi y σ H2 pb H' hi hP hpb s3 e3=>?_) (λσ H' hP=>?_)
 ·obtain⟨r,o1,o2,o3,xs,rfl,sm,e2,hl,hx⟩:=hP
  replace sm:=sm.trans s3
  replace e2:=s3 _ _ e2
  rw [Yg] at hi
  obtain⟨b,hb',rfl⟩:∃ b,bs[i]?=some b/\y=V.int b:=by cases h:bs[i]? with | none=>rw [h] at hi; cases hi | some z=>rw [h] at hi; cases hi; exact⟨z,rfl,rfl⟩
  obtain⟨b0,b1⟩:=hb b (Ym hb')
  have hib:=(Ye.mp hb').1
  walk_at "rd"
  simp only [e3]
  walk_at "rd"
  have step:∀ (r v:Int) (o3:Option V),0<=v->v < b->Pdr H c a p bs (i + 1) [some (V.int c),some (V.ref a),some (V.ref p),some (V.int r),some (V.int (i:Int)),some (V.int b),o3] (upd H' p (.lst (xs.map V.int ++ [.int v]))):=λr v o3 v0 v1 =>
   ⟨r,_,_,_,xs ++ [v],rfl,Zo hp sm,by rw [Zf,List.map_append]; rfl,by simp [hl],λj x b' h1 h2=>by
    by_cases cj:j < xs.length
    ·rw [YJ cj] at h1
     exact hx j x b' h1 h2
    ·have hj:j=i:=by have:=(List.getElem?_eq_some_iff.mp h1).1; simp at this; omega
     subst hj
     rw [YH (by omega),hl] at h1
     rw [hb'] at h2
     simp at h1 h2
     rw [<- h1,<- h2]
     exact⟨v0,v1⟩⟩
  have hlen:(xs.map V.int).length < 1000000:=by rw [Yf]; omega
  refine JI (λ_=>⟨⟨_,e2⟩,b0,_,e2,hlen,b0,Zbo (Ja b1 (by decide)) (by decide),step _ _ _ (VL _ (by omega)) (V8 _ b0)⟩) (λ_=>⟨JK (a:=30) (b:=30) (by omega) (by omega) (by decide),⟨_,e2⟩,JK (a:=40) (b:=40) ?_ (by omega) (by decide),b0,_,e2,hlen,step _ _ _ (VL _ (by omega)) (V8 _ b0)⟩)
  generalize c * 48271 + (i:Int) * (i:Int) * 69621 + 7 * (i:Int) + 11=u
  omega
 ·obtain⟨r,o1,o2,o3,xs,rfl,sm,e2,hl,hx⟩:=hP
  walk_at "rd"
  exact q p H' xs hp sm e2 (by rw [Yf] at hl; exact hl) hx
def ZdW:Sp:=λvs H Q _=>∃ (v c:Int) (b:Bool),vs=[.int v,.int c,.bl b]/\0<=v/\v < 1000000000000000000000000000000/\0<=c/\c < 1000000000000000000000000000000/\∀ r H' q,Zk H H'->SzQ 110 q->0<=q.num->Jd H' r q->Q r H'
def ZkG(F:Fun K "_law_price" "_law_price" Zb3 f fd)(ZU:Fn P w K mg base ZC 1 "_law_low" ["_law_top","_law_bottom"] ZbE):FnOk P w K mg base ZC 2 f fd ["_law_one","_law_other","_law_wide"] ZdW:=by
 refine JU F Zfy λcdv A outer s H vs Q E hr h=>?_
 obtain⟨v,c,b,rfl,hv0,hv1,hc0,hc1,q⟩:=h
 refine⟨_,(Zc (JL (JR (Ze 2)) (Zj (ZF (Jn ZU hr (Zl (Ze 0) (Zl (Je Zd (Ze 1)) Zb))))) Jm)
   (Zj (ZF (Jn ZU hr (Zl (JY (Ze 0) Zd) (Zl (Je Zd (JY (Ze 1) Zd)) Zb)))))),?_⟩
 rw [show Zu ["_law_one","_law_other","_law_wide"] [.int v,.int c,.bl b]=[some (.int v),some (.int c),some (.bl b)] from rfl]
 walk_at "rd"
 simp only [ZbE]
 walk_at "rd"
 have fin:∀ t d:Int,0<=t->t.natAbs < 2 ^ 110->0 < d->d.natAbs < 2 ^ 110->Big d/\0 < d/\∀ (r:V) (H':Hp),Zk H H'->Jd H' r (Rat.divInt t d)->Q r H':=λt d h1 h2 h3 h4 =>
  ⟨Big.of h4 (by decide),h3,λr H' s v=>q r H' _ s (SzQ.of (by omega) h2 h4) (ZhM h1 h3) v⟩
 exact JI (λ_=>fin _ _ hv0 (by omega) (by omega) (by omega)) (λ_=>fin _ _ (by omega) (by omega) (by omega) (by omega))
def tsE(n t:Nat):List Int:=(List.range n).map λj=>(((j + t) % n:Nat):Int) + 1
def ZmR{n t j:Nat}(h:j < n):(tsE n t)[j]?=some ((((j + t) % n:Nat):Int) + 1):=by
 unfold tsE
 rw [Yg,Yah h]
 rfl
def ZgJ{n t j:Nat}(ht:t < n)(hj:j < n):(j + t) % n=if j + t < n then j + t else j + t - n:=by
 split
 ·rename_i h; exact Nat.mod_eq_of_lt h
 ·rename_i h
  rw [Nat.mod_eq_sub_mod (by omega),Nat.mod_eq_of_lt (by omega)]
def Zki{n t a b:Nat}(ht:t < n)(ha:a < n)(hb:b < n)(e:(a + t) % n=(b + t) % n):a=b:=by
 rw [ZgJ ht ha,ZgJ ht hb] at e
 split at e <;> split at e <;> omega
def Zg6{n t:Nat}(ht:t < n\/n=0):(tsE n t).Perm (Zmd 1 n):=by
 rcases ht with ht | rfl
 ·refine (List.perm_ext_iff_of_nodup ?_ Zes).mpr λx=>?_
  ·unfold tsE
   refine List.Pairwise.map _ (R:=λa b=>a < n/\b < n/\a ≠ b) (λa b h=>?_) ?_
   ·obtain⟨ha,hb,hne⟩:=h
    intro e
    exact hne (Zki ht ha hb (Int.ofNat_inj.mp ((Int.add_left_inj 1).mp e)))
   ·exact List.pairwise_lt_range.imp_of_mem λha hb h=>⟨YD.mp ha,YD.mp hb,by omega⟩
  ·constructor
   ·intro h
    obtain⟨j,hj,rfl⟩:=Yk.mp h
    have h1:=Nat.mod_lt (j + t) (show n > 0 by omega)
    have:=ZeS (lo:=1) (n:=n) h1
    rw [Int.add_comm] at this
    exact this
   ·intro h
    have:=Zhm h
    obtain⟨k,rfl⟩:∃ k:Nat,x=(k:Int) + 1:=⟨(x - 1).toNat,by omega⟩
    refine Yk.mpr ⟨if t<=k then k - t else k + n - t,YD.mpr (by split <;> omega),?_⟩
    have hj:(if t<=k then k - t else k + n - t) < n:=by split <;> omega
    rw [ZgJ ht hj]
    split <;> split <;> omega
 ·exact .refl _
def Zoi(x:Int)(i:Nat):∃ k:Nat,x % (1 + (i:Int))=(k:Int)/\k<=i:=by
 have h:(0:Int) < 1 + (i:Int):=by omega
 have a0:=VL x (Int.ne_of_gt h)
 have a1:=V8 x h
 exact⟨(x % (1 + (i:Int))).toNat,(V6 a0).symm,by omega⟩
def Zqb{n t k i:Nat}(k0:0 < k)(k1:k<=i)(hi:i < n):∃ to:Nat,1 + ((k:Int) - 1 + (t:Int)) % (n:Int)=(to:Int)/\(to=0\/∃ j',j' < i/\(tsE n t)[j']?=some (to:Int)):=by
 rw [show (k:Int) - 1 + (t:Int)=((k - 1 + t:Nat):Int) by omega,<- Int.natCast_emod]
 refine⟨(k - 1 + t) % n + 1,by omega,.inr ⟨k - 1,by omega,?_⟩⟩
 rw [ZmR (by omega)]
 congr 1
def ZfB{r:Nat × Rat}{l:Addr}{ys:List (ZQ × V)}{o:HO}(h:JE H x r)(hl:H l=some (.dK ys)):JE (upd H l o) x r:=by
 refine h.keep λb zs hb=>?_
 rw [Zg (λz=>by rw [z,hl] at hb; cases hb)]
 exact hb
def ZrL(H:Hp)(n t:Nat)(kvs:List (ZQ × V))(j:Nat):Prop:=∃ (x:V) (r:Nat × Rat),Z8 kvs (Sum.inl ((((j + t) % n:Nat):Int) + 1))=some x/\JE H x r/\SzQ 110 r.2/\0<=r.2.num/\(r.1=0\/∃ j',j' < j/\(tsE n t)[j']?=some (r.1:Int))
def Zfx(K:PySem.W.Frag):Sp:=λvs H Q _=>∃ (a:Addr) (ns:List Int) (m:Int),vs=[.ref a,.int m]/\JC K H a (ns.map V.int)/\0<=m/\m < 20/\∀ p H' xs rs,H p=none->Zk H H'->H' p=some (.lst xs)->Js H' xs rs->JB rs->rs.length<=19->(∀ r∈rs,SzQ 110 r.2/\0<=r.2.num)->Q (.ref p) H'
def PrG(H0:Hp)(a ph pr acc:Addr)(m bb:Int)(n t:Nat)(xs hs:List Int)(i:Nat)(σ:St)(H:Hp):Prop:=∃ (o1 o2 o3 o4:Option V) (kvs:List (ZQ × V)),σ=[some (.ref a),some (.int m),some (.ref ph),some (.int (n:Int)),some (.int bb),some (.ref pr),some (.ref acc),o1,o2,o3,o4] /\
 Zk H0 H/\H ph=some (.lst (hs.map V.int))/\H pr=some (.lst (xs.map V.int))/\H acc=some (.dK kvs)/\kvs.length<=i/\∀ j,j < i->ZrL H n t kvs j
def ZjH(F:Fun K "_law_roads" "_law_roads" Za9 f fd)(ZS:mg "range"=none)(Zoo:mg "min"=none)(Ze5:mg "int"=none)(Zag:Fn P w K mg base ZC 1 "_law_cell_at" ["_law_script","_law_k"] (Zb8 K))
  (ZK:Fn P w K mg base ZC 1 "_law_drawn" ["_law_cell","_law_bases"] ZaT) (Zcc:Fn P w K mg base ZC 2 "_law_price" ["_law_one","_law_other","_law_wide"] ZdW):FnOk P w K mg base ZC 3 f fd ["_law_script","_law_most"] (Zfx K):=by
 refine JU F ZG λcdv A outer s H vs Q E hr h=>?_
 obtain⟨a,ns,m,rfl,hS,hm0,hm1,q⟩:=h
 obtain⟨t1,ht1,hr1⟩:∃ t,QB (Zif ZC P w K mg base ["_law_script","_law_most","_law_head","_law_many","_law_base","_law_row","_law_roads_here","_law_k","_law_to","_law_place","_law_ahead"] "_law_roads" (Za Za9) f cdv A outer s H E).nox ((Zs Za9).drop 4) t/\∀ (n:Nat) (hs:List Int) (ph:Addr) (H1:Hp),n < 20->H ph=none->Zk H H1->H1 ph=some (.lst (hs.map V.int))->hs.length=4->(∀ x∈hs,0<=x) ->
   t { nx:=λ_ H'=>Q .non H',rt:=Q } [some (.ref a),some (.int m),some (.ref ph),some (.int (n:Int)),none,none,none,none,none,none,none] H1:=by
  refine⟨_,(Zc (Zn 4 ZG.nd (ZX (JD (Zl Zd (Zl (Zea (Zpz Zd Zd) Zd) Zb))) (ZmG rfl Ze5 (Zl (Zq9 (ZX (Ze 2) Zd) Zd) Zb))))
   (Zc (Zn 5 ZG.nd (Jn ZK hr (Zl (Jn Zag hr (Zl (Ze 0) (Zl Zd Zb))) (Zl (ZlG (JD (Zl (Ze 4) (Zl (Ze 4) (Zl Zd Zb)))) (Ze 3)) Zb))))
   (Zc (Zn 6 ZG.nd ZdT)
   (Zc (Jq Yq (Zei rfl ZS (Zl (Ze 3) Zb)) (ZE 7 ZG.nd) (Zc (Zn 8 ZG.nd (JY (ZX (Ze 5) (Je (ZgA Zd (Ze 7)) Zd)) (Je (Ze 7) Zd)))
   (Zc (Zn 9 ZG.nd (Je Zd (JY (Je (Ze 7) (ZX (Ze 2) Zd)) (Ze 3))))
   (Zc (Zn 10 ZG.nd Zd)
   (Zc (JL (Zoc (Ze 8) Zd) (Zj (Zn 10 ZG.nd (Je Zd (JY (Je (Zea (Ze 8) Zd) (ZX (Ze 2) Zd)) (Ze 3))))) Jm)
   (Zj (Zc4 (JA hr) (Ze 6) (Ze 9) (Zgl (Zl (Ze 10) (Zl (Jn Zcc hr (Zl (ZX (Ze 5) (ZgA Zd (Ze 7))) (Zl (ZX (Ze 5) (Je (ZgA Zd (Ze 7)) Zd)) (Zl (Zq9 (ZX (Ze 2) Zd) Zd) Zb)))) Zb))))))))))
   (Zj (ZF (Zc5 (Zot ["_law_k"] [6] ["_law_roads_here"]) (ZjW rfl ZS (Zl Zd (Zl (Je (Ze 3) Zd) Zb))) (by exact λs H fp=>(ZE 0 (show List.Nodup (["_law_k","_law_roads_here"]:List Str) from by decide +kernel))) (by exact λs H fp=>(ZbQ (JA hr) (Ze 1) (Ze 0)))))))))),λn hs ph H1 hn hph s1 e1 hhl hh0=>?_⟩
  walk_at "rd"
  simp only [Zb8,ZaT]
  walk_at "rd"
  intro p2 H2 hp2 s2 e2
  have at_:∀ {l:List Int}{j:Nat}(h:j < l.length),atI (l.map V.int) (j:Int)=some (.int l[j]):=λ{l j} h=>ZP (by rw [Yg,Yb h]; rfl)
  obtain⟨bb,hbb0,hbb1,hbe⟩:∃ bb:Int,0 < bb/\bb < 1000000000000000000000000000000/\atI [V.int 78,V.int 999999999999999999999999999999] (if V.int hs[1]=V.int 3 then 1 else 0)=some (.int bb):=by
   split
   ·exact⟨_,by decide,by decide,rfl⟩
   ·exact⟨_,by decide,by decide,rfl⟩
  refine⟨_,s2 _ _ e1,_,at_ (j:=1) (by omega),rfl,_,e2,.int bb,hbe,⟨1,rfl⟩,⟨ns,(s1.trans s2).seq hS⟩,λc p3 H3 hp3 s3 e3=>⟨_,e3,by omega,by omega,?_,λp4 hp4=>?_⟩⟩
  ·exact Yj (show 3 * (n:Int).toNat<=60 by omega) (by decide)
  have er:(List.replicate (n:Int).toNat [V.int bb,V.int bb,V.int 840]).flatten=((List.replicate n [bb,bb,840]).flatten).map V.int:=by
   rw [Y1,List.map_flatten,List.map_replicate]; rfl
  have hrl:((List.replicate n [bb,bb,840]).flatten).length=3 * n:=by rw [ZdV]; simp; omega
  have hrm:∀ b∈(List.replicate n [bb,bb,840]).flatten,0 < b/\b < 1000000000000000000000000000000:=λb hb=>by
   obtain⟨l,hl,hb⟩:=List.mem_flatten.mp hb
   rw [(List.mem_replicate.mp hl).2] at hb
   simp at hb
   omega
  rw [er]
  refine⟨_,Zf,by omega,λb hb=>⟨(hrm b hb).1,by have:=hrm b hb; omega⟩,λpr H5 xs hpr s5 e5 hxl hxb acc H6 hacc s6 e6=>?_⟩
  rw [hrl] at hxl
  have hxx:∀ x∈xs,0<=x/\x < 1000000000000000000000000000000:=λx hx=>by
   obtain⟨i,hi,e⟩:=VE hx
   have h2:i < ((List.replicate n [bb,bb,840]).flatten).length:=by omega
   have:=hxb i x _ (by rw [Yb hi,e]) (Yb h2)
   have:=hrm _ (YQ h2)
   omega
  clear hxb hrm hrl er hbe
  have s4:=λo=>Zo (o:=o) hp4 (λ_ _ z=>z:Zk H3 H3)
  have s36:=(s1.trans s2).trans (s3.trans ((s4 _).trans (s5.trans s6)))
  have e16:H6 ph=some (.lst (hs.map V.int)):=(s2.trans (s3.trans ((s4 _).trans (s5.trans s6)))) _ _ e1
  have s36f:H acc=none:=((s1.trans s2).trans (s3.trans ((s4 _).trans s5))).free hacc
  have hne1:ph ≠ acc:=Zm ((s2.trans (s3.trans ((s4 _).trans s5))) _ _ e1) hacc
  have hne2:pr ≠ acc:=Zm e5 hacc
  simp only [Zco]
  walk_at "rd"
  refine⟨by omega,by omega,?_⟩
  have h30:0<=hs[3]:=hh0 _ (YQ (by omega))
  obtain⟨t0,et0⟩:∃ t0:Nat,hs[3]=(t0:Int):=⟨hs[3].toNat,by omega⟩
  refine ZcI (PrG H a ph pr acc m bb n (t0 % n) xs hs) ⟨_,_,_,_,[],rfl,s36,e16,s6 _ _ e5,e6,Yd _,λj hj=>absurd hj (VI j)⟩ (λi σ H7 hi hP=>?_) (λσ H7 hP=>?_)
  ·obtain⟨o1,o2,o3,o4,kvs,rfl,sm7,eh,en,ea,hkl,hdone⟩:=hP
   have hi':i < n:=by omega
   refine Zy λB hB=>?_
   walk_at "rd"
   have hn0:0 < n:=by omega
   have hnz:(0:Int) < (n:Int):=by omega
   obtain⟨k0,ek0,hk0⟩:=Zoi xs[3 * i + 2] i
   have htn:t0 % n < n:=Nat.mod_lt _ hn0
   have epl:(1:Int) + ((i:Int) + hs[3]) % (n:Int)=(((i + t0 % n) % n:Nat):Int) + 1:=by
    rw [et0,<- Int.natCast_add,<- Int.natCast_emod,Nat.add_mod_mod,Int.add_comm]
   rw [show (3:Int) * (i:Int) + 2=((3 * i + 2:Nat):Int) by omega]
   refine⟨_,en,_,at_ (by omega),_,rfl,by omega,?_⟩
   rw [Int.add_comm (i:Int) 1,ek0]
   subst hB
   try dsimp only
   refine Zy λB hB=>?_
   walk_at "rd"
   refine⟨_,eh,_,at_ (j:=3) (by omega),_,rfl,hnz,?_⟩
   rw [epl]
   subst hB
   try dsimp only
   refine Zy λB hB=>?_
   walk_at "rd"
   subst hB
   try dsimp only
   refine Zy λB hB=>?_
   have k3:∀ (to:Nat) (TO:Int),TO=(to:Int)->(to=0\/∃ j',j' < i/\(tsE n (t0 % n))[j']?=some (to:Int))->B [some (V.ref a),some (V.int m),some (V.ref ph),some (V.int (n:Int)),some (V.int bb),some (V.ref pr),some (V.ref acc),some (V.int (i:Int)),some (V.int (k0:Int)),some (V.int ((((i + t0 % n) % n:Nat):Int) + 1)),some (V.int TO)] H7:=by
    rintro to _ rfl hto
    subst hB
    try dsimp only
    walk_at "rd"
    simp only [ZdW]
    walk_at "rd"
    have hx0:=hxx _ (YQ (show 3 * i < xs.length by omega))
    have hx1:=hxx _ (YQ (show 3 * i + 1 < xs.length by omega))
    rw [show (3:Int) * (i:Int)=((3 * i:Nat):Int) by omega,show ((3 * i:Nat):Int) + 1=((3 * i + 1:Nat):Int) by omega]
    refine⟨_,en,_,at_ (by omega),_,en,_,at_ (by omega),_,eh,_,at_ (j:=1) (by omega),rfl,_,rfl,_,rfl,hx0.1,hx0.2,hx1.1,hx1.2,λr H8 qr s8 zq hqn vr p9 H9 hp9 s9 e9=>?_⟩
    have S:=s8.trans s9
    refine⟨kvs,S _ _ ea,.inl _,rfl,by omega,_,_,_,_,_,rfl,Zo s36f (sm7.trans S),by rw [Zg hne1]; exact S _ _ eh,by rw [Zg hne2]; exact S _ _ en,Zf,Yj (Za7 _ _ _) (by omega),λj hj=>?_⟩
    by_cases hji:j=i
    ·subst hji
     exact⟨.ref p9,(to,qr),by rw [Zho,if_pos rfl],ZfB (r:=(to,qr)) ⟨p9,r,rfl,e9,vr.same s9⟩ (S _ _ ea),zq,hqn,hto⟩
    ·obtain⟨x,r',g1,g2,g3,g4,g5⟩:=hdone j (by omega)
     refine⟨x,r',?_,ZfB (g2.same S) (S _ _ ea),g3,g4,g5⟩
     rw [Zho,if_neg]
     ·exact g1
     ·intro e
      injection e with e
      exact hji (Zki htn (by omega) hi' (by omega))
   walk_at "rd"
   refine JI (λc1=>?_) (λc1=>k3 0 _ rfl (.inl rfl))
   refine⟨_,eh,_,at_ (j:=3) (by omega),_,rfl,hnz,?_⟩
   obtain⟨to,e,h⟩:=Zqb (n:=n) (t:=t0 % n) (k:=k0) (i:=i) (Int.ofNat_lt.mp c1) hk0 hi'
   refine k3 to _ ?_ h
   rw [<- e,et0,Int.natCast_emod,Int.add_emod_emod]
  ·obtain⟨o1,o2,o3,o4,kvs,rfl,sm7,eh,en,ea,hkl,hdone⟩:=hP
   walk_at "rd"
   simp only [Zec,Zme,cxK]
   walk_at "rd"
   refine⟨by omega,by omega,?_⟩
   rw [show Jv [some (V.ref a),some (V.int m),some (V.ref ph),some (V.int (n:Int)),some (V.int bb),some (V.ref pr),some (V.ref acc),o1,o2,o3,o4] [6]=[some (V.ref acc)] from rfl,show ((n:Int) + 1 - 1).toNat=n by omega]
   have hlaid:∀ k,k < n->∃ j,j < n/\(j + t0 % n) % n=k:=λk hk=>by
    have htn:t0 % n < n:=Nat.mod_lt _ (by omega)
    have h1:((k:Int) + 1)∈Zmd 1 n:=by have:=ZeS (lo:=1) hk; rw [Int.add_comm] at this; exact this
    have h2:=(Zg6 (n:=n) (t:=t0 % n) (.inl htn)).mem_iff.mpr h1
    obtain⟨j,hj,e⟩:=Yk.mp h2
    exact⟨j,YD.mp hj,by omega⟩
   refine Zja (λac2 i ys H'=>Zk H7 H'/\H' ac2=some (.lst ys)/\ys.length=i/\i<=20/\∀ (k:Nat) x,ys[k]?=some x->Z8 kvs (Sum.inl ((k:Int) + 1))=some x) (λac2 H2 hn sm e=>⟨sm,e,rfl,by omega,λk x h=>by simp at h⟩)
    (λac2 i ys H2 h=>⟨h.2.1,by omega⟩) (λac2 i ys H2 os hn2 hi h ol=>?_) (λac2 ys H2 hn2 h=>?_)
   ·obtain⟨sm,e,hy,_,hyy⟩:=h
    obtain⟨o,rfl⟩:∃ o,os=[o]:=List.length_eq_one_iff.mp ol
    obtain⟨j,hj,ej⟩:=hlaid i hi
    obtain⟨x,r,hx,_⟩:=hdone j hj
    walk_at "rd"
    rw [ej] at hx
    refine⟨[_],rfl,rfl,kvs,.inl (sm _ _ ea),.inl (1 + (i:Int)),rfl,x,by rw [Int.add_comm]; exact hx,e,Zo hn2 sm,Zf,by simp [hy],by omega,λk y hk=>?_⟩
    by_cases c:k < ys.length
    ·rw [YJ c] at hk
     exact hyy k y hk
    ·have hk':k=i:=by have:=(List.getElem?_eq_some_iff.mp hk).1; simp at this; omega
     subst hk'
     rw [YH (by omega),hy] at hk
     simp at hk
     rw [<- hk]
     exact hx
   ·obtain⟨sm,e,hy,_,hyy⟩:=h
    walk_at "rd"
    obtain⟨rs,hR,hT,hlen,hz⟩:=ZkZ (H:=H2) (n:=n) (ys:=ys) (Zg6 (t:=t0 % n) (if hn0:n=0 then .inr hn0 else .inl (Nat.mod_lt _ (by omega)))) hy λj hj=>by
     obtain⟨x,r,h1,h2,h3,h4,h5⟩:=hdone j hj
     have hk:(j + t0 % n) % n < ys.length:=by rw [hy]; exact Nat.mod_lt _ (by omega)
     have h6:=hyy _ _ (Yb hk)
     rw [h1] at h6
     exact⟨(j + t0 % n) % n,x,r,ZmR hj,by rw [Yb hk]; exact h6.symm,h2.same sm,h3,h4,h5⟩
    exact q ac2 H2 ys rs (sm7.free hn2) (sm7.trans sm) e hR hT (by omega) hz
 refine⟨_,(Zc (Zn 2 ZG.nd (Jn ZK hr (Zl (Jn Zag hr (Zl (Ze 0) (Zl Zd Zb))) (Zl (JD (Zl (Je (Ze 1) Zd) (Zl Zd (Zl Zd (Zl Zd Zb))))) Zb))))
   (Zc (Zn 3 ZG.nd (ZX (Ze 2) Zd))
   (Zc (JL (Zo5 (ZX (Ze 2) Zd) Zd) (Zj (Zn 3 ZG.nd (ZX (Ze 2) Zd))) Jm)
   (Zc (JL (Zo5 (ZX (Ze 2) Zd) Zd) (Zj (Zn 3 ZG.nd (Zrv rfl Zoo (Zl (Ze 3) (Zl Zd Zb))))) Jm)
   ht1)))),?_⟩
 rw [show Zu ["_law_script","_law_most","_law_head","_law_many","_law_base","_law_row","_law_roads_here","_law_k","_law_to","_law_place","_law_ahead"] [.ref a,.int m]=[some (.ref a),some (.int m),none,none,none,none,none,none,none,none,none] from rfl]
 walk_at "rd"
 simp only [Zb8,ZaT]
 walk_at "rd"
 refine⟨⟨0,rfl⟩,⟨ns,hS⟩,λc p2 H2 hp2 s2 e2=>⟨[m + 1,6,20,40],e2,by simp,λb hb=>?_,λph H3 hs hph s3 e3 hhl hhb=>?_⟩⟩
 ·simp at hb
  omega
 have hhl:hs.length=4:=hhl
 have at_:∀ {l:List Int}{j:Nat}(h:j < l.length),atI (l.map V.int) (j:Int)=some (.int l[j]):=λ{l j} h=>ZP (by rw [Yg,Yb h]; rfl)
 have hb0:=hhb 0 hs[0] _ (Yb (by omega)) rfl
 have hb2:=hhb 2 hs[2] _ (Yb (by omega)) rfl
 have hh0:∀ x∈hs,0<=x:=λx hx=>by
  obtain⟨i,hi,e⟩:=VE hx
  have h4:i < ([m + 1,6,20,40]:List Int).length:=by simp; omega
  exact (hhb i x _ (by rw [Yb hi,e]) (Yb h4)).1
 have a0:=at_ (l:=hs) (j:=0) (by omega)
 have a1:=at_ (l:=hs) (j:=1) (by omega)
 have a2:=at_ (l:=hs) (j:=2) (by omega)
 have fin:∀ n:Nat,n < 20->t1 { nx:=λ_ H'=>Q .non H',rt:=Q } [some (.ref a),some (.int m),some (.ref ph),some (.int (n:Int)),none,none,none,none,none,none,none] H3:=λn hn=>hr1 n hs ph H3 hn (s2.free hph) (s2.trans s3) e3 hhl hh0
 have mn:∀ x:Int,0<=x->x < 20->t1 { nx:=λ_ H'=>Q .non H',rt:=Q } [some (.ref a),some (.int m),some (.ref ph),some (.int x),none,none,none,none,none,none,none] H3:=λx h0 h1=>by
  have:=fin x.toNat (by omega)
  rw [V6 h0] at this
  exact this
 refine⟨_,e3,_,a0,_,e3,_,a1,rfl,?_⟩
 refine JI (λ_=>⟨_,e3,_,a2,_,e3,_,a1,rfl,JI (λ_=>⟨_,rfl,mn _ ?_ ?_⟩) (λ_=>mn _ hb2.1 hb2.2)⟩) (λ_=>⟨_,e3,_,a1,rfl,JI (λ_=>⟨_,rfl,mn _ ?_ ?_⟩) (λ_=>mn _ hb0.1 (by omega))⟩)
 all_goals (split <;> omega)
def Zdn:Sp:=λvs H Q _=>∃ c m:Int,vs=[.int c,.int m]/\0<=m/\m < 100/\∀ p H' (ss:List Str),H p=none->Zk H H'->H' p=some (.lst (ss.map V.str))->(ss.length:Int)=m->Q (.ref p) H'
def ZsH(H0:Hp)(c m sz sp:Int)(pr p:Addr)(xs:List Int)(i:Nat)(σ:St)(H:Hp):Prop:=∃ (o1 o2 o3:Option V) (ss:List Str),σ=[some (.int c),some (.int m),some (.str (Str.ofString "abcdefghijklmnopqrstuvwxyz")),some (.ref pr),some (.int sz),some (.int sp),some (.ref p),o1,o2,o3]/\Zk H0 H/\H pr=some (.lst (xs.map V.int))/\H p=some (.lst (ss.map V.str))/\ss.length=i
def ZsA(H0:Hp)(c m sz sp:Int)(k:Nat)(pr p:Addr)(i:Nat)(σ:St)(H:Hp):Prop:=∃ (z:Str) (o3:Option V),σ=[some (.int c),some (.int m),some (.str (Str.ofString "abcdefghijklmnopqrstuvwxyz")),some (.ref pr),some (.int sz),some (.int sp),some (.ref p),some (.int (k:Int)),some (.str z),o3]/\H=H0/\z.length=i
def Zn9:(Str.ofString "abcdefghijklmnopqrstuvwxyz").length=26:=by decide +kernel
def Zpo{i:Int}(h0:0<=i)(h1:i < 26):∃ c,atI (Str.ofString "abcdefghijklmnopqrstuvwxyz").cps.toList i=some c:=by
 obtain⟨k,rfl⟩:∃ k:Nat,i=(k:Int):=⟨i.toNat,by omega⟩
 have hl:(Str.ofString "abcdefghijklmnopqrstuvwxyz").cps.toList.length=26:=by decide +kernel
 have hk:k < (Str.ofString "abcdefghijklmnopqrstuvwxyz").cps.toList.length:=by omega
 exact⟨_,ZP (Yb hk)⟩
def Zkz(F:Fun K "_law_names" "_law_names" Zcb f fd)(ZS:mg "range"=none)(Ze5:mg "int"=none)(ZK:Fn P w K mg base ZC 1 "_law_drawn" ["_law_cell","_law_bases"] ZaT):FnOk P w K mg base ZC 2 f fd ["_law_cell","_law_many"] Zdn:=by
 refine JU F Zai λcdv A outer s H vs Q E hr h=>?_
 obtain⟨c,m,rfl,hm0,hm1,q⟩:=h
 refine⟨_,(Zc (Zn 2 Zai.nd ZqK)
   (Zc (Zn 3 Zai.nd (Jn ZK hr (Zl (Ze 0) (Zl (JD (Zl Zd (Zl Zd (Zl Zd (Zl Zd (Zl Zd (Zl Zd (Zl Zd (Zl Zd (Zl Zd (Zl Zd (Zl Zd Zb)))))))))))) Zb))))
   (Zc (Zn 4 Zai.nd (Je Zd (ZX (Ze 3) Zd)))
   (Zc (Zn 5 Zai.nd (JY (ZX (Ze 3) Zd) (Ze 4)))
   (Zc (Zn 6 Zai.nd (JD Zb))
   (Zc (Jq Yq (Zei rfl ZS (Zl (Ze 1) Zb)) (ZE 7 Zai.nd) (Zc (Zn 8 Zai.nd ZqK)
   (Zc (Jq Yq (Zei rfl ZS (Zl (Ze 4) Zb)) (ZE 9 Zai.nd) (Zj (Zn 8 Zai.nd (Zqe (Ze 8) (ZrG (Ze 2) (JY (Je (ZX (Ze 3) (Je Zd (Ze 9))) (Jr (Ze 7) (ZmG rfl Ze5 (Zl (Zq9 (Ze 9) (Ze 5)) Zb)))) Zd))))))
   (Zj (Jy (ZhI (Ze 6) (Zl (Ze 8) Zb)))))))
   (Zj (ZF (Ze 6))))))))),?_⟩
 rw [show Zu ["_law_cell","_law_many","_law_letters","_law_row","_law_size","_law_spot","_law_names_here","_law_k","_law_word","_law_j"] [.int c,.int m]=[some (.int c),some (.int m),none,none,none,none,none,none,none,none] from rfl]
 walk_at "rd"
 simp only [ZaT,Zco]
 walk_at "rd"
 intro p1 H1 hp1 s1 e1
 have at_:∀ {l:List Int}{j:Nat}(h:j < l.length),atI (l.map V.int) (j:Int)=some (.int l[j]):=λ{l j} h=>ZP (by rw [Yg,Yb h]; rfl)
 refine⟨[8,8,26,26,26,26,26,26,26,26,26],e1,by decide,λb hb=>?_,λpr H2 xs hpr s2 e2 hxl hxb=>?_⟩
 ·simp at hb
  omega
 have hxl:xs.length=11:=hxl
 have hb0:=hxb 0 xs[0] _ (Yb (by omega)) rfl
 refine⟨_,e2,_,at_ (j:=0) (by omega),_,rfl,_,e2,_,at_ (j:=1) (by omega),_,rfl,by omega,λp H3 hp s3 e3=>⟨by omega,by omega,?_⟩⟩
 have hp':H p=none:=(s1.trans s2).free hp
 have hpp:pr ≠ p:=Zm e2 hp
 refine ZcI (ZsH H c m (1 + xs[0]) (xs[1] % (1 + xs[0])) pr p xs) ⟨_,_,_,[],rfl,s1.trans (s2.trans s3),s3 _ _ e2,e3,rfl⟩ (λi σ H4 hi hP=>?_) (λσ H4 hP=>?_)
 ·obtain⟨o1,o2,o3,ss,rfl,sm,er,ep,hl⟩:=hP
  walk_at "rd"
  simp only [Zco]
  walk_at "rd"
  refine⟨by omega,by omega,?_⟩
  refine ZcI (ZsA H4 c m (1 + xs[0]) (xs[1] % (1 + xs[0])) i pr p) ⟨Str.ofString "",_,rfl,rfl,by decide +kernel⟩ (λj σ H5 hj hP=>?_) (λσ H5 hP=>?_)
  ·obtain⟨z,o3,rfl,rfl,hz⟩:=hP
   have hj8:j < 8:=by omega
   walk_at "rd"
   rw [show (2:Int) + (j:Int)=((2 + j:Nat):Int) by omega]
   obtain⟨ch,hch⟩:=Zpo (i:=(xs[2 + j] + (i:Int) * if (j:Int)=xs[1] % (1 + xs[0]) then 1 else 0) % 26) (by omega) (by omega)
   refine⟨_,er,_,at_ (by omega),JK (a:=30) (b:=2) (by omega) (by split <;> decide) (by decide),_,rfl,by rw [Zn9]; decide,ch,hch,?_,_,_,rfl,rfl,?_⟩
   ·show z.length + 1<=sizeLine
    exact Yj (show z.length + 1<=1000 by omega) (by decide)
   ·show (z.cps ++ #[ch]).size=j + 1
    rw [Array.size_append]
    show z.length + 1=j + 1
    omega
  ·obtain⟨z,o3,rfl,rfl,hz⟩:=hP
   walk_at "rd"
   exact⟨⟨_,ep⟩,_,ep,by rw [List.length_map]; omega,_,_,_,ss ++ [z],rfl,Zo hp' sm,by rw [Zg hpp]; exact er,by rw [Zf,List.map_append]; rfl,by simp [hl]⟩
 ·obtain⟨o1,o2,o3,ss,rfl,sm,er,ep,hl⟩:=hP
  walk_at "rd"
  exact q p H4 ss hp' sm ep (by omega)
def ZfG(K:PySem.W.Frag):Sp:=λvs H Q _=>∃ (a pr:Addr) (ns:List Int) (xs:List V) (most:Int),vs=[.ref a,.ref pr,.int most]/\JC K H a (ns.map V.int)/\H pr=some (.lst xs)/\xs.length<=40/\0<=most/\most < 90 /\
 ∀ p H' kvs o,H p=none->Zk H H'->H' p=some (.frz o (.dK kvs))->Zeq kvs xs.length->(kvs.map (·.1)).Nodup->(kvs.length:Int)<=most->Q (.ref p) H'
def PhG(H0:Hp)(a pr pq pn p:Addr)(n:Nat)(most:Int)(ss:List Str)(nums:List Int)(i:Nat)(σ:St)(H:Hp):Prop:=∃ (o1:Option V) (kvs:List (ZQ × V)),σ=[some (.ref a),some (.ref pr),some (.int most),some (.ref pq),some (.ref pn),some (.ref p),o1]/\Zk H0 H/\H p=some (.dK kvs)/\Zeq kvs n/\(kvs.map (·.1)).Nodup/\kvs.length<=i /\
 H pn=some (.lst (ss.map V.str))/\H pq=some (.lst (nums.map V.int))
def Zkh(F:Fun K "_law_homes" "_law_homes" ZbW f fd)(ZS:mg "range"=none)(ZA:mg "len"=none)(Zag:Fn P w K mg base ZC 1 "_law_cell_at" ["_law_script","_law_k"] (Zb8 K))
  (ZK:Fn P w K mg base ZC 1 "_law_drawn" ["_law_cell","_law_bases"] ZaT) (Zb9:Fn P w K mg base ZC 2 "_law_names" ["_law_cell","_law_many"] Zdn):FnOk P w K mg base ZC 3 f fd ["_law_script","_law_roads_here","_law_most"] (ZfG K):=by
 refine JU F ZaN λcdv A outer s H vs Q E hr h=>?_
 obtain⟨a,pr,ns,xs,most,rfl,hS,hpr,hxl,hm0,hm1,q⟩:=h
 refine⟨_,(Zc (Zn 3 ZaN.nd (Jn ZK hr (Zl (Jn Zag hr (Zl (Ze 0) (Zl Zd Zb))) (Zl (Zqz (JD (Zl (Je (Ze 2) Zd) Zb)) (ZlG (JD (Zl (Je (Ju rfl ZA (Zl (Ze 1) Zb)) Zd) Zb)) (Ze 2))) Zb))))
   (Zc (Zn 4 ZaN.nd (Jn Zb9 hr (Zl (Jn Zag hr (Zl (Ze 0) (Zl Zd Zb))) (Zl (ZX (Ze 3) Zd) Zb))))
   (Zc (Zn 5 ZaN.nd ZdT)
   (Zc (Jq Yq (Zei rfl ZS (Zl (ZX (Ze 3) Zd) Zb)) (ZE 6 ZaN.nd) (Zj (Zc4 (JA hr) (Ze 5) (ZX (Ze 4) (Ze 6)) (ZX (Ze 3) (Je Zd (Ze 6))))))
   (ZpQ 5 (Zj (ZF (Ze 5)))))))),?_⟩
 rw [show Zu ["_law_script","_law_roads_here","_law_most","_law_row","_law_names_here","_law_homes_here","_law_k"] [.ref a,.ref pr,.int most]=[some (.ref a),some (.ref pr),some (.int most),none,none,none,none] from rfl]
 walk_at "rd"
 simp only [Zb8,ZaT,Zdn,Zco]
 walk_at "rd"
 have at_:∀ {l:List Int}{j:Nat}(h:j < l.length),atI (l.map V.int) (j:Int)=some (.int l[j]):=λ{l j} h=>ZP (by rw [Yg,Yb h]; rfl)
 refine⟨⟨2,rfl⟩,⟨ns,hS⟩,λc p1 H1 hp1 s1 e1=>⟨xs,.inl (s1 _ _ hpr),λp2 H2 hp2 s2 e2=>⟨_,e2,by omega,by omega,?_,λp3 hp3=>?_⟩⟩⟩
 ·exact Yj (show 1 * most.toNat<=100 by omega) (by decide)
 have hne:p1 ≠ p3:=Zm (s2 _ _ e1) hp3
 have er:[V.int (most + 1)] ++ (List.replicate most.toNat [V.int ((xs.length:Int) + 1)]).flatten=([most + 1] ++ (List.replicate most.toNat [(xs.length:Int) + 1]).flatten).map V.int:=by
  rw [Y8,List.map_flatten,List.map_replicate]; rfl
 have hrl:([most + 1] ++ (List.replicate most.toNat [(xs.length:Int) + 1]).flatten).length=most.toNat + 1:=by rw [List.length_append,ZdV]; simp; omega
 have hrm:∀ b∈[most + 1] ++ (List.replicate most.toNat [(xs.length:Int) + 1]).flatten,0 < b/\b < 1000:=λb hb=>by
  rcases YA.mp hb with hb | hb
  ·simp at hb
   omega
  ·obtain⟨l,hl,hb⟩:=List.mem_flatten.mp hb
   rw [(List.mem_replicate.mp hl).2] at hb
   simp at hb
   omega
 refine⟨_,by rw [Zg hne]; exact s2 _ _ e1,_,Zf,?_,λp4 hp4=>?_⟩
 ·rw [ZdV]
  exact Yj (show 1 + most.toNat * 1<=100 by omega) (by decide)
 rw [er]
 have s3:Zk H2 (upd H2 p3 (.lst (List.replicate most.toNat [V.int ((xs.length:Int) + 1)]).flatten)):=Zo hp3 (λ_ _ z=>z)
 have s4:=λo=>Zo (o:=o) hp4 (λ_ _ z=>z:Zk (upd H2 p3 (.lst (List.replicate most.toNat [V.int ((xs.length:Int) + 1)]).flatten)) _)
 refine⟨_,Zf,by omega,λb hb=>⟨(hrm b hb).1,by have:=hrm b hb; omega⟩,λpq H5 nums hpq s5 e5 hnl hnb=>?_⟩
 have S5:=(s1.trans s2).trans (s3.trans ((s4 _).trans s5))
 rw [hrl] at hnl
 have h0:=hnb 0 nums[0] _ (Yb (by omega)) rfl
 have hnv:∀ i (h:i + 1 < nums.length),0<=nums[i + 1]/\nums[i + 1]<=(xs.length:Int):=λi h=>by
  have h2:i < ((List.replicate most.toNat [(xs.length:Int) + 1]).flatten).length:=by rw [ZdV]; simp; omega
  have h3:=hnb (i + 1) nums[i + 1] (((List.replicate most.toNat [(xs.length:Int) + 1]).flatten)[i]) (Yb h) (by rw [List.cons_append,List.nil_append,List.getElem?_cons_succ]; exact Yb h2)
  obtain⟨l,hl,hb⟩:=List.mem_flatten.mp (YQ h2)
  rw [(List.mem_replicate.mp hl).2] at hb
  simp only [List.mem_singleton] at hb
  omega
 clear hrm er
 refine⟨⟨3,rfl⟩,⟨ns,S5.seq hS⟩,λc2=>⟨_,e5,_,at_ (j:=0) (by omega),nums[0],rfl,h0.1,by omega,λpn H6 ss hpn s6 e6 hsl p H7 hp s7 e7=>⟨_,(s6.trans s7) _ _ e5,_,at_ (j:=0) (by omega),nums[0],rfl,by omega,by omega,?_⟩⟩⟩
 have hfr:H p=none:=(S5.trans s6).free hp
 have hpp:pn ≠ p:=Zm e6 hp
 have hpqp:pq ≠ p:=Zm (s6 _ _ e5) hp
 refine ZcI (PhG H a pr pq pn p xs.length most ss nums) ⟨_,[],rfl,S5.trans (s6.trans s7),e7,(λkv hkv=>by cases hkv),List.nodup_nil,Yd _,s7 _ _ e6,(s6.trans s7) _ _ e5⟩ (λi σ H8 hi hP=>?_) (λσ H8 hP=>?_)
 ·obtain⟨o1,kvs,rfl,s8,e8,hH,hN,hkl,g3,g4⟩:=hP
  have his:i < ss.length:=by omega
  have hin:i + 1 < nums.length:=by omega
  obtain⟨v0,v1⟩:=hnv i hin
  obtain⟨k,ek⟩:∃ k:Nat,nums[i + 1]=(k:Int):=⟨nums[i + 1].toNat,by omega⟩
  walk_at "rd"
  rw [show (1:Int) + (i:Int)=((i + 1:Nat):Int) by omega]
  have hz:=Yb his
  refine⟨_,g4,_,at_ hin,_,g3,.str ss[i],ZP (by rw [Yg,hz]; rfl),kvs,e8,.inr ss[i],rfl,by omega,_,Jj kvs (.inr ss[i]) (.int nums[i + 1]),rfl,Zo hfr s8,Zf,?_,Zkd hN _ _,Yj (Za7 _ _ _) (by omega),by rw [Zg hpp]; exact g3,by rw [Zg hpqp]; exact g4⟩
  rw [ek]
  exact hH.put (by omega)
 ·obtain⟨o1,kvs,rfl,s8,e8,hH,hN,hkl,g3,g4⟩:=hP
  refine⟨p,kvs,rfl,e8,λob=>?_⟩
  walk_at "rd"
  exact q p _ kvs ob hfr (Zo hfr s8) Zf hH hN (by omega)
def ZnJ{h:Nat}{w:List Nat}(hw:WayR rs h w):∀ k∈w,∃ w',WayR rs k w'/\w' <:+ w/\k∈w':=by
 induction hw with
 | nil=>intro k hk; cases hk
 | @cons j r w hr hw' ih =>
  intro k hk
  rcases Yl.mp hk with rfl | hk
  ·exact⟨_,.cons hr hw',List.suffix_refl _,.head _⟩
  ·obtain⟨w',h1,h2,h3⟩:=ih k hk
   exact⟨w',h1,h2.trans (List.suffix_cons _ _),h3⟩
def Zf5{h k r:Nat}{w:List Nat}(hw:WayR rs h w)(hk:k∈w)(hr:r∈wayL rs k):r∈w:=by
 obtain⟨wk,h1,h2,_⟩:=ZnJ hw k hk
 rw [Zbi h1] at hr
 exact h2.subset hr
def sm(l:List α)(f:α->Int):Int:=(l.map f).sum
theorem ZbR(f:α->Int):sm [] f=0:=rfl
theorem ZB(x:α)(l:List α)(f:α->Int):sm (x :: l) f=f x + sm l f:=by unfold sm; rw [List.map_cons,List.sum_cons]
theorem Za1(l m:List α)(f:α->Int):sm (l ++ m) f=sm l f + sm m f:=by unfold sm; rw [List.map_append,List.sum_append]
def Zcs(l:List α)(f g:α->Int):sm l (λx=>f x + g x)=sm l f + sm l g:=by
 induction l with
 | nil=>rfl
 | cons x l ih=>rw [ZB,ZB,ZB,ih]; omega
theorem Zch(l:List α)(f g:α->Int):sm l (λx=>f x - g x)=sm l f - sm l g:=by
 induction l with
 | nil=>rfl
 | cons x l ih=>rw [ZB,ZB,ZB,ih]; omega
def JX{l:List α}{f g:α->Int}(h:∀ x∈l,f x<=g x):sm l f<=sm l g:=by
 induction l with
 | nil=>exact Int.le_refl _
 | cons x l ih=>rw [ZB,ZB]; have:=h x (.head _); have:=ih λy hy=>h y (.tail _ hy); omega
theorem ZL{l:List α}{f g:α->Int}(h:∀ x∈l,f x=g x):sm l f=sm l g:=by
 unfold sm
 rw [YL h]
theorem Za5{l:List α}{f:α->Int}(h:∀ x∈l,f x=0):sm l f=0:=by
 rw [ZL h]
 induction l with
 | nil=>rfl
 | cons x l ih=>rw [ZB,ih λy hy=>h y (.tail _ hy)]; rfl
def Zd1{l:List α}{f:α->Int}(h:∀ x∈l,0<=f x):0<=sm l f:=by
 have:=JX (f:=λ_=>0) h
 rw [Za5 λ_ _=>rfl] at this
 exact this
def Zft{l:List α}{f:α->Int}(h:∀ x∈l,0<=f x){x:α}(hx:x∈l):f x<=sm l f:=by
 induction l with
 | nil=>cases hx
 | cons y l ih =>
  rw [ZB]
  have h0:=h y (.head _)
  have h1:=Zd1 λz hz=>h z (.tail _ hz)
  rcases Yl.mp hx with rfl | hx
  ·omega
  ·have:=ih (λz hz=>h z (.tail _ hz)) hx
   omega
def Zgx{α β:Type}(l:List α)(m:List β)(f:α->β->Int):sm l (λx=>sm m (f x))=sm m (λy=>sm l (λx=>f x y)):=by
 induction l with
 | nil=>rw [ZbR]; exact (Za5 λ_ _=>rfl).symm
 | cons x l ih=>rw [ZB,ih,<- Zcs]; exact ZL λy _=>(ZB x l λx=>f x y).symm
theorem Zbb{l m:List α}(h:l.Perm m)(f:α->Int):sm l f=sm m f:=by
 induction h with
 | nil=>rfl
 | cons x _ ih=>rw [ZB,ZB,ih]
 | swap x y l=>rw [ZB,ZB,ZB,ZB]; omega
 | trans _ _ ih1 ih2=>exact ih1.trans ih2
def Za2(l:List α)(p:α->Bool)(f:α->Int):sm (l.filter p) f=sm l (λx=>if p x=true then f x else 0):=by
 induction l with
 | nil=>rfl
 | cons x l ih =>
  rw [ZB]
  by_cases c:p x=true
  ·rw [Yaf c,ZB,ih,if_pos c]
  ·rw [Yag c,ih,if_neg c]; omega
def ZnG[DecidableEq α]{l:List α}(hn:l.Nodup){r:α}(hr:r∈l)(f:α->Int):sm l (λk=>if k=r then f k else 0)=f r:=by
 induction l with
 | nil=>cases hr
 | cons x l ih =>
  rw [ZB]
  rw [Y7] at hn
  by_cases c:x=r
  ·subst c
   rw [if_pos rfl,Za5 λy hy=>if_neg (λe:y=x=>hn.1 (by rw [<- e]; exact hy))]
   omega
  ·rw [if_neg c,ih hn.2 (by rcases Yl.mp hr with h | h; exact absurd h.symm c; exact h)]
   omega
def Zl3{G:List Str}(hO:∀ z∈G,WayR rs (hf z) (wayL rs (hf z))):Jo rs (G.map hf) k ↔ ∃ z∈G,k∈wayL rs (hf z):=by
 rw [ZlX]
 constructor
 ·rintro⟨z,hz,w,hw,hk⟩
  exact⟨z,hz,by rw [Zbi hw]; exact hk⟩
 ·rintro⟨z,hz,hk⟩
  exact⟨z,hz,_,hO z hz,hk⟩
def Jc(rs:List (Nat × Rat))(k:Nat):Nat:=((rs[k - 1]?).map (·.1)).getD 0
def ZcU(T:JB rs){k:Nat}(h1:1<=k)(h2:k<=rs.length):wayL rs k=k :: wayL rs (Jc rs k)/\Jc rs k<=rs.length:=by
 obtain⟨w,hw,_⟩:=Zcm T h2
 cases hw with
 | nil=>omega
 | @cons j r w hr hw' =>
  have e:Jc rs (j + 1)=r.1:=by unfold Jc; simp [hr]
  rw [e,Zbi (.cons hr hw'),Zbi hw']
  exact⟨rfl,hw'.le⟩
def Zjr(T:JB rs){k:Nat}(h2:k<=rs.length):WayR rs k (wayL rs k):=by
 obtain⟨w,hw,_⟩:=Zcm T h2
 rw [Zbi hw]
 exact hw
def ZkB(T:JB rs){k:Nat}(h2:k<=rs.length):(wayL rs k).length<=rs.length:=by
 obtain⟨w,hw,hl⟩:=Zcm T h2
 rw [Zbi hw]
 exact hl
def Zoz{k j:Nat}(h:Jo rs hs k)(hj:j∈wayL rs k):Jo rs hs j:=by
 obtain⟨x,hx,w,hw,hk⟩:=h
 exact⟨x,hx,w,hw,Zf5 hw hk hj⟩
def ZeL(T:JB rs){hs:List Nat}{k:Nat}(h:Jo rs hs k):Jc rs k=0\/Jo rs hs (Jc rs k):=by
 obtain⟨h1,h2⟩:=Jb h
 obtain⟨e,hp⟩:=ZcU T h1 h2
 by_cases c:Jc rs k=0
 ·exact .inl c
 ·refine .inr (Zoz h ?_)
  rw [e,(ZcU T (by omega) hp).1]
  exact .tail _ (.head _)
open Classical in
noncomputable def needL(rs:List (Nat × Rat))(hs:List Nat):List Nat:=(List.range (rs.length + 1)).filter λk=>decide (Jo rs hs k)
open Classical in
theorem Zh:k∈needL rs hs ↔ Jo rs hs k:=by
 unfold needL
 rw [Yu,YD]
 exact⟨λh=>YN h.2,λh=>⟨by have:=Jb h; omega,YR h⟩⟩
theorem ZaJ:(needL rs hs).Pairwise (· < ·):=by unfold needL; exact List.Pairwise.filter _ List.pairwise_lt_range
def ZaL:(needL rs hs).Nodup:=ZaJ.imp λh=>Yn h
def ZbM{hs ks:List Nat}(h1:ks.Pairwise (· < ·))(h2:∀ k,k∈ks ↔ Jo rs hs k):ks=needL rs hs:=Zkx h1 ZaJ λk=>(h2 k).trans Zh.symm
noncomputable def cst(rs:List (Nat × Rat))(hf:Str->Nat)(cs:Nat->Int)(G:List Str):Int:=sm (needL rs (G.map hf)) cs
def pos(x:Int):Int:=if 0 < x then x else 0
def JH(c:Int)(l:List α)(f:α->Int):c * sm l f=sm l (λx=>c * f x):=by
 induction l with
 | nil=>exact Int.mul_zero c
 | cons x l ih=>rw [ZB,ZB,Int.mul_add,ih]
theorem Zbf(l:List α)(b:Int):sm l (λ_=>b)=b * l.length:=by
 induction l with
 | nil=>exact (Int.mul_zero b).symm
 | cons x l ih=>rw [ZB,ih,YV,Int.natCast_add,Int.mul_add,Int.natCast_one,Int.mul_one,Int.add_comm]
def Zjj{N:List Nat}(hn:N.Nodup)(a:Nat)(c:Int):sm N (λk=>if a=k then c else 0)=if a∈N then c else 0:=by
 induction N with
 | nil=>rfl
 | cons x l ih =>
  rw [Y7] at hn
  rw [ZB,ih hn.2]
  by_cases e:a=x
  ·subst e
   rw [if_pos rfl,if_neg hn.1,if_pos (.head _),Vo]
  ·rw [if_neg e,Int.zero_add]
   by_cases h:a∈l
   ·rw [if_pos h,if_pos (.tail _ h)]
   ·rw [if_neg h,if_neg (by rw [Yl]; rintro (z | z); exact e z; exact h z)]
def Zls[DecidableEq α]{N fr:List α}(hn:N.Nodup)(hf:fr.Nodup)(hs:∀ k∈N,k∈fr)(g:α->Int):sm N g=sm fr (λj=>if j∈N then g j else 0):=by
 have hp:N.Perm (fr.filter λk=>decide (k∈N)):=(List.perm_ext_iff_of_nodup hn (hf.filter _)).mpr λk=>by
  rw [Yu]
  simp
  exact λh=>hs k h
 rw [Zbb hp,Za2]
 exact ZL λj _=>by simp
def ZgR[DecidableEq α]{N fr:List α}(hn:N.Nodup)(hf:fr.Nodup)(hs:∀ k∈N,k∈fr){g:α->Int}(h0:∀ k∈fr,0<=g k):sm N g<=sm fr g:=by
 rw [Zls hn hf hs]
 refine JX λk hk=>?_
 split
 ·exact Int.le_refl _
 ·exact h0 k hk
def Zih{l:List α}{f g:α->Int}(h:∀ x∈l,f x<=g x)(e:sm l g<=sm l f):∀ x∈l,f x=g x:=by
 induction l with
 | nil=>intro x hx; cases hx
 | cons y l ih =>
  rw [ZB,ZB] at e
  have h1:=h y (.head _)
  have h2:=JX λx hx=>h x (.tail _ hx)
  intro x hx
  rcases Yl.mp hx with rfl | hx
  ·omega
  ·exact ih (λz hz=>h z (.tail _ hz)) (by omega) x hx
structure Vils(rs:List (Nat × Rat))(hf:Str->Nat)(ss:List Str)(fr:List Nat):Prop where
 T:JB rs
 le:∀ z∈ss,hf z<=rs.length
 nd:ss.Nodup
 fn:fr.Nodup
 fm:∀ k,k∈fr ↔ Jo rs (ss.map hf) k
section
variable {rs:List (Nat × Rat)}{hf:Str->Nat}{ss:List Str}{fr:List Nat}{cs:Nat->Int}{b h:Int}{L:Nat->Int}
def Vils.need(V:Vils rs hf ss fr){G:List Str}(hG:∀ z∈G,z∈ss){k:Nat}:Jo rs (G.map hf) k ↔ ∃ z∈G,k∈wayL rs (hf z):=Zl3 λz hz=>Zjr V.T (V.le z (hG z hz))
def Vils.home(V:Vils rs hf ss fr){G:List Str}(hG:∀ z∈G,z∈ss){z:Str}(hz:z∈G)(h0:hf z ≠ 0):Jo rs (G.map hf) (hf z):=by
 refine (V.need hG).mpr ⟨z,hz,?_⟩
 rw [(ZcU V.T (by omega) (V.le z (hG z hz))).1]
 exact .head _
def ZbV(rs:List (Nat × Rat))(hf:Str->Nat)(ss:List Str)(fr:List Nat)(cs:Nat->Int)(b h:Int)(L:Nat->Int):Prop:=∀ k∈fr,L k=sm ss (λz=>if hf z=k then b else 0) + sm fr (λj=>if Jc rs j=k then pos (L j) else 0) - h * cs k
def Zsg(V:Vils rs hf ss fr)(hL:ZbV rs hf ss fr cs b h L){N:List Nat}(hn:N.Nodup)(hs:∀ k∈N,k∈fr) :
  sm N (λk=>sm ss (λz=>if hf z=k then b else 0) - h * cs k)=sm fr (λj=>(if j∈N then L j else 0) - (if Jc rs j∈N then pos (L j) else 0)):=by
 have e:sm N (λk=>sm ss (λz=>if hf z=k then b else 0) - h * cs k)=sm N (λk=>L k - sm fr (λj=>if Jc rs j=k then pos (L j) else 0)):=ZL λk hk=>by rw [hL k (hs k hk)]; omega
 rw [e,Zch,Zch,Zls hn V.fn hs,Zgx]
 congr 1
 exact ZL λj _=>Zjj hn _ _
def Zi1(rs:List (Nat × Rat))(hf:Str->Nat)(ss:List Str)(fr:List Nat)(b:Int)(L:Nat->Int):Int:=sm ss (λz=>if hf z=0 then b else 0) + sm fr (λj=>if Jc rs j=0 then pos (L j) else 0)
def Zeo(V:Vils rs hf ss fr)(hb:0<=b)(hL:ZbV rs hf ss fr cs b h L){A:List Str}(hA:A.Nodup)(hs:∀ z∈A,z∈ss) :
  b * A.length - h * cst rs hf cs A<=Zi1 rs hf ss fr b L/\(b * A.length - h * cst rs hf cs A=Zi1 rs hf ss fr b L->∀ k,Jo rs (A.map hf) k->0<=L k):=by
 have hn:(needL rs (A.map hf)).Nodup:=ZaL
 have hN:∀ k∈needL rs (A.map hf),k∈fr:=λk hk=>(V.fm k).mpr (by
  obtain⟨z,hz,hw⟩:=(V.need hs).mp (Zh.mp hk)
  exact (V.need λ_ h=>h).mpr ⟨z,hs z hz,hw⟩)
 have h0:0 ∉ needL rs (A.map hf):=λc=>by have:=Jb (Zh.mp c); omega
 have e1:b * A.length=sm A (λz=>if hf z=0 then b else 0) + sm (needL rs (A.map hf)) (λk=>sm A (λz=>if hf z=k then b else 0)):=by
  rw [<- Zbf,Zgx,<- Zcs]
  refine ZL λz hz=>?_
  rw [Zjj hn]
  by_cases c:hf z=0
  ·rw [if_pos c,c,if_neg h0,Vo]
  ·rw [if_neg c,if_pos (Zh.mpr (V.home hs hz c)),Int.zero_add]
 have p:∀ k,sm A (λz=>if hf z=k then b else 0)<=sm ss (λz=>if hf z=k then b else 0):=λk=>ZgR hA V.nd hs λz _=>by split <;> omega
 have e2:=Zsg V hL hn hN
 rw [Zch,<- JH] at e2
 have e3:=JX (l:=needL rs (A.map hf)) λk _=>p k
 have p0:=p 0
 have key:∀ j∈fr,(if j∈needL rs (A.map hf) then L j else 0) - (if Jc rs j∈needL rs (A.map hf) then pos (L j) else 0)<=if Jc rs j=0 then pos (L j) else 0:=λj hj=>by
  have hp:L j<=pos (L j)/\0<=pos (L j):=by unfold pos; split <;> omega
  by_cases c:Jc rs j=0
  ·rw [if_pos c,c,if_neg h0]
   split <;> omega
  ·rw [if_neg c]
   by_cases d:j∈needL rs (A.map hf)
   ·rw [if_pos d,if_pos (Zh.mpr ((ZeL V.T (Zh.mp d)).resolve_left c))]
    omega
   ·rw [if_neg d]
    split <;> omega
 have e4:=JX key
 unfold cst Zi1
 refine⟨by omega,λe k hk=>?_⟩
 have hk':=Zh.mpr hk
 have e5:=Zih key (by omega) k (hN k hk')
 rw [if_pos hk'] at e5
 have hp:0<=pos (L k)/\(pos (L k)=L k\/pos (L k)=0):=by unfold pos; split <;> omega
 by_cases c:Jc rs k=0
 ·rw [if_pos c,c,if_neg h0] at e5
  omega
 ·rw [if_neg c,if_pos (Zh.mpr ((ZeL V.T hk).resolve_left c))] at e5
  omega
noncomputable def stay(rs:List (Nat × Rat))(hf:Str->Nat)(ss:List Str)(L:Nat->Int):List Str:=ss.filter λz=>decide (∀ k∈wayL rs (hf z),0<=L k)
def Zbr:z∈stay rs hf ss L ↔ z∈ss/\∀ k∈wayL rs (hf z),0<=L k:=by
 unfold stay
 rw [Yu,Vj]
def ZhG(V:Vils rs hf ss fr)(hc:∀ k,0<=cs k)(hh:0<=h)(hL:ZbV rs hf ss fr cs b h L):Zi1 rs hf ss fr b L<=b * (stay rs hf ss L).length - h * cst rs hf cs (stay rs hf ss L):=by
 have hs:∀ z∈stay rs hf ss L,z∈ss:=λz hz=>(Zbr.mp hz).1
 have hn:(fr.filter λk=>decide (∀ j∈wayL rs k,0<=L j)).Nodup:=V.fn.filter _
 have hm:∀ k,k∈(fr.filter λk=>decide (∀ j∈wayL rs k,0<=L j)) ↔ k∈fr/\∀ j∈wayL rs k,0<=L j:=λk=>by rw [Yu,Vj]
 generalize (fr.filter λk=>decide (∀ j∈wayL rs k,0<=L j))=N at hn hm
 have hN:∀ k∈N,k∈fr:=λk hk=>((hm k).mp hk).1
 have h0:0 ∉ N:=λc=>by have:=Jb ((V.fm 0).mp (hN 0 c)); omega
 have e1:b * (stay rs hf ss L).length=sm ss (λz=>if hf z=0 then b else 0) + sm N (λk=>sm ss (λz=>if hf z=k then b else 0)):=by
  rw [<- Zbf]
  unfold stay
  rw [Za2,Zgx,<- Zcs]
  refine ZL λz hz=>?_
  rw [Zjj hn]
  by_cases c:hf z=0
  ·rw [if_pos (by rw [c,Zbi (rs:=rs) (k:=0) .nil]; simp),if_pos c,c,if_neg h0,Int.add_zero]
  ·have hq:(hf z∈N)=(decide (∀ k∈wayL rs (hf z),0<=L k)=true):=by
    rw [Vj]
    exact propext ((hm _).trans ⟨λq=>q.2,λq=>⟨(V.fm _).mpr (V.home (λ_ h=>h) hz c),q⟩⟩)
   simp only [hq,if_neg c,Int.zero_add]
 have e2:=Zsg V hL hn hN
 rw [Zch,<- JH] at e2
 have e3:sm (needL rs ((stay rs hf ss L).map hf)) cs<=sm N cs:=ZgR ZaL hn (λk hk=>(hm k).mpr (by
  obtain⟨z,hz,hw⟩:=(V.need hs).mp (Zh.mp hk)
  exact⟨(V.fm k).mpr ((V.need λ_ h=>h).mpr ⟨z,hs z hz,hw⟩),λj hj=>(Zbr.mp hz).2 j (Zf5 (Zjr V.T (V.le z (hs z hz))) hw hj)⟩)) λk _=>hc k
 have e4:sm fr (λj=>(if j∈N then L j else 0) - (if Jc rs j∈N then pos (L j) else 0))=sm fr (λj=>if Jc rs j=0 then pos (L j) else 0):=ZL λj hj=>by
  obtain⟨b1,b2⟩:=Jb ((V.fm j).mp hj)
  obtain⟨ew,_⟩:=ZcU V.T b1 b2
  by_cases c:Jc rs j=0
  ·have hj':j∈N ↔ 0<=L j:=by
    rw [hm j,ew,c,Zbi (rs:=rs) (k:=0) .nil]
    simp [hj]
   rw [if_pos c,c,if_neg h0]
   unfold pos
   by_cases d:0<=L j
   ·rw [if_pos (hj'.mpr d)]
    split <;> omega
   ·rw [if_neg λq=>d (hj'.mp q)]
    split <;> omega
  ·rw [if_neg c]
   have hpf:Jc rs j∈fr:=(V.fm _).mpr ((ZeL V.T ((V.fm j).mp hj)).resolve_left c)
   have hj':j∈N ↔ 0<=L j/\Jc rs j∈N:=by
    rw [hm j,hm (Jc rs j),ew]
    simp [hj,hpf]
   unfold pos
   by_cases d:Jc rs j∈N
   ·rw [if_pos d]
    by_cases d2:0<=L j
    ·rw [if_pos (hj'.mpr ⟨d2,d⟩)]
     split <;> omega
    ·rw [if_neg λq=>d2 (hj'.mp q).1]
     split <;> omega
   ·rw [if_neg d,if_neg λq=>d (hj'.mp q).2]
    omega
 have e5:=Int.mul_le_mul_of_nonneg_left e3 hh
 unfold Zi1 cst
 omega
def ZiJ(V:Vils rs hf ss fr){b' h':Int}{L':Nat->Int}(hb:0 < h)(hb':0 < h')(hle:b * h'<=b' * h)(hL:ZbV rs hf ss fr cs b h L)(hL':ZbV rs hf ss fr cs b' h' L'):∀ k∈fr,h' * L k<=h * L' k:=by
 have go:∀ n k,k∈fr->rs.length + 1<=n + (wayL rs k).length->h' * L k<=h * L' k:=by
  intro n
  induction n with
  | zero =>
   intro k hk hl
   have:=ZkB V.T (Jb ((V.fm k).mp hk)).2
   omega
  | succ n ih =>
   intro k hk hl
   have e1:h' * sm ss (λz=>if hf z=k then b else 0)<=h * sm ss (λz=>if hf z=k then b' else 0):=by
    rw [JH,JH]
    refine JX λz _=>?_
    split
    ·rw [Int.mul_comm,Int.mul_comm h]; exact hle
    ·rw [Int.mul_zero,Int.mul_zero]; exact Int.le_refl _
   have e2:h' * sm fr (λj=>if Jc rs j=k then pos (L j) else 0)<=h * sm fr (λj=>if Jc rs j=k then pos (L' j) else 0):=by
    rw [JH,JH]
    refine JX λj hj=>?_
    split
    ·rename_i c
     obtain⟨b1,b2⟩:=Jb ((V.fm j).mp hj)
     have hjj:=ih j hj (by rw [(ZcU V.T b1 b2).1,c,YV]; omega)
     unfold pos
     split
     ·rename_i p
      have p1:=Int.mul_pos hb' p
      rw [if_pos]
      ·exact hjj
      ·exact Int.pos_of_mul_pos_left (a:=L' j) (b:=h) (by rw [Int.mul_comm]; omega) hb
     ·rw [Int.mul_zero]
      split
      ·rename_i p
       exact Int.le_of_lt (Int.mul_pos hb p)
      ·rw [Int.mul_zero]; exact Int.le_refl _
    ·rw [Int.mul_zero,Int.mul_zero]; exact Int.le_refl _
   rw [hL k hk,hL' k hk,Int.mul_sub,Int.mul_sub,Int.mul_add,Int.mul_add]
   have e3:h' * (h * cs k)=h * (h' * cs k):=by rw [<- Int.mul_assoc,Int.mul_comm h' h,Int.mul_assoc]
   omega
 exact λk hk=>go (rs.length + 1) k hk (by omega)
def ZkE(V:Vils rs hf ss fr){b' h':Int}{L':Nat->Int}(hb:0 < h)(hb':0 < h')(hle:b * h'<=b' * h)(hL:ZbV rs hf ss fr cs b h L)(hL':ZbV rs hf ss fr cs b' h' L'):∀ z∈stay rs hf ss L,z∈stay rs hf ss L':=λz hz=>by
 obtain⟨h1,h2⟩:=Zbr.mp hz
 refine Zbr.mpr ⟨h1,λk hk=>?_⟩
 have hkf:k∈fr:=(V.fm k).mpr ((V.need λ_ h=>h).mpr ⟨z,h1,hk⟩)
 have e1:=ZiJ V hb hb' hle hL hL' k hkf
 have e2:=Int.mul_nonneg (Int.le_of_lt hb') (h2 k hk)
 exact Vb λc=>by
  have:=Int.mul_neg_of_pos_of_neg hb (show L' k < 0 by omega)
  omega
structure Cheap(rs:List (Nat × Rat))(hf:Str->Nat)(cs:Nat->Int)(ss G:List Str):Prop where
 ne:G ≠ []
 sub:∀ z∈G,z∈ss
 nd:G.Nodup
 least:∀ A:List Str,A.Nodup->(∀ z∈A,z∈ss)->cst rs hf cs G * A.length<=G.length * cst rs hf cs A/\(cst rs hf cs G * A.length=G.length * cst rs hf cs A->∀ z∈A,z∈G)
def ZeE(hc:∀ k,0<=cs k)(G:List Str):0<=cst rs hf cs G:=Zd1 λk _=>hc k
def Zgh(V:Vils rs hf ss fr)(hc:∀ k,0<=cs k){G:List Str}(hG:G ≠ [])(hGn:G.Nodup)(hGs:∀ z∈G,z∈ss)(hL:ZbV rs hf ss fr cs (cst rs hf cs G) G.length L) :
  stay rs hf ss L ≠ []/\cst rs hf cs (stay rs hf ss L) * G.length<=cst rs hf cs G * (stay rs hf ss L).length/\((∀ z∈stay rs hf ss L,z∈G)->(∀ z∈G,z∈stay rs hf ss L)->Cheap rs hf cs ss G):=by
 have hb:=ZeE (rs:=rs) (hf:=hf) hc G
 have hg:(0:Int) < G.length:=by have:=List.length_pos_iff.mpr hG; omega
 have h1:=ZhG V hc (Int.le_of_lt hg) hL
 obtain⟨h2,h3⟩:=Zeo V hb hL hGn hGs
 have e0:cst rs hf cs G * G.length - G.length * cst rs hf cs G=0:=by rw [Int.mul_comm]; omega
 refine⟨λc=>?_,?_,λs1 s2=>⟨hG,hGs,hGn,λA hA hs=>?_⟩⟩
 ·rw [c] at h1
  have ec:cst rs hf cs []=0:=by
   unfold cst
   exact Za5 λk hk=>by obtain⟨x,hx,_⟩:=Zh.mp hk; cases hx
  rw [ec] at h1
  simp only [List.length_nil,Int.mul_zero] at h1
  have h4:=h3 (by omega)
  obtain⟨z,hz⟩:=List.exists_mem_of_ne_nil _ hG
  have:z∈stay rs hf ss L:=Zbr.mpr ⟨hGs z hz,λk hk=>h4 k ((V.need hGs).mpr ⟨z,hz,hk⟩)⟩
  rw [c] at this
  cases this
 ·rw [Int.mul_comm (cst rs hf cs (stay rs hf ss L))]
  omega
 ·have hnd:(stay rs hf ss L).Nodup:=V.nd.filter _
  have hp:(stay rs hf ss L).Perm G:=(List.perm_ext_iff_of_nodup hnd hGn).mpr λz=>⟨s1 z,s2 z⟩
  have hl:=hp.length_eq
  have ec:cst rs hf cs (stay rs hf ss L)=cst rs hf cs G:=by
   unfold cst
   rw [<- ZbM ZaJ λk=>Zh.trans ?_]
   unfold Jo
   constructor
   ·rintro⟨x,hx,q⟩
    exact⟨x,(hp.map hf).mem_iff.mpr hx,q⟩
   ·rintro⟨x,hx,q⟩
    exact⟨x,(hp.map hf).mem_iff.mp hx,q⟩
  rw [ec,hl] at h1
  obtain⟨h4,h5⟩:=Zeo V hb hL hA hs
  refine⟨by omega,λe z hz=>s1 z (Zbr.mpr ⟨hs z hz,λk hk=>h5 (by omega) k ((V.need hs).mpr ⟨z,hz,hk⟩)⟩)⟩
end
def hmL(ss:List Str)(hf:Str->Nat):List (ZQ × V):=ss.map λz=>(Sum.inr z,V.int (hf z:Int))
def ZcD:((hmL ss hf).map λkv=>kV kv.1)=ss.map V.str:=by
 unfold hmL
 rw [Yw]
 rfl
def Zou:(hmL ss hf).map (·.1)=ss.map Sum.inr:=by
 unfold hmL
 rw [Yw]
 rfl
theorem Zf7(h:z∈ss):Z8 (hmL ss hf) (Sum.inr z)=some (.int (hf z:Int)):=by
 induction ss with
 | nil=>cases h
 | cons y ss ih =>
  unfold hmL at ih ⊢
  rw [Yr]
  by_cases c:y=z
  ·subst c
   exact Z6 rfl
  ·rw [ZO (by intro e; injection e with e; exact c e)]
   exact ih (by rcases Yl.mp h with e | h; exact absurd e.symm c; exact h)
theorem Zir(hle:∀ z∈ss,hf z<=n):∀ gs:List Str,(∀ z∈gs,z∈ss)->ZeW (hmL ss hf) gs (gs.map hf) n:=λgs hg=>⟨by simp,λi z h h1 h2=>by
 rw [Yg,h1] at h2
 cases h2
 have:=hg z (Ym h1)
 exact⟨Zf7 this,hle z this⟩⟩
def ZpK:∀ {kvs:List (ZQ × V)},Zeq kvs n->(kvs.map (·.1)).Nodup->∃ (ss:List Str) (hf:Str->Nat),kvs=hmL ss hf/\ss.Nodup/\∀ z∈ss,hf z<=n
 | [],_,_=>⟨[],λ_=>0,rfl,List.nodup_nil,λz hz=>by cases hz⟩
 | kv :: kvs,h,hn=>by
  rw [Yr,Y7] at hn
  obtain⟨ss,hf,e,hnd,hle⟩:=ZpK (λkv hkv=>h kv (.tail _ hkv)) hn.2
  obtain⟨z,k,ek,hk⟩:=h kv (.head _)
  subst ek
  have hz:z ∉ ss:=λc=>hn.1 (by rw [e,Zou]; exact Yk.mpr ⟨z,c,rfl⟩)
  have hne:∀ y∈ss,y ≠ z:=λy hy c=>hz (c ▸ hy)
  refine⟨z :: ss,λy=>if y=z then k else hf y,?_,Y7.mpr ⟨hz,hnd⟩,λy hy=>?_⟩
  ·rw [e]
   unfold hmL
   rw [Yr]
   dsimp only
   rw [if_pos rfl]
   congr 1
   exact YL λy hy=>by rw [if_neg (hne y hy)]
  ·rcases Yl.mp hy with rfl | hy
   ·dsimp only; rw [if_pos rfl]; exact hk
   ·dsimp only; rw [if_neg (hne y hy)]; exact hle y hy
def prL(ks:List Nat)(cs:Nat->Int):List (ZQ × V):=ks.map λk:Nat=>(Sum.inl (k:Int),V.int (cs k))
variable {cs:Nat->Int}
def ZmL(h:k∈ks):Z8 (prL ks cs) (Sum.inl (k:Int))=some (.int (cs k)):=by
 induction ks with
 | nil=>cases h
 | cons y ks ih =>
  unfold prL at ih ⊢
  rw [Yr]
  by_cases c:y=k
  ·subst c
   exact Z6 rfl
  ·rw [ZO (by intro e; injection e with e; exact c (by omega))]
   exact ih (by rcases Yl.mp h with e | h; exact absurd e.symm c; exact h)
def Zne(h:k ∉ ks):Z8 (prL ks cs) (Sum.inl (k:Int))=none:=by
 induction ks with
 | nil=>rfl
 | cons y ks ih =>
  rw [Yl,not_or] at h
  unfold prL at ih ⊢
  rw [Yr,ZO (by intro e; injection e with e; exact h.1 (by omega))]
  exact ih h.2
def Zpi(h:k ∉ ks):Jj (prL ks cs) (Sum.inl (k:Int)) (.int (cs k))=prL (ks ++ [k]) cs:=by
 rw [ZeP _ (Zne h)]
 unfold prL
 rw [Y8]
 rfl
def Zqy{v:Int}(h:k∈ks):Jj (prL ks cs) (Sum.inl (k:Int)) (.int v)=prL ks (λj=>if j=k then v else cs j):=by
 have hk:((prL ks cs).any λkv=>decide (kv.1=(Sum.inl (k:Int):ZQ)))=true:=List.any_eq_true.mpr ⟨(Sum.inl (k:Int),.int (cs k)),List.mem_map.mpr ⟨k,h,rfl⟩,by simp⟩
 unfold Jj
 rw [if_pos (by simpa using hk)]
 unfold prL
 rw [Yw]
 refine YL λj _=>?_
 by_cases c:j=k
 ·subst c
  simp
 ·have:¬ (j:Int)=(k:Int):=by omega
  simp [c,this]
structure Place(rs:List (Nat × Rat))(hf:Str->Nat)(ss:List Str):Prop where
 T:JB rs
 n:rs.length<=20
 le:∀ z∈ss,hf z<=rs.length
 nd:ss.Nodup
 few:ss.length < 50
def Place.vils(p:Place rs hf ss):Vils rs hf ss (needL rs (ss.map hf)):=⟨p.T,p.le,p.nd,ZaL,λ_=>Zh⟩
def Zmu(cs:Nat->Int):Prop:=∀ k,0<=cs k/\(cs k).natAbs < 2 ^ 2400
noncomputable def botL(rs:List (Nat × Rat))(hf:Str->Nat)(ss:List Str):Nat:=Zi3 ((needL rs (ss.map hf)).map (Zr rs)) ((needL rs (ss.map hf)).map (Zr rs)).length
def Zfr(hp:Place rs hf ss)(hz:∀ r∈rs,SzQ 110 r.2):0 < botL rs hf ss/\botL rs hf ss<=2 ^ 2200/\∀ k,Jo rs (ss.map hf) k->(Zr rs k).den ∣ botL rs hf ss:=by
 have hn:=hp.n
 have hkl:=Zdw (n:=rs.length) (ZaJ (rs:=rs) (hs:=ss.map hf)) λk hk=>Jb (Zh.mp hk)
 have hq:∀ (i:Nat) q,((needL rs (ss.map hf)).map (Zr rs))[i]?=some q->SzQ 110 q:=λi q hq=>by
  obtain⟨k,_,rfl⟩:=Yk.mp (Ym hq)
  exact ZaX hz k
 obtain⟨h1,h2,h3⟩:=Zfc hq _ (Yd _)
 refine⟨h1,Yj h2 (Y0 (by decide) (by rw [Yf]; omega)),λk hk=>?_⟩
 obtain⟨i,hi,e⟩:=VE (Zh.mpr hk)
 exact h3 i _ (by rw [Yf]; exact hi) (by rw [Yg,Yb hi,e]; rfl)
def Zf3(C:Addr):Sp:=λvs H Q _=>∃ (x:V) (rs:List (Nat × Rat)) (d:Addr) (ss:List Str) (hf:Str->Nat),vs=[x,.ref d]/\Jp C H x rs/\Rd H d (.dK (hmL ss hf))/\Place rs hf ss/\(∀ r∈rs,SzQ 110 r.2) /\
 ∀ H',Zk H H'->Q (.int (botL rs hf ss:Int)) H'
def Ziy(F:Fun K "bottom_of_prices" "bottom_of_prices" ZaA f fd)(ZV:mg "list"=none)(Za0:Fn P w K mg base ZC 3 "common_bottom" ["some"] (ZfU K))(Z3:Fn P w K mg base ZC 4 "needed" ["tree","homes","group"] (Zbk CT))
  (Zcx:Mth P w K mg base ZC 4 CT "price" ["self","k"] (λvs H Q _=>ZdO CT CNP vs H Q E0)):FnOk P w K mg base ZC 5 f fd ["tree","homes"] (Zf3 CT):=by
 refine JU F Zb2 λcdv A outer s H vs Q E hr h=>?_
 obtain⟨x,rs,d,ss,hf,rfl,hT,hd,hp,hz,q⟩:=h
 refine⟨_,(Zj (ZF (Jn Za0 hr (Zl (Zc5 (Zot ["k"] [0] ["tree"]) (Jg (Jn Z3 hr (Zl (Ze 0) (Zl (Ze 1) (Zl (Zfj rfl ZV (Zl (Ze 1) Zb)) Zb))))) (by exact λs H fp=>(ZE 0 (show List.Nodup (["k","tree"]:List Str) from by decide +kernel))) (by exact λs H fp=>(ZbT Zcx hr (by decide) (Ze 1) (Zl (Ze 0) Zb)))) Zb)))),?_⟩
 rw [show Zu ["tree","homes"] [x,.ref d]=[some (x),some (.ref d)] from rfl]
 walk_at "rd"
 simp only [Zec,Zed,cxK]
 walk_at "rd"
 walk_at "rd"
 refine⟨d,_,rfl,hd,λl H1 hl s1 e1=>?_⟩
 rw [ZcD] at e1
 refine⟨x,rs,d,l,_,ss,ss.map hf,rfl,hT.same s1,Zdk hd s1,e1,Zir hp.le ss (λ_ h=>h),by have:=hp.n; omega,hp.few,hp.T,λp H2 ks hp2 s2 e2 hpw hmem=>?_⟩
 have ek:=ZbM hpw hmem
 subst ek
 have hbd:∀ k∈needL rs (ss.map hf),1<=k/\k<=rs.length:=λk hk=>Jb (Zh.mp hk)
 have hkl:=Zdw ZaJ hbd
 have hn:=hp.n
 have s12:=s1.trans s2
 refine⟨p,rfl,⟨_,.of e2⟩,?_⟩
 rw [show Jv [some x,some (V.ref d)] [0]=[some x] from rfl]
 have hnl:(Zw (needL rs (ss.map hf))).length=(needL rs (ss.map hf)).length:=by simp [Zw]
 refine Zcw (as:=(needL rs (ss.map hf)).map (Zr rs)) Jd Zju e2 (by simp [Zw]) (by rw [hnl]; omega) (λi v qk h1 h2 H' k os sm ho hk=>?_) (λp3 H3 ys hp3 s3 e3 hv=>?_)
 ·obtain⟨o,rfl⟩:∃ o,os=[o]:=List.length_eq_one_iff.mp ho
  obtain⟨k0,hk0,rfl,rfl⟩:∃ k0:Nat,(needL rs (ss.map hf))[i]?=some k0/\v=V.int (k0:Int)/\qk=Zr rs k0:=by
   unfold Zw at h1
   rw [Yg] at h1 h2
   cases hh:(needL rs (ss.map hf))[i]? with
   | none=>rw [hh] at h1; cases h1
   | some k0=>rw [hh] at h1 h2; cases h1; cases h2; exact⟨k0,rfl,rfl,rfl⟩
  obtain⟨b1,b2⟩:=hbd k0 (Ym hk0)
  have hT2:=hT.same (s12.trans sm)
  obtain⟨xa,dx,la,wa,ls,ws,rfl,g1,_⟩:=id hT2
  walk_at "rd"
  refine⟨[_],rfl,rfl,dx,_,g1,rfl,.ref xa,rs,k0,rfl,hT2,λk' r y ek hr hy=>hk y H' (λ_ _ z=>z) ?_,λzz=>absurd ⟨by omega,by omega⟩ zz⟩
  have e:k0 - 1=k':=by omega
  unfold Zr
  rw [e,hr]
  exact hy
 ·have hq:∀ (i:Nat) q,((needL rs (ss.map hf)).map (Zr rs))[i]?=some q->SzQ 110 q:=λi q hq=>by
   obtain⟨k,_,rfl⟩:=Yk.mp (Ym hq)
   exact ZaX hz k
  exact⟨p3,ys,_,rfl,.of e3,Zik hv,ZnA hq (by rw [Yf]; omega),q H3 (s12.trans s3)⟩
def ZeG(C:Addr):Sp:=λvs H Q _=>∃ (x:V) (rs:List (Nat × Rat)) (d:Addr) (ss:List Str) (hf:Str->Nat) (B:Nat),vs=[x,.ref d,.int (B:Int)]/\Jp C H x rs/\Rd H d (.dK (hmL ss hf))/\Place rs hf ss/\(∀ r∈rs,SzQ 110 r.2)/\B<=2 ^ 2200 /\
 ∀ p H',H p=none->Zk H H'->H' p=some (.dK (prL (needL rs (ss.map hf)) λk=>ZkD B (Zr rs k)))->Q (.ref p) H'
def Pwp(H0:Hp)(x:V)(d p:Addr)(B:Nat)(rs:List (Nat × Rat))(ks:List Nat)(i:Nat)(σ:St)(H:Hp):Prop:=∃ o,σ=[some x,some (.ref d),some (.int (B:Int)),some (.ref p),o]/\Zk H0 H/\H p=some (.dK (prL (ks.take i) λk=>ZkD B (Zr rs k)))
def ZhC(F:Fun K "whole_prices" "whole_prices" Zbh f fd)(ZV:mg "list"=none)(Z3:Fn P w K mg base ZC 4 "needed" ["tree","homes","group"] (Zbk CT))(Zcv:Fn P w K mg base ZC 1 "top_over" ["one","bottom"] Zms)
  (Zcx:Mth P w K mg base ZC 4 CT "price" ["self","k"] (λvs H Q _=>ZdO CT CNP vs H Q E0)):FnOk P w K mg base ZC 5 f fd ["tree","homes","bottom"] (ZeG CT):=by
 refine JU F ZaY λcdv A outer s H vs Q E hr h=>?_
 obtain⟨x,rs,d,ss,hf,B,rfl,hT,hd,hp,hz,hB,q⟩:=h
 refine⟨_,(Zc (Zn 3 ZaY.nd ZdT)
   (Zc (Jq Yq (Jg (Jn Z3 hr (Zl (Ze 0) (Zl (Ze 1) (Zl (Zfj rfl ZV (Zl (Ze 1) Zb)) Zb))))) (ZE 4 ZaY.nd) (Zj (Zc4 (JA hr) (Ze 3) (Ze 4) (Jn Zcv hr (Zl (ZbT Zcx hr (by decide) (Ze 0) (Zl (Ze 4) Zb)) (Zl (Ze 2) Zb))))))
   (Zj (ZF (Ze 3))))),?_⟩
 rw [show Zu ["tree","homes","bottom","prices","k"] [x,.ref d,.int (B:Int)]=[some (x),some (.ref d),some (.int (B:Int)),none,none] from rfl]
 walk_at "rd"
 simp only [Z9]
 walk_at "rd"
 intro p H1 hp1 s1 e1
 refine⟨d,_,rfl,Zdk hd s1,λl H2 hl s2 e2=>?_⟩
 rw [ZcD] at e2
 have s12:=s1.trans s2
 refine⟨x,rs,d,l,_,ss,ss.map hf,rfl,hT.same s12,Zdk hd s12,e2,Zir hp.le ss (λ_ h=>h),by have:=hp.n; omega,hp.few,hp.T,λp3 H3 ks hp3 s3 e3 hpw hmem=>?_⟩
 have ek:=ZbM hpw hmem
 subst ek
 have hbd:∀ k∈needL rs (ss.map hf),1<=k/\k<=rs.length:=λk hk=>Jb (Zh.mp hk)
 have hkl:=Zdw ZaJ hbd
 have hn:=hp.n
 have hne:p3 ≠ p:=(Zm (s2 _ _ e1) hp3).symm
 refine Ji (xs:=Zw (needL rs (ss.map hf))) (λi σ H'=>Pwp H x d p B rs (needL rs (ss.map hf)) i σ H'/\H' p3=some (.lst (Zw (needL rs (ss.map hf))))) ⟨⟨_,rfl,s12.trans s3,(s2.trans s3) _ _ e1⟩,e3⟩ (λi σ H' _ hP=>.of hP.2) (λi y σ H' hi hP=>?_) (λσ H' hP=>?_)
 ·obtain⟨⟨o,rfl,sm,e4⟩,e5⟩:=hP
  obtain⟨k0,hk0,rfl⟩:∃ k0:Nat,(needL rs (ss.map hf))[i]?=some k0/\y=V.int (k0:Int):=by
   unfold Zw at hi
   rw [Yg] at hi
   cases hh:(needL rs (ss.map hf))[i]? with
   | none=>rw [hh] at hi; cases hi
   | some k0=>rw [hh] at hi; cases hi; exact⟨k0,rfl,rfl⟩
  obtain⟨b1,b2⟩:=hbd k0 (Ym hk0)
  have hT2:=hT.same sm
  obtain⟨xa,dx,la,wa,ls,ws,rfl,g1,_⟩:=id hT2
  walk_at "rd"
  refine⟨dx,_,g1,rfl,.ref xa,rs,k0,rfl,hT2,λk' r y ek hr hy=>?_,λzz=>absurd ⟨by omega,by omega⟩ zz⟩
  have e:k0 - 1=k':=by omega
  have hy':Jd H' y (Zr rs k0):=by
   unfold Zr
   rw [e,hr]
   exact hy
  refine⟨y,_,B,rfl,hy',(ZaX hz k0).mono (by decide),Yj hB (Y0 (by decide) (by decide)),_,e4,.inl (k0:Int),rfl,?_,⟨_,rfl,Zo hp1 sm,?_⟩,by rw [Zg hne]; exact e5⟩
  ·unfold prL
   rw [Yf,Yz]
   omega
  ·have hni:k0 ∉ (needL rs (ss.map hf)).take i:=λc=>by
    have hn2:=ZaL (rs:=rs) (hs:=ss.map hf)
    have hi':=(Ye.mp hk0).1
    rw [<- Vq i (needL rs (ss.map hf)),Vu] at hn2
    refine hn2.2.2 k0 c k0 ?_ rfl
    rw [VP hi',<- (Ye.mp hk0).2]
    exact .head _
   rw [Zf,Zpi (cs:=λk=>ZkD B (Zr rs k)) hni,YB,hk0]
   rfl
 ·obtain⟨⟨o,rfl,sm,e4⟩,e5⟩:=hP
  walk_at "rd"
  rw [show (Zw (needL rs (ss.map hf))).length=(needL rs (ss.map hf)).length by simp [Zw],List.take_length] at e4
  exact q p H' hp1 sm e4
def ZeQ(C:Addr):Sp:=λvs H Q _=>∃ (x:V) (rs:List (Nat × Rat)) (d g pd:Addr) (ss gs:List Str) (hf:Str->Nat) (ks:List Nat) (cs:Nat->Int),vs=[x,.ref d,.ref g,.ref pd]/\Jp C H x rs/\Rd H d (.dK (hmL ss hf))/\Place rs hf ss/\H g=some (.lst (gs.map V.str))/\(∀ z∈gs,z∈ss)/\gs.length < 50/\H pd=some (.dK (prL ks cs))/\(∀ k,Jo rs (gs.map hf) k->k∈ks) /\
 ∀ H',Zk H H'->Q (.int (cst rs hf cs gs)) H'
def ZkT(F:Fun K "whole_cost" "whole_cost" ZbA f fd)(ZhW:mg "sum"=none)(Z3:Fn P w K mg base ZC 4 "needed" ["tree","homes","group"] (Zbk CT)):FnOk P w K mg base ZC 5 f fd ["tree","homes","group","prices"] (ZeQ CT):=by
 refine JU F ZeJ λcdv A outer s H vs Q E hr h=>?_
 obtain⟨x,rs,d,g,pd,ss,gs,hf,ks,cs,rfl,hT,hd,hp,hg,hgs,hgl,hpd,hk,q⟩:=h
 refine⟨_,(Zj (ZF (ZqD rfl ZhW (Zl (Zc5 (Zot ["k"] [3] ["prices"]) (Jg (Jn Z3 hr (Zl (Ze 0) (Zl (Ze 1) (Zl (Ze 2) Zb))))) (by exact λs H fp=>(ZE 0 (show List.Nodup (["k","prices"]:List Str) from by decide +kernel))) (by exact λs H fp=>(ZbQ (JA hr) (Ze 1) (Ze 0)))) Zb)))),?_⟩
 rw [show Zu ["tree","homes","group","prices"] [x,.ref d,.ref g,.ref pd]=[some (x),some (.ref d),some (.ref g),some (.ref pd)] from rfl]
 walk_at "rd"
 simp only [Zec,Zed,cxK]
 walk_at "rd"
 refine⟨x,rs,d,g,_,gs,gs.map hf,rfl,hT,hd,hg,Zir hp.le gs hgs,by have:=hp.n; omega,hgl,hp.T,λp H2 ks2 hp2 s2 e2 hpw hmem=>⟨p,rfl,⟨_,.of e2⟩,?_⟩⟩
 have ek:=ZbM hpw hmem
 subst ek
 have hbd:∀ k∈needL rs (gs.map hf),1<=k/\k<=rs.length:=λk hk=>Jb (Zh.mp hk)
 have hkl:=Zdw ZaJ hbd
 have hn:=hp.n
 rw [show Jv [some x,some (V.ref d),some (V.ref g),some (V.ref pd)] [3]=[some (V.ref pd)] from rfl]
 have hnl:(Zw (needL rs (gs.map hf))).length=(needL rs (gs.map hf)).length:=by simp [Zw]
 refine Zcw (as:=(needL rs (gs.map hf)).map cs) ZrB Zjl e2 (by simp [Zw]) (by rw [hnl]; omega) (λi v qk h1 h2 H' k os sm ho hk2=>?_) (λp3 H3 ys hp3 s3 e3 hv=>?_)
 ·obtain⟨o,rfl⟩:∃ o,os=[o]:=List.length_eq_one_iff.mp ho
  obtain⟨k0,hk0,rfl,rfl⟩:∃ k0:Nat,(needL rs (gs.map hf))[i]?=some k0/\v=V.int (k0:Int)/\qk=cs k0:=by
   unfold Zw at h1
   rw [Yg] at h1 h2
   cases hh:(needL rs (gs.map hf))[i]? with
   | none=>rw [hh] at h1; cases h1
   | some k0=>rw [hh] at h1 h2; cases h1; cases h2; exact⟨k0,rfl,rfl,rfl⟩
  walk_at "rd"
  exact⟨[_],rfl,rfl,_,.inl ((s2.trans sm) _ _ hpd),.inl (k0:Int),rfl,_,ZmL (hk k0 (Zh.mp (Ym hk0))),hk2 _ H' (λ_ _ z=>z) rfl⟩
 ·rw [Zlv hv] at e3
  walk_at "rd"
  exact⟨_,e3,q H3 (s2.trans s3)⟩
def ZeB:Sp:=λvs H Q _=>∃ (d g:Addr) (o:Obj) (ss gs:List Str) (hf:Str->Nat),vs=[.ref d,.ref g]/\H d=some (.frz o (.dK (hmL ss hf)))/\ss.Nodup/\ss.length < 50/\H g=some (.lst (gs.map V.str)) /\
 ∀ p H' o',H p=none->Zk H H'->H' p=some (.frz o' (.dK (hmL (ss.filter λz=>!decide (z∈gs)) hf)))->Q (.ref p) H'
def ZnQ(h:z ∉ ss):Jj (hmL ss hf) (Sum.inr z) (.int (hf z:Int))=hmL (ss ++ [z]) hf:=by
 have h0:Z8 (hmL ss hf) (Sum.inr z)=none:=by
  induction ss with
  | nil=>rfl
  | cons y ss ih =>
   rw [Yl,not_or] at h
   unfold hmL at ih ⊢
   rw [Yr,ZO (by intro e; injection e with e; exact h.1 e.symm)]
   exact ih h.2
 rw [ZeP _ h0]
 unfold hmL
 rw [Y8]
 rfl
def Pwo(H0:Hp)(d g p:Addr)(hf:Str->Nat)(ss gs:List Str)(i:Nat)(σ:St)(H:Hp):Prop:=∃ o,σ=[some (.ref d),some (.ref g),some (.ref p),o]/\Zk H0 H/\H p=some (.dK (hmL ((ss.take i).filter λz=>!decide (z∈gs)) hf))
def Zic(F:Fun K "homes_without" "homes_without" Za3 f fd):FnOk P w K mg base ZC 1 f fd ["homes","group"] ZeB:=by
 refine JU F ZaQ λcdv A outer s H vs Q E hr h=>?_
 obtain⟨d,g,o,ss,gs,hf,rfl,hd,hnd,hsl,hg,q⟩:=h
 refine⟨_,(Zc (Zn 2 ZaQ.nd ZdT)
   (Zc (Jq Yq (Zkk (Ze 0)) (ZE 3 ZaQ.nd) (Zj (JL (Zpq (Ze 3) (Ze 1)) (Zj (Zc4 (JA hr) (Ze 2) (Ze 3) (ZbQ (JA hr) (Ze 0) (Ze 3)))) Jm)))
   (ZpQ 2 (Zj (ZF (Ze 2)))))),?_⟩
 rw [show Zu ["homes","group","left","name"] [.ref d,.ref g]=[some (.ref d),some (.ref g),none,none] from rfl]
 walk_at "rd"
 simp only [Zfn]
 walk_at "rd"
 intro p H1 hp1 s1 e1
 have hlen:(hmL ss hf).length=ss.length:=by simp [hmL]
 refine Zha (Pwo H d g p hf ss gs) ⟨_,rfl,s1,e1⟩ (λi σ H' _ ⟨_,_,sm,_⟩=>sm _ _ hd) (λi kv σ H' hi hP=>?_) (λσ H' hP=>?_)
 ·obtain⟨o1,rfl,sm,e2⟩:=hP
  unfold hmL at hi
  rw [Yg] at hi
  obtain⟨z,hz,rfl⟩:∃ z,ss[i]?=some z/\kv=(Sum.inr z,V.int (hf z:Int)):=by cases h:ss[i]? with | none=>rw [h] at hi; cases hi | some z=>rw [h] at hi; cases hi; exact⟨z,rfl,rfl⟩
  have hi':=(Ye.mp hz).1
  have hzs:z∈ss:=Ym hz
  have et:(ss.take (i + 1)).filter (λz=>!decide (z∈gs))=(ss.take i).filter (λz=>!decide (z∈gs)) ++ (if z∈gs then [] else [z]):=by
   rw [YB,hz,List.filter_append]
   congr 1
   by_cases c:z∈gs <;> simp [c]
  walk_at "rd"
  simp only [rIn]
  walk_at "rd"
  refine⟨_,.inl (.of (sm _ _ hg)),rfl,ZiR _,?_⟩
  rw [show kV (Sum.inr z)=V.str z from rfl,ZnB]
  refine JI (λc=>?_) (λc=>?_)
  ·have c:z ∉ gs:=by simpa using c
   rw [if_neg c] at et
   refine⟨_,.inr ⟨_,sm _ _ hd⟩,.inr z,rfl,_,Zf7 hzs,_,e2,.inr z,rfl,?_,_,rfl,Zo hp1 sm,?_⟩
   ·unfold hmL
    rw [Yf]
    exact Ys (VC _ _) (by rw [Yz]; omega)
   ·rw [Zf,ZnQ,et]
    intro c2
    have c3:=(Yu.mp c2).1
    have hn2:=hnd
    rw [<- Vq i ss,Vu] at hn2
    refine hn2.2.2 z c3 z ?_ rfl
    rw [VP hi',<- (Ye.mp hz).2]
    exact .head _
  ·have c:z∈gs:=by simpa using c
   rw [if_pos c,Vx] at et
   exact⟨_,rfl,sm,by rw [et]; exact e2⟩
 ·obtain⟨o1,rfl,sm,e2⟩:=hP
  refine⟨p,_,rfl,e2,λob=>?_⟩
  walk_at "rd"
  rw [hlen,Y2]
  exact q p _ ob hp1 (Zo hp1 sm) Zf
def Jz(n:Nat)(L:Nat->Int):List V:=(List.range (n + 1)).map λk=>V.int (L k)
theorem ZbN{n k:Nat}{L:Nat->Int}(h:k<=n):atI (Jz n L) (k:Int)=some (.int (L k)):=ZP (by unfold Jz; rw [List.getElem?_map,List.getElem?_range (by omega)]; rfl)
theorem ZaZ{n k:Nat}{L:Nat->Int}{v:Int}(h:k<=n):(Jz n L).set k (.int v)=Jz n (λj=>if j=k then v else L j):=by
 unfold Jz
 refine Vv λi=>?_
 rw [List.getElem?_set]
 by_cases c:k=i
 ·subst c
  rw [if_pos rfl,if_pos (by simp; omega),List.getElem?_map,List.getElem?_range (by omega)]
  simp
 ·rw [if_neg c,Yg,Yg]
  cases hh:(List.range (n + 1))[i]? with
  | none=>rfl
  | some j =>
   have:j=i:=by
    have:=(Ye.mp hh).2
    simpa using this.symm
   subst this
   simp [Ne.symm c]
def Zj2:Sp:=λvs H Q _=>∃ (a l:Addr) (ws:List Nat) (n:Nat) (L:Nat->Int),vs=[.ref a,.ref l]/\H a=some (.lst (Zw ws))/\H l=some (.lst (Jz n L))/\ws.length < 1000/\(∀ k∈ws,k<=n)/\∀ H',Zk H H'->Q (.bl (decide (∀ k∈ws,0<=L k))) H'
def ZrV(_:Hp)(v:V)(b:Bool):Prop:=v=.bl b
theorem ZkC:Zku ZrV:=λ_ _ _ _ h _=>h
def ZkU{ys:List V}{ns:List Bool}(h:JV ZrV H ys ns):ys=ns.map V.bl:=by
 refine Vv λi=>?_
 rw [Yg]
 cases hy:ys[i]? with
 | none =>
  rw [YZ (by rw [<- h.1]; exact List.getElem?_eq_none_iff.mp hy)]
  rfl
 | some y =>
  have hi:i < ns.length:=by rw [<- h.1]; exact (Ye.mp hy).1
  have:=h.2 i y _ hy (Yb hi)
  rw [Yb hi,this]
  rfl
def ZnL(F:Fun K "is_paid" "is_paid" Zd0 f fd)(ZoS:mg "all"=none):FnOk P w K mg base ZC 1 f fd ["way","left"] Zj2:=by
 refine JU F ZhF λcdv A outer s H vs Q E hr h=>?_
 obtain⟨a,l,ws,n,L,rfl,ha,hl,hwl,hw,q⟩:=h
 refine⟨_,(Zj (ZF (ZpS rfl ZoS (Zl (Zc5 (Zot ["k"] [1] ["left"]) (Jg (Ze 0)) (by exact λs H fp=>(ZE 0 (show List.Nodup (["k","left"]:List Str) from by decide +kernel))) (by exact λs H fp=>(Zrx (ZX (Ze 1) (Ze 0)) Zd))) Zb)))),?_⟩
 rw [show Zu ["way","left"] [.ref a,.ref l]=[some (.ref a),some (.ref l)] from rfl]
 walk_at "rd"
 simp only [Zec,Zed,cxK]
 walk_at "rd"
 refine⟨⟨_,.of ha⟩,?_⟩
 rw [show Jv [some (V.ref a),some (V.ref l)] [1]=[some (V.ref l)] from rfl]
 refine Zcw (as:=ws.map λk=>decide (0<=L k)) ZrV ZkC ha (by simp [Zw]) (by simpa [Zw] using hwl) (λi v b h1 h2 H' k os sm ho hk2=>?_) (λp3 H3 ys hp3 s3 e3 hv=>?_)
 ·obtain⟨o,rfl⟩:∃ o,os=[o]:=List.length_eq_one_iff.mp ho
  obtain⟨k0,hk0,rfl,rfl⟩:∃ k0:Nat,ws[i]?=some k0/\v=V.int (k0:Int)/\b=decide (0<=L k0):=by
   unfold Zw at h1
   rw [Yg] at h1 h2
   cases hh:ws[i]? with
   | none=>rw [hh] at h1; cases h1
   | some k0=>rw [hh] at h1 h2; cases h1; cases h2; exact⟨k0,rfl,rfl,rfl⟩
  walk_at "rd"
  exact⟨[_],rfl,rfl,_,sm _ _ hl,_,ZbN (hw k0 (Ym hk0)),_,rfl,hk2 _ H' (λ_ _ z=>z) rfl⟩
 ·rw [ZkU hv] at e3
  walk_at "rd"
  refine⟨_,e3,?_⟩
  have:((ws.map λk=>decide (0<=L k)).all id)=decide (∀ k∈ws,0<=L k):=by
   rw [List.all_map,Vl,List.all_eq_true,Vj]
   exact⟨λh k hk=>YN (h k hk),λh k hk=>YR (h k hk)⟩
  rw [this]
  exact q H3 s3
def ZfD(pt C:Addr):Sp:=λvs H Q _=>∃ (x:V) (rs:List (Nat × Rat)) (d pd:Addr) (o:Obj) (ss:List Str) (hf:Str->Nat) (ks:List Nat) (cs:Nat->Int) (b h:Int),vs=[x,.ref d,.ref pd,.int b,.int h]/\Jp C H x rs/\H d=some (.frz o (.dK (hmL ss hf)))/\Place rs hf ss/\H pd=some (.dK (prL ks cs))/\(∀ k,Jo rs (ss.map hf) k->k∈ks)/\Zmu cs/\h.natAbs < 2 ^ 40/\Zd9 H pt "far_roads_first.<locals>.<lambda>" /\
 ∀ p H' L,H p=none->Zk H H'->ZbV rs hf ss (needL rs (ss.map hf)) cs b h L->H' p=some (.lst ((stay rs hf ss L).map V.str))->Q (.ref p) H'
def lfD(rs:List (Nat × Rat))(hf:Str->Nat)(ss:List Str)(cs:Nat->Int)(b h:Int)(D:List Nat)(L:Nat->Int):Prop:=∀ k,L k=sm ss (λz=>if hf z=k then b else 0) + sm D (λj=>if Jc rs j=k then pos (L j) else 0) - (if k∈D then h * cs k else 0)
def Pw1(H0:Hp)(x:V)(d pd l:Addr)(n:Nat)(hf:Str->Nat)(b h:Int)(ss:List Str)(i:Nat)(σ:St)(H:Hp):Prop:=∃ o1,σ=[some x,some (.ref d),some (.ref pd),some (.int b),some (.int h),some (.ref l),o1,none]/\Zk H0 H/\H l=some (.lst (Jz n λk=>sm (ss.take i) (λz=>if hf z=k then b else 0)))
def Pw2(H0:Hp)(x:V)(d pd l:Addr)(rs:List (Nat × Rat))(hf:Str->Nat)(ss:List Str)(cs:Nat->Int)(b h:Int)(fr:List Nat)(i:Nat)(σ:St)(H:Hp):Prop:=∃ (o1 o2:Option V) (L:Nat->Int),σ=[some x,some (.ref d),some (.ref pd),some (.int b),some (.int h),some (.ref l),o1,o2]/\Zk H0 H/\H l=some (.lst (Jz rs.length L))/\lfD rs hf ss cs b h (fr.take i) L
def ZoE{b h:Int}{D:List Nat}{L:Nat->Int}{r:Nat}(hL:lfD rs hf ss cs b h D L)(hr:r ∉ D)(hp:Jc rs r ≠ r)(hd:∀ j∈D,j ≠ Jc rs r) :
  lfD rs hf ss cs b h (D ++ [r]) (λk=>(if k=r then L r - h * cs r else L k) + (if k=Jc rs r then pos (L r - h * cs r) else 0)):=by
 intro k
 have hj:∀ j∈D,(if j=r then L r - h * cs r else L j) + (if j=Jc rs r then pos (L r - h * cs r) else 0)=L j:=λj hj=>by
  rw [if_neg λc:j=r=>hr (c ▸ hj),if_neg (hd j hj),Vo]
 have hrr:(if r=r then L r - h * cs r else L r) + (if r=Jc rs r then pos (L r - h * cs r) else 0)=L r - h * cs r:=by
  rw [if_pos rfl,if_neg λc=>hp c.symm,Vo]
 rw [Za1,ZB,ZbR,ZL (g:=λj=>if Jc rs j=k then pos (L j) else 0) λj hjd=>by dsimp only; rw [hj j hjd]]
 dsimp only
 rw [hrr]
 have e:=hL k
 by_cases c1:k=r
 ·subst c1
  rw [if_pos rfl,if_neg λc=>hp c.symm,if_neg hp,if_pos (by simp)]
  rw [if_neg hr] at e
  omega
 ·rw [if_neg c1]
  have em:(k∈D ++ [r])=(k∈D):=by simp [c1]
  simp only [em]
  by_cases c2:k=Jc rs r
  ·subst c2
   rw [if_pos rfl,e]
   omega
  ·rw [if_neg c2,if_neg λc=>c2 c.symm,e]
   omega
def Zj7(F:Fun K "who_can_pay" "who_can_pay" Zbv f fd)(Zey:Mth P w K mg base ZC 1 CT "many" ["self"] (Zff CT))(ZaG:Fn P w K mg base ZC 8 "far_roads_first" ["tree","homes"] (ZmD pt CT))(ZcE:Mth P w K mg base ZC 4 CT "leads_to" ["self","k"] (λvs H Q _=>ZfC CT CNP vs H Q E0))
  (Zdt:Fn P w K mg base ZC 1 "is_paid" ["way","left"] Zj2) (Zfm:Mth P w K mg base ZC 3 CT "way" ["self","k"] (λvs H Q _=>Ze9 CT CNP vs H Q E0)):FnOk P w K mg base ZC 9 f fd ["tree","homes","prices","brought","heads"] (ZfD pt CT):=by
 refine JU F ZaI λcdv A outer s H vs Q E hr h=>?_
 obtain⟨x,rs,d,pd,o,ss,hf,ks,cs,b,h,rfl,hT,hd,hp,hpd,hks,hcs,hh,hB2,q⟩:=h
 refine⟨_,(Zc (Zn 5 ZaI.nd (ZlG (JD (Zl Zd Zb)) (ZiB Zey hr (by decide) (Ze 0))))
   (Zc (Jq Yq (Zkk (Ze 1)) (ZE 6 ZaI.nd) (Zj (ZmE (Ze 5) (ZbQ (JA hr) (Ze 1) (Ze 6)) (Ze 3))))
   (Zc (Jq Yq (Jg (Jn ZaG hr (Zl (Ze 0) (Zl (Ze 1) Zb)))) (ZE 7 ZaI.nd) (Zc (Zqa (Ze 5) (Ze 7) (Jr (Ze 4) (ZbQ (JA hr) (Ze 2) (Ze 7))))
   (Zj (JL (Zoc (ZX (Ze 5) (Ze 7)) Zd) (Zj (ZmE (Ze 5) (ZbT ZcE hr (by decide) (Ze 0) (Zl (Ze 7) Zb)) (ZX (Ze 5) (Ze 7)))) Jm))))
   (Zj (ZF (Zoh (Zot ["name"] [0,1,5] ["tree","homes","left"]) (Zkk (Ze 1)) (by exact λs H fp=>(ZE 0 (show List.Nodup (["name","tree","homes","left"]:List Str) from by decide +kernel))) (by exact λs H fp=>Zmx (JR (Jn Zdt hr (Zl (ZbT Zfm hr (by decide) (Ze 1) (Zl (ZbQ (JA hr) (Ze 2) (Ze 0)) Zb)) (Zl (Ze 3) Zb))))) (by exact λs H fp=>(Ze 0)))))))),?_⟩
 rw [show Zu ["tree","homes","prices","brought","heads","left","name","k"] [x,.ref d,.ref pd,.int b,.int h]=[some (x),some (.ref d),some (.ref pd),some (.int b),some (.int h),none,none,none] from rfl]
 obtain⟨xa,dx,la,wa,ls,ws,rfl,g1,_⟩:=id hT
 refine Zy λB0 hB0=>?_
 walk_at "rd"
 have hn:=hp.n
 have hfew:=hp.few
 intro p1 H1 hp1 s1 e1
 refine⟨dx,_,s1 _ _ g1,rfl,.ref xa,rs,rfl,hT.same s1,_,rfl,_,e1,by omega,by omega,?_,λl hl=>?_⟩
 ·exact Yj (show 1 * ((rs.length:Int) + 1).toNat<=100 by omega) (by decide)
 have hl0:H l=none:=s1.free hl
 have s2:Zk H (upd H1 l (HO.lst (List.replicate ((rs.length:Int) + 1).toNat [V.int 0]).flatten)):=Zo hl0 s1
 have e2:upd H1 l (HO.lst (List.replicate ((rs.length:Int) + 1).toNat [V.int 0]).flatten) l=some (.lst (Jz rs.length λk=>sm (ss.take 0) (λz=>if hf z=k then b else 0))):=by
  rw [Zf]
  congr 2
  rw [show ((rs.length:Int) + 1).toNat=rs.length + 1 by omega]
  unfold Jz
  refine Vv λi=>?_
  rw [List.flatten_replicate_singleton,Yg,List.getElem?_replicate]
  by_cases c:i < rs.length + 1
  ·rw [if_pos c,Yah c]
   rfl
  ·rw [if_neg c,List.getElem?_eq_none (by simpa using c)]
   rfl
 generalize upd H1 l (HO.lst (List.replicate ((rs.length:Int) + 1).toNat [V.int 0]).flatten)=H2 at s2 e2
 subst hB0
 try dsimp only
 refine Zy λB0 hB0=>?_
 simp only [Zfn]
 walk_at "rd"
 have hlen:(hmL ss hf).length=ss.length:=by simp [hmL]
 refine Zha (Pw1 H (.ref xa) d pd l rs.length hf b h ss) ⟨_,rfl,s2,e2⟩ (λi σ H' _ ⟨_,_,sm,_⟩=>sm _ _ hd) (λi kv σ H' hi hP=>?_) (λσ H3 hP=>?_)
 ·obtain⟨o1,rfl,s3,e3⟩:=hP
  unfold hmL at hi
  rw [Yg] at hi
  obtain⟨z,hz,rfl⟩:∃ z,ss[i]?=some z/\kv=(Sum.inr z,V.int (hf z:Int)):=by cases h:ss[i]? with | none=>rw [h] at hi; cases hi | some z=>rw [h] at hi; cases hi; exact⟨z,rfl,rfl⟩
  have hzs:z∈ss:=Ym hz
  have hzl:=hp.le z hzs
  walk_at "rd"
  refine⟨_,.inr ⟨_,s3 _ _ hd⟩,.inr z,rfl,_,Zf7 hzs,_,_,rfl,e3,_,ZbN hzl,_,rfl,_,_,rfl,e3,hf z,ZiC (by simp [Jz]; omega),_,rfl,Zo hl0 s3,?_⟩
  rw [Zf,ZaZ hzl]
  congr 3
  funext k
  rw [YB,hz,Za1]
  show _=_ + sm [z] _
  rw [ZB,ZbR]
  by_cases c:k=hf z
  ·subst c
   rw [if_pos rfl,if_pos rfl]
   omega
  ·rw [if_neg c,if_neg λe=>c e.symm]
   omega
 ·obtain⟨o1,rfl,s3,e3⟩:=hP
  rw [hlen,Y2] at e3
  subst hB0
  try dsimp only
  refine Zy λB0 hB0=>?_
  simp only [Z9]
  walk_at "rd"
  refine⟨.ref xa,rs,d,_,ss,hf,rfl,hT.same s3,.inr ⟨_,s3 _ _ hd⟩,ZcD,Zir hp.le,hn,hfew,hp.T,(let ⟨t,ht⟩:=hB2; ⟨t,s3 _ _ ht⟩),λp4 H4 fr hp4 s4 e4 hfn hfm hfw=>?_⟩
  have hne:p4 ≠ l:=(Zm e3 hp4).symm
  have hbd:∀ k∈fr,1<=k/\k<=rs.length:=λk hk=>Jb ((hfm k).mp hk)
  refine Ji (xs:=Zw fr) (λi σ H'=>Pw2 H (.ref xa) d pd l rs hf ss cs b h fr i σ H'/\H' p4=some (.lst (Zw fr))) ⟨⟨_,_,_,rfl,s3.trans s4,s4 _ _ e3,λk=>?_⟩,e4⟩ (λi σ H' _ hP=>.of hP.2) (λi y σ H' hi hP=>?_) (λσ H5 hP=>?_)
  ·rw [List.take_zero,ZbR,if_neg (by simp)]
   omega
  ·obtain⟨⟨o1,o2,L,rfl,s5,e5,hL⟩,e6⟩:=hP
   obtain⟨r,hr,rfl⟩:∃ r:Nat,fr[i]?=some r/\y=V.int (r:Int):=by
    unfold Zw at hi
    rw [Yg] at hi
    cases hh:fr[i]? with
    | none=>rw [hh] at hi; cases hi
    | some k0=>rw [hh] at hi; cases hi; exact⟨k0,rfl,rfl⟩
   have hrm:r∈fr:=Ym hr
   have hil:=(Ye.mp hr).1
   obtain⟨b1,b2⟩:=hbd r hrm
   obtain⟨ew,pl⟩:=ZcU hp.T b1 b2
   have edrop:fr.drop i=r :: fr.drop (i + 1):=by rw [VP hil,(Ye.mp hr).2]
   have hsplit:fr=fr.take i ++ r :: fr.drop (i + 1):=by rw [<- edrop,Vq]
   have hrD:r ∉ fr.take i:=λc=>by
    have hn2:=hfn
    rw [hsplit,Vu] at hn2
    exact hn2.2.2 r c r (.head _) rfl
   have hpar:Jc rs r ≠ r:=λc=>by
    rw [c] at ew
    have:=congrArg List.length ew
    simp at this
   have hDp:∀ j∈fr.take i,j ≠ Jc rs r:=λj hj c=>by
    have hw2:=hfw
    rw [hsplit,List.pairwise_append] at hw2
    have:=hw2.2.2 j hj r (.head _)
    rw [ew,c,YV] at this
    omega
   have hLn:=ZoE hL hrD hpar hDp
   have hc:=hcs r
   have fin:∀ (L':Nat->Int) (H6:Hp),(∀ k,L' k=(if k=r then L r - h * cs r else L k) + (if k=Jc rs r then pos (L r - h * cs r) else 0))->Zk H H6->H6 l=some (.lst (Jz rs.length L'))->H6 p4=some (.lst (Zw fr))->(Pw2 H (.ref xa) d pd l rs hf ss cs b h fr (i + 1) [some (V.ref xa),some (V.ref d),some (V.ref pd),some (V.int b),some (V.int h),some (V.ref l),o1,some (V.int (r:Int))] H6/\H6 p4=some (.lst (Zw fr))):=λL' H6 e s6 e7 e8=>⟨⟨_,_,L',rfl,s6,e7,by
     have:L'=λk=>(if k=r then L r - h * cs r else L k) + (if k=Jc rs r then pos (L r - h * cs r) else 0):=funext e
     rw [this,YB,hr]
     exact hLn⟩,e8⟩
   walk_at "rd"
   have s6:∀ o,Zk H (upd H' l o):=λo=>Zo hl0 s5
   have hkr:=ZmL (ks:=ks) (cs:=cs) (hks r ((hfm r).mp hrm))
   refine⟨_,e5,_,ZbN b2,_,.inl (s5 _ _ hpd),.inl (r:Int),rfl,_,hkr,_,rfl,JK hh hc.2 (by decide),_,rfl,_,e5,r,ZiC (by simp [Jz]; omega),Jz rs.length (λj=>if j=r then L r - h * cs r else L j),by rw [Zf,ZaZ b2],.int (L r - h * cs r),by rw [ZbN b2,if_pos rfl],_,rfl,?_⟩
   refine JI (λc=>?_) (λc=>?_)
   ·refine⟨dx,_,s6 _ _ _ g1,rfl,.ref xa,rs,r,rfl,hT.same (s6 _),λk' rr ek hrr=>?_,λzz=>absurd ⟨by omega,by omega⟩ zz⟩
    have epr:Jc rs r=rr.1:=by unfold Jc; rw [show r - 1=k' by omega,hrr]; rfl
    rw [<- epr]
    have hpl:Jc rs r<=rs.length:=pl
    refine⟨Jz rs.length (λj=>if j=r then L r - h * cs r else L j),_,rfl,by rw [Zf,ZaZ b2],.int (L (Jc rs r)),by rw [ZbN hpl,if_neg hpar],Jz rs.length (λj=>if j=r then L r - h * cs r else L j),by rw [Zf,ZaZ b2],.int (L r - h * cs r),by rw [ZbN b2,if_pos rfl],_,rfl,_,rfl,Jz rs.length (λj=>if j=r then L r - h * cs r else L j),_,rfl,by rw [Zf,ZaZ b2],Jc rs r,ZiC (by simp [Jz]; omega),?_⟩
    refine fin (λj=>if j=Jc rs r then L (Jc rs r) + (L r - h * cs r) else if j=r then L r - h * cs r else L j) _ (λk=>?_) (Zo hl0 (s6 _)) (by rw [Zf,ZaZ hpl]) (by rw [Zg hne,Zg hne]; exact e6)
    rw [show pos (L r - h * cs r)=L r - h * cs r from if_pos c]
    by_cases c2:k=Jc rs r
    ·subst c2
     rw [if_pos rfl,if_pos rfl,if_neg hpar]
    ·rw [if_neg c2,if_neg c2,Vo]
   ·refine fin (λj=>if j=r then L r - h * cs r else L j) _ (λk=>?_) (s6 _) (by rw [Zf,ZaZ b2]) (by rw [Zg hne]; exact e6)
    rw [show pos (L r - h * cs r)=0 from if_neg c,ite_self,Vo]
  ·obtain⟨⟨o1,o2,L,rfl,s5,e5,hL⟩,e6⟩:=hP
   rw [show (Zw fr).length=fr.length by simp [Zw],List.take_length] at hL
   subst hB0
   try dsimp only
   walk_at "rd"
   simp only [ZeF,Zli]
   walk_at "rd"
   rw [show Jv [some (V.ref xa),some (V.ref d),some (V.ref pd),some (V.int b),some (V.int h),some (V.ref l),o1,o2] [0,1,5]=[some (V.ref xa),some (V.ref d),some (V.ref l)] from rfl]
   refine⟨o,_,s5 _ _ hd,?_⟩
   refine ZiU (λz=>decide (∀ k∈wayL rs (hf z),0<=L k)) (s5 _ _ hd) ZcD (by omega) (λz hz H' k sm hk=>?_) (λp6 H6 hp6 s6 e6=>?_)
   ·walk_at "rd"
    have hT2:=hT.same (s5.trans sm)
    refine⟨dx,_,(s5.trans sm) _ _ g1,rfl,_,.inr ⟨_,(s5.trans sm) _ _ hd⟩,.inr z,rfl,_,Zf7 hz,.ref xa,rs,_,rfl,hT2,λp7 H7 k' w0 ek hp7 s7 e7 hw hwl=>?_,λzz=>absurd ⟨by omega,by have:=hp.le z hz; omega⟩ zz⟩
    have e:k'=hf z:=by omega
    subst e
    refine⟨p7,l,w0,rs.length,L,rfl,e7,(sm.trans s7) _ _ e5,by omega,λk hk=>(hw.mem k hk).2,λH8 s8=>⟨_,rfl,?_⟩⟩
    rw [<- Zbi hw]
    exact hk H8 (s7.trans s8)
   ·refine q p6 H6 L (s5.free hp6) (s5.trans s6) (λk hk=>?_) e6
    have hkf:k∈fr:=(hfm k).mpr (Zh.mp hk)
    have hpm:fr.Perm (needL rs (ss.map hf)):=(List.perm_ext_iff_of_nodup hfn ZaL).mpr λk=>(hfm k).trans Zh.symm
    rw [hL k,if_pos hkf,Zbb hpm]
def Zjm{p q:Str->Bool}(h:∀ z∈ss.filter p,z∈ss.filter q)(hne:ss.filter p ≠ ss.filter q):(ss.filter p).length < (ss.filter q).length:=by
 have e:ss.filter p=(ss.filter q).filter p:=by
  rw [List.filter_filter]
  refine List.filter_congr λz hz=>?_
  by_cases c:p z=true
  ·have:=(Yu.mp (h z (Yu.mpr ⟨hz,c⟩))).2
   rw [c,this]
   rfl
  ·simp [c]
 have hs:(ss.filter p).Sublist (ss.filter q):=by rw [e]; exact List.filter_sublist
 rcases Nat.lt_or_ge (ss.filter p).length (ss.filter q).length with h | h
 ·exact h
 ·exact absurd (hs.eq_of_length_le h) hne
def Cheap.same{ss G G':List Str}(h:Cheap rs hf cs ss G)(h':Cheap rs hf cs ss G'):∀ z,z∈G ↔ z∈G':=by
 obtain⟨a1,a2⟩:=h.least G' h'.nd h'.sub
 obtain⟨b1,b2⟩:=h'.least G h.nd h.sub
 rw [Int.mul_comm (cst rs hf cs G')] at b1 b2
 rw [Int.mul_comm (cst rs hf cs G)] at a1 a2
 exact λz=>⟨λhz=>b2 (by omega) z hz,λhz=>a2 (by omega) z hz⟩
open Classical in
noncomputable def chp(rs:List (Nat × Rat))(hf:Str->Nat)(cs:Nat->Int)(ss:List Str):List Str:=ss.filter λz=>decide (∃ G,Cheap rs hf cs ss G/\z∈G)
open Classical in
def Zpy{p:Str->Bool}(h:Cheap rs hf cs ss (ss.filter p)):ss.filter p=chp rs hf cs ss:=by
 unfold chp
 refine List.filter_congr λz hz=>?_
 rw [Vl,Vj]
 constructor
 ·exact λc=>⟨_,h,Yu.mpr ⟨hz,c⟩⟩
 ·rintro⟨G,hG,hzG⟩
  exact (Yu.mp ((hG.same h z).mp hzG)).2
def Zg3{a b:Addr}(ha:H a=some (.lst (ss.map V.str)))(hb:H b=some (.lst (ss.map V.str))):EqD H (.ref a) (.ref b) true 1:=by
 have h:=EqD.lst (e:=λ_=>true) (n:=0) ha hb rfl λj x y h1 h2=>by
  rw [h1] at h2
  cases h2
  obtain⟨z,_,rfl⟩:=Yk.mp (Ym h1)
  have z:=EqD.flat (H:=H) (x:=.str z) (y:=.str z) rfl rfl
  rw [Zdf rfl] at z
  exact z
 rw [Zd3 λ_ _=>rfl] at h
 exact h
def ZdL(pt C:Addr):Sp:=λvs H Q _=>∃ (x:V) (rs:List (Nat × Rat)) (d pd:Addr) (o:Obj) (ss:List Str) (hf:Str->Nat) (ks:List Nat) (cs:Nat->Int),vs=[x,.ref d,.ref pd]/\Jp C H x rs/\H d=some (.frz o (.dK (hmL ss hf)))/\Place rs hf ss/\ss ≠ []/\H pd=some (.dK (prL ks cs))/\(∀ k,Jo rs (ss.map hf) k->k∈ks)/\Zmu cs/\Zd9 H pt "far_roads_first.<locals>.<lambda>" /\
 ∀ p H',H p=none->Zk H H'->Cheap rs hf cs ss (chp rs hf cs ss)->H' p=some (.lst ((chp rs hf cs ss).map V.str))->Q (.ref p) H'
def Pch(H0:Hp)(x:V)(d pd:Addr)(rs:List (Nat × Rat))(hf:Str->Nat)(cs:Nat->Int)(ss:List Str)(σ:St)(H:Hp):Prop:=∃ (g st:Addr) (gs sts:List Str),σ=[some x,some (.ref d),some (.ref pd),some (.ref g),some (.ref st)]/\Zk H0 H/\H0 g=none/\H0 st=none/\H g=some (.lst (gs.map V.str))/\H st=some (.lst (sts.map V.str)) /\
 ((gs=[]/\sts=ss)\/(gs ≠ []/\(∃ p,gs=ss.filter p)/\∃ L,ZbV rs hf ss (needL rs (ss.map hf)) cs (cst rs hf cs gs) gs.length L/\sts=stay rs hf ss L/\∀ z∈sts,z∈gs))
def muC(n:Nat)(σ:St)(H:Hp):Nat:=match σ[3]? with
 | some (some (V.ref g))=>(match H g with | some (.lst [])=>n + 1 | some (.lst xs)=>xs.length | _=>0)
 | _=>0
theorem Zod{g:Addr}(h:σ[3]?=some (some (.ref g)))(hg:H g=some (.lst [])):muC n σ H=n + 1:=by unfold muC; rw [h]; dsimp only; rw [hg]
def Zm1{g:Addr}{gs:List Str}(h:σ[3]?=some (some (.ref g)))(hg:H g=some (.lst (gs.map V.str)))(hne:gs ≠ []):muC n σ H=gs.length:=by
 unfold muC
 rw [h]
 dsimp only
 rw [hg]
 cases gs with
 | nil=>exact absurd rfl hne
 | cons y gs=>simp
def Zgj(F:Fun K "cheapest" "cheapest" Zcy f fd)(ZV:mg "list"=none)(ZA:mg "len"=none)(Zbp:Fn P w K mg base ZC 9 "who_can_pay" ["tree","homes","prices","brought","heads"] (ZfD pt CT))(Zaw:Fn P w K mg base ZC 5 "whole_cost" ["tree","homes","group","prices"] (ZeQ CT)):FnOk P w K mg base ZC 10 f fd ["tree","homes","prices"] (ZdL pt CT):=by
 refine JU F Zbc λcdv A outer s H vs Q E hr h=>?_
 obtain⟨x,rs,d,pd,o,ss,hf,ks,cs,rfl,hT,hd,hp,hss,hpd,hks,hcs,hB2,q⟩:=h
 refine⟨_,(Zc (Zn 3 Zbc.nd (JD Zb))
   (Zc (Zn 4 Zbc.nd (Zfj rfl ZV (Zl (Ze 1) Zb)))
   (Zc (Zb1 Yq (ZpI hr (Ze 4) (Ze 3)) (Zc (Zn 3 Zbc.nd (Ze 4))
   (Zj (Zn 4 Zbc.nd (Jn Zbp hr (Zl (Ze 0) (Zl (Ze 1) (Zl (Ze 2) (Zl (Jn Zaw hr (Zl (Ze 0) (Zl (Ze 1) (Zl (Ze 3) (Zl (Ze 2) Zb))))) (Zl (Ju rfl ZA (Zl (Ze 3) Zb)) Zb))))))))))
   (Zj (ZF (Ze 3)))))),?_⟩
 rw [show Zu ["tree","homes","prices","group","staying"] [x,.ref d,.ref pd]=[some (x),some (.ref d),some (.ref pd),none,none] from rfl]
 have hfew:=hp.few
 have V0:=hp.vils
 have hc0:∀ k,0<=cs k:=λk=>(hcs k).1
 walk_at "rd"
 intro g H1 hg s1 e1
 refine⟨d,_,rfl,.inr ⟨_,s1 _ _ hd⟩,λl H2 hl s2 e2=>?_⟩
 rw [ZcD] at e2
 refine Zce (Pch H x d pd rs hf cs ss) (muC ss.length) ⟨g,l,[],ss,rfl,s1.trans s2,hg,s1.free hl,s2 _ _ e1,e2,.inl ⟨rfl,rfl⟩⟩ ?_
 rintro σ H3 ⟨g,st,gs,sts,rfl,s3,hg0,hst0,eg,est,hcase⟩
 walk_at "rd"
 by_cases heq:sts=gs
 ·subst heq
  refine⟨true,1,st,g,rfl,rfl,Zg3 est eg,by decide,_,rfl,?_⟩
  rw [if_neg (by decide)]
  rcases hcase with ⟨rfl,e⟩ | ⟨hne,⟨p,ep⟩,L,hL,e,hsub⟩
  ·exact absurd e.symm hss
  ·have hgn:sts.Nodup:=by rw [ep]; exact hp.nd.filter _
   have hgs:∀ z∈sts,z∈ss:=λz hz=>by rw [ep] at hz; exact (Yu.mp hz).1
   have hC:=(Zgh V0 hc0 hne hgn hgs hL).2.2 (by rw [<- e]; exact λ_ h=>h) (by rw [<- e]; exact λ_ h=>h)
   have e3:sts=chp rs hf cs ss:=by
    rw [ep] at hC ⊢
    exact Zpy hC
   rw [e3] at hC eg
   exact q g H3 hg0 s3 hC eg
 ·have hlen:(sts.map V.str).length ≠ (gs.map V.str).length:=by
   rw [Yf,Yf]
   rcases hcase with ⟨rfl,rfl⟩ | ⟨hne,⟨p,rfl⟩,L,hL,rfl,hsub⟩
   ·intro c
    exact heq (List.length_eq_zero_iff.mp (by simpa using c))
   ·exact Yn (Zjm hsub heq)
  refine⟨false,1,st,g,rfl,rfl,.lstNe est eg hlen,by decide,_,rfl,?_⟩
  rw [if_pos (by decide)]
  have hst:sts ≠ []/\(∃ p,sts=ss.filter p):=by
   rcases hcase with ⟨rfl,rfl⟩ | ⟨hne,⟨p,rfl⟩,L,hL,rfl,hsub⟩
   ·exact⟨hss,λ_=>true,(List.filter_eq_self.mpr λ_ _=>rfl).symm⟩
   ·exact⟨(Zgh V0 hc0 hne (hp.nd.filter _) (λz hz=>(Yu.mp hz).1) hL).1,_,rfl⟩
  obtain⟨hne',p',hp'⟩:=hst
  have hsn:sts.Nodup:=by rw [hp']; exact hp.nd.filter _
  have hsm:∀ z∈sts,z∈ss:=λz hz=>by rw [hp'] at hz; exact (Yu.mp hz).1
  have hsl:sts.length<=ss.length:=by rw [hp']; exact VC _ _
  refine⟨λσ' H'=>(∃ st',σ'=[some x,some (.ref d),some (.ref pd),some (.ref st),some (.ref st')]/\H' st=some (.lst (sts.map V.str)))/\Pch H x d pd rs hf cs ss σ' H',?_,?_⟩
  ·rintro σ' H' ⟨⟨st',rfl,e4⟩,hP⟩
   refine⟨sts.length,?_,(Zm1 rfl e4 hne').symm,hP⟩
   rcases hcase with ⟨rfl,rfl⟩ | ⟨hne,⟨p,rfl⟩,L,hL,rfl,hsub⟩
   ·rw [Zod rfl eg]
    omega
   ·rw [Zm1 rfl eg hne]
    exact Zjm hsub heq
  ·refine⟨x,rs,d,st,pd,ss,sts,hf,ks,cs,rfl,hT.same s3,.inr ⟨_,s3 _ _ hd⟩,hp,est,hsm,by omega,s3 _ _ hpd,λk hk=>hks k ?_,λH4 s4=>⟨_,.inl (s4 _ _ est),?_⟩⟩
   ·obtain⟨z,hz,hw⟩:=(V0.need hsm).mp hk
    exact (V0.need λ_ h=>h).mpr ⟨z,hsm z hz,hw⟩
   rw [Yf]
   refine⟨x,rs,d,pd,o,ss,hf,ks,cs,_,_,rfl,hT.same (s3.trans s4),(s3.trans s4) _ _ hd,hp,(s3.trans s4) _ _ hpd,hks,hcs,by omega,(let ⟨t,ht⟩:=hB2; ⟨t,(s3.trans s4) _ _ ht⟩),λp5 H5 L' hp5 s5 hL' e5=>?_⟩
   refine⟨⟨p5,rfl,(s4.trans s5) _ _ est⟩,st,p5,sts,_,rfl,s3.trans (s4.trans s5),hst0,(s3.trans s4).free hp5,(s4.trans s5) _ _ est,e5,.inr ⟨hne',⟨p',hp'⟩,L',hL',rfl,?_⟩⟩
   rcases hcase with ⟨rfl,rfl⟩ | ⟨hne,⟨p,ep⟩,L,hL,rfl,hsub⟩
   ·exact λz hz=>(Zbr.mp hz).1
   ·have hgn:gs.Nodup:=by rw [ep]; exact hp.nd.filter _
    have hgs:∀ z∈gs,z∈ss:=λz hz=>by rw [ep] at hz; exact (Yu.mp hz).1
    have ht:=(Zgh V0 hc0 hne hgn hgs hL).2.1
    have l1:=List.length_pos_iff.mpr hne
    have l2:=List.length_pos_iff.mpr hne'
    exact ZkE V0 (by omega) (by omega) ht hL' hL
noncomputable def csG(rs:List (Nat × Rat))(hf:Str->Nat)(cs:Nat->Int)(G:List Str):Nat->Int:=λk=>if k∈needL rs (G.map hf) then 0 else cs k
def Zi(js:List (List Str))(i:Nat):List Str:=(js.take i).flatten
noncomputable def restG(ss G:List Str):List Str:=ss.filter λz=>!decide (z∈G)
theorem Z4{ss G:List Str}:z∈restG ss G ↔ z∈ss/\z ∉ G:=by unfold restG; rw [List.mem_filter]; simp
def ZI(rs:List (Nat × Rat))(hf:Str->Nat)(cs:Nat->Int)(ss:List Str)(js:List (List Str)):Prop:=∀ (i:Nat) J,js[i]?=some J->J=chp rs hf (csG rs hf cs (Zi js i)) (restG ss (Zi js i))/\Cheap rs hf (csG rs hf cs (Zi js i)) (restG ss (Zi js i)) J
noncomputable def shr(rs:List (Nat × Rat))(hf:Str->Nat)(cs:Nat->Int)(B:Nat)(js:List (List Str))(i:Nat):Rat:=Rat.divInt (cst rs hf (csG rs hf cs (Zi js i)) (js.getD i [])) ((B:Int) * (js.getD i []).length)
def ZdP(rs:List (Nat × Rat))(hf:Str->Nat)(cs:Nat->Int)(B:Nat)(H0 H:Hp)(tl:Addr)(xs:List V)(js:List (List Str)):Prop:=xs.length=js.length/\∀ (i:Nat) x,xs[i]?=some x->∃ t g y,x=.ref t/\H t=some (.tup [.ref g,y])/\H g=some (.lst ((srt (Zi js (i + 1))).map V.str))/\g ≠ tl/\H0 g=none/\Jd H y (shr rs hf cs B js i)
section
variable {rs:List (Nat × Rat)}{hf:Str->Nat}{cs:Nat->Int}{ss:List Str}{js:List (List Str)}{B:Nat}{H0 H H':Hp}{tl:Addr}{xs:List V}
theorem ZdP.keep(h:ZdP rs hf cs B H0 H tl xs js)(s1:∀ b ys,H b=some (.tup ys)->H' b=some (.tup ys))(s2:∀ b ys,b ≠ tl->H b=some (.lst ys)->H' b=some (.lst ys)):ZdP rs hf cs B H0 H' tl xs js :=
 ⟨h.1,λi x hx=>let ⟨t,g,y,e,e1,e2,hne,h0,r⟩:=h.2 i x hx; ⟨t,g,y,e,s1 _ _ e1,s2 _ _ hne e2,hne,h0,r.keep s1⟩⟩
theorem ZbF{J:List Str}(h:i<=js.length):Zi (js ++ [J]) i=Zi js i:=by unfold Zi; rw [List.take_append_of_le_length h]
def ZkX{J:List Str}:Zi (js ++ [J]) (js.length + 1)=js.flatten ++ J:=by
 unfold Zi
 rw [List.take_of_length_le (by simp),List.flatten_append]
 simp
theorem Zbd:Zi js js.length=js.flatten:=by unfold Zi; rw [List.take_length]
def Zk1{J:List Str}(h:i < js.length):shr rs hf cs B (js ++ [J]) i=shr rs hf cs B js i:=by
 unfold shr
 rw [ZbF (Yp h),List.getD_eq_getElem?_getD,YJ h,<- List.getD_eq_getElem?_getD]
theorem ZdP.snoc{J:List Str}{t g:Addr}{y:V}(h:ZdP rs hf cs B H0 H tl xs js)(h1:H t=some (.tup [.ref g,y]))(h2:H g=some (.lst ((srt (js.flatten ++ J)).map V.str)))(hne:g ≠ tl)(h0:H0 g=none)(h3:Jd H y (Rat.divInt (cst rs hf (csG rs hf cs js.flatten) J) ((B:Int) * J.length))):ZdP rs hf cs B H0 H tl (xs ++ [.ref t]) (js ++ [J]):=by
 refine⟨by simp [h.1],λi x hx=>?_⟩
 by_cases c:i < xs.length
 ·rw [YJ c] at hx
  rw [ZbF (by rw [h.1] at c; omega),Zk1 (by rw [h.1] at c; exact c)]
  exact h.2 i x hx
 ·have hi:i=js.length:=by have:=(List.getElem?_eq_some_iff.mp hx).1; simp at this; have:=h.1; omega
  subst hi
  rw [<- h.1,YH (Yd _)] at hx
  simp at hx
  refine⟨t,g,y,hx.symm,h1,by rw [ZkX]; exact h2,hne,h0,?_⟩
  unfold shr
  rw [ZbF (Yd _),Zbd,List.getD_eq_getElem?_getD,YH (Yd _)]
  simpa using h3
theorem ZI.snoc{J:List Str}(h:ZI rs hf cs ss js)(h1:J=chp rs hf (csG rs hf cs js.flatten) (restG ss js.flatten))(h2:Cheap rs hf (csG rs hf cs js.flatten) (restG ss js.flatten) J):ZI rs hf cs ss (js ++ [J]):=λi J' hJ=>by
 by_cases c:i < js.length
 ·rw [YJ c] at hJ
  rw [ZbF (Yp c)]
  exact h i J' hJ
 ·have hi:i=js.length:=by have:=(List.getElem?_eq_some_iff.mp hJ).1; simp at this; omega
  subst hi
  rw [YH (Yd _)] at hJ
  simp at hJ
  subst hJ
  rw [ZbF (Yd _),Zbd]
  exact⟨h1,h2⟩
def ZaM{J:List Str}(h:js[i]?=some J):Zi js (i + 1)=Zi js i ++ J:=by
 unfold Zi
 rw [YB,h,List.flatten_append]
 simp
def ZI.flat(h:ZI rs hf cs ss js):∀ i,i<=js.length->(Zi js i).Nodup/\∀ z∈Zi js i,z∈ss:=by
 intro i
 induction i with
 | zero=>exact λ_=>⟨List.nodup_nil,λz hz=>by cases hz⟩
 | succ i ih =>
  intro hi
  have hJ:=Yb (show i < js.length by omega)
  obtain⟨_,hC⟩:=h i _ hJ
  obtain⟨h1,h2⟩:=ih (by omega)
  rw [ZaM hJ]
  refine⟨Vu.mpr ⟨h1,hC.nd,λa ha b hb e=>?_⟩,λz hz=>?_⟩
  ·subst e
   exact (Z4.mp (hC.sub a hb)).2 ha
  ·rcases YA.mp hz with hz | hz
   ·exact h2 z hz
   ·exact (Z4.mp (hC.sub z hz)).1
theorem ZnF{G G':List Str}(h:∀ z,z∈G ↔ z∈G'):needL rs (G.map hf)=needL rs (G'.map hf):=by
 refine ZbM ZaJ λk=>Zh.trans ?_
 unfold Jo
 constructor
 ·rintro⟨x,hx,q⟩
  obtain⟨z,hz,e⟩:=Yk.mp hx
  exact⟨x,Yk.mpr ⟨z,(h z).mp hz,e⟩,q⟩
 ·rintro⟨x,hx,q⟩
  obtain⟨z,hz,e⟩:=Yk.mp hx
  exact⟨x,Yk.mpr ⟨z,(h z).mpr hz,e⟩,q⟩
def Za6{G J:List Str}:Jo rs ((G ++ J).map hf) k ↔ Jo rs (G.map hf) k\/Jo rs (J.map hf) k:=by
 unfold Jo
 rw [Y8]
 constructor
 ·rintro⟨x,hx,q⟩
  rcases YA.mp hx with hx | hx
  ·exact .inl ⟨x,hx,q⟩
  ·exact .inr ⟨x,hx,q⟩
 ·rintro (⟨x,hx,q⟩ | ⟨x,hx,q⟩)
  ·exact⟨x,VT _ hx,q⟩
  ·exact⟨x,Yv _ hx,q⟩
def Zen{G J:List Str}:cst rs hf cs (G ++ J)=cst rs hf cs G + cst rs hf (csG rs hf cs G) J:=by
 unfold cst
 have s1:∀ k∈needL rs (G.map hf),k∈needL rs ((G ++ J).map hf):=λk hk=>Zh.mpr (Za6.mpr (.inl (Zh.mp hk)))
 have s2:∀ k∈needL rs (J.map hf),k∈needL rs ((G ++ J).map hf):=λk hk=>Zh.mpr (Za6.mpr (.inr (Zh.mp hk)))
 rw [Zls ZaL ZaL s1,Zls ZaL ZaL s2,<- Zcs]
 refine ZL λk hk=>?_
 unfold csG
 by_cases c:k∈needL rs (G.map hf)
 ·rw [if_pos c,if_pos c,ite_self,Vo]
 ·have c2:k∈needL rs (J.map hf):=Zh.mpr ((Za6.mp (Zh.mp hk)).resolve_left λq=>c (Zh.mpr q))
  rw [if_neg c,if_pos c2,if_neg c,Int.zero_add]
def ZeO(h:Zmu cs)(G:List Str):Zmu (csG rs hf cs G):=λk=>by
 unfold csG
 split
 ·exact⟨Int.le_refl _,Vw _⟩
 ·exact h k
end
noncomputable def csT(rs:List (Nat × Rat))(hf:Str->Nat)(ss:List Str):Nat->Int:=λk=>if k∈needL rs (ss.map hf) then ZkD (botL rs hf ss) (Zr rs k) else 0
def ZfS(pt C:Addr):Sp:=λvs H Q _=>∃ (x:V) (rs:List (Nat × Rat)) (d:Addr) (o:Obj) (ss:List Str) (hf:Str->Nat),vs=[x,.ref d]/\Jp C H x rs/\H d=some (.frz o (.dK (hmL ss hf)))/\Place rs hf ss/\(∀ r∈rs,SzQ 110 r.2/\0<=r.2.num)/\Zd9 H pt "far_roads_first.<locals>.<lambda>" /\
 ∀ p H' xs js,H p=none->Zk H H'->H' p=some (.lst xs)->ZdP rs hf (csT rs hf ss) (botL rs hf ss) H H' p xs js->ZI rs hf (csT rs hf ss) ss js->(∀ z∈ss,z∈js.flatten)->Q (.ref p) H'
def Pst(H0:Hp)(x:V)(d pd tl:Addr)(rs:List (Nat × Rat))(hf:Str->Nat)(ss:List Str)(σ:St)(H:Hp):Prop:=∃ (g:Addr) (o1 o2 o3:Option V) (xs:List V) (js:List (List Str)),σ=[some x,some (.ref d),some (.int (botL rs hf ss:Int)),some (.ref pd),some (.ref g),some (.ref tl),o1,o2,o3]/\Zk H0 H/\g ≠ tl/\H g=some (.lst ((srt js.flatten).map V.str))/\H tl=some (.lst xs)/\H pd=some (.dK (prL (needL rs (ss.map hf)) (csG rs hf (csT rs hf ss) js.flatten))) /\
 ZdP rs hf (csT rs hf ss) (botL rs hf ss) H0 H tl xs js/\ZI rs hf (csT rs hf ss) ss js
def muS(n:Nat)(σ:St)(H:Hp):Nat:=match σ[4]? with
 | some (some (V.ref g))=>(match H g with | some (.lst xs)=>n - xs.length | _=>0)
 | _=>0
def ZjI(hB:B<=2 ^ 2200)(hz:SzQ 110 q)(h0:0<=q.num):0<=ZkD B q/\(ZkD B q).natAbs < 2 ^ 2400:=by
 unfold ZkD
 have hd:=q.den_pos
 have h1:0<=(B:Int) / (q.den:Int):=Int.ediv_nonneg (by omega) (by omega)
 refine⟨Int.mul_nonneg h0 h1,?_⟩
 have h2:((B:Int) / (q.den:Int)).natAbs < 2 ^ 2201:=by
  rw [<- Int.natCast_ediv,VU]
  exact Ys (VJ _ _) (Ys hB (Nat.pow_lt_pow_right (by decide) (by decide)))
 exact Ja (Zbm hz.1 h2) (by decide)
def Zhe(hp:Place rs hf ss)(hz:∀ r∈rs,SzQ 110 r.2/\0<=r.2.num):Zmu (csT rs hf ss):=λk=>by
 unfold csT
 split
 ·refine ZjI (Zfr hp λr hr=>(hz r hr).1).2.1 (ZaX (λr hr=>(hz r hr).1) k) ?_
  unfold Zr
  cases h:rs[k - 1]? with
  | none=>exact Int.le_refl _
  | some r=>exact (hz r (Ym h)).2
 ·exact⟨Int.le_refl _,Vw _⟩
def PsI(H0:Hp)(x y:V)(d pd tl l pj pn:Addr)(rs:List (Nat × Rat))(hf:Str->Nat)(ss:List Str)(js:List (List Str))(J:List Str)(xs:List V)(i:Nat)(σ:St)(H:Hp):Prop:=∃ o3,σ=[some x,some (.ref d),some (.int (botL rs hf ss:Int)),some (.ref pd),some (.ref l),some (.ref tl),some (.ref pj),some y,o3]/\Zk H0 H/\H l=some (.lst ((srt (js.flatten ++ J)).map V.str))/\H tl=some (.lst xs)/\H pn=some (.lst (Zw (needL rs (J.map hf)))) /\
 H pd=some (.dK (prL (needL rs (ss.map hf)) λk=>if k∈(needL rs (J.map hf)).take i then 0 else csG rs hf (csT rs hf ss) js.flatten k))/\ZdP rs hf (csT rs hf ss) (botL rs hf ss) H0 H tl xs (js ++ [J])
theorem ZnS:srt []=[]:=(ZaH []).eq_nil
def ZjU{js:List (List Str)}(h:ZI rs hf cs ss js):∀ i,i<=js.length->i<=(Zi js i).length:=by
 intro i
 induction i with
 | zero=>exact λ_=>YF _
 | succ i ih =>
  intro hi
  have hJ:=Yb (show i < js.length by omega)
  have:=List.length_pos_iff.mpr (h i _ hJ).2.ne
  have:=ih (by omega)
  rw [ZaM hJ,YM]
  omega
def Zdi{cs cs':Nat->Int}(h:∀ k∈ks,cs k=cs' k):prL ks cs=prL ks cs':=YL λk hk=>by rw [h k hk]
theorem Zm2{g:Addr}(h:σ[4]?=some (some (.ref g)))(hg:H g=some (.lst xs)):muS n σ H=n - xs.length:=by unfold muS; rw [h]; dsimp only; rw [hg]
def Zin(F:Fun K "stairs" "stairs" Zfk f fd)(ZA:mg "len"=none)(ZW:mg "sorted"=none)(Zay:Fn P w K mg base ZC 5 "bottom_of_prices" ["tree","homes"] (Zf3 CT))(Zbj:Fn P w K mg base ZC 5 "whole_prices" ["tree","homes","bottom"] (ZeG CT))(ZcB:Fn P w K mg base ZC 10 "cheapest" ["tree","homes","prices"] (ZdL pt CT))(Za8:Fn P w K mg base ZC 1 "homes_without" ["homes","group"] ZeB)
  (Zgz:Fn P w K mg base ZC 2 "ratio" ["top","bottom"] ZfO) (Zaw:Fn P w K mg base ZC 5 "whole_cost" ["tree","homes","group","prices"] (ZeQ CT)) (Z3:Fn P w K mg base ZC 4 "needed" ["tree","homes","group"] (Zbk CT)):FnOk P w K mg base ZC 11 f fd ["tree","homes"] (ZfS pt CT):=by
 refine JU F ZaC λcdv A outer s H vs Q E hr h=>?_
 obtain⟨x,rs,d,o,ss,hf,rfl,hT,hd,hp,hz,hB2,q⟩:=h
 refine⟨_,(Zc (Zn 2 ZaC.nd (Jn Zay hr (Zl (Ze 0) (Zl (Ze 1) Zb))))
   (Zc (Zn 3 ZaC.nd (Jn Zbj hr (Zl (Ze 0) (Zl (Ze 1) (Zl (Ze 2) Zb)))))
   (Zc (Zn 4 ZaC.nd (JD Zb))
   (Zc (Zn 5 ZaC.nd (JD Zb))
   (Zc (Zb1 Yq (ZqC (Ju rfl ZA (Zl (Ze 4) Zb)) (Zp3 rfl ZA (Zl (Ze 1) Zb))) (Zc (Zn 6 ZaC.nd (Jn ZcB hr (Zl (Ze 0) (Zl (Jn Za8 hr (Zl (Ze 1) (Zl (Ze 4) Zb))) (Zl (Ze 3) Zb)))))
   (Zc (Zn 7 ZaC.nd (Jn Zgz hr (Zl (Jn Zaw hr (Zl (Ze 0) (Zl (Ze 1) (Zl (Ze 6) (Zl (Ze 3) Zb))))) (Zl (Jr (Ze 2) (Ju rfl ZA (Zl (Ze 6) Zb))) Zb))))
   (Zc (Zn 4 ZaC.nd (Zij rfl ZW (Zl (Zqz (Ze 4) (Ze 6)) Zb)))
   (Zc (Jy (ZhI (Ze 5) (Zl (Zgl (Zl (Ze 4) (Zl (Ze 7) Zb))) Zb)))
   (Zj (Jq Yq (Jg (Jn Z3 hr (Zl (Ze 0) (Zl (Ze 1) (Zl (Ze 6) Zb))))) (ZE 8 ZaC.nd) (Zj (Zc4 (JA hr) (Ze 3) (Ze 8) Zd)))))))))
   (Zj (ZF (Ze 5)))))))),?_⟩
 rw [show Zu ["tree","homes","bottom","prices","group","told","joining","share","k"] [x,.ref d]=[some (x),some (.ref d),none,none,none,none,none,none,none] from rfl]
 have hfew:=hp.few
 have V0:=hp.vils
 have hz1:∀ r∈rs,SzQ 110 r.2:=λr hr=>(hz r hr).1
 obtain⟨hB0,hB1,hBd⟩:=Zfr hp hz1
 walk_at "rd"
 refine⟨x,rs,d,ss,hf,rfl,hT,.inr ⟨_,hd⟩,hp,hz1,λH1 s1=>?_⟩
 refine⟨x,rs,d,ss,hf,botL rs hf ss,rfl,hT.same s1,.inr ⟨_,s1 _ _ hd⟩,hp,hz1,hB1,λpd H2 hpd s2 e2 g H3 hg s3 e3 tl H4 htl s4 e4=>?_⟩
 have hpd0:H pd=none:=s1.free hpd
 have htl0:H tl=none:=(s1.trans (s2.trans s3)).free htl
 have hcT:=Zhe hp hz
 have e0:prL (needL rs (ss.map hf)) (λk=>ZkD (botL rs hf ss) (Zr rs k))=prL (needL rs (ss.map hf)) (csG rs hf (csT rs hf ss) ([]:List (List Str)).flatten):=Zdi λk hk=>by
  have:k ∉ needL rs ((([]:List (List Str)).flatten).map hf):=λc=>by obtain⟨x,hx,_⟩:=Zh.mp c; cases hx
  unfold csG csT
  rw [if_neg this,if_pos hk]
 rw [e0] at e2
 refine Zce (Pst H x d pd tl rs hf ss) (muS ss.length) ⟨g,_,_,_,[],[],rfl,s1.trans (s2.trans (s3.trans s4)),Zm e3 htl,by rw [List.flatten_nil,ZnS]; exact s4 _ _ e3,e4,(s3.trans s4) _ _ e2,⟨rfl,λi x h=>by simp at h⟩,λi J h=>by simp at h⟩ ?_
 clear e4 e3 e2 e0 s4 s3 s2 s1 hpd hg htl
 rintro σ H1 ⟨g,o1,o2,o3,xs,js,rfl,s1,hgt,eg,et,ep,hTo,hCh⟩
 obtain⟨hfn,hfs⟩:=hCh.flat js.length (Yd _)
 rw [Zbd] at hfn hfs
 have hfl:js.flatten.length<=ss.length:=YS hfn hfs
 have hsl:(srt js.flatten).length=js.flatten.length:=(ZaH _).length_eq
 have hml:(hmL ss hf).length=ss.length:=by simp [hmL]
 walk_at "rd"
 refine⟨_,.inl eg,_,.inr ⟨_,s1 _ _ hd⟩,?_⟩
 rw [Yf,hsl,hml]
 refine JI (λc=>?_) (λc=>?_)
 ·have c:js.flatten.length < ss.length:=by omega
  have hR:restG ss js.flatten ≠ []:=λcc=>by
   have:ss ⊆ js.flatten:=λz hz=>Vb λhn=>by
    have:=Z4.mpr ⟨hz,hn⟩
    rw [cc] at this
    cases this
   have:=YS hp.nd this
   omega
  refine⟨λσ' H'=>muS ss.length σ' H' < ss.length - js.flatten.length/\Pst H x d pd tl rs hf ss σ' H',λσ' H' hN=>⟨_,by rw [Zm2 rfl eg,Yf,hsl]; exact hN.1,rfl,hN.2⟩,?_⟩
  refine⟨d,g,o,ss,_,hf,rfl,s1 _ _ hd,hp.nd,hfew,eg,λd2 H2 o' hd2 s2 e2=>?_⟩
  have er:(ss.filter λz=>!decide (z∈srt js.flatten))=restG ss js.flatten:=List.filter_congr λz _=>by
   congr 1
   exact decide_eq_decide.mpr (ZaH _).mem_iff
  rw [er] at e2
  have hpR:Place rs hf (restG ss js.flatten):=⟨hp.T,hp.n,λz hz=>hp.le z (Z4.mp hz).1,hp.nd.filter _,Ys (VC _ _) hfew⟩
  have hnR:∀ k,Jo rs ((restG ss js.flatten).map hf) k->k∈needL rs (ss.map hf):=λk hk=>by
   obtain⟨z,hz,hw⟩:=(hpR.vils.need λ_ h=>h).mp hk
   exact Zh.mpr ((V0.need λ_ h=>h).mpr ⟨z,(Z4.mp hz).1,hw⟩)
  have s12:=s1.trans s2
  refine⟨x,rs,d2,pd,o',_,hf,_,_,rfl,hT.same s12,e2,hpR,hR,s2 _ _ ep,hnR,ZeO hcT _,(let ⟨t,ht⟩:=hB2; ⟨t,s12 _ _ ht⟩),λpj H3 hpj s3 hCp e3=>?_⟩
  generalize hJ:chp rs hf (csG rs hf (csT rs hf ss) js.flatten) (restG ss js.flatten)=J at hCp e3
  have hJs:∀ z∈J,z∈ss:=λz hz=>(Z4.mp (hCp.sub z hz)).1
  have hJl:J.length<=ss.length:=YS hCp.nd hJs
  have hJ0:=List.length_pos_iff.mpr hCp.ne
  have hnJ:∀ k,Jo rs (J.map hf) k->k∈needL rs (ss.map hf):=λk hk=>by
   obtain⟨z,hz,hw⟩:=(V0.need hJs).mp hk
   exact Zh.mpr ((V0.need λ_ h=>h).mpr ⟨z,hJs z hz,hw⟩)
  have s13:=s12.trans s3
  refine⟨x,rs,d,pj,pd,ss,J,hf,_,_,rfl,hT.same s13,.inr ⟨_,s13 _ _ hd⟩,hp,e3,hJs,by omega,(s2.trans s3) _ _ ep,hnJ,λH4 s4=>?_⟩
  have hjl:=ZjU hCh js.length (Yd _)
  rw [Zbd] at hjl
  have hxl:=hTo.1
  have s14:=s13.trans s4
  refine⟨pj,rfl,_,.inl (s4 _ _ e3),?_⟩
  rw [Yf]
  have hBs:((botL rs hf ss:Nat):Int).natAbs < 2 ^ 2201:=by rw [VU]; exact Ys hB1 (Nat.pow_lt_pow_right (by decide) (by decide))
  have hJz:((J.length:Nat):Int).natAbs < 2 ^ 40:=by omega
  refine⟨JK hBs hJz (by decide),_,_,rfl,Big.of (Zbm hBs hJz) (by decide),Int.ne_of_gt (Int.mul_pos (by omega) (by omega)),λy H5 s5 hy=>?_⟩
  refine⟨pj,rfl,_,(s2.trans (s3.trans (s4.trans s5))) _ _ eg,_,(s4.trans s5) _ _ e3,?_,λp6 hp6=>?_⟩
  ·rw [Yf,Yf,hsl]
   exact Yj (show _<=200 by omega) (by decide)
  have ea:(srt js.flatten).map V.str ++ J.map V.str=(srt js.flatten ++ J).map V.str:=by rw [Y8]
  rw [ea]
  have hsum:js.flatten.length + J.length<=ss.length:=by
   have hnd2:(js.flatten ++ J).Nodup:=Vu.mpr ⟨hfn,hCp.nd,λa ha b hb e=>(Z4.mp (hCp.sub b hb)).2 (e ▸ ha)⟩
   have:=YS hnd2 (λz hz=>by rcases YA.mp hz with hz | hz; exact hfs z hz; exact hJs z hz)
   rw [YM] at this
   exact this
  have s6:Zk H5 (upd H5 p6 (.lst ((srt js.flatten ++ J).map V.str))):=Zo hp6 (λ_ _ z=>z)
  refine⟨_,Zf,by rw [YM,hsl]; omega,λl H7 ts hl s7 e7 hpw hpm=>?_⟩
  have ets:ts=srt (js.flatten ++ J):=Zhb hpw (hpm.trans ((ZaH _).append_right _))
  subst ets
  have s17:=s14.trans (s5.trans (s6.trans s7))
  have S27:=s2.trans (s3.trans (s4.trans (s5.trans (s6.trans s7))))
  refine⟨⟨_,S27 _ _ et⟩,λp8 H8 hp8 s8 e8=>⟨_,(S27.trans s8) _ _ et,by omega,?_⟩⟩
  have hlt:l ≠ tl:=(Zm ((s2.trans (s3.trans (s4.trans (s5.trans s6)))) _ _ et) hl).symm
  have hp8t:p8 ≠ tl:=(Zm (S27 _ _ et) hp8).symm
  have s18:=s17.trans s8
  have s19:Zk H (upd H8 tl (.lst (xs ++ [.ref p8]))):=Zo htl0 s18
  have ep9:upd H8 tl (.lst (xs ++ [.ref p8])) pd=some (.dK (prL (needL rs (ss.map hf)) (csG rs hf (csT rs hf ss) js.flatten))):=by
   rw [Zg (λz=>by rw [z,et] at ep; cases ep)]
   exact (S27.trans s8) _ _ ep
  have eg9:upd H8 tl (.lst (xs ++ [.ref p8])) l=some (.lst ((srt (js.flatten ++ J)).map V.str)):=by rw [Zg hlt]; exact s8 _ _ e7
  have ej9:upd H8 tl (.lst (xs ++ [.ref p8])) pj=some (.lst (J.map V.str)):=by
   rw [Zg (λz=>by rw [z,(s2 _ _ et)] at hpj; cases hpj)]
   exact (s4.trans (s5.trans (s6.trans (s7.trans s8)))) _ _ e3
  have hTo9:ZdP rs hf (csT rs hf ss) (botL rs hf ss) H (upd H8 tl (.lst (xs ++ [.ref p8]))) tl (xs ++ [.ref p8]) (js ++ [J]):=by
   have kt:∀ b ys,H8 b=some (.tup ys)->upd H8 tl (.lst (xs ++ [.ref p8])) b=some (.tup ys):=λb ys e=>by
    rw [Zg (λz=>by rw [z,(S27.trans s8) _ _ et] at e; cases e)]
    exact e
   refine ZdP.snoc ((hTo.keep (H':=H8) (λb ys e=>(S27.trans s8) _ _ e) λb ys _ e=>(S27.trans s8) _ _ e).keep kt λb ys hb e=>by rw [Zg hb]; exact e) (kt _ _ e8) eg9 hlt ((s14.trans (s5.trans s6)).free hl) ?_
   exact (hy.same (s6.trans (s7.trans s8))).keep kt
  have et9:upd H8 tl (.lst (xs ++ [.ref p8])) tl=some (.lst (xs ++ [.ref p8])):=Zf
  generalize upd H8 tl (.lst (xs ++ [.ref p8]))=H9 at s19 ep9 eg9 ej9 hTo9 et9
  simp only [Z9]
  walk_at "rd"
  refine⟨x,rs,d,pj,_,J,J.map hf,rfl,hT.same s19,.inr ⟨_,s19 _ _ hd⟩,ej9,Zir hp.le J hJs,by have:=hp.n; omega,by omega,hp.T,λpn Hn ks hpn sn en hkw hkm=>?_⟩
  have ek:=ZbM hkw hkm
  subst ek
  refine Ji (xs:=Zw (needL rs (J.map hf))) (PsI H x y d pd tl l pj pn rs hf ss js J (xs ++ [.ref p8])) ⟨_,rfl,s19.trans sn,sn _ _ eg9,sn _ _ et9,en,?_,hTo9.keep (λb ys e=>sn _ _ e) λb ys _ e=>sn _ _ e⟩ (λi σ H' _ ⟨_,_,_,_,_,e,_⟩=>.of e) (λi v σ H' hi hP=>?_) (λσ H' hP=>?_)
  ·rw [sn _ _ ep9,List.take_zero]
   congr 2
  ·obtain⟨o3,rfl,sm,f1,f2,f3,f4,f5⟩:=hP
   obtain⟨k0,hk0,rfl⟩:∃ k0:Nat,(needL rs (J.map hf))[i]?=some k0/\v=V.int (k0:Int):=by
    unfold Zw at hi
    rw [Yg] at hi
    cases hh:(needL rs (J.map hf))[i]? with
    | none=>rw [hh] at hi; cases hi
    | some k0=>rw [hh] at hi; cases hi; exact⟨k0,rfl,rfl⟩
   have hk1:k0∈needL rs (ss.map hf):=hnJ k0 (Zh.mp (Ym hk0))
   have hkl:=Zdw (n:=rs.length) (ZaJ (rs:=rs) (hs:=ss.map hf)) λk hk=>Jb (Zh.mp hk)
   have hn:=hp.n
   walk_at "rd"
   have kl:∀ b ys o,H' b=some (.lst ys)->upd H' pd o b=some (.lst ys):=λb ys o e=>by
    rw [Zg (λz=>by rw [z,f4] at e; cases e)]
    exact e
   refine⟨_,f4,.inl (k0:Int),rfl,by unfold prL; rw [List.length_map]; omega,_,rfl,Zo hpd0 sm,kl _ _ _ f1,kl _ _ _ f2,kl _ _ _ f3,?_,f5.keep (λb ys e=>by rw [Zg (λz=>by rw [z,f4] at e; cases e)]; exact e) λb ys _ e=>kl _ _ _ e⟩
   rw [Zf,Zqy hk1,YB,hk0]
   congr 2
   refine Zdi λk hk=>?_
   by_cases c1:k=k0
   ·subst c1
    rw [if_pos rfl,if_pos (by simp)]
   ·have e:(k∈(needL rs (J.map hf)).take i ++ (some k0).toList)=(k∈(needL rs (J.map hf)).take i):=by simp [c1]
    simp only [e,if_neg c1]
  ·obtain⟨o3,rfl,sm,f1,f2,f3,f4,f5⟩:=hP
   rw [show (Zw (needL rs (J.map hf))).length=(needL rs (J.map hf)).length by simp [Zw],List.take_length] at f4
   have ef:(js ++ [J]).flatten=js.flatten ++ J:=by rw [List.flatten_append]; simp
   refine⟨?_,l,_,_,_,_,js ++ [J],rfl,sm,hlt,by rw [ef]; exact f1,f2,?_,f5,hCh.snoc hJ.symm hCp⟩
   ·rw [Zm2 rfl f1,Yf,(ZaH _).length_eq,YM]
    omega
   ·rw [f4]
    congr 2
    refine Zdi λk hk=>?_
    rw [ef]
    unfold csG
    have hm:(k∈needL rs ((js.flatten ++ J).map hf)) ↔ k∈needL rs (js.flatten.map hf)\/k∈needL rs (J.map hf):=by rw [Zh,Zh,Zh]; exact Za6
    by_cases c1:k∈needL rs (J.map hf)
    ·rw [if_pos c1,if_pos (hm.mpr (.inr c1))]
    ·rw [if_neg c1]
     by_cases c2:k∈needL rs (js.flatten.map hf)
     ·rw [if_pos c2,if_pos (hm.mpr (.inl c2))]
     ·rw [if_neg c2,if_neg λq=>(hm.mp q).elim c2 c1]
 ·have hcov:∀ z∈ss,z∈js.flatten:=λz hz=>by
   refine Vb λhn=>?_
   have:=YS (Y7.mpr ⟨hn,hfn⟩) (λy hy=>by rcases Yl.mp hy with rfl | hy; exact hz; exact hfs y hy)
   rw [YV] at this
   omega
  exact q tl H1 xs js htl0 s1 et hTo hCh hcov
def Zp(B:Nat)(m:Int):Rat:=Rat.divInt m (B:Int)
def ZcY(hB:0 < B){m n:Int}:Zp B m < Zp B n ↔ m < n:=by
 rw [<- Rat.not_le,<- Int.not_le]
 unfold Zp
 rw [Rat.le_iff_sub_nonneg,Rat.divInt_sub_divInt _ _ (by omega) (by omega),<- Int.sub_mul,Rat.divInt_nonneg_iff_of_pos_right (Int.mul_pos (by omega) (by omega))]
 constructor
 ·intro h c
  exact h (Int.mul_nonneg (by omega) (by omega))
 ·intro h c
  refine h ?_
  have:=Int.nonneg_of_mul_nonneg_left c (by omega:(0:Int) < (B:Int))
  omega
def Zfe(hB:0 < B)(m n:Int):Zp B m + Zp B n=Zp B (m + n):=Zma (by omega)
def Zlj(hB:0 < B){m n:Int}(h:Zp B m=Zp B n):m=n:=by
 have h1:¬ m < n:=λc=>by have:=(ZcY hB).mpr c; rw [h] at this; exact Rat.lt_irrefl this
 have h2:¬ n < m:=λc=>by have:=(ZcY hB).mpr c; rw [h] at this; exact Rat.lt_irrefl this
 omega
def Zcq(B:Nat):Zp B 0=0:=Rat.zero_divInt _
theorem Zk9(hB:0 < B)(m:Int):(Zp B m).den ∣ B:=by
 have h1:(Zp B m).num * (B:Int)=m * ((Zp B m).den:Int):=by
  have h:=Ve (Zp B m)
  have hd:=(Zp B m).den_pos
  exact (Rat.divInt_eq_divInt_iff (by omega) (by omega)).mp h
 have h2:((Zp B m).den:Int) ∣ (Zp B m).num * (B:Int):=⟨m,by rw [h1,Int.mul_comm]⟩
 have h3:=Int.natAbs_dvd_natAbs.mpr h2
 rw [Int.natAbs_mul] at h3
 have hc:Nat.Coprime (Zp B m).den (Zp B m).num.natAbs:=(Zp B m).reduced.symm
 exact hc.dvd_of_dvd_mul_left (by simpa using h3)
theorem Zcr(hB:0 < B)(ms:List Int):∀ i,i<=ms.length->J1 (ms.map (Zp B)) i=Zp B (ms.take i).sum
 | 0,_=>(Zcq B).symm
 | i + 1,hi=>by
  have hm:=Yb (show i < ms.length from hi)
  rw [ZfT (q:=Zp B ms[i]) (by rw [Yg,hm]; rfl),Zcr hB ms i (Yp hi),Zfe hB,YB,hm,List.sum_append]
  simp
def Zdd(hB:0 < B)(ms:List Int):J1 (ms.map (Zp B)) (ms.map (Zp B)).length=Zp B ms.sum:=by
 rw [Yf,Zcr hB ms _ (Yd _),Y2]
def szA{m:Int}(hB:0 < B)(h1:B < 2 ^ 4490)(h2:m.natAbs < 2 ^ 20000):SzA (Zp B m) :=
 ⟨(SzQ.of (n:=20000) (by omega) h2 (Ja (a:=4490) (by simpa using h1) (by decide))).1,Nat.lt_of_le_of_lt (Nat.le_of_dvd hB (Zk9 hB m)) h1⟩
def Zgf(hB:0 < B)(l:List α)(g:α->Int):Zcp (l.map λk=>Zp B (g k))=Zp B (sm l g):=by
 induction l with
 | nil=>exact (Zcq B).symm
 | cons x l ih=>rw [Yr,ZdH,ih,Zfe hB,ZB]
def Zh3(hp:Place rs hf ss)(hz:∀ r∈rs,SzQ 110 r.2){k:Nat}(hk:Jo rs (ss.map hf) k):Zr rs k=Zp (botL rs hf ss) (csT rs hf ss k):=by
 obtain⟨h1,_,h3⟩:=Zfr hp hz
 unfold csT Zp
 rw [if_pos (Zh.mpr hk),Znl h1 (h3 k hk)]
def Zfu{G:List Str}(hn:rs.length<=20)(hc:Zmu cs):0<=cst rs hf cs G/\(cst rs hf cs G).natAbs < 2 ^ 2410:=by
 have h0:=ZeE (rs:=rs) (hf:=hf) (λk=>(hc k).1) G
 refine⟨h0,?_⟩
 have hkl:=Zdw (n:=rs.length) (ZaJ (rs:=rs) (hs:=G.map hf)) λk hk=>Jb (Zh.mp hk)
 have h1:cst rs hf cs G<=((2 ^ 2400:Nat):Int) * (needL rs (G.map hf)).length:=by
  unfold cst
  rw [<- Zbf]
  refine JX λk _=>?_
  have:=hc k
  omega
 have h2:(2:Nat) ^ 2410=2 ^ 2400 * 1024:=by rw [show (2410:Nat)=2400 + 10 from rfl,YG]
 rw [h2]
 have h3:(0:Nat) < 2 ^ 2400:=Vw _
 generalize (2:Nat) ^ 2400=M at h1 h3
 have h4:(M:Int) * (needL rs (G.map hf)).length<=(M:Int) * 20:=Int.mul_le_mul_of_nonneg_left (by omega) (by omega)
 omega
def Zis{a b c d:Int}(hb:0 < b)(hd:0 < d)(h:a * d < c * b):Rat.divInt a b < Rat.divInt c d:=by
 rw [<- Rat.not_le,Rat.le_iff_sub_nonneg,Rat.divInt_sub_divInt _ _ (Int.ne_of_gt hb) (Int.ne_of_gt hd),Rat.divInt_nonneg_iff_of_pos_right (Int.mul_pos hb hd)]
 omega
section
variable {rs:List (Nat × Rat)}{hf:Str->Nat}{ss:List Str}{js:List (List Str)}
def ZiK{B i:Nat}{J:List Str}(hB0:0 < B)(hJ:js[i]?=some J)(hl:J ≠ []):shr rs hf cs B js i * ((J.length:Int):Rat)=Zp B (cst rs hf (csG rs hf cs (Zi js i)) J):=by
 have e:js.getD i []=J:=by rw [List.getD_eq_getElem?_getD,hJ]; rfl
 unfold shr Zp
 rw [e]
 have l1:=List.length_pos_iff.mpr hl
 have e1:((J.length:Int):Rat)=Rat.divInt (J.length:Int) 1:=(Ve _).symm
 rw [e1,Rat.divInt_mul_divInt,Int.mul_one]
 exact VS (by omega)
def Zpv(hp:Place rs hf ss){cs:Nat->Int}{B i:Nat}(hB0:0 < B)(h:ZI rs hf cs ss js)(hi:i + 1 < js.length):shr rs hf cs B js i < shr rs hf cs B js (i + 1):=by
 have hJ:=Yb (show i < js.length by omega)
 have hJ':=Yb hi
 obtain⟨_,hC⟩:=h i _ hJ
 obtain⟨_,hC'⟩:=h (i + 1) _ hJ'
 have e1:js.getD i []=js[i]:=by rw [List.getD_eq_getElem?_getD,hJ]; rfl
 have e2:js.getD (i + 1) []=js[i + 1]:=by rw [List.getD_eq_getElem?_getD,hJ']; rfl
 have ef:=ZaM hJ
 rw [ef] at hC'
 have hs':∀ z∈js[i + 1],z∈restG ss (Zi js i)/\z ∉ js[i]:=λz hz=>by
  obtain⟨a,b⟩:=Z4.mp (hC'.sub z hz)
  rw [YA,not_or] at b
  exact⟨Z4.mpr ⟨a,b.1⟩,b.2⟩
 have hn:(js[i] ++ js[i + 1]).Nodup:=Vu.mpr ⟨hC.nd,hC'.nd,λa ha b hb e=>(hs' b hb).2 (e ▸ ha)⟩
 obtain⟨l1,l2⟩:=hC.least (js[i] ++ js[i + 1]) hn λz hz=>by
  rcases YA.mp hz with hz | hz
  ·exact hC.sub z hz
  ·exact (hs' z hz).1
 have ec:cst rs hf (csG rs hf cs (Zi js i)) (js[i] ++ js[i + 1])=cst rs hf (csG rs hf cs (Zi js i)) js[i] + cst rs hf (csG rs hf cs (Zi js (i + 1))) js[i + 1]:=by
  rw [Zen]
  congr 2
  funext k
  unfold csG
  rw [ef]
  have hm:(k∈needL rs ((Zi js i ++ js[i]).map hf)) ↔ k∈needL rs ((Zi js i).map hf)\/k∈needL rs (js[i].map hf):=by rw [Zh,Zh,Zh]; exact Za6
  by_cases c1:k∈needL rs (js[i].map hf)
  ·rw [if_pos c1,if_pos (hm.mpr (.inr c1))]
  ·rw [if_neg c1]
   by_cases c2:k∈needL rs ((Zi js i).map hf)
   ·rw [if_pos c2,if_pos (hm.mpr (.inl c2))]
   ·rw [if_neg c2,if_neg λq=>(hm.mp q).elim c2 c1]
 rw [ec,YM] at l1 l2
 have p1:=List.length_pos_iff.mpr hC.ne
 have p2:=List.length_pos_iff.mpr hC'.ne
 have hne:¬ cst rs hf (csG rs hf cs (Zi js i)) js[i] * ((js[i].length + js[i + 1].length:Nat):Int)=js[i].length * (cst rs hf (csG rs hf cs (Zi js i)) js[i] + cst rs hf (csG rs hf cs (Zi js (i + 1))) js[i + 1]):=λe=>by
  obtain⟨z,hz⟩:=List.exists_mem_of_ne_nil _ hC'.ne
  exact (hs' z hz).2 (l2 e z (Yv _ hz))
 unfold shr
 rw [e1,e2]
 have b1:0 < (B:Int) * (js[i].length:Int):=Int.mul_pos (by omega) (by omega)
 have b2:0 < (B:Int) * (js[i + 1].length:Int):=Int.mul_pos (by omega) (by omega)
 refine Zis b1 b2 ?_
 generalize cst rs hf (csG rs hf cs (Zi js i)) js[i]=c at l1 hne ⊢
 generalize cst rs hf (csG rs hf cs (Zi js (i + 1))) js[i + 1]=c' at l1 hne ⊢
 rw [Int.natCast_add,Int.mul_add,Int.mul_add,Int.mul_comm c (js[i].length:Int)] at l1 hne
 have h1:c * (js[i + 1].length:Int) < (js[i].length:Int) * c':=by omega
 have h2:=Int.mul_lt_mul_of_pos_left h1 (show (0:Int) < (B:Int) by omega)
 rw [show c * ((B:Int) * (js[i + 1].length:Int))=(B:Int) * (c * (js[i + 1].length:Int)) by rw [Int.mul_left_comm],show c' * ((B:Int) * (js[i].length:Int))=(B:Int) * ((js[i].length:Int) * c') by rw [Int.mul_left_comm,Int.mul_comm c']]
 exact h2
end
theorem Zjq{p q:Rat}:p.num * (q.den:Int) < q.num * (p.den:Int) ↔ p < q:=(Rat.lt_iff p q).symm
def ZdY:Sp:=λvs H Q _=>∃ (x y:V) (p q:Rat),vs=[x,y]/\Jd H x p/\Jd H y q/\SzA p/\SzA q/\∀ r H',Zk H H'->Jd H' r (p * q)->Q r H'
def Zi6(F:Fun K "_law_times" "_law_times" Zb0 f fd)(ZU:Fn P w K mg base ZC 1 "_law_low" ["_law_top","_law_bottom"] ZbE):FnOk P w K mg base ZC 2 f fd ["_law_one","_law_other"] ZdY:=by
 refine JU F ZfP λcdv A outer s H vs Q E hr h=>?_
 obtain⟨x,y,p,t,rfl,⟨a,rfl,ha⟩,⟨b,rfl,hb⟩,z1,z2,q⟩:=h
 refine⟨_,(Zj (ZF (Jn ZU hr (Zl (Jr (Jf (Ze 0) Zd) (Jf (Ze 1) Zd)) (Zl (Jr (Jf (Ze 0) Zd) (Jf (Ze 1) Zd)) Zb))))),?_⟩
 rw [show Zu ["_law_one","_law_other"] [.ref a,.ref b]=[some (.ref a),some (.ref b)] from rfl]
 walk_at "rd"
 simp only [ha,hb,ZbE]
 walk_at "rd"
 have hp:=p.den_pos
 have ht:=t.den_pos
 refine⟨JK z1.1 z2.1 (by decide),JK z1.den z2.den (by decide),Big.of (Zbm z1.den z2.den) (by decide),Int.mul_pos (by omega) (by omega),λr H' hs v=>q r H' hs ?_⟩
 rw [<- Rat.divInt_mul_divInt,Ve,Ve] at v
 exact v
def ZdZ:Sp:=λvs H Q _=>∃ (x y:V) (p q:Rat),vs=[x,y]/\Jd H x p/\Jd H y q/\SzA p/\SzA q/\Q (.bl (decide (p < q))) H
def Zj4(F:Fun K "_law_under" "_law_under" ZbY f fd):FnOk P w K mg base ZC 1 f fd ["_law_one","_law_other"] ZdZ:=by
 refine JU F ZfW λcdv A outer s H vs Q E hr h=>?_
 obtain⟨x,y,p,t,rfl,⟨a,rfl,ha⟩,⟨b,rfl,hb⟩,z1,z2,q⟩:=h
 refine⟨_,(Zj (ZF (ZsF (Jr (Jf (Ze 0) Zd) (Jf (Ze 1) Zd)) (Jr (Jf (Ze 1) Zd) (Jf (Ze 0) Zd))))),?_⟩
 rw [show Zu ["_law_one","_law_other"] [.ref a,.ref b]=[some (.ref a),some (.ref b)] from rfl]
 walk_at "rd"
 simp only [ha,hb]
 walk_at "rd"
 refine⟨JK z1.1 z2.den (by decide),JK z2.1 z1.den (by decide),?_⟩
 simp only [Zjq]
 exact q
def Zg1(C:Addr):Sp:=λvs H Q _=>∃ (a:Addr) (xs:List V) (rs:List (Nat × Rat)),vs=[.ref a]/\H a=some (.lst xs)/\Js H xs rs/\JB rs/\rs.length<=20/\(∀ r∈rs,SzQ 110 r.2/\0<=r.2.num)/\∀ x H',Zk H H'->Jp C H' x rs->Q x H'
def Zmb(F:Fun K "_law_copy" "_law_copy" ZcO f fd)(Zkq:Mkr P w K mg base ZC 6 CT "Tree" ["self","roads"] (ZjG CT)):FnOk P w K mg base ZC 8 f fd ["_law_roads_here"] (Zg1 CT):=by
 refine JU F ZgK λcdv A outer s H vs Q E hr h=>?_
 obtain⟨a,xs,rs,rfl,ha,hR,hT,hn,hz,q⟩:=h
 refine⟨_,(Zj (ZF (ZqM Zkq hr (by decide) rfl (Zl (Zc5 (Zr0 ["_law_to","_law_price_here"]) (Jg (Ze 0)) (by exact λs H fp=>(ZnC (n:=2) (ZcX (ZE 0 (show List.Nodup (["_law_to","_law_price_here"]:List Str) from by decide +kernel)) (ZcX (ZE 1 (show List.Nodup (["_law_to","_law_price_here"]:List Str) from by decide +kernel)) ZjB)))) (by exact λs H fp=>(Zgl (Zl (Ze 0) (Zl (Ze 1) Zb))))) Zb)))),?_⟩
 rw [show Zu ["_law_roads_here"] [.ref a]=[some (.ref a)] from rfl]
 walk_at "rd"
 simp only [Zec,Zed,cxK]
 walk_at "rd"
 refine⟨⟨_,.of ha⟩,?_⟩
 rw [show Jv [some (V.ref a)] []=[] from rfl]
 refine Zcw (as:=rs) JE (λ_ _ _ _ h s=>h.keep s) ha hR.1 (by rw [hR.1]; omega) (λi v r h1 h2 H' k os sm ho hk=>?_) (λp3 H3 ys hp3 s3 e3 hv=>?_)
 ·obtain⟨o1,o2,rfl⟩:∃ o1 o2,os=[o1,o2]:=by match os,ho with | [o1,o2],_=>exact⟨o1,o2,rfl⟩
  obtain⟨p,y,rfl,hp,hy⟩:=(hR.2 i _ _ h1 h2).same sm
  walk_at "rd"
  exact⟨_,hp,rfl,_,_,rfl,_,_,rfl,rfl,_,rfl,rfl,λp5 H5 hp5 s5 e5=>hk _ H5 s5 ⟨p5,y,rfl,e5,hy.same s5⟩⟩
 ·intro x dx hx hdx hne
  have sx:Zk H3 (upd (upd H3 dx (HO.own x)) x (HO.ins CT dx [])):=Zo hx (Zo hdx λ_ _ z=>z)
  have hRv:Js H3 ys rs:=hv
  refine⟨x,dx,p3,ys,rs,rfl,Zf,sx _ _ e3,hRv.same sx,hT,by omega,λr hr=>(hz r hr).2,λH4 s4 hT4 _=>⟨rfl,q _ H4 (λb ob hb=>?_) hT4⟩⟩
  have hbx:b ≠ x:=λe=>by rw [e,s3.free hx] at hb; cases hb
  exact s4 b ob hbx (sx _ _ (s3 _ _ hb))
def ShV(H:Hp)(svs:List (ZQ × V))(ss:List Str)(qf:Str->Rat):Prop:=svs.length=ss.length/\∀ (i:Nat) z,ss[i]?=some z->∃ v,svs[i]?=some (Sum.inr z,v)/\Jd H v (qf z)
variable {svs:List (ZQ × V)}
theorem ShV.keep{H H':Hp}{qf:Str->Rat}(h:ShV H svs ss qf)(s:∀ b ys,H b=some (.tup ys)->H' b=some (.tup ys)):ShV H' svs ss qf:=⟨h.1,λi z e=>let ⟨v,e1,r⟩:=h.2 i z e; ⟨v,e1,r.keep s⟩⟩
def ShV.keys{qf:Str->Rat}(h:ShV H svs ss qf):svs.map (·.1)=ss.map Sum.inr:=by
 refine Vv λi=>?_
 rw [Yg,Yg]
 cases e:ss[i]? with
 | none=>rw [YZ (by rw [h.1]; exact List.getElem?_eq_none_iff.mp e)]; rfl
 | some z=>obtain⟨v,e1,_⟩:=h.2 i z e; rw [e1]; rfl
def Zkl:∀ {svs:List (ZQ × V)}{i:Nat}{k:ZQ}{v:V},svs[i]?=some (k,v)->(svs.map (·.1)).Nodup->Z8 svs k=some v
 | [],i,k,v,h,_=>by cases h
 | kv :: svs,0,k,v,h,_=>by cases h; exact Z6 rfl
 | kv :: svs,i + 1,k,v,h,hn=>by
  rw [Yr,Y7] at hn
  have hm:(k,v)∈svs:=Ym h
  rw [ZO (λe=>hn.1 (Yk.mpr ⟨_,hm,e.symm⟩))]
  exact Zkl h hn.2
def Zfw(h:ss.Nodup):(ss.map (Sum.inr:Str->ZQ)).Nodup:=List.Pairwise.map _ (λ_ _ hne e=>hne (by injection e)) h
def ShV.val{qf:Str->Rat}(h:ShV H svs ss qf)(hn:ss.Nodup):∀ z∈ss,∃ v,Z8 svs (Sum.inr z)=some v/\Jd H v (qf z):=λz hz=>by
 obtain⟨i,hi,e⟩:=VE hz
 obtain⟨v,e1,r⟩:=h.2 i z (by rw [Yb hi,e])
 exact⟨v,Zkl e1 (by rw [h.keys]; exact Zfw hn),r⟩
def Zht{k:ZQ}{v:V}(h:k ∉ svs.map (·.1)):Jj svs k v=svs ++ [(k,v)]:=by
 unfold Jj
 rw [if_neg]
 intro c
 obtain⟨kv,h1,h2⟩:=List.any_eq_true.mp c
 exact h (List.mem_map.mpr ⟨kv,h1,by simpa using h2⟩)
theorem ShV.snoc{qf:Str->Rat}{v:V}(h:ShV H svs ss qf)(hz:z ∉ ss)(r:Jd H v (qf z)):ShV H (Jj svs (Sum.inr z) v) (ss ++ [z]) qf:=by
 rw [Zht (by rw [h.keys]; intro c; obtain⟨y,hy,e⟩:=Yk.mp c; injection e with e; exact hz (e ▸ hy))]
 refine⟨by simp [h.1],λi y e=>?_⟩
 by_cases c:i < ss.length
 ·rw [YJ c] at e
  rw [YJ (by rw [h.1]; exact c)]
  exact h.2 i y e
 ·have hi:i=ss.length:=by have:=(List.getElem?_eq_some_iff.mp e).1; simp at this; omega
  subst hi
  rw [YH (Yd _)] at e
  rw [<- h.1,YH (Yd _)]
  simp at e
  subst e
  exact⟨v,by simp,r⟩
def ShV.put{qf qg:Str->Rat}{v:V}(h:ShV H svs ss qf)(hz:z∈ss)(r:Jd H v (qg z))(hq:∀ y,y ≠ z->qg y=qf y):ShV H (Jj svs (Sum.inr z) v) ss qg:=by
 have hk:(svs.any λkv=>decide (kv.1=(Sum.inr z:ZQ)))=true:=by
  have:(Sum.inr z:ZQ)∈svs.map (·.1):=by rw [h.keys]; exact Yk.mpr ⟨z,hz,rfl⟩
  obtain⟨kv,h1,h2⟩:=Yk.mp this
  exact List.any_eq_true.mpr ⟨kv,h1,by simpa using h2⟩
 unfold Jj
 rw [if_pos (by simpa using hk)]
 refine⟨by rw [Yf]; exact h.1,λi y e=>?_⟩
 obtain⟨u,e1,r1⟩:=h.2 i y e
 rw [Yg,e1]
 by_cases c:y=z
 ·subst c
  exact⟨v,by simp,r⟩
 ·exact⟨u,by simp [c],by rw [hq y c]; exact r1⟩
def JZ(js:List (List Str))(z:Str):Nat:=js.findIdx λJ=>decide (z∈J)
variable {J:List Str}
theorem Zej{js:List (List Str)}(h:ZI rs hf cs ss js)(hJ:js[i]?=some J)(hz:z∈J):JZ js z=i:=by
 obtain⟨hi,e⟩:=Ye.mp hJ
 unfold JZ
 rw [List.findIdx_eq hi]
 refine⟨by rw [e]; exact YR hz,λj hj=>?_⟩
 refine Y6 λc=>?_
 refine (Z4.mp ((h i J hJ).2.sub z hz)).2 ?_
 unfold Zi
 refine List.mem_flatten.mpr ⟨js[j],?_,c⟩
 refine Ym (i:=j) ?_
 rw [List.getElem?_take,if_pos hj]
 exact Yb (by omega)
def ZoW(t:List Str)(z:Str):List Str:=if z∈t then t else t ++ [z]
def evO(js:List (List Str)):Nat->List Str
 | 0=>[]
 | i + 1=>(srt (Zi js (i + 1))).foldl ZoW (evO js i)
noncomputable def evq(rs:List (Nat × Rat))(hf:Str->Nat)(ss:List Str)(js:List (List Str))(z:Str):Rat:=shr rs hf (csT rs hf ss) (botL rs hf ss) js (JZ js z)
def Zh6{k:ZQ}(h:k ∉ svs.map (·.1)):Z8 svs k=none:=by
 induction svs with
 | nil=>rfl
 | cons kv svs ih =>
  rw [Yr,Yl,not_or] at h
  rw [ZO (λe=>h.1 e.symm)]
  exact ih h.2
def Zex(pt C:Addr):Sp:=λvs H Q _=>∃ (x:V) (rs:List (Nat × Rat)) (d:Addr) (o:Obj) (ss:List Str) (hf:Str->Nat),vs=[x,.ref d]/\Jp C H x rs/\H d=some (.frz o (.dK (hmL ss hf)))/\Place rs hf ss/\(∀ r∈rs,SzQ 110 r.2/\0<=r.2.num)/\Zd9 H pt "far_roads_first.<locals>.<lambda>" /\
 ∀ p H' svs ts js,H p=none->Zk H H'->H' p=some (.dK svs)->ShV H' svs ts (evq rs hf ss js)->ts.Nodup->(∀ z,z∈ts ↔ z∈ss)->ts=evO js js.length->ZI rs hf (csT rs hf ss) ss js->(∀ z∈ss,z∈js.flatten)->Q (.ref p) H'
def Pev(H0 H5:Hp)(x:V)(d p p5:Addr)(rs:List (Nat × Rat))(hf:Str->Nat)(ss:List Str)(js:List (List Str))(T:List Str)(M:Str->Prop)(σ:St)(H:Hp):Prop:=∃ (o1 o2 o3:Option V) (svs:List (ZQ × V)) (ts:List Str),σ=[some x,some (.ref d),some (.ref p),o1,o2,o3]/\Zk H0 H/\(∀ b ob,b ≠ p->H5 b=some ob->H b=some ob)/\H p=some (.dK svs)/\ShV H svs ts (evq rs hf ss js)/\ts.Nodup/\(∀ z,z∈ts ↔ M z)/\ts=T
def Zh7(F:Fun K "evenest" "evenest" Zdl f fd)(Ze1:Fn P w K mg base ZC 11 "stairs" ["tree","homes"] (ZfS pt CT)):FnOk P w K mg base ZC 12 f fd ["tree","homes"] (Zex pt CT):=by
 refine JU F Zbn λcdv A outer s H vs Q E hr h=>?_
 obtain⟨x,rs,d,o,ss,hf,rfl,hT,hd,hp,hz,hTb,q⟩:=h
 refine⟨_,(Zc (Zn 2 Zbn.nd ZdT)
   (Zc (Jq Yq (Jg (Jn Ze1 hr (Zl (Ze 0) (Zl (Ze 1) Zb)))) (ZnC (n:=2) (ZcX (ZE 3 Zbn.nd) (ZcX (ZE 4 Zbn.nd) ZjB))) (Zj (Jq Yq (Jg (Ze 3)) (ZE 5 Zbn.nd) (Zj (Jy (ZnW (Ze 2) (Ze 5) (Ze 4)))))))
   (Zj (ZF (Ze 2))))),?_⟩
 rw [show Zu ["tree","homes","shares","group","share","name"] [x,.ref d]=[some (x),some (.ref d),none,none,none,none] from rfl]
 walk_at "rd"
 intro p H1 hp1 s1 e1
 rw [Z9]
 walk_at "rd"
 refine⟨x,rs,d,o,ss,hf,rfl,hT.same s1,s1 _ _ hd,hp,hz,(let ⟨t,ht⟩:=hTb; ⟨t,s1 _ _ ht⟩),λp5 H5 xs js hp5 s5 e5 hTo hCh hcov=>?_⟩
 have hfew:=hp.few
 have hne5:p5 ≠ p:=(Zm e1 hp5).symm
 refine Ji (xs:=xs) (λi=>Pev H H5 x d p p5 rs hf ss js (evO js i) (λz=>z∈Zi js i)) ⟨_,_,_,[],[],rfl,s1.trans s5,λ_ _ _ z=>z,s5 _ _ e1,⟨rfl,λi z h=>by simp at h⟩,List.nodup_nil,(λz=>by simp [Zi]),rfl⟩ (λi σ H' _ ⟨_,_,_,_,_,_,_,k,_⟩=>.of (k _ _ hne5 e5)) (λi y σ H6 hi hPv=>?_) (λσ H6 hPv=>?_)
 ·obtain⟨o1,o2,o3,svs,ts,rfl,s6,k6,e6,hS,htn,htm,hto⟩:=hPv
  have hij:i < js.length:=by rw [<- hTo.1]; exact (Ye.mp hi).1
  have hJ:=Yb hij
  obtain⟨t,g,yv,rfl,et,eg,_,hg0,ry⟩:=hTo.2 i y hi
  have hgp:g ≠ p:=λz=>by rw [z,e1] at hg0; cases hg0
  have htp:t ≠ p:=λz=>by rw [z,s5 _ _ e1] at et; cases et
  have ry6:Jd H6 yv (shr rs hf (csT rs hf ss) (botL rs hf ss) js i):=by
   obtain⟨py,rfl,hy⟩:=ry
   exact⟨py,rfl,k6 _ _ (λz=>by rw [z,s5 _ _ e1] at hy; cases hy) hy⟩
  walk_at "rd"
  refine⟨_,k6 _ _ htp et,rfl,_,_,rfl,_,_,rfl,rfl,?_⟩
  rw [Z9]
  walk_at "rd"
  obtain⟨fn1,fs1⟩:=hCh.flat (i + 1) (by omega)
  have hfl:(Zi js (i + 1)).length<=ss.length:=YS fn1 fs1
  refine Ji (xs:=(srt (Zi js (i + 1))).map V.str) (λj σ H'=>(∃ o3,σ=[some x,some (.ref d),some (.ref p),some (.ref g),some yv,o3])/\Jd H' yv (shr rs hf (csT rs hf ss) (botL rs hf ss) js i)/\Pev H H5 x d p p5 rs hf ss js (((srt (Zi js (i + 1))).take j).foldl ZoW (evO js i)) (λz=>z∈Zi js i\/z∈(srt (Zi js (i + 1))).take j) σ H') ⟨⟨_,rfl⟩,ry6,_,_,_,svs,ts,rfl,s6,k6,e6,hS,htn,(λz=>by rw [htm]; simp),hto⟩ (λj σ H' _ hP=>?_) (λj v σ H7 hj hP=>?_) (λσ H7 hP=>?_)
  ·obtain⟨_,_,_,_,_,_,_,_,_,k,_⟩:=hP
   exact .of (k _ _ hgp eg)
  ·obtain⟨⟨o3,rfl⟩,ry7,o1',o2',o3',svs,ts,e,s7,k7,e7,hS,htn,htm,hto⟩:=hP
   cases e
   rw [Yg] at hj
   obtain⟨z,hz',rfl⟩:=YT.mp hj
   have hzf:z∈Zi js (i + 1):=(ZaH _).mem_iff.mp (Ym hz')
   have tk:∀ y,y∈(srt (Zi js (i + 1))).take (j + 1) ↔ y∈(srt (Zi js (i + 1))).take j\/y=z:=λy=>by rw [List.take_add_one,hz',List.mem_append]; simp
   have htl:ts.length<=ss.length:=YS htn λy hy=>by
    rcases (htm y).mp hy with h | h
    ·exact fs1 y (by rw [ZaM hJ]; exact VT _ h)
    ·exact fs1 y ((ZaH _).mem_iff.mp (List.mem_of_mem_take h))
   have hsl:=hS.1
   have hto1:((srt (Zi js (i + 1))).take (j + 1)).foldl ZoW (evO js i)=ZoW ts z:=by rw [YB,hz',List.foldl_append,<- hto]; rfl
   walk_at "rd"
   have hin:∀ v,Z8 svs (Sum.inr z)=some v->z∈ts:=λv hv=>Vb λc=>by
    rw [Zh6 (by rw [hS.keys]; intro h; obtain⟨y,hy,e⟩:=Yk.mp h; injection e with e; exact c (e ▸ hy))] at hv
    cases hv
   refine⟨⟨_,e7⟩,svs,e7,.inr z,rfl,by omega,λv hv=>⟨ry7,_,_,_,svs,ts,rfl,s7,k7,e7,hS,htn,λy=>?_,by rw [hto1]; unfold ZoW; rw [if_pos (hin v hv)]⟩,λhv=>?_⟩
   ·rw [htm y]
    dsimp only
    rw [tk y]
    constructor
    ·exact λh=>h.elim .inl λh=>.inr (.inl h)
    ·rintro (h | h | h)
     ·exact .inl h
     ·exact .inr h
     ·subst h; exact (htm _).mp (hin v hv)
   ·have hzt:z ∉ ts:=λc=>by obtain⟨v,hv2,_⟩:=hS.val htn z c; rw [hv] at hv2; cases hv2
    have hzi:z∈js[i]:=by
     rw [ZaM hJ] at hzf
     exact (YA.mp hzf).resolve_left λc=>hzt ((htm z).mpr (.inl c))
    have kt:∀ b ws,H7 b=some (.tup ws)->upd H7 p (.dK (Jj svs (.inr z) yv)) b=some (.tup ws):=λb ws hb=>by rw [Zg (JF hb e7 (by intro q; cases q))]; exact hb
    have hq:evq rs hf ss js z=shr rs hf (csT rs hf ss) (botL rs hf ss) js i:=by unfold evq; rw [Zej hCh hJ hzi]
    refine⟨ry7.keep kt,_,_,_,Jj svs (.inr z) yv,ts ++ [z],rfl,Zo hp1 s7,λb ob hb h5=>by rw [Zg hb]; exact k7 b ob hb h5,Zf,(hS.snoc hzt (by rw [hq]; exact ry7)).keep kt,List.nodup_append.mpr ⟨htn,by simp,λa ha b hb e=>by rw [List.mem_singleton.mp hb] at e; exact hzt (e ▸ ha)⟩,λy=>?_,by rw [hto1]; unfold ZoW; rw [if_neg hzt]⟩
    dsimp only
    rw [YA,YY,htm y,tk y]
    exact or_assoc
  ·obtain⟨⟨o3,rfl⟩,ry7,o1',o2',o3',svs,ts,e,s7,k7,e7,hS,htn,htm,hto⟩:=hP
   cases e
   refine⟨_,_,_,svs,ts,rfl,s7,k7,e7,hS,htn,λz=>(htm z).trans ?_,by rw [hto,Yf,Y2]; rfl⟩
   dsimp only
   rw [Yf,Y2,(ZaH _).mem_iff,ZaM hJ,YA]
   exact⟨λh=>h.elim .inl id,.inr⟩
 ·obtain⟨o1,o2,o3,svs,ts,rfl,s6,k6,e6,hS,htn,htm,hto⟩:=hPv
  walk_at "rd"
  rw [hTo.1,Zbd] at htm
  exact q p H6 svs ts js hp1 s6 e6 hS htn (λz=>(htm z).trans ⟨λh=>by rw [<- Zbd] at h; exact (hCh.flat _ (Yd _)).2 z h,hcov z⟩) (by rw [hto,hTo.1]) hCh hcov
section
variable {rs:List (Nat × Rat)}{hf:Str->Nat}{ss:List Str}{js:List (List Str)}
def Zel(h:ZI rs hf cs ss js)(hc:∀ z∈ss,z∈js.flatten){z:Str}(hz:z∈ss):∃ hi:JZ js z < js.length,z∈js[JZ js z]:=by
 obtain⟨J,hJ,hzJ⟩:=List.mem_flatten.mp (hc z hz)
 obtain⟨i,hi⟩:=YC hJ
 have e:=Zej h hi hzJ
 obtain⟨h1,h2⟩:=Ye.mp hi
 subst e
 exact⟨h1,by rw [h2]; exact hzJ⟩
def Zf6(h:ZI rs hf cs ss js)(hc:∀ z∈ss,z∈js.flatten){z:Str}(hz:z∈ss){i:Nat}:z∈Zi js i ↔ JZ js z < i:=by
 obtain⟨h1,h2⟩:=Zel h hc hz
 unfold Zi
 constructor
 ·intro hm
  obtain⟨J,hJ,hzJ⟩:=List.mem_flatten.mp hm
  obtain⟨j,hj⟩:=YC hJ
  rw [List.getElem?_take] at hj
  split at hj
  ·rename_i c
   rw [Zej h hj hzJ]
   exact c
  ·cases hj
 ·intro hl
  refine List.mem_flatten.mpr ⟨_,Ym (i:=JZ js z) ?_,h2⟩
  rw [List.getElem?_take,if_pos hl]
  exact Yb h1
def ZjD(n:Nat)(h1:0 < n)(h2:n<=12):n * (27720 / n)=27720:=(show ∀ n∈List.range 13,0 < n->n * (27720 / n)=27720 by decide) n (YD.mpr (by omega)) h1
noncomputable def shm(rs:List (Nat × Rat))(hf:Str->Nat)(cs:Nat->Int)(js:List (List Str))(i:Nat):Int:=cst rs hf (csG rs hf cs (Zi js i)) (js.getD i []) * ((27720 / (js.getD i []).length:Nat):Int)
def Zci{B i:Nat}(hB0:0 < B)(hJ:js[i]?=some J)(hl:J ≠ [])(hlen:J.length<=12):shr rs hf cs B js i=Zp (B * 27720) (shm rs hf cs js i):=by
 have e:js.getD i []=J:=by rw [List.getD_eq_getElem?_getD,hJ]; rfl
 have l1:=List.length_pos_iff.mpr hl
 have d:=ZjD J.length l1 hlen
 have hq:0 < 27720 / J.length:=Nat.pos_of_ne_zero λc=>by rw [c] at d; simp at d
 unfold shr Zp shm
 rw [e,show (((B * 27720:Nat)):Int)=((B:Int) * (J.length:Int)) * ((27720 / J.length:Nat):Int) by rw [<- d]; simp only [Int.natCast_mul]; rw [Int.mul_assoc,d]]
 exact (VS (by omega)).symm
def ZfL(l:List α)(q:Rat):Zcp (l.map λ_=>q)=q * ((l.length:Int):Rat):=by
 induction l with
 | nil=>exact (Rat.mul_zero q).symm
 | cons x l ih =>
  rw [Yr,ZdH,ih,YV,Int.natCast_add,Rat.intCast_add,Rat.mul_add,Rat.add_comm]
  congr 1
  exact (Rat.mul_one q).symm
def ZkL(hB0:0 < B)(h:ZI rs hf cs ss js):∀ i,i<=js.length->Zcp ((Zi js i).map λz=>shr rs hf cs B js (JZ js z))=Zp B (cst rs hf cs (Zi js i)):=by
 intro i
 induction i with
 | zero =>
  intro _
  have:cst rs hf cs (Zi js 0)=0:=by
   unfold cst Zi
   exact Za5 λk hk=>by obtain⟨x,hx,_⟩:=Zh.mp hk; simp at hx
  rw [this,Zcq]
  rfl
 | succ i ih =>
  intro hi
  have hJ:=Yb (show i < js.length by omega)
  rw [ZaM hJ,Y8,Zfb,ih (by omega),Zen,<- Zfe hB0]
  congr 1
  rw [YL (g:=λ_=>shr rs hf cs B js i) λz hz=>by rw [Zej h hJ hz],ZfL,ZiK hB0 hJ (h i _ hJ).2.ne]
def Zkm{M:Int}:∀ {ms:List Int},(∀ m∈ms,0<=m/\m<=M)->0<=ms.sum/\ms.sum<=M * ms.length
 | [],_=>by simp
 | m :: ms,h=>by
  have h1:=h m (.head _)
  have h2:=Zkm λx hx=>h x (.tail _ hx)
  rw [List.sum_cons,YV,Int.natCast_add,Int.mul_add]
  omega
theorem ZnX(hn:rs.length<=20)(hc:Zmu cs)(hB0:0 < B)(hB:B<=2 ^ 2200)(h:ZI rs hf cs ss js)(hcov:∀ z∈ss,z∈js.flatten)(hs:ss.length<=12){G:List Str}(hG:∀ z∈G,z∈ss)(hGl:G.length<=12):Zet (G.map λz=>shr rs hf cs B js (JZ js z)):=by
 have hBB:0 < B * 27720:=YI hB0 (by decide)
 have hBs:B * 27720 < 2 ^ 2600:=by
  have h1:B * 27720<=2 ^ 2200 * 2 ^ 15:=Y9 hB (by decide)
  rw [<- YG] at h1
  exact Ys h1 (Nat.pow_lt_pow_right (by decide) (by decide))
 have hm:∀ z∈ss,shr rs hf cs B js (JZ js z)=Zp (B * 27720) (shm rs hf cs js (JZ js z))/\0<=shm rs hf cs js (JZ js z)/\shm rs hf cs js (JZ js z)<=((2 ^ 2425:Nat):Int):=λz hz=>by
  obtain⟨h1,h2⟩:=Zel h hcov hz
  have hJ:=Yb h1
  obtain⟨_,hC⟩:=h _ _ hJ
  have hl:js[JZ js z].length<=12:=Yj (YS hC.nd λx hx=>(Z4.mp (hC.sub x hx)).1) hs
  obtain⟨c0,c1⟩:=Zfu (rs:=rs) (hf:=hf) (G:=js[JZ js z]) hn (ZeO (rs:=rs) (hf:=hf) hc (Zi js (JZ js z)))
  refine⟨Zci hB0 hJ hC.ne hl,?_⟩
  unfold shm
  rw [show js.getD (JZ js z) []=js[JZ js z] by rw [List.getD_eq_getElem?_getD,hJ]; rfl]
  refine⟨Int.mul_nonneg c0 (Int.natCast_nonneg _),?_⟩
  have d1:((27720 / js[JZ js z].length:Nat):Int)<=32768:=by have:=VJ 27720 js[JZ js z].length; omega
  have c2:cst rs hf (csG rs hf cs (Zi js (JZ js z))) js[JZ js z]<=((2 ^ 2410:Nat):Int):=by omega
  have e1:=Int.mul_le_mul_of_nonneg_left d1 c0
  have e2:=Int.mul_le_mul_of_nonneg_right c2 (show (0:Int)<=32768 by decide)
  have e3:((2 ^ 2425:Nat):Int)=((2 ^ 2410:Nat):Int) * 32768:=by rw [show (2425:Nat)=2410 + 15 from rfl,YG,YE]; rfl
  rw [e3]
  exact Int.le_trans e1 e2
 have eG:(G.map λz=>shr rs hf cs B js (JZ js z))=(G.map λz=>shm rs hf cs js (JZ js z)).map (Zp (B * 27720)):=by
  rw [Yw]
  exact YL λz hz=>(hm z (hG z hz)).1
 have hbox:∀ i,SzA (Zp (B * 27720) (((G.map λz=>shm rs hf cs js (JZ js z)).take i).sum)):=λi=>by
  obtain⟨b0,b1⟩:=Zkm (M:=((2 ^ 2425:Nat):Int)) (ms:=(G.map λz=>shm rs hf cs js (JZ js z)).take i) λm hm'=>by
   obtain⟨z,hz,rfl⟩:=Yk.mp (List.mem_of_mem_take hm')
   exact (hm z (hG z hz)).2
  have hl:(((G.map λz=>shm rs hf cs js (JZ js z)).take i).length:Int)<=16:=by rw [Yz,Yf]; omega
  have b2:=Int.mul_le_mul_of_nonneg_left hl (Int.natCast_nonneg (2 ^ 2425))
  have e3:(2:Nat) ^ 2430=2 ^ 2425 * 32:=by rw [show (2430:Nat)=2425 + 5 from rfl,YG]
  have e4:(0:Nat) < 2 ^ 2425:=Vw _
  refine szA hBB (Yy hBs (Y0 (by decide) (by decide))) (Ja (a:=2430) ?_ (by decide))
  rw [e3]
  generalize (2:Nat) ^ 2425=M at b1 b2 e4 ⊢
  omega
 rw [eG]
 refine⟨λi hi=>?_,λi q hq=>?_⟩
 ·rw [Zcr hBB _ i (by simpa using hi)]
  exact hbox i
 ·rw [Yg] at hq
  obtain⟨m,hm2,rfl⟩:=YT.mp hq
  obtain⟨z,hz,rfl⟩:=Yk.mp (Ym hm2)
  obtain⟨_,b0,b1⟩:=hm z (hG z hz)
  refine szA hBB (Yy hBs (Y0 (by decide) (by decide))) (Ja (a:=2426) ?_ (by decide))
  have e3:(2:Nat) ^ 2426=2 ^ 2425 * 2:=by rw [show (2426:Nat)=2425 + 1 from rfl,YG]
  have e4:(0:Nat) < 2 ^ 2425:=Vw _
  rw [e3]
  generalize (2:Nat) ^ 2425=M at b1 e4 ⊢
  omega
end
def Zjz(pt:Addr)(K:PySem.W.Frag):Sp:=λvs H Q _=>∃ (a:Addr) (ns:List Int),vs=[.ref a]/\JC K H a (ns.map V.int)/\Zd9 H pt "far_roads_first.<locals>.<lambda>"/\∀ H',Q (.bl true) H'
section
variable {rs:List (Nat × Rat)}{hf:Str->Nat}{cs:Nat->Int}{ss:List Str}{js js':List (List Str)}{B:Nat}{H H0 H0':Hp}{tl tl':Addr}{xs ys:List V}
end
def low(x:Int):Int:=if x < 0 then x else 0
theorem Zko(x:Int):low x<=x/\low x<=0:=by unfold low; split <;> omega
def Zlw{L:List Int}(h:L.Pairwise (·<=·)){k:Nat}(h0:0 < k)(hk:k<=L.length):∃ θ,(L.take k).sum=k * θ + sm L (λl=>low (l - θ)):=by
 refine⟨L[k - 1],?_⟩
 have hp:=List.pairwise_iff_getElem.mp h
 have e1:sm (L.take k) (λl=>low (l - L[k - 1]))=sm (L.take k) (λl=>l - L[k - 1]):=ZL λl hl=>by
  obtain⟨i,hi,rfl⟩:=VE hl
  rw [Yz] at hi
  rw [List.getElem_take]
  have:L[i]<=L[k - 1]:=by
   rcases Nat.eq_or_lt_of_le (show i<=k - 1 by omega) with e | e
   ·subst e; exact Int.le_refl _
   ·exact hp i (k - 1) (by omega) (by omega) e
  unfold low
  split <;> omega
 have e2:sm (L.drop k) (λl=>low (l - L[k - 1]))=0:=Za5 λl hl=>by
  obtain⟨i,hi,rfl⟩:=VE hl
  rw [List.length_drop] at hi
  rw [List.getElem_drop]
  have:=hp (k - 1) (k + i) (by omega) (by omega) (by omega)
  unfold low
  rw [if_neg (by omega)]
 have e3:sm L (λl=>low (l - L[k - 1]))=sm (L.take k) (λl=>low (l - L[k - 1])) + sm (L.drop k) (λl=>low (l - L[k - 1])):=by rw [<- Za1,Vq]
 rw [e3,e1,e2,Zch,Zbf,List.length_take,Nat.min_eq_left hk,show sm (L.take k) (λl=>l)=(L.take k).sum by unfold sm; rw [List.map_id'],Int.mul_comm]
 omega
def ZoD(L:List Int){k:Nat}(hk:k<=L.length)(θ:Int):k * θ + sm L (λl=>low (l - θ))<=(L.take k).sum:=by
 have e3:sm L (λl=>low (l - θ))=sm (L.take k) (λl=>low (l - θ)) + sm (L.drop k) (λl=>low (l - θ)):=by rw [<- Za1,Vq]
 have e1:sm (L.take k) (λl=>low (l - θ))<=sm (L.take k) (λl=>l - θ):=JX λl _=>(Zko _).1
 have e2:sm (L.drop k) (λl=>low (l - θ))<=sm (L.drop k) (λ_=>0):=JX λl _=>(Zko _).2
 rw [Za5 (λ_ _=>rfl)] at e2
 rw [Zch,Zbf,List.length_take,Nat.min_eq_left hk,show sm (L.take k) (λl=>l)=(L.take k).sum by unfold sm; rw [List.map_id'],Int.mul_comm] at e1
 omega
def Znr{X Y:Str->Int}{θ:Int}(h:sm (ss.filter λz=>decide (X z < θ)) Y<=sm (ss.filter λz=>decide (X z < θ)) X):sm ss (λz=>low (Y z - θ))<=sm ss (λz=>low (X z - θ)):=by
 have e1:sm ss (λz=>low (X z - θ))=sm (ss.filter λz=>decide (X z < θ)) (λz=>X z - θ):=by
  rw [Za2]
  refine ZL λz _=>?_
  unfold low
  by_cases c:X z < θ
  ·rw [if_pos (by omega),if_pos (by simpa using c)]
  ·rw [if_neg (by omega),if_neg (by simpa using c)]
 have e2:sm ss (λz=>low (Y z - θ))<=sm (ss.filter λz=>decide (X z < θ)) (λz=>Y z - θ):=by
  rw [Za2]
  refine JX λz _=>?_
  have:=Zko (Y z - θ)
  split
  ·exact this.1
  ·exact this.2
 rw [e1]
 refine Int.le_trans e2 ?_
 rw [Zch,Zch]
 omega
def Zie{X Y:Str->Int}{LX LY:List Int}(hT:∀ θ,sm ss (λz=>low (Y z - θ))<=sm ss (λz=>low (X z - θ)))(hX:LX.Perm (ss.map X))(hY:LY.Perm (ss.map Y))(hs:LY.Pairwise (·<=·)){k:Nat}(h0:0 < k)(hk:k<=ss.length):(LY.take k).sum<=(LX.take k).sum:=by
 obtain⟨θ,e⟩:=Zlw hs h0 (by rw [hY.length_eq,Yf]; exact hk)
 have h1:=ZoD LX (k:=k) (by rw [hX.length_eq,Yf]; exact hk) θ
 have eX:sm LX (λl=>low (l - θ))=sm ss (λz=>low (X z - θ)):=by rw [Zbb hX]; unfold sm; rw [List.map_map]; rfl
 have eY:sm LY (λl=>low (l - θ))=sm ss (λz=>low (Y z - θ)):=by rw [Zbb hY]; unfold sm; rw [List.map_map]; rfl
 have:=hT θ
 omega
def Zmz{lam:Nat->Int}(θ:Int):∀ m:Nat,(∀ i,i + 1 < m->lam i<=lam (i + 1))->∃ i,i<=m/\∀ j,j < m->(lam j < θ ↔ j < i)
 | 0,_=>⟨0,Yd _,λj hj=>absurd hj (VI j)⟩
 | m + 1,h=>by
  obtain⟨i,hi,hj⟩:=Zmz θ m λi hi=>h i (by omega)
  by_cases c:i=m/\lam m < θ
  ·refine⟨m + 1,Yd _,λj hj'=>⟨λ_=>hj',λ_=>?_⟩⟩
   rcases Nat.lt_or_ge j m with q | q
   ·exact (hj j q).mpr (by omega)
   ·rw [show j=m by omega]; exact c.2
  ·refine⟨i,by omega,λj hj'=>?_⟩
   rcases Nat.lt_or_ge j m with q | q
   ·exact hj j q
   ·have e:j=m:=by omega
    subst e
    refine⟨λz=>?_,λz=>absurd z (by omega)⟩
    rcases Nat.lt_or_ge i j with q1 | q1
    ·have h1:=h (j - 1) (by omega)
     rw [show j - 1 + 1=j by omega] at h1
     have h2:¬ lam (j - 1) < θ:=λq2=>by have:=(hj (j - 1) (by omega)).mp q2; omega
     omega
    ·exact absurd ⟨by omega,z⟩ c
theorem Zsv{js:List (List Str)}{lam:Nat->Int}{X Y:Str->Int}(hX:∀ (i:Nat) J,js[i]?=some J->∀ z∈J,X z=lam i)(hm:∀ i,i + 1 < js.length->lam i<=lam (i + 1))(hD:∀ i,i<=js.length->sm (Zi js i) Y<=sm (Zi js i) X) :
  ∀ i,i < js.length->lam i * (sm (Zi js (i + 1)) Y - sm (Zi js (i + 1)) X)<=sm (Zi js (i + 1)) (λz=>X z * (Y z - X z)):=by
 have one:∀ i (hi:i < js.length),sm (Zi js (i + 1)) (λz=>X z * (Y z - X z))=sm (Zi js i) (λz=>X z * (Y z - X z)) + lam i * (sm (Zi js (i + 1)) Y - sm (Zi js (i + 1)) X) - lam i * (sm (Zi js i) Y - sm (Zi js i) X):=λi hi=>by
  have hJ:=Yb hi
  rw [ZaM hJ,Za1,Za1,Za1]
  have:sm js[i] (λz=>X z * (Y z - X z))=lam i * (sm js[i] Y - sm js[i] X):=by
   rw [<- Zch,JH]
   exact ZL λz hz=>by rw [hX i _ hJ z hz]
  rw [this]
  rw [show sm (Zi js i) Y + sm js[i] Y - (sm (Zi js i) X + sm js[i] X)=(sm (Zi js i) Y - sm (Zi js i) X) + (sm js[i] Y - sm js[i] X) by omega,Int.mul_add]
  omega
 intro i
 induction i with
 | zero =>
  intro hi
  rw [one 0 hi]
  have:Zi js 0=[]:=rfl
  rw [this,ZbR,ZbR,ZbR]
  simp
 | succ i ih =>
  intro hi
  have h1:=ih (by omega)
  rw [one (i + 1) hi]
  have h2:=hD (i + 1) (by omega)
  have h3:=hm i hi
  have h4:0<=(lam (i + 1) - lam i) * (sm (Zi js (i + 1)) X - sm (Zi js (i + 1)) Y):=Int.mul_nonneg (by omega) (by omega)
  have h5:(lam (i + 1) - lam i) * (sm (Zi js (i + 1)) X - sm (Zi js (i + 1)) Y)=lam i * (sm (Zi js (i + 1)) Y - sm (Zi js (i + 1)) X) - lam (i + 1) * (sm (Zi js (i + 1)) Y - sm (Zi js (i + 1)) X):=by
   rw [Int.sub_mul,show sm (Zi js (i + 1)) X - sm (Zi js (i + 1)) Y=-(sm (Zi js (i + 1)) Y - sm (Zi js (i + 1)) X) by omega,Int.mul_neg,Int.mul_neg]
   omega
  omega
def ZnZ{X Y:Str->Int}(h:0<=sm ss (λz=>X z * (Y z - X z))):sm ss (λz=>X z * X z)<=sm ss (λz=>Y z * Y z)/\(sm ss (λz=>Y z * Y z)<=sm ss (λz=>X z * X z)->∀ z∈ss,X z=Y z):=by
 have e:sm ss (λz=>Y z * Y z)=sm ss (λz=>X z * X z) + sm ss (λz=>(Y z - X z) * (Y z - X z)) + sm ss (λz=>X z * (Y z - X z)) + sm ss (λz=>X z * (Y z - X z)):=by
  rw [<- Zcs,<- Zcs,<- Zcs]
  refine ZL λz _=>?_
  simp only [Int.mul_sub,Int.sub_mul]
  rw [Int.mul_comm (Y z) (X z)]
  omega
 have hq:∀ z∈ss,0<=(Y z - X z) * (Y z - X z):=λz _=>by
  rcases Int.le_total 0 (Y z - X z) with c | c
  ·exact Int.mul_nonneg c c
  ·exact Int.mul_nonneg_of_nonpos_of_nonpos c c
 have h0:=Zd1 hq
 refine⟨by omega,λh2 z hz=>?_⟩
 have h3:=Zft hq hz
 have h4:(Y z - X z) * (Y z - X z)=0:=by have:=hq z hz; omega
 rcases Int.mul_eq_zero.mp h4 with c | c <;> omega
structure Good(rs:List (Nat × Rat))(hf:Str->Nat)(ss:List Str)(D:Nat)(Y:Str->Int):Prop where
 d0:0 < D
 d1:D<=2 ^ 2223
 y0:∀ z∈ss,0<=Y z
 y1:∀ z∈ss,Y z<=((2 ^ 2340:Nat):Int)
 le:∀ G:List Str,G.Nodup->(∀ z∈G,z∈ss)->sm G Y * (botL rs hf ss:Int)<=cst rs hf (csT rs hf ss) G * (D:Int)
 all:sm ss Y * (botL rs hf ss:Int)=cst rs hf (csT rs hf ss) ss * (D:Int)
theorem ZaD{B c:Nat}(hc:0 < c)(m:Int):Zp (B * c) (m * (c:Int))=Zp B m:=by
 unfold Zp
 rw [YE]
 exact VS (by omega)
section
variable {rs:List (Nat × Rat)}{hf:Str->Nat}{ss:List Str}{js:List (List Str)}{D:Nat}{Y:Str->Int}
def ZjF(hB0:0 < B)(hs:ss.length<=12)(h:ZI rs hf cs ss js){i:Nat}(hi:i<=js.length):sm (Zi js i) (λz=>shm rs hf cs js (JZ js z))=cst rs hf cs (Zi js i) * 27720:=by
 have e:=ZkL hB0 h i hi
 have e2:(Zi js i).map (λz=>shr rs hf cs B js (JZ js z))=(Zi js i).map λz=>Zp (B * 27720) (shm rs hf cs js (JZ js z)):=YL λz hz=>by
  unfold Zi at hz
  obtain⟨J,hJ,hzJ⟩:=List.mem_flatten.mp hz
  obtain⟨j,hj⟩:=YC (List.mem_of_mem_take hJ)
  rw [Zej h hj hzJ]
  obtain⟨_,hC⟩:=h _ _ hj
  exact Zci hB0 hj hC.ne (Yj (YS hC.nd λx hx=>(Z4.mp (hC.sub x hx)).1) hs)
 rw [e2,Zgf (YI hB0 (by decide)),<- ZaD (B:=B) (c:=27720) (by decide)] at e
 exact Zlj (B:=B * 27720) (YI hB0 (by decide)) e
theorem ZmM(hp:Place rs hf ss){cs:Nat->Int}(hs:ss.length<=12)(h:ZI rs hf cs ss js){i:Nat}(hi:i + 1 < js.length):shm rs hf cs js i<=shm rs hf cs js (i + 1):=by
 have h1:=Zpv (B:=1) hp (by decide) h hi
 have sz:∀ j (hj:j < js.length),js[j] ≠ []/\js[j].length<=12:=λj hj=>by
  obtain⟨_,hC⟩:=h _ _ (Yb hj)
  exact⟨hC.ne,Yj (YS hC.nd λx hx=>(Z4.mp (hC.sub x hx)).1) hs⟩
 rw [Zci (B:=1) (by decide) (Yb (show i < js.length by omega)) (sz i (by omega)).1 (sz i (by omega)).2,Zci (B:=1) (by decide) (Yb hi) (sz _ hi).1 (sz _ hi).2,ZcY (B:=1 * 27720) (by decide)] at h1
 omega
noncomputable def evX(rs:List (Nat × Rat))(hf:Str->Nat)(ss:List Str)(js:List (List Str))(D:Nat)(z:Str):Int:=shm rs hf (csT rs hf ss) js (JZ js z) * (D:Int)
noncomputable def gdY(rs:List (Nat × Rat))(hf:Str->Nat)(ss:List Str)(Y:Str->Int)(z:Str):Int:=Y z * ((botL rs hf ss * 27720:Nat):Int)
theorem ZmQ(l:List Str):sm l (gdY rs hf ss Y)=sm l Y * (botL rs hf ss:Int) * 27720:=by
 rw [Int.mul_assoc,Int.mul_comm,JH]
 refine ZL λz _=>?_
 unfold gdY
 rw [Int.mul_comm,YE]
 rfl
theorem Zm3(hB0:0 < botL rs hf ss)(hs:ss.length<=12)(h:ZI rs hf (csT rs hf ss) ss js){i:Nat}(hi:i<=js.length):sm (Zi js i) (evX rs hf ss js D)=cst rs hf (csT rs hf ss) (Zi js i) * (D:Int) * 27720:=by
 have e:=ZjF hB0 hs h hi
 have:sm (Zi js i) (evX rs hf ss js D)=(D:Int) * sm (Zi js i) (λz=>shm rs hf (csT rs hf ss) js (JZ js z)):=by
  rw [JH]
  refine ZL λz _=>?_
  unfold evX
  rw [Int.mul_comm]
 rw [this,e,Int.mul_comm _ (D:Int),Int.mul_assoc]
theorem ZjT(hB0:0 < botL rs hf ss)(hs:ss.length<=12)(h:ZI rs hf (csT rs hf ss) ss js)(hg:Good rs hf ss D Y){i:Nat}(hi:i<=js.length):sm (Zi js i) (gdY rs hf ss Y)<=sm (Zi js i) (evX rs hf ss js D):=by
 obtain⟨f1,f2⟩:=h.flat i hi
 have h1:=hg.le _ f1 f2
 rw [ZmQ,Zm3 hB0 hs h hi]
 exact Int.mul_le_mul_of_nonneg_right h1 (by decide)
def Zoe(hp:Place rs hf ss)(hB0:0 < botL rs hf ss)(hs:ss.length<=12)(h:ZI rs hf (csT rs hf ss) ss js)(hc:∀ z∈ss,z∈js.flatten)(hg:Good rs hf ss D Y):sm (Zi js js.length) (gdY rs hf ss Y)=sm (Zi js js.length) (evX rs hf ss js D):=by
 obtain⟨f1,f2⟩:=h.flat js.length (Yd _)
 have hm:∀ z,z∈Zi js js.length ↔ z∈ss:=λz=>⟨f2 z,λq=>by rw [Zbd]; exact hc z q⟩
 rw [ZmQ,Zm3 hB0 hs h (Nat.le_refl _),show cst rs hf (csT rs hf ss) (Zi js js.length)=cst rs hf (csT rs hf ss) ss by unfold cst; rw [ZnF hm],<- hg.all,Zbb ((List.perm_ext_iff_of_nodup f1 hp.nd).mpr hm)]
def Zp8(hp:Place rs hf ss)(hB0:0 < botL rs hf ss)(hs:ss.length<=12)(h:ZI rs hf (csT rs hf ss) ss js)(hc:∀ z∈ss,z∈js.flatten)(hg:Good rs hf ss D Y)(θ:Int):sm ss (λz=>low (gdY rs hf ss Y z - θ))<=sm ss (λz=>low (evX rs hf ss js D z - θ)):=by
 have hD:=hg.d0
 obtain⟨i,hi,hj⟩:=Zmz (lam:=λi=>shm rs hf (csT rs hf ss) js i * (D:Int)) θ js.length λi hi=>Int.mul_le_mul_of_nonneg_right (ZmM hp hs h hi) (by omega)
 obtain⟨f1,f2⟩:=h.flat i hi
 refine Znr ?_
 have hpm:(ss.filter λz=>decide (evX rs hf ss js D z < θ)).Perm (Zi js i):=(List.perm_ext_iff_of_nodup (hp.nd.filter _) f1).mpr λz=>by
  rw [Yu]
  constructor
  ·rintro⟨a,b⟩
   exact (Zf6 h hc a).mpr ((hj _ (Zel h hc a).1).mp (YN b))
  ·intro q
   have a:=f2 z q
   exact⟨a,YR ((hj _ (Zel h hc a).1).mpr ((Zf6 h hc a).mp q))⟩
 rw [Zbb hpm,Zbb hpm]
 exact ZjT hB0 hs h hg hi
def ZrF(hp:Place rs hf ss)(hB0:0 < botL rs hf ss)(hs:ss.length<=12)(h:ZI rs hf (csT rs hf ss) ss js)(hc:∀ z∈ss,z∈js.flatten)(hg:Good rs hf ss D Y):0<=sm ss (λz=>evX rs hf ss js D z * (gdY rs hf ss Y z - evX rs hf ss js D z)):=by
 have hD:=hg.d0
 obtain⟨f1,f2⟩:=h.flat js.length (Yd _)
 have hm:∀ z,z∈Zi js js.length ↔ z∈ss:=λz=>⟨f2 z,λq=>by rw [Zbd]; exact hc z q⟩
 rw [<- Zbb ((List.perm_ext_iff_of_nodup f1 hp.nd).mpr hm)]
 cases e:js.length with
 | zero=>rw [show Zi js 0=[] from rfl,ZbR]; exact Int.le_refl _
 | succ n =>
  have:=Zsv (js:=js) (lam:=λi=>shm rs hf (csT rs hf ss) js i * (D:Int)) (X:=evX rs hf ss js D) (Y:=gdY rs hf ss Y) (λi J hJ z hz=>by unfold evX; rw [Zej h hJ hz]) (λi hi=>Int.mul_le_mul_of_nonneg_right (ZmM hp hs h hi) (by omega)) (λi hi=>ZjT hB0 hs h hg hi) n (by omega)
  have e2:=Zoe hp hB0 hs h hc hg
  rw [e] at e2
  rw [e2,Int.sub_self,Int.mul_zero] at this
  exact this
end
def ZhU{ps:List Rat}{y:Rat}(h:ps.Pairwise (·<=·))(h1:∀ r∈ps.take n,r<=y)(h2:∀ r∈ps.drop n,y<=r):(ps.take n ++ y :: ps.drop n).Pairwise (·<=·):=by
 refine List.pairwise_append.mpr ⟨h.sublist (List.take_sublist _ _),List.pairwise_cons.mpr ⟨h2,h.sublist (List.drop_sublist _ _)⟩,λa ha b hb=>?_⟩
 rcases Yl.mp hb with e | hb
 ·rw [e]; exact h1 a ha
 ·exact Rat.le_trans (h1 a ha) (h2 b hb)
def ZlC(h:Jt H xs qs)(hx:Jd H x q):Jt H (xs.take n ++ x :: xs.drop n) (qs.take n ++ q :: qs.drop n):=by
 refine⟨by simp [h.1],λj v r h1 h2=>?_⟩
 have hl:(xs.take n).length=(qs.take n).length:=by simp [h.1]
 rw [List.getElem?_append] at h1 h2
 rw [hl] at h1
 split at h1
 ·rename_i c
  rw [if_pos c] at h2
  rw [Yz] at c
  rw [List.getElem?_take,if_pos (by omega)] at h1 h2
  exact h.2 j v r h1 h2
 ·rename_i c
  rw [if_neg c] at h2
  cases e:j - (qs.take n).length with
  | zero =>
   rw [e] at h1 h2
   cases h1
   cases h2
   exact hx
  | succ k =>
   rw [e,List.getElem?_cons_succ,List.getElem?_drop] at h1 h2
   exact h.2 _ v r h1 h2
def Zhr:Sp:=λvs H Q _=>∃ (a:Addr) (xs:List V) (qs:List Rat),vs=[.ref a]/\H a=some (.lst xs)/\Jt H xs qs/\xs.length < 100/\(∀ q∈qs,SzA q)/\∀ p H' ys ps,H p=none->Zk H H'->H' p=some (.lst ys)->Jt H' ys ps->ps.Perm qs->ps.Pairwise (·<=·)->Q (.ref p) H'
def Pio(H0:Hp)(a p:Addr)(qs:List Rat)(i:Nat)(σ:St)(H:Hp):Prop:=∃ (o1 o2:Option V) (ys:List V) (ps:List Rat),σ=[some (.ref a),some (.ref p),o1,o2]/\Zk H0 H/\H p=some (.lst ys)/\Jt H ys ps/\ps.Perm (qs.take i)/\ps.Pairwise (·<=·)
def Pwh(a p:Addr)(x:V)(y:Rat)(ps:List Rat)(H:Hp)(σ:St)(H':Hp):Prop:=∃ n:Nat,σ=[some (.ref a),some (.ref p),some x,some (.int n)]/\H'=H/\n<=ps.length/\∀ (j:Nat) r,n<=j->ps[j]?=some r->y < r
def Zlc(F:Fun K "_law_in_order" "_law_in_order" Zbg f fd)(ZA:mg "len"=none)(Zav:Fn P w K mg base ZC 1 "_law_under" ["_law_one","_law_other"] ZdZ):FnOk P w K mg base ZC 2 f fd ["_law_some"] Zhr:=by
 refine JU F Zap λcdv A outer s H vs Q E hr h=>?_
 obtain⟨a,xs,qs,rfl,ha,hR,hl,hz,q⟩:=h
 refine⟨_,(Zc (Zn 1 Zap.nd (JD Zb))
   (Zc (Jq Yq (Jg (Ze 0)) (ZE 2 Zap.nd) (Zc (Zn 3 Zap.nd (Ju rfl ZA (Zl (Ze 1) Zb)))
   (Zc (Zb1 Yq (t_w (ZrH (Zoc (Ze 3) Zd) (Zqt (JR (Jn Zav hr (Zl (Ze 2) (Zl (ZX (Ze 1) (Zea (Ze 3) Zd)) Zb))))))) (Zj (Zn 3 Zap.nd (Zea (Ze 3) Zd))))
   (Zj (Jy (ZrW (Ze 1) (Zl (Ze 3) (Zl (Ze 2) Zb))))))))
   (Zj (ZF (Ze 1))))),?_⟩
 rw [show Zu ["_law_some","_law_row","_law_one","_law_at"] [.ref a]=[some (.ref a),none,none,none] from rfl]
 walk_at "rd"
 intro p H1 hp s1 e1
 simp only [Z9]
 walk_at "rd"
 have hql:qs.length=xs.length:=hR.1.symm
 refine Ji (xs:=xs) (Pio H a p qs) ⟨_,_,[],[],rfl,s1,e1,⟨rfl,λj x q h=>by simp at h⟩,by simp,List.Pairwise.nil⟩ (λi σ H' _ ⟨_,_,_,_,_,sm,_⟩=>.of (sm _ _ ha)) (λi x σ H2 hi hP=>?_) (λσ H2 hP=>?_)
 ·obtain⟨o1,o2,ys,ps,rfl,s2,e2,hY,hpm,hso⟩:=hP
  have hil:i < qs.length:=by rw [hql]; exact (Ye.mp hi).1
  have hqi:=Yb hil
  have hx:=(hR.2 i _ _ hi hqi).same s2
  have hyl:ys.length=ps.length:=hY.1
  have hpl:ps.length=i:=by rw [hpm.length_eq,Yz]; omega
  have hpz:∀ q∈ps,SzA q:=λq hq=>hz q (List.mem_of_mem_take (hpm.subset hq))
  have hxz:SzA qs[i]:=hz _ (YQ hil)
  walk_at "rd"
  refine⟨ys,.inl e2,?_⟩
  refine Zce (Pwh a p x qs[i] ps H2) (λσ _=>(Zi0 σ 3).toNat) ⟨_,rfl,rfl,by omega,λj r hj hr=>by have:=(Ye.mp hr).1; omega⟩ ?_
  rintro σ H' ⟨n,rfl,rfl,hn,hgt⟩
  have fin:(∀ (j:Nat) r,j < n->ps[j]?=some r->r<=qs[i])->Pio H a p qs (i + 1) [some (V.ref a),some (V.ref p),some x,some (V.int n)] (upd H' p (HO.lst (List.take (n:Int).toNat ys ++ x :: List.drop (n:Int).toNat ys))):=λhle=>by
   rw [Y1]
   refine⟨_,_,_,ps.take n ++ qs[i] :: ps.drop n,rfl,Zo hp s2,Zf,(ZlC hY hx).keep λb zs hb=>?_,?_,ZhU hso (λr hr=>?_) λr hr=>?_⟩
   ·rw [Zg λz=>by rw [z,e2] at hb; cases hb]; exact hb
   ·refine List.perm_middle.trans ?_
    rw [Vq,YB,hqi]
    exact (hpm.cons _).trans (List.perm_append_singleton _ _).symm
   ·obtain⟨j,hj⟩:=YC hr
    rw [List.getElem?_take] at hj
    split at hj
    ·exact hle j r (by assumption) hj
    ·cases hj
   ·obtain⟨j,hj⟩:=YC hr
    rw [List.getElem?_drop] at hj
    exact Rat.le_of_lt (hgt _ r (by omega) hj)
  walk_at "rd"
  refine JI (λc=>?_) (λc=>?_)
  ·have hj:n - 1 < ps.length:=by omega
   have hpj:=Yb hj
   have hyj:=Yb (show n - 1 < ys.length by omega)
   refine⟨ys,e2,ys[n - 1],?_,x,ys[n - 1],qs[i],ps[n - 1],rfl,hx,hY.2 _ _ _ hyj hpj,hxz,hpz _ (YQ hj),_,rfl,?_⟩
   ·rw [show (n:Int) - 1=((n - 1:Nat):Int) by omega]
    exact ZP hyj
   ·split
    ·rename_i d
     have d:=YN d
     refine⟨_,λσ' H' z=>z,n - 1,?_,?_,n - 1,?_,rfl,by omega,λj r hj' hr=>?_⟩
     ·show n - 1 < (n:Int).toNat; omega
     ·show n - 1=((n:Int) - 1).toNat; omega
     ·rw [show (n:Int) - 1=((n - 1:Nat):Int) by omega]
     ·rcases Nat.lt_or_ge j n with q1 | q1
      ·rw [show j=n - 1 by omega,hpj] at hr
       cases hr
       exact d
      ·exact hgt j r q1 hr
    ·rename_i d
     have d:¬ qs[i] < ps[n - 1]:=λz=>d (YR z)
     refine⟨⟨_,e2⟩,ys,e2,by omega,by omega,by omega,fin λj r hj' hr=>?_⟩
     have h1:=Rat.not_lt.mp d
     rcases Nat.eq_or_lt_of_le (show j<=n - 1 by omega) with e | e
     ·subst e
      rw [hpj] at hr
      cases hr
      exact h1
     ·have hjl:=(Ye.mp hr)
      have:=List.pairwise_iff_getElem.mp hso j (n - 1) hjl.1 hj e
      rw [hjl.2] at this
      exact Rat.le_trans this h1
  ·exact⟨⟨_,e2⟩,ys,e2,by omega,by omega,by omega,fin λj r hj=>by omega⟩
 ·obtain⟨o1,o2,ys,ps,rfl,s2,e2,hY,hpm,hso⟩:=hP
  walk_at "rd"
  exact q p H2 ys ps hp s2 e2 hY (by rw [VQ (by omega)] at hpm; exact hpm) hso
def Zjb{cp:St}{tt:TT}{H1:Hp}{Q:VK}(r:Nat->Bool)(hl:n < 1000)(ht:∀ z,z < n->∀ H' (k:Bool->Hp->Prop),Zk H1 H'->(∀ H2,Zk H' H2->k (r z) H2)->tt (some (V.int (z:Int)) :: cp) H' k)
  (q:∀ p H',H1 p=none->Zk H1 H'->H' p=some (.lst (Zw ((List.range n).filter r)))->Q (.ref p) H'):Zfz 1 cp (Itr 0 n) (Zc6 0) tt (Zo0 0) H1 Q:=by
 refine Zhi (λacc i ys H'=>Zk H1 H'/\H' acc=some (.lst ys)/\ys=Zw ((List.range i).filter r)/\i<=n)
  (λacc H2 hn sm e=>⟨sm,e,by simp [Zw],Nat.zero_le _⟩) (λacc i ys H2 ⟨sm,e,e2,hi⟩=>⟨e,?_⟩) (λacc i ys H2 os hn hi hP ol=>?_) (λacc ys H2 hn hP=>?_)
 ·rw [e2]
  unfold Zw
  rw [Yf]
  exact Ys (VC _ _) (by rw [List.length_range]; omega)
 ·obtain⟨sm,e,e2,_⟩:=hP
  obtain⟨o',rfl⟩:∃ o',os=[o']:=by match os,ol with | [o'],_=>exact⟨o',rfl⟩
  rw [Int.zero_add]
  refine⟨[some (V.int (i:Int))],rfl,rfl,ht i hi H2 _ sm λH3 s3=>?_⟩
  replace sm:=sm.trans s3
  replace e:=s3 _ _ e
  have tk:(List.range (i + 1)).filter r=(List.range i).filter r ++ (if r i=true then [i] else []):=by
   rw [List.range_succ,List.filter_append]
   congr 1
   by_cases c:r i=true
   ·rw [Yaf c,if_pos c]; rfl
   ·rw [Yag c,if_neg c]; rfl
  refine JI (λc=>⟨V.int (i:Int),rfl,e,Zo hn sm,Zf,?_,hi⟩) (λc=>⟨sm,e,?_,hi⟩)
  ·rw [tk,if_pos c,e2]; unfold Zw; rw [List.map_append]; rfl
  ·rw [tk,if_neg c,Vx,e2]
 ·obtain⟨sm,e,e2,_⟩:=hP
  subst e2
  exact q acc H2 hn sm e
noncomputable def csI(rs:List (Nat × Rat))(hf:Str->Nat)(ss:List Str)(i:Nat):Nat->Int:=λk=>if k<=i then csT rs hf ss k else 0
structure GoodI(rs:List (Nat × Rat))(hf:Str->Nat)(ss:List Str)(i:Nat)(D:Nat)(Y:Str->Int):Prop where
 d0:0 < D
 d1:D<=2 ^ (117 * i)
 y0:∀ z∈ss,0<=Y z
 y1:∀ z∈ss,Y z<=(D:Int) * (2 ^ 110 * (i:Int))
 le:∀ G:List Str,G.Nodup->(∀ z∈G,z∈ss)->sm G Y * (botL rs hf ss:Int)<=cst rs hf (csI rs hf ss i) G * (D:Int)
 all:sm ss Y * (botL rs hf ss:Int)=cst rs hf (csI rs hf ss i) ss * (D:Int)
section
variable {rs:List (Nat × Rat)}{hf:Str->Nat}{ss:List Str}
theorem Zhs(G:List Str):cst rs hf (csI rs hf ss 0) G=0:=Za5 λk hk=>by
 unfold csI
 have:=(Jb (Zh.mp hk)).1
 rw [if_neg (by omega)]
def ZjQ{G:List Str}:cst rs hf (csI rs hf ss rs.length) G=cst rs hf (csT rs hf ss) G:=ZL λk hk=>by
 unfold csI
 have:=(Jb (Zh.mp hk)).2
 rw [if_pos this]
def ZgV(i:Nat)(G:List Str):cst rs hf (csI rs hf ss (i + 1)) G=cst rs hf (csI rs hf ss i) G + if i + 1∈needL rs (G.map hf) then csT rs hf ss (i + 1) else 0:=by
 have e:cst rs hf (csI rs hf ss (i + 1)) G=sm (needL rs (G.map hf)) (λk=>csI rs hf ss i k + if k=i + 1 then csT rs hf ss k else 0):=ZL λk _=>by
  unfold csI
  by_cases c:k=i + 1
  ·subst c; rw [if_pos (Yd _),if_neg (by omega),if_pos rfl]; omega
  ·by_cases c2:k<=i
   ·rw [if_pos (by omega),if_pos c2,if_neg c]; omega
   ·rw [if_neg (by omega),if_neg c2,if_neg c]; rfl
 rw [e,Zcs]
 congr 1
 by_cases c:i + 1∈needL rs (G.map hf)
 ·rw [if_pos c,ZnG ZaL c]
 ·rw [if_neg c]
  exact Za5 λk hk=>by rw [if_neg λz:k=i + 1=>c (z ▸ hk)]
def Zop{S c D M uw t B:Int}(h1:S * B<=c * D)(h2:uw * B<=t * M)(hD:0<=D)(hM:0<=M):(S * M + D * uw) * B<=(c + t) * (D * M):=by
 have e1:=Int.mul_le_mul_of_nonneg_right h1 hM
 have e2:=Int.mul_le_mul_of_nonneg_left h2 hD
 have a1:(S * M + D * uw) * B=S * B * M + D * (uw * B):=by rw [Int.add_mul,Int.mul_assoc,Int.mul_comm M B,<- Int.mul_assoc,Int.mul_assoc D]
 have a2:(c + t) * (D * M)=c * D * M + D * (t * M):=by rw [Int.add_mul,<- Int.mul_assoc,Int.mul_left_comm t D M]
 omega
def Zni{S c D M uw t B:Int}(h1:S * B=c * D)(h2:uw * B=t * M):(S * M + D * uw) * B=(c + t) * (D * M):=by
 have a1:(S * M + D * uw) * B=S * B * M + D * (uw * B):=by rw [Int.add_mul,Int.mul_assoc,Int.mul_comm M B,<- Int.mul_assoc,Int.mul_assoc D]
 have a2:(c + t) * (D * M)=c * D * M + D * (t * M):=by rw [Int.add_mul,<- Int.mul_assoc,Int.mul_left_comm t D M]
 rw [a1,a2,h1,h2]
noncomputable def addR(rs:List (Nat × Rat))(hf:Str->Nat)(r:Nat)(q:Rat)(D W:Nat)(wz:Str->Int)(Y:Str->Int)(z:Str):Int:=Y z * ((W * q.den:Nat):Int) + if r∈wayL rs (hf z) then (D:Int) * (wz z * q.num) else 0
def Zje(hp:Place rs hf ss)(hz:∀ r∈rs,SzQ 110 r.2/\0<=r.2.num){i D W:Nat}{Y wz:Str->Int}(hi:i < rs.length)(hg:GoodI rs hf ss i D Y)(hW0:0 < W)(hW1:W<=2 ^ 7)(hw0:∀ z∈ss,i + 1∈wayL rs (hf z)->0<=wz z)
  (hw:(∃ z∈ss,i + 1∈wayL rs (hf z))->sm (ss.filter λz=>decide (i + 1∈wayL rs (hf z))) wz=W):GoodI rs hf ss (i + 1) (D * (W * (Zr rs (i + 1)).den)) (addR rs hf (i + 1) (Zr rs (i + 1)) D W wz Y):=by
 have hz1:∀ r∈rs,SzQ 110 r.2:=λr hr=>(hz r hr).1
 have hqs:=ZaX hz1 (i + 1)
 have hq0:0<=(Zr rs (i + 1)).num:=by
  unfold Zr
  rw [show i + 1 - 1=i by omega,Yb hi]
  exact (hz _ (YQ hi)).2
 have hpf:i + 1∈needL rs (ss.map hf)->csT rs hf ss (i + 1) * ((Zr rs (i + 1)).den:Int)=(Zr rs (i + 1)).num * (botL rs hf ss:Int):=λh=>by
  have e:=Zh3 hp hz1 (Zh.mp h)
  have hB:=(Zfr hp hz1).1
  have hd:=(Zr rs (i + 1)).den_pos
  rw [<- Ve (Zr rs (i + 1))] at e
  unfold Zp at e
  exact ((Rat.divInt_eq_divInt_iff (by omega) (by omega)).mp e).symm
 generalize Zr rs (i + 1)=q at hqs hq0 hpf
 have hd0:=q.den_pos
 have hMz:(0:Int) < ((W * q.den:Nat):Int):=by have:=YI hW0 hd0; omega
 have hD:=hg.d0
 -- what a group's users weigh
 have hsum:∀ G:List Str,sm G (addR rs hf (i + 1) q D W wz Y)=sm G Y * ((W * q.den:Nat):Int) + (D:Int) * (sm (G.filter λz=>decide (i + 1∈wayL rs (hf z))) wz * q.num):=λG=>by
  have e1:sm G (addR rs hf (i + 1) q D W wz Y)=sm G (λz=>((W * q.den:Nat):Int) * Y z) + sm G (λz=>if (decide (i + 1∈wayL rs (hf z)))=true then (D:Int) * (wz z * q.num) else 0):=by
   rw [<- Zcs]
   refine ZL λz _=>?_
   unfold addR
   rw [Int.mul_comm]
   simp only [decide_eq_true_eq]
  rw [e1,<- JH,<- Za2,Int.mul_comm]
  congr 1
  rw [Int.mul_comm (sm _ wz),JH,JH]
  exact ZL λz _=>by rw [Int.mul_comm (wz z)]
 have hneed:∀ G:List Str,(∀ z∈G,z∈ss)->(i + 1∈needL rs (G.map hf) ↔ ∃ z∈G,i + 1∈wayL rs (hf z)):=λG hG=>Zh.trans (hp.vils.need hG)
 refine⟨YI hD (YI hW0 hd0),?_,λz hzs=>?_,λz hzs=>?_,λG hGn hGs=>?_,?_⟩
 ·rw [show 117 * (i + 1)=117 * i + (7 + 110) by omega,YG,YG]
  exact Y9 hg.d1 (Y9 hW1 (Yp hqs.2))
 ·unfold addR
  have h1:=Int.mul_nonneg (hg.y0 z hzs) (Int.le_of_lt hMz)
  split
  ·rename_i c
   have:=Int.mul_nonneg (show (0:Int)<=D by omega) (Int.mul_nonneg (hw0 z hzs c) hq0)
   omega
  ·omega
 ·unfold addR
  have h1:=Int.mul_le_mul_of_nonneg_right (hg.y1 z hzs) (Int.le_of_lt hMz)
  have h2:(if i + 1∈wayL rs (hf z) then (D:Int) * (wz z * q.num) else 0)<=(D:Int) * (((W * q.den:Nat):Int) * 2 ^ 110):=by
   split
   ·rename_i c
    refine Int.mul_le_mul_of_nonneg_left ?_ (by omega)
    have hle:wz z<=(W:Int):=by
     rw [<- hw ⟨z,hzs,c⟩]
     exact Zft (λy hy=>by obtain⟨h1,h2⟩:=Yu.mp hy; exact hw0 y h1 (YN h2)) (Yu.mpr ⟨hzs,YR c⟩)
    have hqn:q.num<=2 ^ 110:=by have:=hqs.1; omega
    have a1:=Int.mul_le_mul_of_nonneg_right hle hq0
    have a2:=Int.mul_le_mul_of_nonneg_left hqn (show (0:Int)<=(W:Int) by omega)
    have a3:(W:Int)<=((W * q.den:Nat):Int):=by have:=Nat.le_mul_of_pos_right W hd0; omega
    have a4:=Int.mul_le_mul_of_nonneg_right a3 (show (0:Int)<=2 ^ 110 by decide)
    omega
   ·exact Int.mul_nonneg (by omega) (Int.mul_nonneg (Int.le_of_lt hMz) (by decide))
  have e3:((D * (W * q.den):Nat):Int) * (2 ^ 110 * ((i + 1:Nat):Int))=(D:Int) * (2 ^ 110 * (i:Int)) * ((W * q.den:Nat):Int) + (D:Int) * (((W * q.den:Nat):Int) * 2 ^ 110):=by
   rw [YE D,Int.natCast_add,Int.mul_add,Int.mul_add,Int.mul_assoc,Int.mul_comm ((W * q.den:Nat):Int),<- Int.mul_assoc (D:Int)]
   congr 1
   rw [show ((1:Nat):Int)=1 from rfl,Int.mul_one,Int.mul_assoc]
  rw [e3]
  omega
 ·rw [hsum,ZgV,YE D]
  refine Zop (hg.le G hGn hGs) ?_ (by omega) (Int.le_of_lt hMz)
  by_cases c:i + 1∈needL rs (G.map hf)
  ·rw [if_pos c]
   obtain⟨z,hzG,hzw⟩:=(hneed G hGs).mp c
   have hu:∃ z∈ss,i + 1∈wayL rs (hf z):=⟨z,hGs z hzG,hzw⟩
   have e:=hpf ((hneed ss λ_ h=>h).mpr hu)
   have hle:sm (G.filter λz=>decide (i + 1∈wayL rs (hf z))) wz<=(W:Int):=by
    rw [<- hw hu]
    exact ZgR (hGn.filter _) (hp.nd.filter _) (λy hy=>by obtain⟨h1,h2⟩:=Yu.mp hy; exact Yu.mpr ⟨hGs y h1,h2⟩) λy hy=>by obtain⟨h1,h2⟩:=Yu.mp hy; exact hw0 y h1 (YN h2)
   rw [YE W,Int.mul_left_comm,e,Int.mul_assoc]
   exact Int.mul_le_mul_of_nonneg_right hle (Int.mul_nonneg hq0 (by omega))
  ·rw [if_neg c]
   have:G.filter (λz=>decide (i + 1∈wayL rs (hf z)))=[]:=List.filter_eq_nil_iff.mpr λz hz q=>c ((hneed G hGs).mpr ⟨z,hz,YN q⟩)
   rw [this,ZbR]
   simp
 ·rw [hsum,ZgV,YE D]
  refine Zni hg.all ?_
  by_cases c:i + 1∈needL rs (ss.map hf)
  ·rw [if_pos c,hw ((hneed ss λ_ h=>h).mp c),YE W,Int.mul_left_comm,hpf c,Int.mul_assoc]
  ·rw [if_neg c]
   have:ss.filter (λz=>decide (i + 1∈wayL rs (hf z)))=[]:=List.filter_eq_nil_iff.mpr λz hz q=>c ((hneed ss λ_ h=>h).mpr ⟨z,hz,YN q⟩)
   rw [this,ZbR]
   simp
def GoodI.good{D:Nat}{Y:Str->Int}(hn:rs.length<=19)(h:GoodI rs hf ss rs.length D Y):Good rs hf ss D Y:=by
 have hD:D<=2 ^ 2223:=Yj h.d1 (Y0 (by decide) (by omega))
 refine⟨h.d0,hD,h.y0,λz hz=>Int.le_trans (h.y1 z hz) ?_,λG a b=>?_,?_⟩
 ·have h1:(2:Int) ^ 110 * (rs.length:Int)<=((2 ^ 117:Nat):Int):=by
   have:(2:Int) ^ 110 * (rs.length:Int)<=2 ^ 110 * 128:=Int.mul_le_mul_of_nonneg_left (by omega) (by decide)
   exact Int.le_trans this (by decide)
  have h2:=Int.mul_le_mul_of_nonneg_left h1 (show (0:Int)<=D by omega)
  have h3:(D:Int) * ((2 ^ 117:Nat):Int)<=((2 ^ 2340:Nat):Int):=by
   rw [<- YE,show (2340:Nat)=2223 + 117 from rfl,YG]
   exact Int.ofNat_le.mpr (Nat.mul_le_mul_right _ hD)
  exact Int.le_trans h2 h3
 ·rw [<- ZjQ]; exact h.le G a b
 ·rw [<- ZjQ]; exact h.all
theorem Zka:GoodI rs hf ss 0 1 (λ_=>0):=⟨by decide,by decide,λ_ _=>Int.le_refl _,λ_ _=>by decide,λG _ _=>by rw [Zhs,Za5 λ_ _=>rfl]; simp,by rw [Zhs,Za5 λ_ _=>rfl]; simp⟩
end
def Zmt{ts:List Str}(h:ts.Nodup){j i:Nat}{z:Str}(h1:ts[j]?=some z)(h2:ts[i]?=some z):j=i:=by
 obtain⟨l1,e1⟩:=Ye.mp h1
 obtain⟨l2,e2⟩:=Ye.mp h2
 rcases Nat.lt_trichotomy j i with c | c | c
 ·exact absurd (e1.trans e2.symm) (List.pairwise_iff_getElem.mp h j i l1 l2 c)
 ·exact c
 ·exact absurd (e2.trans e1.symm) (List.pairwise_iff_getElem.mp h i j l2 l1 c)
def Zg5{ts:List Str}(h:ts.Nodup){k:Nat}{z:Str}(h1:ts[k]?=some z):ts.idxOf z=k:=by
 have hm:=Ym h1
 have hl:=List.idxOf_lt_length_of_mem hm
 exact Zmt h (by rw [Yb hl,List.getElem_idxOf]) h1
def Zim{ts:List Str}(h:ts.Nodup)(P:Str->Bool)(g:Nat->Int):sm (ts.filter P) (λz=>g (ts.idxOf z))=sm ((List.range ts.length).filter λk=>(ts[k]?).any P) g:=by
 rw [Za2,Za2]
 unfold sm
 congr 1
 refine List.ext_getElem (by simp) λk h1 h2=>?_
 rw [Yf] at h1
 have e:=Yb h1
 rw [List.getElem_map,List.getElem_map,List.getElem_range,e,Zg5 h e]
 rfl
def wtL(g:Nat->Int)(l:List Nat):List (ZQ × V):=l.map λk:Nat=>(Sum.inl (k:Int),V.int (g k))
def Zqc{g:Nat->Int}{l:List Nat}(h:k∈l):Z8 (wtL g l) (Sum.inl (k:Int))=some (.int (g k)):=by
 induction l with
 | nil=>cases h
 | cons a l ih =>
  unfold wtL at ih ⊢
  rw [Yr]
  by_cases c:a=k
  ·subst c; rw [Z6 rfl]
  ·rw [ZO (by intro e; injection e with e; exact c (by omega))]
   exact ih ((Yl.mp h).resolve_left λe=>c e.symm)
def ZnT{g:Nat->Int}{l:List Nat}(h:k ∉ l):Z8 (wtL g l) (Sum.inl (k:Int))=none:=by
 induction l with
 | nil=>rfl
 | cons a l ih =>
  rw [Yl,not_or] at h
  unfold wtL at ih ⊢
  rw [Yr,ZO (by intro e; injection e with e; exact h.1 (by omega))]
  exact ih h.2
def ZqQ{g:Nat->Int}{l:List Nat}(h:k ∉ l):Jj (wtL g l) (Sum.inl (k:Int)) (V.int (g k))=wtL g (l ++ [k]):=by
 rw [ZeP _ (ZnT h)]
 unfold wtL
 rw [Y8]
 rfl
def Zn1{g:Nat->Int}{l:List Nat}:(wtL g l).map (·.2)=(l.map g).map V.int:=by
 unfold wtL
 rw [Yw,Yw]
 rfl
def Zek{l:List Nat}(h:l.Nodup){j k:Nat}(hj:l[j]?=some k):k ∉ l.take j:=λhm=>by
 obtain⟨m,hm⟩:=YC hm
 rw [List.getElem?_take] at hm
 split at hm
 ·rename_i c
  obtain⟨l1,e1⟩:=Ye.mp hm
  obtain⟨l2,e2⟩:=Ye.mp hj
  exact List.pairwise_iff_getElem.mp h m j l1 l2 c (e1.trans e2.symm)
 ·cases hm
def ShV.congr2{qf qg:Str->Rat}(h:ShV H svs ss qf)(e:∀ z∈ss,qf z=qg z):ShV H svs ss qg:=⟨h.1,λi z hz=>let ⟨v,h1,r⟩:=h.2 i z hz; ⟨v,h1,by rw [<- e z (Ym hz)]; exact r⟩⟩
def Zji{D M:Nat}(hD:0 < D)(hM:0 < M)(x y:Int):Zp D x + Zp M y=Zp (D * M) (x * (M:Int) + (D:Int) * y):=by
 unfold Zp
 rw [Rat.divInt_add_divInt _ _ (by omega) (by omega),YE,Int.mul_comm y]
def Zhl{W:Nat}(a:Int)(q:Rat):Zp W a * q=Zp (W * q.den) (a * q.num):=by
 have h:=Ve q
 unfold Zp
 rw [YE,<- Rat.divInt_mul_divInt,h]
def wgt(g:Nat->Int)(ks:List Nat):Nat->Int:=if 0 < sm ks g then g else λ_=>1
def J3(g:Nat->Int)(ks:List Nat):Nat:=if ks=[] then 1 else if 0 < sm ks g then (sm ks g).toNat else ks.length
def Zpk{g:Nat->Int}(hg:∀ k∈ks,0<=g k/\g k < 9)(hl:ks.length<=12):0 < J3 g ks/\J3 g ks<=2 ^ 7/\(∀ k∈ks,0<=wgt g ks k/\wgt g ks k < 9)/\(ks ≠ []->sm ks (wgt g ks)=J3 g ks):=by
 have h1:sm ks g<=sm ks (λ_=>9):=JX λk hk=>by have:=hg k hk; omega
 rw [Zbf] at h1
 unfold J3 wgt
 by_cases c:ks=[]
 ·rw [if_pos c]
  exact⟨by decide,by decide,(λk hk=>by rw [c] at hk; cases hk),λh=>absurd c h⟩
 ·rw [if_neg c]
  have hp:=List.length_pos_iff.mpr c
  by_cases c2:0 < sm ks g
  ·rw [if_pos c2,if_pos c2]
   exact⟨by omega,by omega,hg,λ_=>by omega⟩
  ·rw [if_neg c2,if_neg c2]
   exact⟨hp,by omega,λ_ _=>by decide,λ_=>by rw [Zbf]; omega⟩
def Zc1{α β:Type}{g:α->β}{l m:List β}(h:l.Perm m):∀ Z:List α,m=Z.map g->∃ Z':List α,Z'.Perm Z/\l=Z'.map g:=by
 induction h with
 | nil=>intro Z e; exact⟨[],by rw [List.map_eq_nil_iff.mp e.symm],rfl⟩
 | cons x _ ih =>
  intro Z e
  obtain⟨z,Z0,rfl,rfl,e0⟩:=List.map_eq_cons_iff.mp e.symm
  obtain⟨Z',h1,h2⟩:=ih Z0 e0.symm
  exact⟨z :: Z',h1.cons z,by rw [h2]; rfl⟩
 | swap x y l =>
  intro Z e
  obtain⟨z,Z0,rfl,rfl,e0⟩:=List.map_eq_cons_iff.mp e.symm
  obtain⟨z1,Z1,rfl,rfl,rfl⟩:=List.map_eq_cons_iff.mp e0
  exact⟨z1 :: z :: Z1,.swap ..,rfl⟩
 | trans _ _ ih1 ih2 =>
  intro Z e
  obtain⟨Z1,h1,e1⟩:=ih2 Z e
  obtain⟨Z2,h2,e2⟩:=ih1 Z1 e1
  exact⟨Z2,h2.trans h1,e2⟩
def Ze0(m:Int):Zp B m * Zp B m=Zp (B * B) (m * m):=by
 unfold Zp
 rw [Rat.divInt_mul_divInt,YE]
def ZiQ{M:Nat}:∀ {ms:List Int},(∀ m∈ms,m.natAbs<=M)->ms.sum.natAbs<=M * ms.length
 | [],_=>by simp
 | m :: ms,h=>by
  have h1:=h m (.head _)
  have h2:=ZiQ λx hx=>h x (.tail _ hx)
  rw [List.sum_cons,YV,Nat.mul_succ]
  have:=Int.natAbs_add_le m ms.sum
  omega
def Zfi{ms:List Int}(hB:0 < B)(h1:B < 2 ^ 4490)(h2:∀ m∈ms,m.natAbs<=2 ^ 5000)(hl:ms.length<=12):Zet (ms.map (Zp B)):=by
 have big:∀ i,((ms.take i).sum).natAbs < 2 ^ 20000:=λi=>by
  have h3:=ZiQ (M:=2 ^ 5000) (ms:=ms.take i) λm hm=>h2 m (List.mem_of_mem_take hm)
  have h4:2 ^ 5000 * (ms.take i).length<=2 ^ 5000 * 2 ^ 10:=Nat.mul_le_mul_left _ (by rw [Yz]; omega)
  rw [<- YG] at h4
  exact Ys (Yj h3 h4) (Nat.pow_lt_pow_right (by decide) (by decide))
 refine⟨λi hi=>?_,λi q hq=>?_⟩
 ·rw [Zcr hB _ i (by simpa using hi)]
  exact szA hB h1 (big i)
 ·rw [Yg] at hq
  obtain⟨m,hm,rfl⟩:=YT.mp hq
  exact szA hB h1 (Ys (h2 m (Ym hm)) (Nat.pow_lt_pow_right (by decide) (by decide)))
def Zn7(hB:0 < B){m n:Int}:Zp B m<=Zp B n ↔ m<=n:=by
 rw [<- Rat.not_lt,ZcY hB,Int.not_lt]
def ZmO{m:Int}(h:m.natAbs<=2 ^ n)(hn:n<=2500):(m * m).natAbs<=2 ^ 5000:=by
 rw [Int.natAbs_mul]
 refine Yj (Y9 h h) ?_
 rw [<- YG]
 exact Y0 (by decide) (by omega)
section
variable {rs:List (Nat × Rat)}{hf:Str->Nat}{ss:List Str}{js:List (List Str)}{D:Nat}{Y:Str->Int}
def ZoJ(hn:rs.length<=20)(hc:Zmu (csT rs hf ss))(h:ZI rs hf (csT rs hf ss) ss js)(hcov:∀ z∈ss,z∈js.flatten){z:Str}(hz:z∈ss):(shm rs hf (csT rs hf ss) js (JZ js z)).natAbs<=2 ^ 2425:=by
 obtain⟨h1,h2⟩:=Zel h hcov hz
 have hJ:=Yb h1
 obtain⟨c0,c1⟩:=Zfu (rs:=rs) (hf:=hf) (G:=js[JZ js z]) hn (ZeO (rs:=rs) (hf:=hf) hc (Zi js (JZ js z)))
 unfold shm
 rw [show js.getD (JZ js z) []=js[JZ js z] by rw [List.getD_eq_getElem?_getD,hJ]; rfl,Int.natAbs_mul,VU,show (2425:Nat)=2410 + 15 from rfl,YG]
 exact Y9 (Yp c1) (Yj (VJ _ _) (by decide))
def Zfa(hB0:0 < botL rs hf ss)(hs:ss.length<=12)(h:ZI rs hf (csT rs hf ss) ss js)(hc:∀ z∈ss,z∈js.flatten){z:Str}(hz:z∈ss):evq rs hf ss js z=Zp (botL rs hf ss * 27720) (shm rs hf (csT rs hf ss) js (JZ js z)):=by
 obtain⟨h1,h2⟩:=Zel h hc hz
 have hJ:=Yb h1
 obtain⟨_,hC⟩:=h _ _ hJ
 exact Zci hB0 hJ hC.ne (Yj (YS hC.nd λx hx=>(Z4.mp (hC.sub x hx)).1) hs)
def Zjs(hp:Place rs hf ss)(hB0:0 < botL rs hf ss)(hs:ss.length<=12)(h:ZI rs hf (csT rs hf ss) ss js)(hc:∀ z∈ss,z∈js.flatten)(hg:Good rs hf ss D Y){T U:List Str}(hT:T.Perm ss)(hU:U.Perm ss)(hso:(U.map λz=>Zp D (Y z)).Pairwise (·<=·)){k:Nat}(h0:0 < k)(hk:k<=ss.length):¬ J1 ((T.take k).map (evq rs hf ss js)) ((T.take k).map (evq rs hf ss js)).length < J1 ((U.take k).map λz=>Zp D (Y z)) ((U.take k).map λz=>Zp D (Y z)).length:=by
 have hD:=hg.d0
 have hb:0 < botL rs hf ss * 27720:=YI hB0 (by decide)
 have hBD:0 < botL rs hf ss * 27720 * D:=YI hb hD
 have e1:(T.take k).map (evq rs hf ss js)=((T.take k).map (evX rs hf ss js D)).map (Zp (botL rs hf ss * 27720 * D)):=by
  rw [Yw]
  refine YL λz hz=>?_
  rw [Zfa hB0 hs h hc (hT.subset (List.mem_of_mem_take hz)),<- ZaD (c:=D) hD]
  rfl
 have e2:∀ l:List Str,(l.map λz=>Zp D (Y z))=(l.map (gdY rs hf ss Y)).map (Zp (botL rs hf ss * 27720 * D)):=λl=>by
  rw [Yw]
  refine YL λz hz=>?_
  rw [<- ZaD (c:=botL rs hf ss * 27720) hb,Nat.mul_comm D]
  rfl
 rw [e1,e2,Zdd hBD,Zdd hBD,ZcY hBD,Int.not_lt]
 rw [e2,List.pairwise_map] at hso
 have:=Zie (LX:=T.map (evX rs hf ss js D)) (LY:=U.map (gdY rs hf ss Y)) (Zp8 hp hB0 hs h hc hg) (hT.map _) (hU.map _) (hso.imp λq=>(Zn7 hBD).mp q) h0 hk
 rw [<- List.map_take,<- List.map_take] at this
 exact this
def Zgy(hp:Place rs hf ss)(hB0:0 < botL rs hf ss)(hs:ss.length<=12)(h:ZI rs hf (csT rs hf ss) ss js)(hc:∀ z∈ss,z∈js.flatten)(hg:Good rs hf ss D Y){T U:List Str}(hT:T.Perm ss)(hU:U.Perm ss):J1 (T.map λz=>evq rs hf ss js z * evq rs hf ss js z) (T.map λz=>evq rs hf ss js z * evq rs hf ss js z).length < J1 (U.map λz=>Zp D (Y z) * Zp D (Y z)) (U.map λz=>Zp D (Y z) * Zp D (Y z)).length\/(J1 (T.map λz=>evq rs hf ss js z * evq rs hf ss js z) (T.map λz=>evq rs hf ss js z * evq rs hf ss js z).length=J1 (U.map λz=>Zp D (Y z) * Zp D (Y z)) (U.map λz=>Zp D (Y z) * Zp D (Y z)).length/\∀ z∈ss,evq rs hf ss js z=Zp D (Y z)):=by
 have hD:=hg.d0
 have hb:0 < botL rs hf ss * 27720:=YI hB0 (by decide)
 have hBD:0 < botL rs hf ss * 27720 * D:=YI hb hD
 have hQ:=YI hBD hBD
 have x1:∀ z∈ss,evq rs hf ss js z=Zp (botL rs hf ss * 27720 * D) (evX rs hf ss js D z):=λz hz=>by
  rw [Zfa hB0 hs h hc hz,<- ZaD (c:=D) hD]
  rfl
 have x2:∀ z,Zp D (Y z)=Zp (botL rs hf ss * 27720 * D) (gdY rs hf ss Y z):=λz=>by
  rw [<- ZaD (c:=botL rs hf ss * 27720) hb,Nat.mul_comm D]
  rfl
 have e1:(T.map λz=>evq rs hf ss js z * evq rs hf ss js z)=(T.map λz=>evX rs hf ss js D z * evX rs hf ss js D z).map (Zp (botL rs hf ss * 27720 * D * (botL rs hf ss * 27720 * D))):=by
  rw [Yw]
  exact YL λz hz=>by rw [x1 z (hT.subset hz),Ze0]; rfl
 have e2:(U.map λz=>Zp D (Y z) * Zp D (Y z))=(U.map λz=>gdY rs hf ss Y z * gdY rs hf ss Y z).map (Zp (botL rs hf ss * 27720 * D * (botL rs hf ss * 27720 * D))):=by
  rw [Yw]
  exact YL λz hz=>by rw [x2 z,Ze0]; rfl
 rw [e1,e2,Zdd hQ,Zdd hQ,ZcY hQ]
 obtain⟨q1,q2⟩:=ZnZ (ZrF hp hB0 hs h hc hg)
 have t1:(T.map λz=>evX rs hf ss js D z * evX rs hf ss js D z).sum=sm ss (λz=>evX rs hf ss js D z * evX rs hf ss js D z):=Zbb hT _
 have t2:(U.map λz=>gdY rs hf ss Y z * gdY rs hf ss Y z).sum=sm ss (λz=>gdY rs hf ss Y z * gdY rs hf ss Y z):=Zbb hU _
 rw [t1,t2]
 rcases Int.lt_or_eq_of_le q1 with c | c
 ·exact .inl c
 ·refine .inr ⟨by rw [c],λz hz=>?_⟩
  rw [x1 z hz,x2 z,q2 (by omega) z hz]
end
def Zil(K:PySem.W.Frag):Sp:=λvs H Q _=>∃ (a p d:Addr) (o:Obj) (ns:List Int) (xs:List V) (rs:List (Nat × Rat)) (ss:List Str) (hf:Str->Nat),vs=[.ref a,.ref p,.ref d]/\JC K H a (ns.map V.int)/\H p=some (.lst xs)/\Js H xs rs/\H d=some (.frz o (.dK (hmL ss hf)))/\Place rs hf ss/\rs.length<=19/\ss.length<=12/\(∀ r∈rs,SzQ 110 r.2/\0<=r.2.num) /\
 ∀ p' H' svs ts D Y,H p'=none->Zk H H'->H' p'=some (.dK svs)->ShV H' svs ts (λz=>Zp D (Y z))->ts=srt ss->Good rs hf ss D Y->Q (.ref p') H'
def Pg1(H0 H2:Hp)(a p d pd pn:Addr)(ts:List Str)(i:Nat)(σ:St)(H:Hp):Prop:=∃ (o1:Option V) (svs:List (ZQ × V)),σ=[some (.ref a),some (.ref p),some (.ref d),some (.ref pd),some (.ref pn),o1,none,none,none,none,none,none,none]/\Zk H0 H/\(∀ b ob,b ≠ pd->H2 b=some ob->H b=some ob)/\H pd=some (.dK svs)/\ShV H svs (ts.take i) (λ_=>0)
def Pg2(H0 H6:Hp)(a p d pd pn pr:Addr)(rs:List (Nat × Rat))(hf:Str->Nat)(ss ts:List Str)(i:Nat)(σ:St)(H:Hp):Prop:=∃ (o1 o2 o3 o4 o5 o6 o7:Option V) (svs:List (ZQ × V)) (D:Nat) (Y:Str->Int),σ=[some (.ref a),some (.ref p),some (.ref d),some (.ref pd),some (.ref pn),o1,some (.ref pr),o2,o3,o4,o5,o6,o7]/\Zk H0 H/\(∀ b ob,b ≠ pd->H6 b=some ob->H b=some ob)/\H pd=some (.dK svs)/\ShV H svs ts (λz=>Zp D (Y z))/\GoodI rs hf ss i D Y
def ZoK(F:Fun K "_law_good" "_law_good" ZcS f fd)(ZW:mg "sorted"=none)(ZA:mg "len"=none)(ZS:mg "range"=none)(ZhW:mg "sum"=none)(ZK:Fn P w K mg base ZC 1 "_law_drawn" ["_law_cell","_law_bases"] ZaT)(Zag:Fn P w K mg base ZC 1 "_law_cell_at" ["_law_script","_law_k"] (Zb8 K))(ZdM:Fn P w K mg base ZC 1 "_law_way" ["_law_roads_here","_law_k"] ZmP)
  (ZU:Fn P w K mg base ZC 1 "_law_low" ["_law_top","_law_bottom"] ZbE) (ZaW:Fn P w K mg base ZC 2 "_law_plus" ["_law_one","_law_other"] ZgU) (Zau:Fn P w K mg base ZC 2 "_law_times" ["_law_one","_law_other"] ZdY):FnOk P w K mg base ZC 3 f fd ["_law_script","_law_roads_here","_law_homes_here"] (Zil K):=by
 refine JU F ZJ λcdv A outer s H vs Q E hr h=>?_
 obtain⟨a,p,d,o,ns,xs,rs,ss,hf,rfl,hS,hp,hR,hd,hP,hn,hs,hz,q⟩:=h
 refine⟨_,(Zc (Zn 3 ZJ.nd ZdT)
   (Zc (Zn 4 ZJ.nd (Zgo rfl ZW (Zl (Ze 2) Zb)))
   (Zc (Jq Yq (Jg (Ze 4)) (ZE 5 ZJ.nd) (Zj (Zc4 (JA hr) (Ze 3) (Ze 5) (Zgl (Zl Zd (Zl Zd Zb))))))
   (Zc (Zn 6 ZJ.nd (Jn ZK hr (Zl (Jn Zag hr (Zl (Ze 0) (Zl Zd Zb))) (Zl (ZlG (JD (Zl Zd Zb)) (Jr (Ju rfl ZA (Zl (Ze 4) Zb)) (Ju rfl ZA (Zl (Ze 1) Zb)))) Zb))))
   (Zc (Jq Yq (ZjW rfl ZS (Zl Zd (Zl (Je (Ju rfl ZA (Zl (Ze 1) Zb)) Zd) Zb))) (ZE 7 ZJ.nd) (Zc (ZhT 8 (Zot ["_law_k"] [1,2,4,7] ["_law_roads_here","_law_homes_here","_law_names_here","_law_road"]) (Zei rfl ZS (Zl (Ju rfl ZA (Zl (Ze 4) Zb)) Zb)) (by exact λs H fp=>(ZE 0 (show List.Nodup (["_law_k","_law_roads_here","_law_homes_here","_law_names_here","_law_road"]:List Str) from by decide +kernel))) (by exact λs H fp=>Zmx (Zqr K (Ze 4) (Jn ZdM hr (Zl (Ze 1) (Zl (ZbQ (JA hr) (Ze 2) (ZX (Ze 3) (Ze 0))) Zb))))) (by exact λs H fp=>(Ze 0)) (ZE 8 ZJ.nd))
   (Zc (Zn 9 ZJ.nd ZdT)
   (Zc (Jq Yq (Jg (Ze 8)) (ZE 10 ZJ.nd) (Zj (Zc4 (JA hr) (Ze 9) (Ze 10) (ZX (Ze 6) (Je (Jr (Zea (Ze 7) Zd) (Ju rfl ZA (Zl (Ze 4) Zb))) (Ze 10))))))
   (Zc (Zn 11 ZJ.nd (ZjS rfl ZhW (Ze 9)))
   (Zj (Jq Yq (Jg (Ze 8)) (ZE 10 ZJ.nd) (Zc (Zn 12 ZJ.nd (Jn ZU hr (Zl Zd (Zl (Ju rfl ZA (Zl (Ze 8) Zb)) Zb))))
   (Zc (JL (Zoc (Ze 11) Zd) (Zj (Zn 12 ZJ.nd (Jn ZU hr (Zl (ZbQ (JA hr) (Ze 9) (Ze 10)) (Zl (Ze 11) Zb))))) Jm)
   (Zj (Zc4 (JA hr) (Ze 3) (ZX (Ze 4) (Ze 10)) (Jn ZaW hr (Zl (ZbQ (JA hr) (Ze 3) (ZX (Ze 4) (Ze 10))) (Zl (Jn Zau hr (Zl (Ze 12) (Zl (Jf (ZX (Ze 1) (Zea (Ze 7) Zd)) Zd) Zb))) Zb))))))))))))))
   (Zj (ZF (Ze 3)))))))),?_⟩
 rw [show Zu ["_law_script","_law_roads_here","_law_homes_here","_law_shares","_law_names_here","_law_name","_law_row","_law_road","_law_using","_law_weights","_law_k","_law_whole","_law_part"] [.ref a,.ref p,.ref d]=[some (.ref a),some (.ref p),some (.ref d),none,none,none,none,none,none,none,none,none,none] from rfl]
 refine Zy λR0 hR0=>?_
 walk_at "rd"
 intro pd H1 hpd s1 e1
 subst hR0
 try dsimp only
 refine Zy λR0 hR0=>?_
 walk_at "rd"
 have hpd0:H pd=none:=hpd
 refine⟨_,.inr ⟨_,s1 _ _ hd⟩,ss,ZcD,by omega,λpn H2 ts hpn s2 en hw1 hw2=>?_⟩
 obtain rfl:ts=srt ss:=Zhb hw1 hw2
 have htn:(srt ss).Nodup:=hw2.nodup_iff.mpr hP.nd
 have htm:∀ z,z∈srt ss ↔ z∈ss:=λz=>hw2.mem_iff
 have htl:(srt ss).length=ss.length:=hw2.length_eq
 generalize hts:srt ss=ts at en htn htm htl
 subst hR0
 try dsimp only
 refine Zy λR0 hR0=>?_
 rw [Z9]
 walk_at "rd"
 have hpnd:pn ≠ pd:=(Zm e1 hpn).symm
 refine Ji (xs:=ts.map V.str) (Pg1 H H2 a p d pd pn ts) ⟨_,[],rfl,s1.trans s2,λ_ _ _ z=>z,s2 _ _ e1,⟨rfl,λi z h=>by simp at h⟩⟩ (λi σ H' _ ⟨_,_,_,_,k,_⟩=>.of (k _ _ hpnd en)) (λi y σ H3 hi hPv=>?_) (λσ H3 hPv=>?_)
 ·obtain⟨o1,svs,rfl,s3,k3,e3,hSh⟩:=hPv
  rw [Yg] at hi
  obtain⟨z,hz1,rfl⟩:=YT.mp hi
  walk_at "rd"
  have hzn:z ∉ ts.take i:=λhm=>by
   obtain⟨j,hj⟩:=YC hm
   rw [List.getElem?_take] at hj
   split at hj
   ·have:=Zmt htn hj hz1
    omega
   ·cases hj
  have hil:i < ts.length:=(Ye.mp hz1).1
  intro p4 H4 hp4 s4 e4
  refine⟨svs,s4 _ _ e3,.inr z,rfl,?_,_,Jj svs (Sum.inr z) (V.ref p4),rfl,Zo hpd (s3.trans s4),λb ob hb e=>?_,Zf,?_⟩
  ·have:=hSh.1
   rw [Yz] at this
   omega
  ·rw [Zg hb]; exact s4 _ _ (k3 b ob hb e)
  ·rw [YB,hz1]
   have kp:∀ b ys o,H4 b=some (.tup ys)->upd H4 pd o b=some (.tup ys):=λb ys o e=>by rw [Zg λz=>by rw [z,s4 _ _ e3] at e; cases e]; exact e
   exact ((hSh.keep λb ys e=>kp _ _ _ (s4 _ _ e))).snoc hzn ⟨p4,rfl,kp _ _ _ e4⟩
 ·obtain⟨o1,svs,rfl,s3,k3,e3,hSh⟩:=hPv
  rw [Yf,Y2] at hSh
  subst hR0
  try dsimp only
  refine Zy λR0 hR0=>?_
  walk_at "rd"
  have en3:=k3 _ _ hpnd en
  have hxl:=hR.1
  refine⟨a,ns,4,rfl,s3.seq hS,λc p4 H4 hp4 s4 e4=>⟨ts.map V.str,.inl (s4 _ _ en3),xs,.inl ((s3.trans s4) _ _ hp),?_⟩⟩
  rw [Yf,htl,hxl]
  have hmn:ss.length * rs.length<=12 * 19:=Y9 hs hn
  rw [<- YE,Y1]
  refine⟨JK (a:=10) (b:=10) (by omega) (by omega) (by decide),_,e4,by omega,by omega,Yj (show 1 * (ss.length * rs.length)<=1000 by omega) (by decide),λp5 hp5=>?_⟩
  rw [show (List.replicate (ss.length * rs.length) [V.int 9]).flatten=(List.replicate (ss.length * rs.length) (9:Int)).map V.int by rw [List.flatten_replicate_singleton,List.map_replicate]]
  refine⟨c,p5,_,rfl,Zf,by rw [List.length_replicate]; omega,λb hb=>by rw [(List.mem_replicate.mp hb).2]; decide,λpr H6 row hpr s6 e6 hrl hrb=>?_⟩
  have s36:Zk H3 H6:=s4.trans ((Zo hp5 λ_ _ z=>z).trans s6)
  rw [List.length_replicate] at hrl
  have hrow:∀ (j:Nat) x,row[j]?=some x->0<=x/\x < 9:=λj x hx=>by
   have hj:=(Ye.mp hx).1
   exact hrb j x 9 hx (by rw [List.getElem?_replicate,if_pos (by omega)])
  have hSh6:ShV H6 svs ts (λ_=>0):=hSh.keep λb ys e=>s36 _ _ e
  have e36:=s36 _ _ e3
  have en6:=s36 _ _ en3
  have s06:=s3.trans s36
  clear hSh e3 en3 k3 hrb s36 s3
  subst hR0
  try dsimp only
  refine Zy λR0 hR0=>?_
  rw [Zfs]
  walk_at "rd"
  refine⟨xs,.inl (s06 _ _ hp),by omega,by omega,?_⟩
  rw [show ((xs.length:Int) + 1 - 1).toNat=rs.length by omega]
  have hpn6:H pn=none:=s1.free hpn
  refine ZcI (Pg2 H H6 a p d pd pn pr rs hf ss ts) ⟨_,_,_,_,_,_,_,svs,1,_,rfl,s06,λ_ _ _ z=>z,e36,(by rw [show (λz:Str=>Zp 1 ((λ_=>0:Str->Int) z))=λ_=>0 from funext λz=>Zcq 1]; exact hSh6),Zka⟩ (λi σ H7 hi hPv=>?_) (λσ H7 hPv=>?_)
  ·obtain⟨o1',o2,o3,o4,o5,o6,o7,svs',D,Y,rfl,s7,k7,e7,hS7,hG⟩:=hPv
   have k67:=k7
   rw [show (1:Int) + (i:Int)=((i + 1:Nat):Int) by omega]
   refine Zy λR1 hR1=>?_
   walk_at "rd"
   simp only [ZeF,ZjR]
   walk_at "rd"
   rw [show Jv [some (V.ref a),some (V.ref p),some (V.ref d),some (V.ref pd),some (V.ref pn),o1',some (V.ref pr),some (V.int ((i + 1:Nat):Int)),o3,o4,o5,o6,o7] [1,2,4,7]=[some (V.ref p),some (V.ref d),some (V.ref pn),some (V.int ((i + 1:Nat):Int))] from rfl]
   have hpn7:H7 pn=some (.lst (ts.map V.str)):=k7 _ _ hpnd en6
   have hd7:=s7 _ _ hd
   have hp7:=s7 _ _ hp
   have hR7:=hR.same s7
   refine⟨_,.inl hpn7,by rw [Yf]; omega,by rw [Yf]; omega,?_⟩
   rw [Yf,Y1]
   refine Zjb (λk=>(ts[k]?).any λz=>decide (i + 1∈wayL rs (hf z))) (by omega) (λk hk H' kk sm hkk=>?_) (λpu H8 hpu s8 e8=>?_)
   ·have hzk:=Yb hk
    have hzs:=(htm _).mp (YQ hk)
    walk_at "rd"
    simp only [rIn]
    walk_at "rd"
    refine⟨_,sm _ _ hpn7,.str ts[k],ZP (by rw [Yg,hzk]; rfl),_,.inr ⟨_,sm _ _ hd7⟩,.inr ts[k],rfl,_,Zf7 hzs,p,xs,rs,hf ts[k],wayL rs (hf ts[k]),rfl,sm _ _ hp7,hR7.same sm,Zjr hP.T (hP.le _ hzs),Yj (ZkB hP.T (hP.le _ hzs)) (by omega),λpw H9 hpw s9 e9=>?_⟩
    refine⟨pw,rfl,_,.inl (.of e9),rfl,ZkY,?_⟩
    rw [Zm6]
    have:=hkk H9 s9
    rw [hzk] at this
    exact this
   ·have hks:∀ k∈(List.range ts.length).filter (λk=>(ts[k]?).any λz=>decide (i + 1∈wayL rs (hf z))),∃ hk:k < ts.length,i + 1∈wayL rs (hf ts[k]):=λk hk=>by
     obtain⟨h1,h2⟩:=Yu.mp hk
     have h1:=YD.mp h1
     rw [Yb h1] at h2
     exact⟨h1,YN h2⟩
    have hkn:((List.range ts.length).filter (λk=>(ts[k]?).any λz=>decide (i + 1∈wayL rs (hf z)))).Nodup:=List.nodup_range.filter _
    have hkl:((List.range ts.length).filter (λk=>(ts[k]?).any λz=>decide (i + 1∈wayL rs (hf z)))).length<=ts.length:=Yj (VC _ _) (by rw [List.length_range]; exact Yd _)
    generalize hkd:(List.range ts.length).filter (λk=>(ts[k]?).any λz=>decide (i + 1∈wayL rs (hf z)))=ks at e8 hks hkn hkl
    subst hR1
    try dsimp only
    refine Zy λR1 hR1=>?_
    walk_at "rd"
    intro pw H9 hpw s9 e9
    subst hR1
    try dsimp only
    refine Zy λR1 hR1=>?_
    rw [Z9]
    walk_at "rd"
    have hne1:pu ≠ pw:=Zm e8 hpw
    have s79:=s8.trans s9
    have hprd:pr ≠ pd:=(JF (show H6 pd=some _ from e36) e6 (by intro q; cases q)).symm
    have er9:H9 pr=some (.lst (row.map V.int)):=s79 _ _ (k7 _ _ hprd e6)
    have en9:=s79 _ _ hpn7
    have hidx:∀ k,k < ts.length->i * ts.length + k < row.length:=λk hk=>by
     have:=Nat.mul_le_mul_right ts.length (show i + 1<=rs.length by omega)
     rw [Nat.succ_mul] at this
     rw [hrl,<- htl,Nat.mul_comm ts.length rs.length]
     omega
    have hnr:pn ≠ pw:=Zm (s8 _ _ hpn7) hpw
    have hrr:pr ≠ pw:=Zm (s8 _ _ (k7 _ _ hprd e6)) hpw
    refine Ji (xs:=Zw ks) (λj σ H'=>∃ o5':Option V,σ=[some (V.ref a),some (V.ref p),some (V.ref d),some (V.ref pd),some (V.ref pn),o1',some (V.ref pr),some (V.int ((i + 1:Nat):Int)),some (V.ref pu),some (V.ref pw),o5',o6,o7]/\(∀ b ob,b ≠ pw->H9 b=some ob->H' b=some ob)/\Zk H8 H'/\H' pw=some (.dK (wtL (λk=>row.getD (i * ts.length + k) 0) (ks.take j)))) ⟨_,rfl,λ_ _ _ z=>z,s9,e9⟩ (λj σ H' _ ⟨_,_,k,_⟩=>.of (k _ _ hne1 (s9 _ _ e8))) (λj y σ H10 hj hPv=>?_) (λσ H10 hPv=>?_)
    ·obtain⟨o5',rfl,k10,s10,e10⟩:=hPv
     obtain⟨k,hk,rfl⟩:∃ k,ks[j]?=some k/\y=V.int (k:Int):=by
      unfold Zw at hj
      rw [Yg] at hj
      obtain⟨k,h1,h2⟩:=YT.mp hj
      exact⟨k,h1,h2.symm⟩
     obtain⟨hkt,_⟩:=hks k (Ym hk)
     have hjl:=(Ye.mp hk).1
     walk_at "rd"
     refine⟨ts.map V.str,.inl (k10 _ _ hnr en9),JK (a:=10) (b:=10) (by omega) (by rw [Yf]; omega) (by decide),row.map V.int,k10 _ _ hrr er9,.int (row.getD (i * ts.length + k) 0),?_,_,e10,.inl (k:Int),rfl,?_,λb ob hb e=>by rw [Zg hb]; exact k10 _ _ hb e,Zo hpw s10,?_⟩
     ·rw [show (((i + 1:Nat):Int) - 1) * ((ts.map V.str).length:Int) + (k:Int)=((i * ts.length + k:Nat):Int) by rw [Yf,show ((i + 1:Nat):Int) - 1=(i:Int) by omega,Int.natCast_add,YE]]
      exact ZP (by rw [Yg,List.getD_eq_getElem?_getD,Yb (hidx k hkt)]; rfl)
     ·unfold wtL
      rw [Yf,Yz]
      omega
     ·rw [Zf,ZqQ (g:=λk=>row.getD (i * ts.length + k) 0) (Zek hkn hk),YB,hk]
      rfl
    ·obtain⟨o5',rfl,k10,s10,e10⟩:=hPv
     rw [show (Zw ks).length=ks.length by unfold Zw; rw [List.length_map],List.take_length] at e10
     subst hR1
     try dsimp only
     refine Zy λR1 hR1=>?_
     walk_at "rd"
     refine⟨_,.inl e10,_,Zn1,?_⟩
     rw [show (ks.map λk=>row.getD (i * ts.length + k) 0).sum=sm ks (λk=>row.getD (i * ts.length + k) 0) from rfl]
     obtain⟨g,hgd⟩:∃ g:Nat->Int,g=λk=>row.getD (i * ts.length + k) 0:=⟨_,rfl⟩
     have hg0:∀ k∈ks,0<=g k/\g k < 9:=λk hk=>by
      have hl:=hidx k (hks k hk).1
      rw [hgd]
      show 0<=row.getD _ 0/\row.getD _ 0 < 9
      rw [List.getD_eq_getElem?_getD,Yb hl]
      exact hrow _ _ (Yb hl)
     rw [<- hgd] at e10 ⊢
     clear hgd
     subst hR1
     try dsimp only
     rw [Z9]
     walk_at "rd"
     obtain⟨hW0,hW1,hW2,hW3⟩:=Zpk hg0 (by omega)
     have hir:i < rs.length:=by omega
     have hxi:=Yb (show i < xs.length by omega)
     obtain⟨px,yx,exi,hpx,hyx⟩:=hR7.2 i _ _ hxi (Yb hir)
     have hpri:(rs[i]).2=Zr rs (i + 1):=by unfold Zr; rw [show i + 1 - 1=i by omega,List.getElem?_eq_getElem hir]; rfl
     rw [hpri] at hyx
     have hqz:=ZaX (λr hr=>(hz r hr).1) (i + 1)
     have hstep:=λhw=>Zje (wz:=λz=>wgt g ks (ts.idxOf z)) hP hz hir hG hW0 hW1 (λz hzs hzw=>by
      obtain⟨k,hk⟩:=YC ((htm z).mpr hzs)
      rw [Zg5 htn hk]
      refine (hW2 k ?_).1
      rw [<- hkd,Yu,YD]
      exact⟨(Ye.mp hk).1,by rw [hk]; exact YR hzw⟩) hw
     have hmem:∀ z∈ts,(ts.idxOf z∈ks ↔ i + 1∈wayL rs (hf z)):=λz hzt=>by
      obtain⟨k,hk⟩:=YC hzt
      rw [Zg5 htn hk,<- hkd,Yu,YD,hk]
      exact⟨λh=>YN h.2,λh=>⟨(Ye.mp hk).1,YR h⟩⟩
     have hstep:=hstep λ⟨z,hzs,hzw⟩=>by
      have hne:ks ≠ []:=λc=>by have:=(hmem z ((htm z).mpr hzs)).mpr hzw; rw [c] at this; cases this
      rw [<- hW3 hne,<- hkd,<- Zim htn (λz=>decide (i + 1∈wayL rs (hf z))) (wgt g _),hkd]
      exact Zbb ((hts ▸ hw2).symm.filter _) _
     have hd0:=(Zr rs (i + 1)).den_pos
     have hM0:=YI hW0 hd0
     have hDz:∀ z∈ts,SzA (Zp D (Y z)):=λz hzt=>by
      have hzs:=(htm z).mp hzt
      have h1:D<=2 ^ 2223:=Yj hG.d1 (Y0 (by decide) (by omega))
      have h2:=hG.y0 z hzs
      have h3:Y z<=((2 ^ 2340:Nat):Int):=by
       refine Int.le_trans (hG.y1 z hzs) ?_
       have h4:(2:Int) ^ 110 * (i:Int)<=((2 ^ 117:Nat):Int):=Int.le_trans (Int.mul_le_mul_of_nonneg_left (show (i:Int)<=128 by omega) (by decide)) (by decide)
       refine Int.le_trans (Int.mul_le_mul_of_nonneg_left h4 (by omega)) ?_
       rw [<- YE,show (2340:Nat)=2223 + 117 from rfl,YG]
       exact Int.ofNat_le.mpr (Nat.mul_le_mul_right _ h1)
      refine szA hG.d0 (Ys h1 (Nat.pow_lt_pow_right (by decide) (by decide))) (Ys (m:=2 ^ 2340) (by omega) (Nat.pow_lt_pow_right (by decide) (by decide)))
     have e910:H10 pd=some (.dK svs'):=k10 _ _ (Zm (s8 _ _ e7) hpw) (s79 _ _ e7)
     have hS10:ShV H10 svs' ts (λz=>Zp (D * (J3 g ks * (Zr rs (i + 1)).den)) (Y z * ((J3 g ks * (Zr rs (i + 1)).den:Nat):Int) + if ts.idxOf z∈ks.take 0 then (D:Int) * (wgt g ks (ts.idxOf z) * (Zr rs (i + 1)).num) else 0)):=by
      refine ((hS7.keep λb ys e=>s8 _ _ e).keep λb ys e=>s10 _ _ e).congr2 λz _=>?_
      rw [if_neg (by simp),Int.add_zero,ZaD hM0]
     have hdpw:∀ {b ob},H8 b=some ob->b ≠ pw:=λh=>Zm h hpw
     refine Ji (xs:=Zw ks) (λj σ H'=>∃ (o5' o7':Option V) (svs:List (ZQ × V)),σ=[some (V.ref a),some (V.ref p),some (V.ref d),some (V.ref pd),some (V.ref pn),o1',some (V.ref pr),some (V.int ((i + 1:Nat):Int)),some (V.ref pu),some (V.ref pw),o5',some (V.int (sm ks g)),o7']/\(∀ b ob,b ≠ pd->H10 b=some ob->H' b=some ob)/\Zk H H'/\H' pd=some (.dK svs)/\ShV H' svs ts (λz=>Zp (D * (J3 g ks * (Zr rs (i + 1)).den)) (Y z * ((J3 g ks * (Zr rs (i + 1)).den:Nat):Int) + if ts.idxOf z∈ks.take j then (D:Int) * (wgt g ks (ts.idxOf z) * (Zr rs (i + 1)).num) else 0))) ⟨_,_,svs',rfl,λ_ _ _ z=>z,s7.trans (s8.trans s10),e910,hS10⟩ (λj σ H' _ ⟨_,_,_,_,k,_⟩=>.of (k _ _ (JF e8 (s8 _ _ e7) (by intro q; cases q)) (s10 _ _ e8))) (λj y σ H11 hj hPv=>?_) (λσ H11 hPv=>?_)
     ·obtain⟨o5'',o7',svs2,rfl,k11,s11,e11,hS11⟩:=hPv
      obtain⟨k,hk,rfl⟩:∃ k,ks[j]?=some k/\y=V.int (k:Int):=by
       unfold Zw at hj
       rw [Yg] at hj
       obtain⟨k,h1,h2⟩:=YT.mp hj
       exact⟨k,h1,h2.symm⟩
      have hkm:=Ym hk
      obtain⟨hkt,hkw⟩:=hks k hkm
      have hzk:=Yb hkt
      have hjl:=(Ye.mp hk).1
      have hzt:=YQ hkt
      have hix:=Zg5 htn hzk
      have hpdw:pd ≠ pw:=Zm (s8 _ _ e7) hpw
      have eu11:H11 pu=some (.lst (Zw ks)):=k11 _ _ (JF e8 (s8 _ _ e7) (by intro q; cases q)) (s10 _ _ e8)
      have ew11:H11 pw=some (.dK (wtL g ks)):=k11 _ _ hpdw.symm e10
      have en11:H11 pn=some (.lst (ts.map V.str)):=k11 _ _ hpnd (k10 _ _ hnr en9)
      have tp:∀ b ys,H7 b=some (.tup ys)->H11 b=some (.tup ys):=λb ys e=>k11 _ _ (JF e e7 (by intro q; cases q)) (s10 _ _ (s8 _ _ e))
      have hpx11:=tp _ _ hpx
      have hyx11:=hyx.keep tp
      have hlk:(Zw ks).length=ks.length:=by unfold Zw; rw [List.length_map]
      have hkne:ks ≠ []:=List.ne_nil_of_mem hkm
      refine Zy λR2 hR2=>?_
      walk_at "rd"
      refine⟨_,.inl eu11,1,_,rfl,?_,?_,λr12 H12 s12 v12=>?_⟩
      ·exact Big.of (n:=10) (by rw [hlk]; omega) (by decide)
      ·rw [hlk]; omega
      subst hR2
      try dsimp only
      refine Zy λR2 hR2=>?_
      have fin:∀ vx H13,Zk H11 H13->Jd H13 vx (Zp (J3 g ks) (wgt g ks k))->R2 [some (V.ref a),some (V.ref p),some (V.ref d),some (V.ref pd),some (V.ref pn),o1',some (V.ref pr),some (V.int ((i + 1:Nat):Int)),some (V.ref pu),some (V.ref pw),some (V.int (k:Int)),some (V.int (sm ks g)),some vx] H13:=λvx H13 s13 v13=>by
       subst hR2
       try dsimp only
       walk_at "rd"
       obtain⟨vz,hvz,rvz⟩:=hS11.val htn ts[k] hzt
       rw [hix,if_neg (Zek hkn hk),Vo,ZaD hM0] at rvz
       have hat:atI (ts.map V.str) (k:Int)=some (.str ts[k]):=ZP (by rw [Yg,hzk]; rfl)
       have hxat:atI xs (((i + 1:Nat):Int) - 1)=some (.ref px):=by
        rw [show ((i + 1:Nat):Int) - 1=(i:Int) by omega]
        exact ZP (by rw [hxi,exi])
       obtain⟨w0,w1⟩:=hW2 k hkm
       have z1:SzA (Zp (J3 g ks) (wgt g ks k)):=szA hW0 (Ys hW1 (Nat.pow_lt_pow_right (by decide) (by decide))) (Ja (a:=4) (by omega) (by decide))
       have z2:SzA (Zp (J3 g ks) (wgt g ks k) * Zr rs (i + 1)):=by
        rw [Zhl]
        refine szA hM0 ?_ (Ja (Zbm (show (wgt g ks k).natAbs < 2 ^ 4 by omega) hqz.1) (by decide))
        refine Ys (Y9 hW1 (Yp hqz.2)) ?_
        rw [<- YG]
        exact Nat.pow_lt_pow_right (by decide) (by decide)
       refine⟨_,s13 _ _ en11,_,hat,svs2,.inl (s13 _ _ e11),.inr ts[k],rfl,vz,hvz,xs,s13 _ _ (s11 _ _ hp),_,hxat,px,rfl,_,s13 _ _ hpx11,yx,rfl,vx,yx,_,_,rfl,v13,hyx11.same s13,z1,hqz.a,λr14 H14 s14 v14=>⟨vz,r14,_,_,rfl,rvz.same (s13.trans s14),v14,hDz _ hzt,z2,λr15 H15 s15 v15=>?_⟩⟩
       have t15:=s13.trans (s14.trans s15)
       have kp:∀ b ys o,H15 b=some (.tup ys)->upd H15 pd o b=some (.tup ys):=λb ys o e=>by rw [Zg λz=>by rw [z,t15 _ _ e11] at e; cases e]; exact e
       refine⟨_,t15 _ _ en11,_,hat,svs2,t15 _ _ e11,.inr ts[k],rfl,?_,λb ob hb e=>by rw [Zg hb]; exact t15 _ _ (k11 _ _ hb e),Zo hpd (s11.trans t15),_,Zf,?_⟩
       ·rw [hS11.1]; omega
       ·refine ((hS11.keep λb ys e=>t15 _ _ e).keep λb ys e=>kp b ys _ e).put hzt ?_ λy hy=>?_
        ·rw [Zhl,Zji hG.d0 hM0] at v15
         rw [hix,if_pos (by rw [List.take_add_one,hk]; simp)]
         exact v15.keep λb ys e=>kp b ys _ e
        ·have hne:ts.idxOf y ≠ k:=λe=>hy (by
          have hl:ts.idxOf y < ts.length:=by omega
          have h1:=List.getElem_idxOf hl
          subst e
          exact h1.symm)
         congr 2
         rw [YB,hk]
         have:(ts.idxOf y∈ks.take j ++ (some k).toList)=(ts.idxOf y∈ks.take j):=by simp [hne]
         simp only [this]
      walk_at "rd"
      refine JI (λc=>?_) (λc=>?_)
      ·refine⟨_,.inl (s12 _ _ ew11),.inl (k:Int),rfl,_,Zqc hkm,g k,sm ks g,rfl,?_,c,λr13 H13 s13 v13=>fin _ _ (s12.trans s13) ?_⟩
       ·have:sm ks g<=sm ks (λ_=>9):=JX λk hk=>by have:=hg0 k hk; omega
        rw [Zbf] at this
        exact Big.of (n:=10) (by omega) (by decide)
       ·unfold wgt J3 Zp
        rw [if_neg hkne,if_pos c,if_pos c,V6 (Int.le_of_lt c)]
        exact v13
      ·refine fin _ _ s12 ?_
       unfold wgt J3 Zp
       rw [if_neg hkne,if_neg c,if_neg c]
       rw [hlk] at v12
       exact v12
     ·obtain⟨o5'',o7',svs2,rfl,k11,s11,e11,hS11⟩:=hPv
      rw [show (Zw ks).length=ks.length by unfold Zw; rw [List.length_map],List.take_length] at hS11
      refine⟨_,_,_,_,_,_,_,svs2,_,_,rfl,s11,λb ob hb e=>k11 _ _ hb (s10 _ _ (s8 _ _ (k7 _ _ hb e))),e11,hS11.congr2 λz hzt=>?_,hstep⟩
      unfold addR
      congr 2
      by_cases c:i + 1∈wayL rs (hf z)
      ·rw [if_pos c,if_pos ((hmem z hzt).mpr c)]
      ·rw [if_neg c,if_neg λh=>c ((hmem z hzt).mp h)]
  ·obtain⟨o1',o2,o3,o4,o5,o6,o7,svs',D,Y,rfl,s7,k7,e7,hS7,hG⟩:=hPv
   subst hR0
   try dsimp only
   walk_at "rd"
   exact q pd H7 svs' ts D Y hpd s7 e7 hS7 hts.symm (hG.good hn)
def ZfN:ZoX xs none (some (n:Int))=xs.take n:=by
 unfold ZoX
 rw [HT.sIx_none,HT.sIx_nat,List.drop_zero,Nat.sub_zero]
 by_cases h:n<=xs.length
 ·rw [Nat.min_eq_left h]
 ·rw [Nat.min_eq_right (by omega),VQ (Yd _),VQ (by omega)]
def Zpa(F:Fun K "law" "law" ZeR f fd)(Zv:mg "isinstance"=none)(Zhd:mg "dict"=none)(ZW:mg "sorted"=none)(ZV:mg "list"=none)(ZA:mg "len"=none)(ZS:mg "range"=none)(Zb6:Fn P w K mg base ZC 3 "_law_roads" ["_law_script","_law_most"] (Zfx K))(ZbZ:Fn P w K mg base ZC 3 "_law_homes" ["_law_script","_law_roads_here","_law_most"] (ZfG K))(ZcZ:Fn P w K mg base ZC 8 "_law_copy" ["_law_roads_here"] (Zg1 CT))
  (ZdU:Fn P w K mg base ZC 12 "evenest" ["tree","homes"] (Zex pt CT)) (Zcu:Fn P w K mg base ZC 3 "_law_good" ["_law_script","_law_roads_here","_law_homes_here"] (Zil K)) (ZaK:Fn P w K mg base ZC 2 "_law_in_order" ["_law_some"] Zhr) (ZaF:Fn P w K mg base ZC 3 "_law_total" ["_law_some"] ZfY) (Zav:Fn P w K mg base ZC 1 "_law_under" ["_law_one","_law_other"] ZdZ) (Zau:Fn P w K mg base ZC 2 "_law_times" ["_law_one","_law_other"] ZdY):FnOk P w K mg base ZC 13 f fd ["_law_script"] (Zjz pt K):=by
 refine JU F ZbS λcdv A outer s H vs Q E hr h=>?_
 obtain⟨a,ns,rfl,hS,hTb,q⟩:=h
 refine⟨_,(Zc (Zn 1 ZbS.nd (Jn Zb6 hr (Zl (Ze 0) (Zl Zd Zb))))
   (Zc (Zn 2 ZbS.nd (Jn ZbZ hr (Zl (Ze 0) (Zl (Ze 1) (Zl Zd Zb)))))
   (Zc (Zn 3 ZbS.nd (Jn ZdU hr (Zl (Jn ZcZ hr (Zl (Ze 1) Zb)) (Zl (ZnR rfl Zhd (Zl (Ze 2) Zb)) Zb))))
   (Zc (Zn 4 ZbS.nd (Jn Zcu hr (Zl (Ze 0) (Zl (Ze 1) (Zl (Ze 2) Zb)))))
   (Zc (JL (t_w (ZoL (Zee (JR (Zev rfl Zv (Zl (Ze 3) (Zl (ZoZ rfl Zhd rfl) Zb))))) (Zhx (ZpI hr (Zgo rfl ZW (Zl (Ze 3) Zb)) (Zgo rfl ZW (Zl (Ze 4) Zb)))))) (Zj (ZF Zo4)) Jm)
   (Zc (Zn 5 ZbS.nd (Jn ZaK hr (Zl (ZeD rfl ZV (Ze 3)) Zb)))
   (Zc (Zn 6 ZbS.nd (Jn ZaK hr (Zl (ZeD rfl ZV (Ze 4)) Zb)))
   (Zc (Jq Yq (ZjW rfl ZS (Zl Zd (Zl (Je (Ju rfl ZA (Zl (Ze 5) Zb)) Zd) Zb))) (ZE 7 ZbS.nd) (Zj (JL (JR (Jn Zav hr (Zl (Jn ZaF hr (Zl (Zjf (Ze 5) (Ze 7)) Zb)) (Zl (Jn ZaF hr (Zl (Zjf (Ze 6) (Ze 7)) Zb)) Zb)))) (Zj (ZF Zo4)) Jm)))
   (Zc (Zn 8 ZbS.nd (Jn ZaF hr (Zl (Zc5 (Zr0 ["_law_share"]) (Jg (Ze 5)) (by exact λs H fp=>(ZE 0 (show List.Nodup (["_law_share"]:List Str) from by decide +kernel))) (by exact λs H fp=>(Jn Zau hr (Zl (Ze 0) (Zl (Ze 0) Zb))))) Zb)))
   (Zc (Zn 9 ZbS.nd (Jn ZaF hr (Zl (Zc5 (Zr0 ["_law_share"]) (Jg (Ze 6)) (by exact λs H fp=>(ZE 0 (show List.Nodup (["_law_share"]:List Str) from by decide +kernel))) (by exact λs H fp=>(Jn Zau hr (Zl (Ze 0) (Zl (Ze 0) Zb))))) Zb)))
   (Zj (ZF (Zst (Jn Zav hr (Zl (Ze 8) (Zl (Ze 9) Zb))) (Zid (ZhD (Zrw hr (Ze 8) (Ze 9)) (Zid (ZrS hr (Ze 3) (Ze 4)))))))))))))))))),?_⟩
 rw [show Zu ["_law_script","_law_roads_here","_law_homes_here","_law_even","_law_good_here","_law_one","_law_other","_law_k","_law_mine","_law_yours"] [.ref a]=[some (.ref a),none,none,none,none,none,none,none,none,none] from rfl]
 refine Zy λR0 hR0=>?_
 walk_at "rd"
 refine⟨a,ns,7,rfl,hS,by decide,by decide,λp H1 xs rs hp s1 e1 hR hT hl hn=>?_⟩
 have hxl:=hR.1
 subst hR0
 try dsimp only
 refine Zy λR0 hR0=>?_
 walk_at "rd"
 refine⟨a,p,ns,xs,8,rfl,s1.seq hS,e1,by omega,by decide,by decide,λd H2 kvs o hd s2 e2 hHV hND hkl=>?_⟩
 rw [hxl] at hHV
 obtain⟨ss,hf,rfl,hnd,hle⟩:=ZpK hHV hND
 have hkl2:ss.length<=12:=by simp [hmL] at hkl; omega
 have hP:Place rs hf ss:=⟨hT,by omega,hle,hnd,by omega⟩
 subst hR0
 try dsimp only
 refine Zy λR0 hR0=>?_
 walk_at "rd"
 refine⟨p,xs,rs,rfl,s2 _ _ e1,hR.same s2,hT,by omega,hn,λx H3 s3 hTr=>?_⟩
 refine⟨d,_,rfl,.inr ⟨_,s3 _ _ e2⟩,λd3 o3 H4 hd3 s4 e4=>?_⟩
 have s14:=s1.trans (s2.trans (s3.trans s4))
 refine⟨x,rs,d3,o3,ss,hf,rfl,hTr.same s4,e4,hP,hn,(let ⟨t,ht⟩:=hTb; ⟨t,s14 _ _ ht⟩),λp5 H5 svs ts js hp5 s5 e5 hSh htn htm hto hCh hcov=>?_⟩
 have hn1:∀ r∈rs,SzQ 110 r.2:=λr hr=>(hn r hr).1
 obtain⟨hB0,hB1,_⟩:=Zfr hP hn1
 have hcT:=Zhe hP hn
 have s25:=s3.trans (s4.trans s5)
 subst hR0
 try dsimp only
 refine Zy λR0 hR0=>?_
 walk_at "rd"
 refine⟨a,p,d,o,ns,xs,rs,ss,hf,rfl,(s14.trans s5).seq hS,(s2.trans s25) _ _ e1,hR.same (s2.trans s25),s25 _ _ e2,hP,hl,hkl2,hn,λp6 H6 gvs us D Y hp6 s6 e6 hGh hus hGd=>?_⟩
 have hkeys:(svs.map λkv=>kV kv.1)=ts.map V.str:=by
  have:=congrArg (List.map kV) hSh.keys
  rw [Yw,Yw] at this
  exact this
 have hkeys6:(gvs.map λkv=>kV kv.1)=us.map V.str:=by
  have:=congrArg (List.map kV) hGh.keys
  rw [Yw,Yw] at this
  exact this
 have htp:ts.Perm ss:=(List.perm_ext_iff_of_nodup htn hnd).mpr htm
 have hup:us.Perm ss:=hus ▸ ZaH ss
 have htl:ts.length=ss.length:=htp.length_eq
 have hul:us.length=ss.length:=hup.length_eq
 subst hR0
 try dsimp only
 refine Zy λR0 hR0=>?_
 refine Zfl λA0 hA0 C0 hC0=>?_
 walk_at "rd"
 refine⟨"dict",by simp [JP,s6 _ _ e5],by decide,?_⟩
 rw [if_neg (by decide)]
 refine⟨svs,.inl (s6 _ _ e5),ts,hkeys,by omega,λl7 H7 u1 hl7 s7 e7 hw1 hp1=>⟨gvs,.inl (s7 _ _ e6),us,hkeys6,by omega,λl8 H8 u2 hl8 s8 e8 hw2 hp2=>?_⟩⟩
 have eu:u1=u2:=(Zhb hw1 (hp1.trans htp)).trans (Zhb hw2 (hp2.trans hup)).symm
 subst eu
 refine⟨true,1,l7,l8,rfl,rfl,Zg3 (s8 _ _ e7) e8,by decide,false,rfl,?_⟩
 rw [if_neg (by decide)]
 subst hC0
 walk_at "rd"
 subst hR0
 try dsimp only
 have s58:=s6.trans (s7.trans s8)
 have s68:=s7.trans s8
 refine Zy λR0 hR0=>?_
 walk_at "rd"
 have hS8:=hSh.keep (H':=H8) λb ys e=>s58 _ _ e
 have hG8:=hGh.keep (H':=H8) λb ys e=>s68 _ _ e
 have rv:∀ {H':Hp}{svs:List (ZQ × V)}{ts:List Str}{qf:Str->Rat},ShV H8 svs ts qf->Zk H8 H'->Jt H' (svs.map (·.2)) (ts.map qf):=λhA k=>⟨by rw [Yf,Yf,hA.1],λj v qk h1 h2=>by
  rw [Yg] at h1 h2
  obtain⟨z,hz,rfl⟩:=YT.mp h2
  obtain⟨u,hu1,hu2⟩:=hA.2 j z hz
  rw [hu1] at h1
  cases h1
  exact hu2.same k⟩
 have szE:∀ z∈ss,SzA (evq rs hf ss js z):=λz hz=>(ZnX hP.n hcT hB0 hB1 hCh hcov hkl2 (G:=[z]) (λy hy=>by rw [List.mem_singleton.mp hy]; exact hz) (by simp)).2 0 _ rfl
 have hD1:D < 2 ^ 4490:=Ys hGd.d1 (Nat.pow_lt_pow_right (by decide) (by decide))
 have hYb:∀ z∈ss,(Y z).natAbs<=2 ^ 2340:=λz hz=>by have:=hGd.y0 z hz; have:=hGd.y1 z hz; omega
 have szG:∀ z∈ss,SzA (Zp D (Y z)):=λz hz=>szA hGd.d0 hD1 (Ys (hYb z hz) (Nat.pow_lt_pow_right (by decide) (by decide)))
 have hum:∀ z,z∈us ↔ z∈ss:=λz=>hup.mem_iff
 refine⟨svs,.inl (s58 _ _ e5),λl9 H9 hl9 s9 e9=>⟨l9,_,ts.map (evq rs hf ss js),rfl,e9,rv hS8 s9,by rw [Yf,hS8.1]; omega,λq hq=>by obtain⟨z,hz,rfl⟩:=Yk.mp hq; exact szE z ((htm z).mp hz),λp10 H10 ys ps hp10 s10 e10 hY hpm hso=>?_⟩⟩
 obtain⟨T,hT1,rfl⟩:=Zc1 hpm ts rfl
 have hTp:=hT1.trans htp
 subst hR0
 try dsimp only
 refine Zy λR0 hR0=>?_
 walk_at "rd"
 have s810:=s9.trans s10
 refine⟨gvs,.inl ((s68.trans s810) _ _ e6),λl11 H11 hl11 s11 e11=>⟨l11,_,us.map λz=>Zp D (Y z),rfl,e11,rv hG8 (s810.trans s11),by rw [Yf,hG8.1]; omega,λq hq=>by obtain⟨z,hz,rfl⟩:=Yk.mp hq; exact szG z ((hum z).mp hz),λp12 H12 ys2 ps2 hp12 s12 e12 hY2 hpm2 hso2=>?_⟩⟩
 obtain⟨U,hU1,rfl⟩:=Zc1 hpm2 us rfl
 have hUp:=hU1.trans hup
 have s1012:=s11.trans s12
 have e1012:=s1012 _ _ e10
 have hY12:Jt H12 ys (T.map (evq rs hf ss js)):=hY.keep λb ys e=>s1012 _ _ e
 have hyl:ys.length=ss.length:=by rw [hY.1,Yf,hTp.length_eq]
 have hyl2:ys2.length=ss.length:=by rw [hY2.1,Yf,hUp.length_eq]
 have cutR:∀ {H':Hp}{ys:List V}{qs:List Rat}(k:Nat),Jt H' ys qs->Jt H' (ys.take k) (qs.take k):=λk hA=>⟨by rw [Yz,Yz,hA.1],λj v q h1 h2=>by
  rw [List.getElem?_take] at h1 h2
  split at h1
  ·rename_i c
   rw [if_pos c] at h2
   exact hA.2 j v q h1 h2
  ·cases h1⟩
 subst hR0
 try dsimp only
 refine Zy λR0 hR0=>?_
 rw [Zfs]
 walk_at "rd"
 refine⟨ys,.inl e1012,by omega,by omega,?_⟩
 rw [show ((ys.length:Int) + 1 - 1).toNat=ss.length by omega]
 refine ZcI (λi σ H'=>(∃ o1,σ=[some (.ref a),some (.ref p),some (.ref d),some (.ref p5),some (.ref p6),some (.ref p10),some (.ref p12),o1,none,none])/\Zk H12 H') ⟨⟨_,rfl⟩,λ_ _ z=>z⟩ (λi σ H13 hi hPv=>?_) (λσ H13 hPv=>?_)
 ·obtain⟨⟨o1,rfl⟩,s13⟩:=hPv
  rw [show (1:Int) + (i:Int)=((i + 1:Nat):Int) by omega]
  refine Zfl λA0 hA0 C0 hC0=>?_
  walk_at "rd"
  simp only [Zrj,cxK]
  walk_at "rd"
  refine⟨ys,.of (s13 _ _ e1012),λp14 hp14=>?_⟩
  rw [ZfN]
  have s14:=λo=>Zo (o:=o) hp14 (λ_ _ z=>z:Zk H13 H13)
  refine⟨p14,_,(T.take (i + 1)).map (evq rs hf ss js),rfl,Zf,?_,ZnX hP.n hcT hB0 hB1 hCh hcov hkl2 (λz hz=>hTp.subset (List.mem_of_mem_take hz)) (by rw [Yz,hTp.length_eq]; omega),λr15 H15 s15 v15=>⟨ys2,.of ((s13.trans ((s14 _).trans s15)) _ _ e12),λp16 hp16=>?_⟩⟩
  ·rw [List.map_take]
   exact (cutR _ hY12).keep λb ys e=>(s13.trans (s14 _)) _ _ e
  rw [ZfN]
  have s16:=λo=>Zo (o:=o) hp16 (λ_ _ z=>z:Zk H15 H15)
  refine⟨p16,_,(U.take (i + 1)).map λz=>Zp D (Y z),rfl,Zf,?_,?_,λr17 H17 s17 v17=>?_⟩
  ·rw [List.map_take]
   exact (cutR _ hY2).keep λb ys e=>(s13.trans ((s14 _).trans (s15.trans (s16 _)))) _ _ e
  ·rw [show ((U.take (i + 1)).map λz=>Zp D (Y z))=((U.take (i + 1)).map Y).map (Zp D) by rw [Yw]; rfl]
   refine Zfi hGd.d0 hD1 (λm hm=>?_) (by rw [Yf,Yz,hUp.length_eq]; omega)
   obtain⟨z,hz,rfl⟩:=Yk.mp hm
   exact Yj (hYb z (hUp.subset (List.mem_of_mem_take hz))) (Y0 (by decide) (by decide))
  have zz1:=(ZnX (G:=T.take (i + 1)) hP.n hcT hB0 hB1 hCh hcov hkl2 (λz hz=>hTp.subset (List.mem_of_mem_take hz)) (by rw [Yz,hTp.length_eq]; omega)).1 _ (Yd _)
  have zz2:Zet ((U.take (i + 1)).map λz=>Zp D (Y z)):=by
   rw [show ((U.take (i + 1)).map λz=>Zp D (Y z))=((U.take (i + 1)).map Y).map (Zp D) by rw [Yw]; rfl]
   refine Zfi hGd.d0 hD1 (λm hm=>?_) (by rw [Yf,Yz,hUp.length_eq]; omega)
   obtain⟨z,hz,rfl⟩:=Yk.mp hm
   exact Yj (hYb z (hUp.subset (List.mem_of_mem_take hz))) (Y0 (by decide) (by decide))
  refine⟨r15,r17,_,_,rfl,v15.same ((s16 _).trans s17),v17,zz1,zz2.1 _ (Yd _),_,rfl,?_⟩
  rw [if_neg λc=>Zjs hP hB0 hkl2 hCh hcov hGd hTp hUp hso2 (Nat.succ_pos i) (by omega) (YN c)]
  subst hC0
  walk_at "rd"
  exact s13.trans ((s14 _).trans (s15.trans ((s16 _).trans s17)))
 ·obtain⟨⟨o1,rfl⟩,s13⟩:=hPv
  subst hR0
  try dsimp only
  refine Zy λR0 hR0=>?_
  walk_at "rd"
  simp only [Zec,Zed,cxK]
  walk_at "rd"
  have e13:=s13 _ _ e1012
  have hY13:Jt H13 ys (T.map (evq rs hf ss js)):=hY12.keep λb ys e=>s13 _ _ e
  refine⟨⟨_,.of e13⟩,?_⟩
  rw [show ∀ l:St,Jv l []=[] from λ_=>rfl]
  have lT:T.length=ss.length:=hTp.length_eq
  have lU:U.length=ss.length:=hUp.length_eq
  refine Zcw (as:=T) (λH v z=>Jd H v (evq rs hf ss js z * evq rs hf ss js z)) (λ_ _ _ _ h s=>h.keep s) e13 (by omega) (by omega) (λi v z h1 h2 H' k os sm ho hk=>?_) (λp14 H14 zs hp14 s14 e14 hv=>?_)
  ·obtain⟨o1,rfl⟩:∃ o1,os=[o1]:=by match os,ho with | [o1],_=>exact⟨o1,rfl⟩
   walk_at "rd"
   have hv:=(hY13.2 i v _ h1 (by rw [Yg,h2]; rfl)).same sm
   have hz:=szE z (hTp.subset (Ym h2))
   exact⟨[some v],rfl,rfl,v,v,_,_,rfl,hv,hv,hz,hz,λr H2 s2 v2=>hk r H2 s2 v2⟩
  ·have hb:0 < botL rs hf ss * 27720:=YI hB0 (by decide)
   have hbs:botL rs hf ss * 27720<=2 ^ 2215:=by
    rw [show (2215:Nat)=2200 + 15 from rfl,YG]
    exact Y9 hB1 (by decide)
   have sqb:∀ {n m:Nat},n<=2 ^ m->m<=2240->n * n < 2 ^ 4490:=λ{n m} h1 h2=>by
    have:=Y9 h1 h1
    rw [<- YG] at this
    exact Ys this (Nat.pow_lt_pow_right (by decide) (by omega))
   have sqE:Zet (T.map λz=>evq rs hf ss js z * evq rs hf ss js z):=by
    rw [show (T.map λz=>evq rs hf ss js z * evq rs hf ss js z)=(T.map λz=>shm rs hf (csT rs hf ss) js (JZ js z) * shm rs hf (csT rs hf ss) js (JZ js z)).map (Zp (botL rs hf ss * 27720 * (botL rs hf ss * 27720))) by rw [Yw]; exact YL λz hz=>by rw [Zfa hB0 hkl2 hCh hcov (hTp.subset hz),Ze0]; rfl]
    refine Zfi (YI hb hb) (sqb hbs (by decide)) (λm hm=>?_) (by rw [Yf]; omega)
    obtain⟨z,hz,rfl⟩:=Yk.mp hm
    exact ZmO (ZoJ hP.n hcT hCh hcov (hTp.subset hz)) (by decide)
   have sqG:Zet (U.map λz=>Zp D (Y z) * Zp D (Y z)):=by
    rw [show (U.map λz=>Zp D (Y z) * Zp D (Y z))=(U.map λz=>Y z * Y z).map (Zp (D * D)) by rw [Yw]; exact YL λz hz=>by rw [Ze0]; rfl]
    refine Zfi (YI hGd.d0 hGd.d0) (sqb hGd.d1 (by decide)) (λm hm=>?_) (by rw [Yf]; omega)
    obtain⟨z,hz,rfl⟩:=Yk.mp hm
    exact ZmO (hYb z (hUp.subset hz)) (by decide)
   have lsR:∀ {H':Hp}{zs:List V}{T:List Str}{qf:Str->Rat},JV (λH v z=>Jd H v (qf z)) H' zs T->Jt H' zs (T.map qf):=λhv=>⟨by rw [Yf]; exact hv.1,λj v q h1 h2=>by
    rw [Yg] at h2
    obtain⟨z,hz,rfl⟩:=YT.mp h2
    exact hv.2 j v z h1 hz⟩
   refine⟨p14,zs,T.map λz=>evq rs hf ss js z * evq rs hf ss js z,rfl,e14,lsR hv,sqE,λr15 H15 s15 v15=>?_⟩
   have s1315:=s13.trans (s14.trans s15)
   subst hR0
   try dsimp only
   refine Zy λR0 hR0=>?_
   walk_at "rd"
   simp only [Zec,Zed,cxK]
   walk_at "rd"
   have e15:=s1315 _ _ e12
   have hY15:Jt H15 ys2 (U.map λz=>Zp D (Y z)):=hY2.keep λb ys e=>s1315 _ _ e
   refine⟨⟨_,.of e15⟩,?_⟩
   rw [show ∀ l:St,Jv l []=[] from λ_=>rfl]
   refine Zcw (as:=U) (λH v z=>Jd H v (Zp D (Y z) * Zp D (Y z))) (λ_ _ _ _ h s=>h.keep s) e15 (by omega) (by omega) (λi v z h1 h2 H' k os sm ho hk=>?_) (λp16 H16 zs2 hp16 s16 e16 hv2=>?_)
   ·obtain⟨o1,rfl⟩:∃ o1,os=[o1]:=by match os,ho with | [o1],_=>exact⟨o1,rfl⟩
    walk_at "rd"
    have hv:=(hY15.2 i v _ h1 (by rw [Yg,h2]; rfl)).same sm
    have hz:=szG z (hUp.subset (Ym h2))
    exact⟨[some v],rfl,rfl,v,v,_,_,rfl,hv,hv,hz,hz,λr H2 s2 v2=>hk r H2 s2 v2⟩
   ·refine⟨p16,zs2,U.map λz=>Zp D (Y z) * Zp D (Y z),rfl,e16,lsR hv2,sqG,λr17 H17 s17 v17=>?_⟩
    subst hR0
    try dsimp only
    walk_at "rd"
    have v15':=v15.same (s16.trans s17)
    have hsq:=Zgy hP hB0 hkl2 hCh hcov hGd hTp hUp
    refine⟨r15,r17,_,_,rfl,v15',v17,sqE.1 _ (Yd _),sqG.1 _ (Yd _),_,rfl,?_⟩
    rcases hsq with c | ⟨c,hall⟩
    ·rw [if_pos (YR c)]
     exact q _
    ·rw [if_neg (λz=>by have:=YN z; rw [c] at this; exact Rat.lt_irrefl this)]
     rw [c] at v15'
     obtain⟨q1,q2,rfl,rfl,heq⟩:=Zkr v15' v17
     have S17:Zk H8 H17:=s810.trans (s1012.trans (s1315.trans (s16.trans s17)))
     refine⟨true,1,q1,q2,rfl,rfl,heq,by decide,true,rfl,?_⟩
     rw [if_pos rfl]
     refine⟨svs,.inl ((s58.trans S17) _ _ e5),gvs,.inl ((s68.trans S17) _ _ e6),by rw [hS8.1,hG8.1]; omega,by rw [hG8.keys]; exact Zfw (hup.nodup_iff.mpr hnd),1,λi hi kv hkv=>?_,by decide,q _⟩
     have hit:i < ts.length:=by rw [<- hS8.1]; exact hi
     obtain⟨v,hv1,hv2⟩:=hS8.2 i _ (Yb hit)
     rw [hkv] at hv1
     cases hv1
     have hzs:=(htm _).mp (YQ hit)
     obtain⟨j,hj⟩:=YC ((hum _).mpr hzs)
     obtain⟨v',hw1,hw2⟩:=hG8.2 j _ hj
     refine⟨j,v',hw1,?_⟩
     rw [hall _ hzs] at hv2
     obtain⟨t1,t2,e1,e2,heq2⟩:=Zkr (hv2.same S17) (hw2.same S17)
     exact heq2
variable {Pr:List Value->Prop}
def Zse(us:List Value)(h:us.length=1)(k:∀ a,Pr [a]):Pr us:=by
 match us,h with
 | [a],_=>exact k a
def Zmp(us:List Value)(h:us.length=2)(k:∀ a b,Pr [a,b]):Pr us:=by
 match us,h with
 | [a,b],_=>exact k a b
def Zsx(us:List Value)(h:us.length=3)(k:∀ a b c,Pr [a,b,c]):Pr us:=by
 match us,h with
 | [a,b,c],_=>exact k a b c
def Zsn(us:List Value)(h:us.length=4)(k:∀ a b c d,Pr [a,b,c,d]):Pr us:=by
 match us,h with
 | [a,b,c,d],_=>exact k a b c d
def Zsq(us:List Value)(h:us.length=5)(k:∀ a b c d e,Pr [a,b,c,d,e]):Pr us:=by
 match us,h with
 | [a,b,c,d,e],_=>exact k a b c d e
variable {ps:List Str}
def Zpr{P:Program}{w:World}{base h:Heap}{x:Str}{sp:Sp}{f:Addr}(X:K.In h)(G:h.Ns mainGlobals mg)(a:nsIn K mainGlobals x=some (some (.ref f)))
  (kp:keepIn K (.ref f)=true) (b:ZY K fd ps []) (o:FnOk P w K mg base ZC k f fd ps sp):Fn P w K mg base ZC k x ps sp:=⟨f,fd,o,b,kp,mg_of X G a⟩
structure DefIn(K:PySem.W.Frag)(x:Str)(st:Stmt)(f:Addr)(fd:FuncData):Prop where
 a:nsIn K mainGlobals x=some (some (.ref f))
 k:keepIn K (.ref f)=true
 u:Fun K x x st f fd
theorem Zpc{x:Str}{st:Stmt}{f:Addr}{oc:Value}{od an:Option Addr}{osl:Array (Option Value)}{kV doc pm cdv ct:Value}(a:nsIn K mainGlobals x=some (some (.ref f)))(l:K.lookup f=some ⟨oc,od,.func (fnOf x x (ZD st) (Zs st) (Za st) .none kV doc pm an cdv ct),osl⟩)(c:codeIn K cdv x=true)(k:keepIn K (.ref f)=true):DefIn K x st f (fnOf x x (ZD st) (Zs st) (Za st) .none kV doc pm an cdv ct):=⟨a,k,ZbU l c k⟩
def ZqP{P:Program}{w:World}{base h:Heap}{x:Str}{sp:Sp}{f:Addr}{st:Stmt}(X:K.In h)(G:h.Ns mainGlobals mg)(z:DefIn K x st f fd)(b:ZY K fd ps [])(o:FnOk P w K mg base ZC k f fd ps sp):Fn P w K mg base ZC k x ps sp:=Zpr X G z.a z.k b o
def bn1(h:∀ a:Value,bindArgs fd ⟨[a],[]⟩=pure (List.zip ps [a])):∀ us:List Value,us.length=1->bindArgs fd ⟨us,[]⟩=pure (List.zip ps us):=λus hl=>Zse (Pr:=λus=>bindArgs fd ⟨us,[]⟩=pure (List.zip ps us)) us hl h
def bn2(h:∀ a b:Value,bindArgs fd ⟨[a,b],[]⟩=pure (List.zip ps [a,b])):∀ us:List Value,us.length=2->bindArgs fd ⟨us,[]⟩=pure (List.zip ps us):=λus hl=>Zmp (Pr:=λus=>bindArgs fd ⟨us,[]⟩=pure (List.zip ps us)) us hl h
def bn3(h:∀ a b c:Value,bindArgs fd ⟨[a,b,c],[]⟩=pure (List.zip ps [a,b,c])):∀ us:List Value,us.length=3->bindArgs fd ⟨us,[]⟩=pure (List.zip ps us):=λus hl=>Zsx (Pr:=λus=>bindArgs fd ⟨us,[]⟩=pure (List.zip ps us)) us hl h
def bn4(h:∀ a b c d:Value,bindArgs fd ⟨[a,b,c,d],[]⟩=pure (List.zip ps [a,b,c,d])):∀ us:List Value,us.length=4->bindArgs fd ⟨us,[]⟩=pure (List.zip ps us):=λus hl=>Zsn (Pr:=λus=>bindArgs fd ⟨us,[]⟩=pure (List.zip ps us)) us hl h
def bn5(h:∀ a b c d e:Value,bindArgs fd ⟨[a,b,c,d,e],[]⟩=pure (List.zip ps [a,b,c,d,e])):∀ us:List Value,us.length=5->bindArgs fd ⟨us,[]⟩=pure (List.zip ps us):=λus hl=>Zsq (Pr:=λus=>bindArgs fd ⟨us,[]⟩=pure (List.zip ps us)) us hl h
def ZqU{l:PySem.W.OpenLaw}{w:World}{h:Heap}{fa:Addr}{f0 f1 f2 f4 f5 f6 f7 f8 f10 f11 f20 f22 f23 f24 f25 f26 f27 f28 f29 f30 f31 f32 f33 f34 f35 f36 f37 f38 f39 f40 f41 f42 f43 f44 f45:Addr}{e0 e1 e2 e4 e5 e6 e7 e8 e10 e11 e20 e22 e23 e24 e25 e26 e27 e28 e29 e30 e31 e32 e33 e34 e35 e36 e37 e38 e39 e40 e41 e42 e43 e44 e45:FuncData}{f3:Addr}{od3 an3:Option Addr}{sl3:Array (Option Value)}{oc3 kV3 dc3 pm3 cd3 ct3:Value}{T3 tn3:Nat}{tc3:Value}{td3:Option Addr}{ts3:Array (Option Value)}{tk3_0:Tok}{tk_MOST_ROADS:Tok}{cTree:Addr}{f13:Addr}{od13 an13:Option Addr}{sl13:Array (Option Value)}{oc13 kV13 dc13 pm13 cd13 ct13:Value}{f14:Addr}{od14 an14:Option Addr}{sl14:Array (Option Value)}{oc14 kV14 dc14 pm14 cd14 ct14:Value}{f15:Addr}{od15 an15:Option Addr}{sl15:Array (Option Value)}{oc15 kV15 dc15 pm15 cd15 ct15:Value}{f16:Addr}{od16 an16:Option Addr}{sl16:Array (Option Value)}{oc16 kV16 dc16 pm16 cd16 ct16:Value}{f17:Addr}{od17 an17:Option Addr}{sl17:Array (Option Value)}{oc17 kV17 dc17 pm17 cd17 ct17:Value}{f18:Addr}{od18 an18:Option Addr}{sl18:Array (Option Value)}{oc18 kV18 dc18 pm18 cd18 ct18:Value}{f19:Addr}{od19 an19:Option Addr}{sl19:Array (Option Value)}{oc19 kV19 dc19 pm19 cd19 ct19:Value}{f21:Addr}{od21 an21:Option Addr}{sl21:Array (Option Value)}{oc21 kV21 dc21 pm21 cd21 ct21:Value}{cc21:Addr}{f46:Addr}{od46 an46:Option Addr}{sl46:Array (Option Value)}{oc46 kV46 dc46 pm46 cd46 ct46:Value}
  (X:K.In h) (G:h.Ns mainGlobals mg) (hfa:mg "law"=some (.ref fa))
  (z0:DefIn K "is_whole" ZcQ f0 e0)
  (z1:DefIn K "greatest_divisor" ZaB f1 e1)
  (z2:DefIn K "is_ratio" Zcz f2 e2)
  (a3:nsIn K mainGlobals "ratio"=some (some (.ref f3)))
  (l3:K.lookup f3=some ⟨oc3,od3,.func (fnOf "ratio" "ratio" (ZD Jw) (Zs Jw) (Za Jw) (.ref T3) kV3 dc3 pm3 an3 cd3 ct3),sl3⟩)
  (c3:codeIn K cd3 "ratio"=true)
  (k3:keepIn K (.ref f3)=true)
  (t3:K.lookup T3=some ⟨tc3,td3,.seq #[.int 1 tk3_0] tn3,ts3⟩)
  (z4:DefIn K "least_multiple" ZaP f4 e4)
  (z5:DefIn K "common_bottom" Zba f5 e5)
  (z6:DefIn K "top_over" ZcR f6 e6)
  (z7:DefIn K "is_price" ZcV f7 e7)
  (z8:DefIn K "is_road" ZdC f8 e8)
  (a_MOST_ROADS:nsIn K mainGlobals "MOST_ROADS"=some (some (.int 40 tk_MOST_ROADS)))
  (z10:DefIn K "look_roads" ZbD f10 e10)
  (z11:DefIn K "way_from" ZcK f11 e11)
  (a_Tree:nsIn K mainGlobals "Tree"=some (some (.ref cTree)))
  (pg_Tree:plainGet K cTree Str.empty=true)
  (hd_Tree:hasDictIn K cTree=true)
  (po_Tree:plainOver K cTree=true)
  (sa_Tree:PySem.W.findIn K (.ref cTree) "__setattr__"=some (some (.builtin "object.__setattr__")))
  (ZaU:PySem.W.findIn K (.ref cTree) "lanes"=some none)
  (Zby:PySem.W.findIn K (.ref cTree) "ways"=some none)
  (a13:PySem.W.findIn K (.ref cTree) "__init__"=some (some (.ref f13)))
  (l13:K.lookup f13=some ⟨oc13,od13,.func (fnOf "__init__" "Tree.__init__" (ZD Zaf) (Zs Zaf) (Za Zaf) .none kV13 dc13 pm13 an13 cd13 ct13),sl13⟩)
  (c13:codeIn K cd13 "Tree.__init__"=true)
  (k13:keepIn K (.ref f13)=true)
  (i13:isFn K (.ref f13)=true)
  (mk13:makesIn K cTree=true)
  (kc13:keepIn K (.ref cTree)=true)
  (a14:PySem.W.findIn K (.ref cTree) "many"=some (some (.ref f14)))
  (l14:K.lookup f14=some ⟨oc14,od14,.func (fnOf "many" "Tree.many" (ZD Zan) (Zs Zan) (Za Zan) .none kV14 dc14 pm14 an14 cd14 ct14),sl14⟩)
  (c14:codeIn K cd14 "Tree.many"=true)
  (k14:keepIn K (.ref f14)=true)
  (i14:isFn K (.ref f14)=true)
  (a15:PySem.W.findIn K (.ref cTree) "look_crossing"=some (some (.ref f15)))
  (l15:K.lookup f15=some ⟨oc15,od15,.func (fnOf "look_crossing" "Tree.look_crossing" (ZD Zaa) (Zs Zaa) (Za Zaa) .none kV15 dc15 pm15 an15 cd15 ct15),sl15⟩)
  (c15:codeIn K cd15 "Tree.look_crossing"=true)
  (k15:keepIn K (.ref f15)=true)
  (i15:isFn K (.ref f15)=true)
  (a16:PySem.W.findIn K (.ref cTree) "look_road"=some (some (.ref f16)))
  (l16:K.lookup f16=some ⟨oc16,od16,.func (fnOf "look_road" "Tree.look_road" (ZD Zad) (Zs Zad) (Za Zad) .none kV16 dc16 pm16 an16 cd16 ct16),sl16⟩)
  (c16:codeIn K cd16 "Tree.look_road"=true)
  (k16:keepIn K (.ref f16)=true)
  (i16:isFn K (.ref f16)=true)
  (a17:PySem.W.findIn K (.ref cTree) "way"=some (some (.ref f17)))
  (l17:K.lookup f17=some ⟨oc17,od17,.func (fnOf "way" "Tree.way" (ZD Zaq) (Zs Zaq) (Za Zaq) .none kV17 dc17 pm17 an17 cd17 ct17),sl17⟩)
  (c17:codeIn K cd17 "Tree.way"=true)
  (k17:keepIn K (.ref f17)=true)
  (i17:isFn K (.ref f17)=true)
  (a18:PySem.W.findIn K (.ref cTree) "price"=some (some (.ref f18)))
  (l18:K.lookup f18=some ⟨oc18,od18,.func (fnOf "price" "Tree.price" (ZD Zak) (Zs Zak) (Za Zak) .none kV18 dc18 pm18 an18 cd18 ct18),sl18⟩)
  (c18:codeIn K cd18 "Tree.price"=true)
  (k18:keepIn K (.ref f18)=true)
  (i18:isFn K (.ref f18)=true)
  (a19:PySem.W.findIn K (.ref cTree) "leads_to"=some (some (.ref f19)))
  (l19:K.lookup f19=some ⟨oc19,od19,.func (fnOf "leads_to" "Tree.leads_to" (ZD Zae) (Zs Zae) (Za Zae) .none kV19 dc19 pm19 an19 cd19 ct19),sl19⟩)
  (c19:codeIn K cd19 "Tree.leads_to"=true)
  (k19:keepIn K (.ref f19)=true)
  (i19:isFn K (.ref f19)=true)
  (z20:DefIn K "needed" Ze8 f20 e20)
  (a21:nsIn K mainGlobals "far_roads_first"=some (some (.ref f21)))
  (l21:K.lookup f21=some ⟨oc21,od21,.func (fnOf "far_roads_first" "far_roads_first" (ZD Zaj) (Zs Zaj) (Za Zaj) .none kV21 dc21 pm21 an21 cd21 ct21),sl21⟩)
  (c21:codeIn K cd21 "far_roads_first"=true)
  (k21:keepIn K (.ref f21)=true)
  (hcd21:cd21=.ref cc21)
  (hC21:codeHdIn K cc21 129=true)
  (z22:DefIn K "bottom_of_prices" ZaA f22 e22)
  (z23:DefIn K "whole_prices" Zbh f23 e23)
  (z24:DefIn K "whole_cost" ZbA f24 e24)
  (z25:DefIn K "homes_without" Za3 f25 e25)
  (z26:DefIn K "is_paid" Zd0 f26 e26)
  (z27:DefIn K "who_can_pay" Zbv f27 e27)
  (z28:DefIn K "cheapest" Zcy f28 e28)
  (z29:DefIn K "stairs" Zfk f29 e29)
  (z30:DefIn K "evenest" Zdl f30 e30)
  (z31:DefIn K "_law_cell_at" Zbs f31 e31)
  (z32:DefIn K "_law_drawn" Zb4 f32 e32)
  (z33:DefIn K "_law_low" Zdu f33 e33)
  (z34:DefIn K "_law_plus" ZcG f34 e34)
  (z35:DefIn K "_law_under" ZbY f35 e35)
  (z36:DefIn K "_law_total" Zb7 f36 e36)
  (z37:DefIn K "_law_price" Zb3 f37 e37)
  (z38:DefIn K "_law_roads" Za9 f38 e38)
  (z39:DefIn K "_law_names" Zcb f39 e39)
  (z40:DefIn K "_law_homes" ZbW f40 e40)
  (z41:DefIn K "_law_way" ZdE f41 e41)
  (z42:DefIn K "_law_copy" ZcO f42 e42)
  (z43:DefIn K "_law_times" Zb0 f43 e43)
  (z44:DefIn K "_law_good" ZcS f44 e44)
  (z45:DefIn K "_law_in_order" Zbg f45 e45)
  (a46:nsIn K mainGlobals "law"=some (some (.ref f46)))
  (l46:K.lookup f46=some ⟨oc46,od46,.func (fnOf "law" "law" (ZD ZeR) (Zs ZeR) (Za ZeR) .none kV46 dc46 pm46 an46 cd46 ct46),sl46⟩)
  (c46:codeIn K cd46 "law"=true)
  (k46:keepIn K (.ref f46)=true)
  (Zf9:nsIn K mainGlobals "isinstance"=some none)
  (Zrt:nsIn K mainGlobals "int"=some none)
  (ZqV:nsIn K mainGlobals "bool"=some none)
  (ZrD:nsIn K mainGlobals "abs"=some none)
  (ZoI:nsIn K mainGlobals "tuple"=some none)
  (ZrA:nsIn K mainGlobals "len"=some none)
  (Zo7:nsIn K mainGlobals "list"=some none)
  (Zns:nsIn K mainGlobals "range"=some none)
  (Zmm:nsIn K mainGlobals "sorted"=some none)
  (Zrq:nsIn K mainGlobals "set"=some none)
  (ZrE:nsIn K mainGlobals "sum"=some none)
  (Zrn:nsIn K mainGlobals "all"=some none)
  (Zge:nsIn K mainGlobals "enumerate"=some none)
  (ZrU:nsIn K mainGlobals "min"=some none)
  (ZqH:nsIn K mainGlobals "dict"=some none)
  : ∃ fd:FuncData,(∀ (s:Shared) (v:Value),BindsTo s fd ⟨[v],[]⟩ [("_law_script",v)])/\∀ base:Heap,K.In base->base.Ns mainGlobals mg->L2.ZdI mg base->FnOk l.prog w K mg base ZC 13 fa fd ["_law_script"] (Zjz 129 K):=by
 have e:=hfa.symm.trans (mg_of X G a46)
 cases e
 have Zhd:=mg_none_of X G ZqH
 have Zoo:=mg_none_of X G ZrU
 have Zcd:=mg_none_of X G Zge
 have ZoS:=mg_none_of X G Zrn
 have ZhW:=mg_none_of X G ZrE
 have Zn6:=mg_none_of X G Zrq
 have ZW:=mg_none_of X G Zmm
 have ZS:=mg_none_of X G Zns
 have ZV:=mg_none_of X G Zo7
 have ZA:=mg_none_of X G ZrA
 have ZcF:=mg_none_of X G ZoI
 have ZfQ:=mg_none_of X G ZrD
 have ZiL:=mg_none_of X G ZqV
 have Ze5:=mg_none_of X G Zrt
 have Zv:=mg_none_of X G Zf9
 have U3:=ZnU (st:=Jw) l3 c3 k3
 have b3:ZY K (fnOf "ratio" "ratio" (ZD Jw) (Zs Jw) (Za Jw) (.ref T3) kV3 dc3 pm3 an3 cd3 ct3) ["top","bottom"] []:=λs us Y hl=>match us,hl with | [_,_],_=>BindsTo.of_defaults (T:=T3) rfl (Y _ _ t3) rfl rfl rfl
 have b3_1:ZY K (fnOf "ratio" "ratio" (ZD Jw) (Zs Jw) (Za Jw) (.ref T3) kV3 dc3 pm3 an3 cd3 ct3) ["top","bottom"] [.int 1 tk3_0]:=λs us Y hl=>by
  have hl2:us.length=1:=by simpa using hl
  exact match us,hl2 with | [_],_=>BindsTo.of_defaults (T:=T3) rfl (Y _ _ t3) rfl rfl rfl
 have g_MOST_ROADS:=mg_of X G a_MOST_ROADS
 have Zpx:=mg_of X G a_Tree
 have ZH:Cls K cTree:=⟨pg_Tree,hd_Tree,po_Tree,sa_Tree⟩
 have U13:=ZbU (st:=Zaf) l13 c13 k13
 have b13:ZY K (fnOf "__init__" "Tree.__init__" (ZD Zaf) (Zs Zaf) (Za Zaf) .none kV13 dc13 pm13 an13 cd13 ct13) ["self","roads"] []:=ZY.all λus hl=>Zmp (Pr:=λus=>bindArgs _ ⟨us,[]⟩=pure (List.zip _ us)) us hl λ_ _=>rfl
 have U14:=ZbU (st:=Zan) l14 c14 k14
 have b14:ZY K (fnOf "many" "Tree.many" (ZD Zan) (Zs Zan) (Za Zan) .none kV14 dc14 pm14 an14 cd14 ct14) ["self"] []:=ZY.all λus hl=>Zse (Pr:=λus=>bindArgs _ ⟨us,[]⟩=pure (List.zip _ us)) us hl λ_=>rfl
 have U15:=ZbU (st:=Zaa) l15 c15 k15
 have b15:ZY K (fnOf "look_crossing" "Tree.look_crossing" (ZD Zaa) (Zs Zaa) (Za Zaa) .none kV15 dc15 pm15 an15 cd15 ct15) ["self","k"] []:=ZY.all λus hl=>Zmp (Pr:=λus=>bindArgs _ ⟨us,[]⟩=pure (List.zip _ us)) us hl λ_ _=>rfl
 have U16:=ZbU (st:=Zad) l16 c16 k16
 have b16:ZY K (fnOf "look_road" "Tree.look_road" (ZD Zad) (Zs Zad) (Za Zad) .none kV16 dc16 pm16 an16 cd16 ct16) ["self","k"] []:=ZY.all λus hl=>Zmp (Pr:=λus=>bindArgs _ ⟨us,[]⟩=pure (List.zip _ us)) us hl λ_ _=>rfl
 have U17:=ZbU (st:=Zaq) l17 c17 k17
 have b17:ZY K (fnOf "way" "Tree.way" (ZD Zaq) (Zs Zaq) (Za Zaq) .none kV17 dc17 pm17 an17 cd17 ct17) ["self","k"] []:=ZY.all λus hl=>Zmp (Pr:=λus=>bindArgs _ ⟨us,[]⟩=pure (List.zip _ us)) us hl λ_ _=>rfl
 have U18:=ZbU (st:=Zak) l18 c18 k18
 have b18:ZY K (fnOf "price" "Tree.price" (ZD Zak) (Zs Zak) (Za Zak) .none kV18 dc18 pm18 an18 cd18 ct18) ["self","k"] []:=ZY.all λus hl=>Zmp (Pr:=λus=>bindArgs _ ⟨us,[]⟩=pure (List.zip _ us)) us hl λ_ _=>rfl
 have U19:=ZbU (st:=Zae) l19 c19 k19
 have b19:ZY K (fnOf "leads_to" "Tree.leads_to" (ZD Zae) (Zs Zae) (Za Zae) .none kV19 dc19 pm19 an19 cd19 ct19) ["self","k"] []:=ZY.all λus hl=>Zmp (Pr:=λus=>bindArgs _ ⟨us,[]⟩=pure (List.zip _ us)) us hl λ_ _=>rfl
 have U21:=ZbU (st:=Zaj) l21 c21 k21
 have b21:=U21.binds (ps:=["tree","homes"]) λ_ _ _ _ _ _ us hl=>Zmp (Pr:=λus=>bindArgs _ ⟨us,[]⟩=pure (List.zip _ us)) us hl λ_ _=>rfl
 have U46:=ZbU (st:=ZeR) l46 c46 k46
 refine⟨fnOf "law" "law" (ZD ZeR) (Zs ZeR) (Za ZeR) .none kV46 dc46 pm46 an46 cd46 ct46,λs v=>.of_eq rfl,λbase _ _ hB=>?_⟩
 have dF:∀ {k:Nat}{x:Str}{ps:List Str}{sp:Sp}{f:Addr}{fd:FuncData}{st:Stmt},DefIn K x st f fd->ZY K fd ps []->FnOk l.prog w K mg base ZC k f fd ps sp->Fn l.prog w K mg base ZC k x ps sp:=λz b o=>ZqP X G z b o
 have ZN:=dF z0 (z0.u.binds (ps:=["thing"]) λ_ _ _ _ _ _=>bn1 λ_=>rfl) (ZgP z0.u Zv Ze5 ZiL)
 have Zab:=dF z1 (z1.u.binds (ps:=["one","other"]) λ_ _ _ _ _ _=>bn2 λ_ _=>rfl) (Zqj z1.u ZfQ)
 have ZcH:=dF z2 (z2.u.binds (ps:=["thing"]) λ_ _ _ _ _ _=>bn1 λ_=>rfl) (Zgb z2.u Zv ZcF ZA ZN Zab)
 have Zna:=My.ZlN (P:=l.prog) (w:=w) (base:=base) U3 ZN Zab
 have Zgz:Fn l.prog w K mg base ZC _ "ratio" ["top","bottom"] _:=⟨f3,_,Zna,b3,k3,mg_of X G a3⟩
 have ZaO:=dF z4 (z4.u.binds (ps:=["one","other"]) λ_ _ _ _ _ _=>bn2 λ_ _=>rfl) (Zo6 z4.u Zab)
 have Za0:=dF z5 (z5.u.binds (ps:=["some"]) λ_ _ _ _ _ _=>bn1 λ_=>rfl) (Zj0 z5.u ZaO)
 have Zcv:=dF z6 (z6.u.binds (ps:=["one","bottom"]) λ_ _ _ _ _ _=>bn2 λ_ _=>rfl) (ZqA z6.u )
 have ZcW:=dF z7 (z7.u.binds (ps:=["thing"]) λ_ _ _ _ _ _=>bn1 λ_=>rfl) (ZgD z7.u ZcH)
 have ZdS:=dF z8 (z8.u.binds (ps:=["thing","many"]) λ_ _ _ _ _ _=>bn2 λ_ _=>rfl) (ZhN z8.u Zv ZcF ZA ZN ZcW)
 have ZbL:=dF z10 (z10.u.binds (ps:=["thing"]) λ_ _ _ _ _ _=>bn1 λ_=>rfl) (Zn2 z10.u Zv ZV ZA g_MOST_ROADS ZdS)
 have ZcA:=dF z11 (z11.u.binds (ps:=["roads","k"]) λ_ _ _ _ _ _=>bn2 λ_ _=>rfl) (ZnH z11.u ZA)
 have Zdj:=My.ZnP (P:=l.prog) (w:=w) (base:=base) U13 ZV ZA ZS ZH ZaU Zby ZbL ZcA
 have Zkq:Mkr l.prog w K mg base ZC _ cTree "Tree" ["self","roads"] _:=⟨f13,_,Zdj,b13,⟨mk13,a13,i13,kc13⟩,Zpx⟩
 have Zga:=My.ZoV (P:=l.prog) (w:=w) (base:=base) U14 ZA ZH Zby
 have Zey:Mth l.prog w K mg base ZC _ cTree "many" ["self"] _:=⟨f14,_,Zga,b14,⟨a14,i14,k14⟩,ZH⟩
 have ZbO:=My.Zmj (P:=l.prog) (w:=w) (base:=base) U15 (CNP:=0) ZN Zey
 have Zam:Mth l.prog w K mg base ZC _ cTree "look_crossing" ["self","k"] _:=⟨f15,_,ZbO,b15,⟨a15,i15,k15⟩,ZH⟩
 have Zdb:=My.Zlg (P:=l.prog) (w:=w) (base:=base) U16 Zam
 have ZaE:Mth l.prog w K mg base ZC _ cTree "look_road" ["self","k"] _:=⟨f16,_,Zdb,b16,⟨a16,i16,k16⟩,ZH⟩
 have Zh4:=My.ZoN (P:=l.prog) (w:=w) (base:=base) U17 ZV ZH Zby Zam
 have Zfm:Mth l.prog w K mg base ZC _ cTree "way" ["self","k"] _:=⟨f17,_,Zh4,b17,⟨a17,i17,k17⟩,ZH⟩
 have ZfV:=My.Zi9 (P:=l.prog) (w:=w) (base:=base) U18 ZH ZaU ZaE
 have Zcx:Mth l.prog w K mg base ZC _ cTree "price" ["self","k"] _:=⟨f18,_,ZfV,b18,⟨a18,i18,k18⟩,ZH⟩
 have Zdh:=My.ZiA (P:=l.prog) (w:=w) (base:=base) U19 ZH ZaU ZaE
 have ZcE:Mth l.prog w K mg base ZC _ cTree "leads_to" ["self","k"] _:=⟨f19,_,Zdh,b19,⟨a19,i19,k19⟩,ZH⟩
 have Z3:=dF z20 (z20.u.binds (ps:=["tree","homes","group"]) λ_ _ _ _ _ _=>bn3 λ_ _ _=>rfl) (ZjP z20.u ZW Zn6 Zfm)
 have ZaG:=Zpr X G a21 k21 b21 (My.Zqu (P:=l.prog) (w:=w) (base:=base) U21 hcd21 hC21 hB ZA ZW ZV Z3 Zfm)
 have Zay:=dF z22 (z22.u.binds (ps:=["tree","homes"]) λ_ _ _ _ _ _=>bn2 λ_ _=>rfl) (Ziy z22.u ZV Za0 Z3 Zcx)
 have Zbj:=dF z23 (z23.u.binds (ps:=["tree","homes","bottom"]) λ_ _ _ _ _ _=>bn3 λ_ _ _=>rfl) (ZhC z23.u ZV Z3 Zcv Zcx)
 have Zaw:=dF z24 (z24.u.binds (ps:=["tree","homes","group","prices"]) λ_ _ _ _ _ _=>bn4 λ_ _ _ _=>rfl) (ZkT z24.u ZhW Z3)
 have Za8:=dF z25 (z25.u.binds (ps:=["homes","group"]) λ_ _ _ _ _ _=>bn2 λ_ _=>rfl) (Zic z25.u )
 have Zdt:=dF z26 (z26.u.binds (ps:=["way","left"]) λ_ _ _ _ _ _=>bn2 λ_ _=>rfl) (ZnL z26.u ZoS)
 have Zbp:=dF z27 (z27.u.binds (ps:=["tree","homes","prices","brought","heads"]) λ_ _ _ _ _ _=>bn5 λ_ _ _ _ _=>rfl) (Zj7 z27.u Zey ZaG ZcE Zdt Zfm)
 have ZcB:=dF z28 (z28.u.binds (ps:=["tree","homes","prices"]) λ_ _ _ _ _ _=>bn3 λ_ _ _=>rfl) (Zgj z28.u ZV ZA Zbp Zaw)
 have Ze1:=dF z29 (z29.u.binds (ps:=["tree","homes"]) λ_ _ _ _ _ _=>bn2 λ_ _=>rfl) (Zin z29.u ZA ZW Zay Zbj ZcB Za8 Zgz Zaw Z3)
 have ZdU:=dF z30 (z30.u.binds (ps:=["tree","homes"]) λ_ _ _ _ _ _=>bn2 λ_ _=>rfl) (Zh7 z30.u Ze1)
 have Zag:=dF z31 (z31.u.binds (ps:=["_law_script","_law_k"]) λ_ _ _ _ _ _=>bn2 λ_ _=>rfl) (Znc z31.u ZA)
 have ZK:=dF z32 (z32.u.binds (ps:=["_law_cell","_law_bases"]) λ_ _ _ _ _ _=>bn2 λ_ _=>rfl) (Zk8 z32.u Zcd)
 have ZU:=dF z33 (z33.u.binds (ps:=["_law_top","_law_bottom"]) λ_ _ _ _ _ _=>bn2 λ_ _=>rfl) (ZoU z33.u ZfQ)
 have ZaW:=dF z34 (z34.u.binds (ps:=["_law_one","_law_other"]) λ_ _ _ _ _ _=>bn2 λ_ _=>rfl) (ZoH z34.u ZU)
 have Zav:=dF z35 (z35.u.binds (ps:=["_law_one","_law_other"]) λ_ _ _ _ _ _=>bn2 λ_ _=>rfl) (Zj4 z35.u )
 have ZaF:=dF z36 (z36.u.binds (ps:=["_law_some"]) λ_ _ _ _ _ _=>bn1 λ_=>rfl) (Ziv z36.u ZaW)
 have Zcc:=dF z37 (z37.u.binds (ps:=["_law_one","_law_other","_law_wide"]) λ_ _ _ _ _ _=>bn3 λ_ _ _=>rfl) (ZkG z37.u ZU)
 have Zb6:=dF z38 (z38.u.binds (ps:=["_law_script","_law_most"]) λ_ _ _ _ _ _=>bn2 λ_ _=>rfl) (ZjH z38.u ZS Zoo Ze5 Zag ZK Zcc)
 have Zb9:=dF z39 (z39.u.binds (ps:=["_law_cell","_law_many"]) λ_ _ _ _ _ _=>bn2 λ_ _=>rfl) (Zkz z39.u ZS Ze5 ZK)
 have ZbZ:=dF z40 (z40.u.binds (ps:=["_law_script","_law_roads_here","_law_most"]) λ_ _ _ _ _ _=>bn3 λ_ _ _=>rfl) (Zkh z40.u ZS ZA Zag ZK Zb9)
 have ZdM:=dF z41 (z41.u.binds (ps:=["_law_roads_here","_law_k"]) λ_ _ _ _ _ _=>bn2 λ_ _=>rfl) (ZqL z41.u )
 have ZcZ:=dF z42 (z42.u.binds (ps:=["_law_roads_here"]) λ_ _ _ _ _ _=>bn1 λ_=>rfl) (Zmb z42.u Zkq)
 have Zau:=dF z43 (z43.u.binds (ps:=["_law_one","_law_other"]) λ_ _ _ _ _ _=>bn2 λ_ _=>rfl) (Zi6 z43.u ZU)
 have Zcu:=dF z44 (z44.u.binds (ps:=["_law_script","_law_roads_here","_law_homes_here"]) λ_ _ _ _ _ _=>bn3 λ_ _ _=>rfl) (ZoK z44.u ZW ZA ZS ZhW ZK Zag ZdM ZU ZaW Zau)
 have ZaK:=dF z45 (z45.u.binds (ps:=["_law_some"]) λ_ _ _ _ _ _=>bn1 λ_=>rfl) (Zlc z45.u ZA Zav)
 exact My.Zpa (P:=l.prog) (w:=w) (base:=base) U46 Zv Zhd ZW ZV ZA ZS Zb6 ZbZ ZcZ ZdU Zcu ZaK ZaF Zav Zau
end My
namespace PySem.W.Fast
def tw750798883825207388:=()
def tw6459216700071911696:=()
def tw8720070775516185081:=()
def tw12094733746452957300:=()
def tw2895547627074475092:=()
def tw7775705212044711669:=()
def tw5310402355159358117:=()
def tw6950890682199752631:=()
def tw9347338569447521067:=()
def tw11746278926411096310:=()
def tw53105259560272216:=()
def tw18342462012502958184:=()
def tw2885794981028720583:=()
def tw1920312488559206616:=()
def tw3834198908330285011:=()
def tw8401724209023969317:=()
def tw16035347197356785145:=()
def tw15141232422944729666:=()
def tw18113945145075255209:=()
def tw4603319074838215267:=()
def tw4306078750100172440:=()
def tw5762862071595553181:=()
def tw5602958017937669767:=()
def tw13267645606930014809:=()
def tw17821789767134403220:=()
def tw578852290410021757:=()
def tw8394394365303950062:=()
def tw9379575862977623976:=()
def tw11940485181695286319:=()
def tw16672460871522311234:=()
def tw6172997031337123054:=()
def tw17807541113101671438:=()
def tw13060222243229800576:=()
def tw17404352804329067434:=()
def tw15138490391722179778:=()
def tw13465697269107001336:=()
def tw12333918265221650342:=()
def tw2343490448693637785:=()
def tw13748079745014056560:=()
def tw7971220094242790390:=()
def tw12088270971362213836:=()
def tw16541918655741385868:=()
def tw8996636201856575161:=()
def tw13841276037518552822:=()
def tw2304026116294996725:=()
def tw4640639129942398649:=()
def tw5950343860913709103:=()
def tw4550481005792198495:=()
def tw11018632930244613034:=()
def tw8481712139346880936:=()
def tw5973110409087033078:=()
def tw1001032771237919812:=()
def tw9917980240113650059:=()
def tw7201502191534585318:=()
def tw4971722483362231163:=()
def tw14205993490744851188:=()
def tw15643564391448561535:=()
def tw16503039853771110778:=()
def tw18090404236160357823:=()
def tw5425675835631367321:=()
def tw3813830064093074128:=()
def tw16962390399917874371:=()
def tw1330072649054766670:=()
def tw13161103564633230726:=()
def tw9637789588240336931:=()
def tw1145457221060216273:=()
def tw15328131806395095161:=()
def tw2649793087577075108:=()
def tw6505617410994237190:=()
def tw13750448528830056502:=()
def tw1650553473102627120:=()
def tw10625674202557461413:=()
def tw3704033181305622630:=()
def tw16571197917314642093:=()
def tw12910786767923425998:=()
def tw9548471341847012770:=()
def tw894681737152478356:=()
def tw11608341868115533208:=()
def tw4739777157157216562:=()
def tw3351038624103496741:=()
def tw13656422387354512594:=()
def tw7206497936695618308:=()
def tw666698938741161957:=()
def tw17510402096205446999:=()
def tw6054598331876328205:=()
def tw16736189926927747266:=()
def tw8600856086393073745:=()
def tw11385548777818189987:=()
def tw12293464949928561220:=()
def tw14871397171028944301:=()
def tw2884108494447197326:=()
def tw12221632009004669197:=()
def tw3516058876982418911:=()
def tw4286709955698934744:=()
def tw18166542523679190670:=()
def tw13499487244008530289:=()
def tw16657773167221248178:=()
def tw12103333508299076340:=()
def tw6995402392789914077:=()
def tw13688805051213512534:=()
def tw7306113589513948923:=()
def tw7054270258805957323:=()
end PySem.W.Fast
open PySem PySem.W PyProof.Rows
local macro_rules | `(tactic| walk_at "zi") => `(tactic| (refine' My.Zpc ?a ?l ?c ?k; (case a => k_is); (case l => k_is); (case c => k_is); (case k => k_is)))
set_option maxRecDepth 100000 in
set_option maxHeartbeats 0 in
theorem PySem.Challenge.cw_roadshare_k44_whole_evenest_of_all_holds : PySem.Challenge.rw_roadshare_k44_whole_evenest_of_all.Holds := by
 w_on; o_law; k_head; (case hw=>w_witness2)
 k_fill
 refine L2.Zjx (l:=PySem.Challenge.rw_roadshare_k44_whole_evenest_of_all) (n:=63) (k:=13) (x:="_law_script") (CX:=L2.ZC) (sp:=My.Zjz 129) (λb=>if b=129 then some (Str.ofString "far_roads_first.<locals>.<lambda>") else none) rfl (by decide) rfl ⟨rfl,by decide,by decide⟩ (λw h Y=>km_in_of Y) ?T ?KT ?F ?S ?C
 case T =>
  intro w h Y b q hb
  have e:b=129:=by
   by_cases z:b=129
   ·exact z
   ·rw [if_neg z] at hb; cases hb
  subst e
  exact⟨⟨133,codeHd_of_K (km_in_of Y) (by kernel_rfl)⟩,PySem.W.km_tabs_of Y 129 (by simp)⟩
 case KT =>
  intro w b q hb
  have e:b=129:=by
   by_cases z:b=129
   ·exact z
   ·rw [if_neg z] at hb; cases hb
  subst e
  first | k_is | kernel_rfl
 case S=>exact λK H a ns hl hO hS=>⟨a,ns,rfl,hS,hO 129 _ (if_pos rfl),λ_=>rfl⟩
 case C=>exact λ_ _ _ _ z=>z
 case F =>
  intro w mg fa h KX G hmg
  refine' My.ZqU KX G hmg _ _ _ _ _ _ _ _ _ _ _ _ _ _ _ _ _ _ _ _ _ _ _ _ _ _ _ _ _ _ _ _ _ _ _ _ _ _ _ _ _ _ _ _ _ _ _ _ _ _ _ _ _ _ _ _ _ _ _ _ _ _ _ _ _ ?hcd21 _ _ _ _ _ _ _ _ _ _ _ _ _ _ _ _ _ _ _ _ _ _ _ _ _ _ _ _ _ _ _ _ _ _ _ _ _ _ _ _ _ _ _ _
  (case hcd21=>exact rfl)
  all_goals first | walk_at "zi" | k_is | kernel_rfl | skip
#print axioms PySem.Challenge.cw_roadshare_k44_whole_evenest_of_all_holds
