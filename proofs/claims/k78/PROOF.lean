import PyProof.Rows.All
import Wide.All
import OpenK.AllK
import Wide.FinOn
import Lean
import PyProof.EqAt
import PyProof.EqKinds
import PyProof.TupleCall
import PySem.Challenge.RW_roundcall_k78_whole_broken_in_time
/-! THE HAND LAYER, for ints, bools, texts, own classes, LISTS and tuples (index, slices, in, append, pop ..), calls, loops. Paste it whole ahead of your own text; what your proof does not reach may be deleted. -/
set_option Elab.async false
set_option linter.all false
set_option maxRecDepth 100000
set_option maxHeartbeats 4000000
set_option bootstrap.genMatcherCode false
namespace L2
local macro_rules | `(tactic| omega) => `(tactic| lia)
open PySem PySem.Spec PyProof.Rows
abbrev Dt:=Sum Int Str
def Iq:Dt -> Value -> Bool
 | .inl k,v=>Value.isInt k v
 | .inr x,v=>Value.isStrOf x v
def rn (w:World):Dt -> Int
 | .inl k=>hashInt k
 | .inr x=>hashStr w x
theorem Cd:∀ {k:Dt} {v:Value},Iq k v = true -> (∃ i t,k = Sum.inl i /\ v = Value.int i t) \/ (∃ x t,k = Sum.inr x /\ v = Value.str x t)
 | .inl i,v,h=>by
  obtain ⟨t,e⟩ := Value.isInt_shape (k:=i) (v:=v) h
  exact .inl ⟨i,t,rfl,e⟩
 | .inr x,v,h=>by
  obtain ⟨t,e⟩ := Value.isStrOf_shape (x:=x) (v:=v) h
  exact .inr ⟨x,t,rfl,e⟩
theorem Wf (i:Int) (t:Tok):Iq (.inl i) (.int i t) = true:=by simp [Iq,Value.isInt]
theorem Vo (x:Str) (t:Tok):Iq (.inr x) (.str x t) = true:=by simp [Iq,Value.isStrOf]
theorem iw (a b:Int):decide ((Sum.inl a:Dt) = Sum.inl b) = (a == b):=by
 by_cases e:a = b
 ·subst e; simp
 ·have h:¬ (Sum.inl a:Dt) = Sum.inl b:=fun q=>e (Sum.inl.inj q)
  rw [decide_eq_false h]
  exact (beq_eq_false_iff_ne.mpr e).symm
theorem fj (a b:Str):decide ((Sum.inr a:Dt) = Sum.inr b) = decide (a = b):=by
 by_cases e:a = b
 ·subst e; simp
 ·have h:¬ (Sum.inr a:Dt) = Sum.inr b:=fun q=>e (Sum.inr.inj q)
  rw [decide_eq_false h,decide_eq_false e]
theorem fq (a:Int) (b:Str):decide ((Sum.inl a:Dt) = Sum.inr b) = false:=decide_eq_false (fun q=>nomatch q)
theorem j7 (a:Str) (b:Int):decide ((Sum.inr a:Dt) = Sum.inl b) = false:=decide_eq_false (fun q=>nomatch q)
def Db (prog:Program) (w:World):PySem.KeyKind prog w Dt where
 is:=Iq
 hash:=rn w
 inj:=fun v a b ha hb=>by
  rcases Cd ha with ⟨i,t,rfl,rfl⟩ | ⟨x,t,rfl,rfl⟩
  ·rcases Cd hb with ⟨j,u,rfl,e⟩ | ⟨y,u,rfl,e⟩
   ·injection e with e1 _; rw [e1]
   ·exact nomatch e
  ·rcases Cd hb with ⟨j,u,rfl,e⟩ | ⟨y,u,rfl,e⟩
   ·exact nomatch e
   ·injection e with e1 _; rw [e1]
 byValue:=fun k v h=>by
  rcases Cd h with ⟨i,t,rfl,rfl⟩ | ⟨x,t,rfl,rfl⟩ <;> rfl
 pyHash:=fun hv h=>by
  rcases Cd hv with ⟨i,t,rfl,rfl⟩ | ⟨x,t,rfl,rfl⟩
  ·exact wpAny_pyHash_int h
  ·exact wpAny_pyHash_str h
 eqBool:=fun hu hv h=>by
  rcases Cd hu with ⟨i,t,rfl,rfl⟩ | ⟨x,t,rfl,rfl⟩
  ·rcases Cd hv with ⟨j,u,rfl,rfl⟩ | ⟨y,u,rfl,rfl⟩
   ·rw [iw] at h; exact wpAny_eqBool_int h
   ·rw [fq] at h; exact SeqAt.EqAt.int_str i t y u _ _ _ _ h
  ·rcases Cd hv with ⟨j,u,rfl,rfl⟩ | ⟨y,u,rfl,rfl⟩
   ·rw [j7] at h; exact SeqAt.EqAt.str_int x t j u _ _ _ _ h
   ·rw [fj] at h; exact wpAny_eqBool_str h
 «strs» := fun k x t v h=>by
  rcases Cd h with ⟨i,u,rfl,e⟩ | ⟨y,u,rfl,e⟩
  ·exact nomatch e
  ·injection e with e1 _
   subst e1
   cases v <;> rfl
theorem Rh (prog:Program) (w:World) (i:Int) (t:Tok):(Db prog w).is (.inl i) (.int i t) = true:=Wf i t
theorem Ro (prog:Program) (w:World) (x:Str) (t:Tok):(Db prog w).is (.inr x) (.str x t) = true:=Vo x t
inductive V where
 | aR | bl (b:Bool) | int (i:Int) | str (x:Str) | lG (b:Array UInt8) | xi (b:UInt64) | ref (a:Addr) | ty (n:String)
 deriving DecidableEq
def Av:V -> Value -> Prop
 | .aR,u=>u = Value.none
 | .bl b,u=>u = Value.bool b
 | .int i,u=>∃ t,u = Value.int i t
 | .str x,u=>∃ t,u = Value.str x t
 | .lG b,u=>∃ t,u = Value.bytes b t
 | .xi b,u=>∃ t,u = Value.float b t
 | .ref a,u=>u = Value.ref a
 | .ty n,u=>u = Value.type n
abbrev Aw:List V -> List Value -> Prop:=Paired Av
theorem Aw.length {xs:List V} {us:List Value} (r:Aw xs us):xs.length = us.length:=Paired.length r
theorem Aw.get:∀ {xs:List V} {us:List Value} {i:Nat} {x:V},Aw xs us -> xs[i]? = some x -> ∃ u,us[i]? = some u /\ Av x u
 | _,_,_,_,.nil,e=>by simp at e
 | _,_,0,_,.cons r _,e=>by simp at e; subst e; exact ⟨_,rfl,r⟩
 | _,_,i + 1,x,.cons _ t,e=>by
  obtain ⟨u,h1,h2⟩ := Aw.get (i:=i) (x:=x) t (by simpa using e)
  exact ⟨u,by simpa using h1,h2⟩
theorem Aw.set {x:V} {u:Value} (r:Av x u):∀ {xs:List V} {us:List Value} (i:Nat),Aw xs us -> Aw (xs.set i x) (us.set i u)
 | _,_,_,.nil=>.nil
 | _,_,0,.cons _ t=>.cons r t
 | _,_,i + 1,.cons q t=>.cons q (Aw.set r i t)
theorem Aw.append {xs ys:List V} {us ws:List Value} (h:Aw xs us) (s:Aw ys ws):Aw (xs ++ ys) (us ++ ws):=by
 induction h with
 | nil=>exact s
 | cons r t ih=>exact .cons r ih
theorem Aw.take:∀ {xs:List V} {us:List Value} (n:Nat),Aw xs us -> Aw (xs.take n) (us.take n)
 | _,_,0,_=>.nil
 | _,_,_ + 1,.nil=>.nil
 | _,_,n + 1,.cons r t=>.cons r (Aw.take n t)
theorem Aw.drop:∀ {xs:List V} {us:List Value} (n:Nat),Aw xs us -> Aw (xs.drop n) (us.drop n)
 | _,_,0,r=>r
 | _,_,_ + 1,.nil=>.nil
 | _,_,n + 1,.cons _ t=>Aw.drop n t
def Fq:Option V -> Option Value -> Prop
 | some v,some u=>Av v u
 | none,none=>True
 | _,_=>False
def KV {κ:Type}:List (κ × V) -> List (κ × Value) -> Prop:=Paired fun (p:κ × V) (q:κ × Value)=>p.1 = q.1 /\ Av p.2 q.2
def kV:Dt -> V
 | .inl i=>.int i
 | .inr x=>.str x
section
variable {prog:Program} {w:World}
def Bu (prog:Program) (w:World) (h:Heap) (k:List Int × Int) (a:Addr):Prop :=
 ∃ o n u t,h.get? a = some o /\ o.cls = .type "tuple" /\ o.data = .seq #[.ref u,.int k.2 t] n /\ IsTupleKey (intKind prog w) h k.1 u
theorem Bu.typeIs {s:Shared} {k:List Int × Int} {a:Addr} (x:Bu prog w s.heap k a):s.TypeIs (.ref a) "tuple" := let ⟨o,_,_,_,ho,hc,_⟩ := x; ⟨o,ho,hc⟩
theorem Bu.inj {h:Heap} {a:Addr} {x y:List Int × Int} (hx:Bu prog w h x a) (hy:Bu prog w h y a):x = y:=by
 obtain ⟨o,n,u,t,ho,_,hd,hi⟩ := hx
 obtain ⟨o',n',u',t',mT,_,mU,mV⟩ := hy
 obtain rfl:o = o':=Option.some.inj (ho.symm.trans mT)
 rw [hd] at mU
 injection mU with h1 _
 simp only [Array.mk.injEq,List.cons.injEq,Value.ref.injEq,Value.int.injEq,and_true] at h1
 obtain ⟨rfl,h2,_⟩ := h1
 exact Prod.ext (hi.inj mV) h2
theorem Bu.keeps {h h':Heap} {k:List Int × Int} {a d:Addr} {o:Obj} {es ep} (x:Bu prog w h k a) (ho:h.get? d = some o) (hd:o.data = .dict es ep) (hs:Heap.SameBut d h h'):Bu prog w h' k a:=by
 obtain ⟨o',n,u,t,mT,hc,mU,hi⟩ := x
 have bP:a ≠ d:=by
  rintro rfl
  obtain rfl:o' = o:=Option.some.inj (mT.symm.trans ho)
  rw [hd] at mU
  exact nomatch mU
 exact ⟨o',n,u,t,(hs.2 a bP).trans mT,hc,mU,hi.keeps ho hd hs⟩
def Gw (prog:Program) (w:World) (k:List Int × Int):Int:=reduceHash (Builtin.Tuple.tupleHashOf [tupleKeyHash (intKind prog w) k.1,(intKind prog w).hash k.2])
theorem U9 {A : Around} {E : Value -> Shared -> Prop} {s : Shared} {k : List Int × Int} {a : Addr} {Q : Int -> Shared -> Prop} (hu : A.units + 8 < cLine) (hk : Bu prog w s.heap k a) (h : Q (Gw prog w k) { s with toks := s.toks + (k.1.length + 3) }) :
  wpAny (model prog w) A (pyHash (.ref a)) Q E s:=by
 have hT:=hk.typeIs
 obtain ⟨o,n,u,t,ho,_,hd,hi⟩ := hk
 unfold pyHash
 first | unfold pyHashByItsType | skip
 first | refine wpAny_bind (wpAny_cRoomFor_or (.inr (by omega)) ?_) | skip
 refine wpAny_bind (wpAny_specialOf hT F.slot_tuple_hash.lookup ?_)
 show wpAny _ _ (if (some (Value.builtin "tuple.__hash__") == some Value.none) = true then _ else _) Q E s
 rw [if_neg (by rw [beq_builtin_none]; exact Bool.false_ne_true)]
 refine wpAny_bind (wpAny_specialOf hT F.slot_tuple_hash.lookup ?_)
 show wpAny _ _ (callSpecialIfBoundUnlessNone? (.ref a) "__hash__" _ >>= _) Q E s
 refine wpAny_bind (wpAny_callSpecialIfBoundUnlessNone?_slot hT F.slot_tuple_hash (wpAny_call_entry F.slot_tuple_hash hT F.entry_tuple_hash ?_ (F.args_tuple_hash_1 _)))
 show wpAny _ _ (Builtin.Tuple.tupleItemsOf (.ref a) >>= _) _ _ s
 refine wpAny_bind (wpAny_tupleItemsOf ho hd ?_)
 refine wpAny_bind ?_
 rw [<- Array.forIn_toList]
 show wpAny _ _ (forIn [Value.ref u,Value.int k.2 t] _ _) _ _ _
 rw [List.forIn_cons]
 have kA:A.in1.units < cLine:=by
  first | (show A.units + 1 < cLine; omega) | (show A.units < cLine; omega) | (simp only [Around.in1]; omega)
 refine wpAny_bind (wpAny_bind (wpAny_pyHash_tuple (knd:=intKind prog w) kA hi ?_))
 refine wpAny_pure ?_
 show wpAny _ _ (forIn [Value.int k.2 t] _ _) _ _ _
 rw [List.forIn_cons]
 refine wpAny_bind (wpAny_bind ((intKind prog w).pyHash (k:=k.2) (by simp [intKind,Value.isInt]) ?_))
 refine wpAny_pure ?_
 show wpAny _ _ (forIn [] _ _) _ _ _
 rw [List.forIn_nil]
 refine wpAny_pure ?_
 show wpAny _ _ (retInt (Builtin.Tuple.tupleHashOf [tupleKeyHash (intKind prog w) k.1,(intKind prog w).hash k.2])) _ _ _
 refine wpAny_ret_mkInt ?_
 generalize e:Builtin.Tuple.tupleHashOf [tupleKeyHash (intKind prog w) k.1,(intKind prog w).hash k.2] = z
 show wpAny _ _ (if (decide (-(2:Int) ^ 63 <= z) && decide (z < 2 ^ 63)) = true then _ else _) Q E _
 unfold Gw reduceHash at h
 rw [e] at h
 by_cases hr:(decide (-(2:Int) ^ 63 <= z) && decide (z < 2 ^ 63)) = true
 ·rw [if_pos hr]
  rw [if_pos hr] at h
  exact wpAny_pure (by simpa [Nat.add_assoc] using h)
 ·rw [if_neg hr]
  rw [if_neg hr] at h
  exact wpAny_bind (wpAny_rule (wpAny_pure (by simpa [Nat.add_assoc] using h)))
theorem Yt {A : Around} {E : Value -> Shared -> Prop} {s : Shared} {x y : List Int × Int} {a b : Addr} {Q : Bool -> Shared -> Prop} (hu : A.units + 8 < cLine) (hx : Bu prog w s.heap x a) (hy : Bu prog w s.heap y b) (h : Q (decide (x = y)) s) :
  wpAny (model prog w) A (eqBool (.ref a) (.ref b)) Q E s:=by
 unfold eqBool
 try with_reducible refine wpAny_holding ?_
 show wpAny _ _ (if (Value.ref a == Value.ref b) = true then _ else _) Q E s
 by_cases GK:(Value.ref a == Value.ref b) = true
 ·rw [if_pos GK]
  have e:a = b:=by have:=eq_of_beq GK; injection this
  subst e
  obtain rfl:=hx.inj hy
  exact wpAny_bind (wpAny_rule (wpAny_pure (by simpa using h)))
 ·rw [if_neg GK]
  refine wpAny_bind (wpAny_richCompare_same_room (op := .Eq) hx.typeIs hy.typeIs F.slot_tuple_eq
   (wpAny_call_entry F.slot_tuple_eq hx.typeIs F.entry_tuple_eq ?_ (F.args_tuple_eq_2 _ _)) (by omega))
  have hTb:=hy.typeIs
  obtain ⟨oa,na,ua,ta,hoa,_,hda,hia⟩ := hx
  obtain ⟨ob,nb,ub,tb,hob,_,nD,hib⟩ := hy
  show wpAny _ _ (isInstance (.ref b) (.type "tuple") >>= _) _ _ s
  refine wpAny_bind (wpAny_isInstance hTb isSubtype_tuple_tuple ?_)
  simp only [Bool.not_true,Bool.false_eq_true,if_false]
  refine wpAny_bind (wpAny_tupleItemsOf hoa hda ?_)
  refine wpAny_bind (wpAny_tupleItemsOf hob nD ?_)
  refine wpAny_bind ?_
  show wpAny _ _ (forIn [(Value.ref ua,Value.ref ub),(Value.int x.2 ta,Value.int y.2 tb)] _ _) _ _ _
  rw [List.forIn_cons]
  have kA:A.in1.units < cLine:=by
   first | (show A.units + 1 < cLine; omega) | (show A.units < cLine; omega) | (simp only [Around.in1]; omega)
  refine wpAny_bind (wpAny_bind (wpAny_eqBool_tuple (knd:=intKind prog w) kA hia hib ?_))
  by_cases h1:x.1 = y.1
  ·rw [decide_eq_true h1]
   simp only [Bool.not_true,Bool.false_eq_true,if_false]
   refine wpAny_pure ?_
   show wpAny _ _ (forIn [(Value.int x.2 ta,Value.int y.2 tb)] _ _) _ _ _
   rw [List.forIn_cons]
   refine wpAny_bind (wpAny_bind ((intKind prog w).eqBool (a:=x.2) (b:=y.2) (by simp [intKind,Value.isInt]) (by simp [intKind,Value.isInt]) ?_))
   by_cases h2:x.2 = y.2
   ·rw [decide_eq_true h2]
    simp only [Bool.not_true,Bool.false_eq_true,if_false]
    refine wpAny_pure ?_
    show wpAny _ _ (forIn [] _ _) _ _ _
    rw [List.forIn_nil]
    refine wpAny_pure ?_
    have e:decide (x = y) = true:=decide_eq_true (Prod.ext h1 h2)
    rw [e] at h
    exact wpAny_pure ⟨_,rfl,(fun e=>nomatch e),wpAny_truthy_bool h⟩
   ·rw [decide_eq_false h2]
    simp only [Bool.not_false,if_true]
    have e:decide (x = y) = false:=decide_eq_false fun z=>h2 (by rw [z])
    rw [e] at h
    exact wpAny_bind (wpAny_pure (wpAny_pure (wpAny_pure (wpAny_pure ⟨_,rfl,(fun e=>nomatch e),wpAny_truthy_bool h⟩))))
  ·rw [decide_eq_false h1]
   simp only [Bool.not_false,if_true]
   have e:decide (x = y) = false:=decide_eq_false fun z=>h1 (by rw [z])
   rw [e] at h
   exact wpAny_bind (wpAny_pure (wpAny_pure (wpAny_pure (wpAny_pure ⟨_,rfl,(fun e=>nomatch e),wpAny_truthy_bool h⟩))))
theorem ff {A:Around} {E:Value -> Shared -> Prop} {s:Shared} {ks:List Int} {a:Addr} {Q:Bool -> Shared -> Prop} (hk:IsTupleKey (intKind prog w) s.heap ks a) (h:Q true s):wpAny (model prog w) A (eqIsQuiet 7 (.ref a)) Q E s:=by
 have hT:=hk.typeIs
 obtain ⟨o,items,n,ho,_,hd,hi⟩ := hk
 unfold eqIsQuiet
 refine wpAny_bind (wpAny_specialOf hT F.slot_tuple_eq.lookup ?_)
 show wpAny _ _ (isInstance (.ref a) (.type "tuple") >>= _) _ _ s
 refine wpAny_bind (wpAny_isInstance hT isSubtype_tuple_tuple ?_)
 simp only [Bool.not_true,Bool.false_eq_true,if_false]
 refine wpAny_bind (wpAny_seqItems ho hd ?_)
 refine wpAny_bind ?_
 show wpAny _ _ (forIn items _ _) _ _ s
 rw [<- Array.forIn_toList]
 refine wpAny_forIn_list _ (fun rest r s'=>r.1 = none /\ s' = s /\ ∀ v ∈ rest,carriedByValue v = true) _ ?_ ?_ _ _ ⟨rfl,rfl,hi.byValue⟩
 ·rintro v rest r s' ⟨hr,rfl,hall⟩
  rw [eqIsQuiet_byValue _ (hall v List.mem_cons_self)]
  refine wpAny_bind (wpAny_pure ?_)
  simp only [Bool.not_true,Bool.false_eq_true,if_false]
  exact wpAny_pure ⟨rfl,rfl,fun u hu'=>hall u (List.mem_cons_of_mem _ hu')⟩
 ·rintro ⟨r1,r2⟩ s' ⟨hr,rfl,_⟩
  simp only at hr
  subst hr
  exact wpAny_pure h
theorem Qz {A:Around} {E:Value -> Shared -> Prop} {s:Shared} {k:List Int × Int} {a:Addr} {Q:Bool -> Shared -> Prop} (hk:Bu prog w s.heap k a) (h:Q true s):wpAny (model prog w) A (eqIsQuiet 8 (.ref a)) Q E s:=by
 have hT:=hk.typeIs
 obtain ⟨o,n,u,t,ho,_,hd,hi⟩ := hk
 unfold eqIsQuiet
 refine wpAny_bind (wpAny_specialOf hT F.slot_tuple_eq.lookup ?_)
 show wpAny _ _ (isInstance (.ref a) (.type "tuple") >>= _) _ _ s
 refine wpAny_bind (wpAny_isInstance hT isSubtype_tuple_tuple ?_)
 simp only [Bool.not_true,Bool.false_eq_true,if_false]
 refine wpAny_bind (wpAny_seqItems ho hd ?_)
 refine wpAny_bind ?_
 show wpAny _ _ (forIn #[Value.ref u,Value.int k.2 t] _ _) _ _ s
 rw [<- Array.forIn_toList]
 show wpAny _ _ (forIn [Value.ref u,Value.int k.2 t] _ _) _ _ s
 rw [List.forIn_cons]
 refine wpAny_bind (wpAny_bind (ff hi ?_))
 simp only [Bool.not_true,Bool.false_eq_true,if_false]
 refine wpAny_pure ?_
 show wpAny _ _ (forIn [Value.int k.2 t] _ _) _ _ s
 rw [List.forIn_cons,eqIsQuiet_byValue _ rfl]
 refine wpAny_bind (wpAny_bind (wpAny_pure ?_))
 simp only [Bool.not_true,Bool.false_eq_true,if_false]
 refine wpAny_pure ?_
 show wpAny _ _ (forIn [] _ _) _ _ s
 rw [List.forIn_nil]
 exact wpAny_pure (wpAny_pure h)
def Cb (prog:Program) (w:World):HeapKind prog w (List Int × Int) where
 is:=Bu prog w
 hash:=Gw prog w
 draws:=fun k=>k.1.length + 3
 room:=fun A=>A.units + 8 < cLine
 inj:=fun hx hy=>hx.inj hy
 keeps:=fun x ho hd hs=>x.keeps ho hd hs
 pyHash:=fun hu hk h=>U9 hu hk h
 eqBool:=fun hu hx hy h=>Yt hu hx hy h
 quiet:=fun hk h=>Qz hk h
end
set_option genInjectivity false in
set_option genSizeOf false in
inductive HO where
  | lst (xs:List V)
  | tup (xs:List V)
  | dK (kvs:List (Dt × V)) | dT (kvs:List ((List Int × Int) × V))
  | set (S:Int -> Bool) (n:Nat)
  | ins (C dx:Addr) (fs:List (Str × V))
  | own (x:Addr)
  | xd (fs:List (Str × V))
  | met (f x:Addr)
  | OZ (lo hi:Int)
  | bE (o:Obj) (u:HO)
  | sA (ps:Array Value)
  | ext (φ:Heap -> Prop)
abbrev Hp:=Addr -> Option HO
def Ds (H:Hp) (b:Addr) (k:List Int × Int):Prop := ∃ u,H b = some (.tup [.ref u,.int k.2]) /\ H u = some (.tup (k.1.map V.int))
theorem Ds.up {H H2:Hp} {b:Addr} {k:List Int × Int} (ht:∀ b xs,H b = some (.tup xs) -> H2 b = some (.tup xs)) (h:Ds H b k):Ds H2 b k:=let ⟨u,a1,a2⟩ := h; ⟨u,ht _ _ a1,ht _ _ a2⟩
def upd (H:Hp) (a:Addr) (o:HO):Hp:=fun b=>if b = a then some o else H b
theorem A5 {H:Hp} {a:Addr} {o:HO}:upd H a o a = some o:=by unfold upd; rw [if_pos rfl]
theorem Aa {H:Hp} {a b:Addr} {o:HO} (h:b ≠ a):upd H a o b = H b:=by unfold upd; rw [if_neg h]
theorem Bn {H:Hp} {a b:Addr} {o u:HO} (h:H a = some o) (h':H b = some u) (d:o ≠ u):a ≠ b:=by
 intro e; subst e; rw [h] at h'; exact d (Option.some.inj h')
theorem Ad {H:Hp} {a b:Addr} {o:HO} (h:H a = some o) (h':H b = none):a ≠ b:=by
 intro e; subst e; rw [h] at h'; cases h'
section
variable (P:Program) (w:World)
def Bo (H:Hp) (h:Heap) (a:Addr):HO -> Prop
 | .lst xs=>xs.length <= sizeLine /\ ∃ (aD:List Value) (n:Nat),Aw xs aD /\ h.get? a = some { cls := .type "list",data := .seq aD.toArray n }
 | .tup xs=>(xs.length <= sizeLine /\ ∃ o,h.get? a = some o /\ o.dict = none) /\ ∃ aD:List Value,Aw xs aD /\ IsTup h a aD.toArray
 | .dK kvs=>kvs.length <= sizeLine /\ (a == sysModules) = false /\ ∃ vs,KV kvs vs /\ h.DictOf (Db P w) a vs
 | .dT kvs => kvs.length <= sizeLine /\ (a == sysModules) = false /\ ∃ xs : List ((List Int × Int) × Addr × Value),
   Paired (fun (p:(List Int × Int) × V) (q:(List Int × Int) × Addr × Value)=>p.1 = q.1 /\ Ds H q.2.1 p.1 /\ Av p.2 q.2.2) kvs xs /\
   ∃ o es ep,h.get? a = some o /\ o.ExactDict /\ o.data = .dict es ep /\ es.toList = xs.map (entryOfKey (Cb P w)) /\ (xs.map (·.1)).Nodup
 | .set S n=>h.SetOf (intKind P w) a S n
 | .ins C dx fs => H dx = some (.own a) /\ fs.length <= 1000 /\ dx ≠ a /\ h.get? a = some (PySem.W.instObj C dx) /\
   ∃ mA,h.Ns1 dx mA /\ (∀ f,Fq (fs.lookup f) (mA f)) /\ PySem.Within mA (fs.map (·.1))
 | .own _=>∃ o,h.get? a = some o
 | .xd fs=>∃ mA,h.Ns1 a mA /\ ∀ f,Fq (fs.lookup f) (mA f)
 | .OZ lo hi=>∃ t u v,h.get? a = some { cls := .type "range",data := .fields #[.int lo t,.int hi u,.int 1 v] }
 | .bE o u=>h.get? a = some o /\ Bo H h a u
 | .sA ps=>h.get? a = some { cls := .none,data := .fields ps }
 | .met f x=>h.get? a = some (PySem.W.methodObj (.ref f) (.ref x))
 | .ext φ=>φ h /\ (∃ o,h.get? a = some o) /\ ∀ h1 h2:Heap,φ h1 -> (∀ o,h1.get? a = some o -> h2.get? a = some o) -> φ h2
def G7 (H:Hp) (h:Heap):Prop := ∀ a o,H a = some o -> Bo P w H h a o
end
section
variable {P:Program} {w:World} {H H':Hp} {h h':Heap} {a:Addr} {o:HO}
theorem Bo.lt (x:Bo P w H h a o):a < h.objs.size:=by
 cases o with
 | lst xs=>obtain ⟨_,_,_,_,e⟩ := x; exact Heap.lt_size e
 | tup xs=>obtain ⟨_,_,_,p⟩ := x; exact p.lt
 | dK kvs=>obtain ⟨_,_,_,_,o,_,_,e,_⟩ := x; exact Heap.lt_size e
 | dT kvs=>obtain ⟨_,_,_,_,o,_,_,e,_⟩ := x; exact Heap.lt_size e
 | set S n=>obtain ⟨o,_,_,_,e,_⟩ := x; exact Heap.lt_size e
 | ins C dx fs=>obtain ⟨_,_,_,e,_⟩ := x; exact Heap.lt_size e
 | own y=>obtain ⟨_,e⟩ := x; exact Heap.lt_size e
 | xd fs=>obtain ⟨_,⟨_,_,_,e,_⟩,_⟩ := x; exact Heap.lt_size e
 | OZ lo hi=>obtain ⟨_,_,_,e⟩ := x; exact Heap.lt_size e
 | bE ob u=>obtain ⟨e,_⟩ := x; exact Heap.lt_size e
 | sA ps=>exact Heap.lt_size (show h.get? a = some _ from x)
 | met f y=>exact Heap.lt_size (show h.get? a = some _ from x)
 | ext φ=>obtain ⟨_,⟨_,e⟩,_⟩ := x; exact Heap.lt_size e
theorem Paired.GL {α β:Type} {F G:α -> β -> Prop} {l₁:List α} {l₂:List β} (h:Paired F l₁ l₂) (f:∀ a b,F a b -> G a b):Paired G l₁ l₂:=by
 induction h with
 | nil=>exact .nil
 | cons r t ih=>exact .cons (f _ _ r) ih
theorem Bo.fM (x : Bo P w H h a o) (k : ∀ b u, (b = a \/ H b = some (.own a)) -> h.get? b = some u -> h'.get? b = some u)
  (ho:∀ b,H b = some (.own a) -> H' b = some (.own a)) (ht:∀ b xs,H b = some (.tup xs) -> H' b = some (.tup xs)):Bo P w H' h' a o:=by
 induction o with
 | lst xs=>obtain ⟨z,aD,n,r,e⟩ := x; exact ⟨z,aD,n,r,k _ _ (.inl rfl) e⟩
 | tup xs=>obtain ⟨z,aD,r,ob,e,c⟩ := x; exact ⟨⟨z.1,let ⟨o,e2,d⟩ := z.2; ⟨o,k _ _ (.inl rfl) e2,d⟩⟩,aD,r,ob,k _ _ (.inl rfl) e,c⟩
 | dK kvs=>obtain ⟨z,y,vs,r,ob,es,ep,e,c⟩ := x; exact ⟨z,y,vs,r,ob,es,ep,k _ _ (.inl rfl) e,c⟩
 | dT kvs =>
  obtain ⟨z,y,xs,r,ob,es,ep,e,c⟩ := x
  exact ⟨z,y,xs,Paired.GL r fun p q z=>⟨z.1,z.2.1.up ht,z.2.2⟩,ob,es,ep,k _ _ (.inl rfl) e,c⟩
 | set S n=>obtain ⟨ob,es,ep,t,e,c⟩ := x; exact ⟨ob,es,ep,t,k _ _ (.inl rfl) e,c⟩
 | ins C dx fs =>
  obtain ⟨d,z,ne,e,mA,⟨od,es,ep,e2,c⟩,r⟩ := x
  exact ⟨ho _ d,z,ne,k _ _ (.inl rfl) e,mA,⟨od,es,ep,k _ _ (.inr d) e2,c⟩,r⟩
 | own y=>obtain ⟨ob,e⟩ := x; exact ⟨ob,k _ _ (.inl rfl) e⟩
 | xd fs=>obtain ⟨mA,⟨od,es,ep,e,c⟩,r⟩ := x; exact ⟨mA,⟨od,es,ep,k _ _ (.inl rfl) e,c⟩,r⟩
 | OZ lo hi=>obtain ⟨t,u,v,e⟩ := x; exact ⟨t,u,v,k _ _ (.inl rfl) e⟩
 | bE ob u ih=>obtain ⟨e,q⟩ := x; exact ⟨k _ _ (.inl rfl) e,ih q⟩
 | sA ps =>
  have e:h.get? a = some { cls := .none,data := .fields ps }:=x
  show h'.get? a = some { cls := .none,data := .fields ps }
  exact k a _ (.inl rfl) e
 | met f y =>
  have e:h.get? a = some (PySem.W.methodObj (.ref f) (.ref y)):=x
  show h'.get? a = some (PySem.W.methodObj (.ref f) (.ref y))
  exact k a _ (.inl rfl) e
 | ext φ=>obtain ⟨p,⟨o,e⟩,st⟩ := x; exact ⟨st _ _ p fun o q=>k _ _ (.inl rfl) q,⟨o,k _ _ (.inl rfl) e⟩,st⟩
theorem G7.lt (x:G7 P w H h) (e:H a = some o):a < h.objs.size:=(x a o e).lt
theorem G7.fresh (x:G7 P w H h) (e:h.objs.size <= a):H a = none:=by
 cases q:H a with
 | none=>rfl
 | some u=>exact absurd (Nat.lt_of_lt_of_le (x.lt q) e) (Nat.lt_irrefl _)
theorem G7.kept (x:G7 P w H h) (k:∀ b u,h.get? b = some u -> h'.get? b = some u):G7 P w H h':=fun a o e =>
 (x a o e).fM (fun b u _ q=>k b u q) (fun _ q=>q) fun _ _ q=>q
theorem G7.laid (x:G7 P w H h) (k:∀ b u,h.get? b = some u -> h'.get? b = some u) (hp:h.objs.size <= a) (new:Bo P w (upd H a o) h' a o):G7 P w (upd H a o) h':=fun b u e=>by
 have hn:=x.fresh hp
 by_cases hb:b = a
 ·subst hb; rw [A5] at e; cases e; exact new
 ·rw [Aa hb] at e
  exact (x b u e).fM (fun c v _ q=>k c v q) (fun c q=>by rw [Aa (Ad q hn)]; exact q) fun c xs q=>by rw [Aa (Ad q hn)]; exact q
end
def Rd (H:Hp) (a:Addr) (u:HO):Prop:=H a = some u \/ ∃ o,H a = some (.bE o u)
theorem Rd.ok {P:Program} {w:World} {H:Hp} {h:Heap} {a:Addr} {u:HO} (r:Rd H a u) (x:G7 P w H h):Bo P w H h a u:=by
 rcases r with r | ⟨o,r⟩
 ·exact x a u r
 ·obtain ⟨_,q⟩ := x a _ r
  exact q
def nh:Option HO -> Prop
 | some (.lst _)=>True
 | some (.dK _)=>True
 | some (.dT _)=>True
 | some (.set _ _)=>True
 | some (.ins _ _ _)=>True
 | some (.ext _)=>True
 | _=>False
section
variable {P:Program} {w:World} {H:Hp} {h h':Heap} {x e:Addr} {o':HO}
theorem G7.write (ok : G7 P w H h) (mu : nh (H x)) (he : e = x \/ H e = some (.own x)) (k : ∀ b u, b ≠ e -> h.get? b = some u -> h'.get? b = some u) (FJ : ∃ u, h'.get? e = some u)
  (new:Bo P w (upd H x o') h' x o'):G7 P w (upd H x o') h':=fun b u q=>by
 have GN:∀ c y,H c = some (.own y) -> c ≠ x:=fun c y r z=>by subst z; rw [r] at mu; exact mu
 have RK:∀ c xs,H c = some (.tup xs) -> c ≠ x:=fun c xs r z=>by subst z; rw [r] at mu; exact mu
 by_cases hb:b = x
 ·subst hb; rw [A5] at q; cases q; exact new
 ·rw [Aa hb] at q
  by_cases lT:b = e
  ·have q' : H b = some (.own x) := by
    rcases he with z | z
    ·exact absurd (lT.trans z) hb
    ·rw [lT]; exact z
   rw [q] at q'; cases q'
   obtain ⟨v,hv⟩ := FJ
   exact ⟨v,by rw [lT]; exact hv⟩
  ·refine (ok b u q).fM (fun c v hc r=>k c v ?_ r) (fun c r=>by rw [Aa (GN c b r)]; exact r) fun c xs r=>by rw [Aa (RK c xs r)]; exact r
   rcases hc with rfl | hc
   ·exact lT
   ·rintro rfl
    rcases he with z | z
    ·exact GN c b hc z
    ·rw [hc] at z; cases z; exact hb rfl
end
structure Un (fs ex:List Addr) (H H':Hp) (h h':Heap):Prop where
 keep:∀ b o,h.get? b = some o -> H b = none -> b ∉ fs -> b ∉ ex -> h'.get? b = some o
 slot:∀ b o,h.get? b = some o -> H b = none -> b ∈ fs -> b ∉ ex -> ∃ sl,h'.get? b = some { o with slots:=sl }
 free:∀ b o,h.get? b = some o -> H b = none -> b ∉ ex -> H' b = none
 there:∀ b o,h.get? b = some o -> b ∉ ex -> ∃ o',h'.get? b = some o'
 aX:∀ b xs,H b = some (.tup xs) -> H' b = some (.tup xs)
 dM:∀ b o u,H b = some (.bE o u) -> H' b = some (.bE o u)
 eO:∀ b ps,H b = some (.sA ps) -> ∃ more,H' b = some (.sA (ps ++ more))
section
variable {fs fs' ex ex':List Addr} {H H1 H2:Hp} {h h1 h2 h':Heap} {a x e:Addr} {o:HO}
theorem Un.any (u:Un fs ex H H1 h h1) {b:Addr} {ob:Obj} (q:h.get? b = some ob) (n:H b = none) (hx:b ∉ ex):∃ sl,h1.get? b = some { ob with slots:=sl }:=by
 by_cases hb:b ∈ fs
 ·exact u.slot b ob q n hb hx
 ·exact ⟨ob.slots,u.keep b ob q n hb hx⟩
theorem Un.trans (a:Un fs ex H H1 h h1) (b:Un fs ex H1 H2 h1 h2):Un fs ex H H2 h h2 where
 keep:=fun c ob q n hc hx=>b.keep c ob (a.keep c ob q n hc hx) (a.free c ob q n hx) hc hx
 slot:=fun c ob q n hc hx=>by
  obtain ⟨sl,e1⟩ := a.slot c ob q n hc hx
  obtain ⟨GO,e2⟩ := b.slot c _ e1 (a.free c ob q n hx) hc hx
  exact ⟨GO,e2⟩
 free:=fun c ob q n hx=>by
  obtain ⟨o',e1⟩ := a.there c ob q hx
  exact b.free c o' e1 (a.free c ob q n hx) hx
 there:=fun c ob q hx=>by
  obtain ⟨o',e1⟩ := a.there c ob q hx
  exact b.there c o' e1 hx
 aX:=fun c xs q=>b.aX c xs (a.aX c xs q)
 dM:=fun c ob xs q=>b.dM c ob xs (a.dM c ob xs q)
 eO:=fun c ps q=>by
  obtain ⟨m1,e1⟩ := a.eO c ps q
  obtain ⟨m2,e2⟩ := b.eO c _ e1
  exact ⟨m1 ++ m2,by rw [e2,Array.append_assoc]⟩
theorem Un.kept (k:∀ b u,h.get? b = some u -> h'.get? b = some u):Un fs ex H H h h' :=
 ⟨fun b ob q _ _ _=>k b ob q,fun b ob q _ _ _=>⟨ob.slots,k b ob q⟩,fun _ _ _ n _=>n,fun b ob q _=>⟨ob,k b ob q⟩,fun _ _ q=>q,fun _ _ _ q=>q,fun _ ps q=>⟨#[],by rw [q]; simp⟩⟩
theorem Un.refl:Un fs ex H H h h:=Un.kept fun _ _ q=>q
theorem Un.laid (k:∀ b u,h.get? b = some u -> h'.get? b = some u) (hp:h.objs.size <= a) (hn:H a = none):Un fs ex H (upd H a o) h h' where
 keep:=fun b u q _ _ _=>k b u q
 slot:=fun b u q _ _ _=>⟨u.slots,k b u q⟩
 free:=fun b u q n _=>by rw [Aa (Nat.ne_of_lt (Nat.lt_of_lt_of_le (Heap.lt_size q) hp))]; exact n
 there:=fun b u q _=>⟨u,k b u q⟩
 aX:=fun b xs q=>by rw [Aa (Ad q hn)]; exact q
 dM:=fun b u xs q=>by rw [Aa (Ad q hn)]; exact q
 eO:=fun b ps q=>⟨#[],by rw [Aa (Ad q hn),q]; simp⟩
theorem Un.write (mu:nh (H x)) (he:e = x \/ H e = some (.own x)) (k:∀ b u,b ≠ e -> h.get? b = some u -> h'.get? b = some u) (FJ:∃ u,h'.get? e = some u):Un fs ex H (upd H x o) h h':=by
 have hx:∀ b,H b = none -> b ≠ x:=fun b n z=>by subst z; rw [n] at mu; exact mu
 have hb:∀ b,H b = none -> b ≠ e:=fun b n z=>by
  subst z
  rcases he with r | r
  ·exact hx b n r
  ·rw [n] at r; cases r
 have hm:∀ b u,H b = some u -> ¬ nh (some u) -> b ≠ x:=fun b u q nm z=>by subst z; rw [q] at mu; exact nm mu
 refine ⟨fun b u q n _ _=>k b u (hb b n) q,fun b u q n _ _=>⟨u.slots,k b u (hb b n) q⟩,fun b u q n _=>by rw [Aa (hx b n)]; exact n,fun b u q _=>?_,
  fun b xs q=>by rw [Aa (hm b _ q fun z=>z)]; exact q,fun b u xs q=>by rw [Aa (hm b _ q fun z=>z)]; exact q,fun b ps q=>⟨#[],by rw [Aa (hm b _ q fun z=>z),q]; simp⟩⟩
 by_cases lT:b = e
 ·subst lT; exact FJ
 ·exact ⟨u,k b u lT q⟩
end
def pc (h:Heap) (H:Hp):List Addr:=(List.range h.objs.size).filter fun a=>(H a).isSome
def Pn (h:Heap) (H:Hp):Heap:=PySem.W.hideAll h (pc h H)
theorem Ww (h:Heap) (H:Hp):(Pn h H).objs.size = h.objs.size:=PySem.W.hideAll_size _ _
theorem Xv {h:Heap} {H:Hp} {b:Addr} {o:Obj} (e:h.get? b = some o) (n:H b = none):(Pn h H).get? b = some o :=
 PySem.W.hideAll_get _ e fun hm=>by
  have q:(H b).isSome = true:=(List.mem_filter.mp hm).2
  rw [n] at q; simp at q
theorem cn {h:Heap} {H:Hp} {b:Addr} {o:Obj} (e:(Pn h H).get? b = some o):h.get? b = some o /\ H b = none:=by
 have e':h.get? b = some o:=PySem.W.of_hideAll (pc h H) e
 refine ⟨e',?_⟩
 cases q:H b with
 | none=>rfl
 | some x =>
  have hm:b ∈ pc h H:=List.mem_filter.mpr ⟨List.mem_range.mpr (Heap.lt_size e'),by simp [q]⟩
  have z:(Pn h H).get? b = none:=PySem.W.hideAll_none (pc h H) hm
  rw [z] at e; cases e
structure Mod (K:PySem.W.Frag) (mg:Str -> Option Value) (base:Heap):Prop where
 GP:K.In base
 glob:base.Ns mainGlobals mg
 blt:∃ mb,base.Ns builtinsNs mb /\ ∀ x:Str,x ≠ "__name__" -> mb x = bootBuiltins x
 nolimit:base.NoLimit
set_option genInjectivity false in
set_option genSizeOf false in
structure Cx where
 prog:Program
 w:World
 K:PySem.W.Frag
 mg:Str -> Option Value
 base:Heap
 A:Around
 N:List Str
 s₀:Shared
 H₀:Hp
 env:Env
 outer:List Env
 stack:List Env
 ex:List Addr
 fn:Str -> Bool
 calm:Bool
 pn:List (Addr × Obj)
 xe:Value -> Shared -> Prop
def jU (l:List Env):List Addr:=l.filterMap (·.frame)
abbrev Cx.fs (X:Cx):List Addr:=jU X.outer
def pk (sc:Scope) (x:Str):Prop:=sc.names.lookup x = some .local \/ sc.names.lookup x = some .cell \/ sc.names.lookup x = some .free
def pe (sc:Scope) (x:Str):Prop:=sc.names.lookup x = some .local \/ sc.names.lookup x = some .cell
def sd (env:Env) (h:Heap) (m:Str -> Option Value) (x:Str) (u:Value):Prop :=
 (env.kindOf x = some .local /\ m x = some u) \/ ((env.kindOf x = some .cell \/ env.kindOf x = some .free) /\ ∃ c,env.cells.lookup x = some c /\ h.IsCell c (some u))
structure Cx.Ok (X:Cx):Prop where
 mod:Mod X.K X.mg X.base
 kind:X.env.scope.kind = .function
 glob:X.env.globals = mainGlobals
 blt:X.env.builtins = builtinsNs
 above:X.s₀.heap.objs.size <= X.env.locals
 inj:∀ x y c,X.env.cells.lookup x = some c -> X.env.cells.lookup y = some c -> x = y
 has:∀ x,(X.env.kindOf x = some .cell \/ X.env.kindOf x = some .free) -> ∃ c,X.env.cells.lookup x = some c
 xj:∀ x c,X.fn x = true -> X.env.cells.lookup x = some c -> X.s₀.heap.objs.size <= c
 hd:X.calm = true -> X.A.handled = none
 frames:X.A.frames = some X.stack
 FK:X.stack = X.outer \/ (X.stack = X.env :: X.outer /\ X.env.frame = some X.env.locals)
 GQ:∀ b ∈ X.ex,b ≠ X.env.locals /\ ∀ x c,X.env.cells.lookup x = some c -> c ≠ b
 bs:∀ b o,X.base.get? b = some o -> X.s₀.heap.get? b = some o /\ X.H₀ b = none
 nF:X.base.objs.size <= X.s₀.heap.objs.size
 kB:∀ b o,X.base.get? b = some o -> b ∉ X.ex
 kC:∀ b ∈ X.ex,b ∉ X.fs
 dU:X.s₀.heap.FunFrames X.base X.outer
 sS:∀ b ∈ X.fs,X.H₀ b = none
structure Ai (X:Cx) (pins:List (Addr × Obj)) (σ:List (Option V)) (H:Hp) (s:Shared):Prop where
 ok:X.Ok
 os:s.os = X.s₀.os
 bare:AllBare s.gens
 base:Un X.fs X.ex X.H₀ H X.s₀.heap s.heap
 loc:∃ m,s.heap.Ns X.env.locals m /\ ∀ (i:Nat) (x:Str) (v:V),X.N[i]? = some x -> σ[i]? = some (some v) -> pk X.env.scope x -> ∃ u,Av v u /\ sd X.env s.heap m x u
 cell:∀ x c,X.env.cells.lookup x = some c -> ∃ v,s.heap.IsCell c v
 free:H X.env.locals = none
 bD:∀ x c,X.env.cells.lookup x = some c -> H c = none
 pin:∀ p ∈ X.pn ++ pins,s.heap.get? p.1 = some p.2 /\ H p.1 = none /\ p.1 ≠ X.env.locals /\ p.1 ∉ X.fs /\ ∀ v,p.2.data ≠ .cell v
 aF:G7 X.prog X.w H s.heap
 len:σ.length = X.N.length
section
variable {X:Cx} {pins:List (Addr × Obj)} {σ:List (Option V)} {H H':Hp} {s:Shared} {h':Heap}
theorem Cx.Ok.RL (ok:X.Ok) {b:Addr} {o:Obj} (e:X.base.get? b = some o):b ∉ X.fs:=fun hb=>by
 have:=(ok.dU.mem hb).1
 rw [e] at this; cases this
theorem Ai.bs (I:Ai X pins σ H s):∀ b o,X.base.get? b = some o -> s.heap.get? b = some o /\ H b = none:=fun b o e =>
 ⟨I.base.keep b o (I.ok.bs b o e).1 (I.ok.bs b o e).2 (I.ok.RL e) (I.ok.kB b o e),I.base.free b o (I.ok.bs b o e).1 (I.ok.bs b o e).2 (I.ok.kB b o e)⟩
theorem Ai.bk (I:Ai X pins σ H s):∀ b o,X.base.get? b = some o -> s.heap.get? b = some o:=fun b o e=>(I.bs b o e).1
theorem Ai.mod (I:Ai X pins σ H s):Mod X.K X.mg X.base:=I.ok.mod
theorem Ai.eP (I:Ai X pins σ H s):X.K.In s.heap:=I.ok.mod.GP.keeps I.bk
theorem Ai.lt (I:Ai X pins σ H s):X.env.locals < s.heap.objs.size:=let ⟨_,hn,_⟩ := I.loc; hn.lt
theorem Ai.sz (I:Ai X pins σ H s):X.s₀.heap.objs.size <= s.heap.objs.size:=Nat.le_trans I.ok.above (Nat.le_of_lt I.lt)
theorem Ai.RM (I:Ai X pins σ H s) {a:Addr} (h:s.heap.objs.size <= a):a ∉ X.fs:=fun hb=>by
 obtain ⟨_,o,ho,_⟩ := I.ok.dU.mem hb
 exact absurd (Nat.lt_of_lt_of_le (Heap.lt_size ho) (Nat.le_trans I.sz h)) (Nat.lt_irrefl _)
theorem Ai.xk (I:Ai X pins σ H s):∀ x c,X.env.cells.lookup x = some c -> c ≠ X.env.locals:=fun x c e z=>by
 obtain ⟨v,o,ho,hd⟩ := I.cell x c e
 obtain ⟨m,⟨o',es,ep,mT,mU,_⟩,_⟩ := I.loc
 rw [z,mT] at ho; cases ho; rw [mU] at hd; cases hd
theorem Ai.dU (I:Ai X pins σ H s):s.heap.FunFrames X.base X.outer:=by
 have all:∀ (l:List Env),(∀ b ∈ jU l,b ∈ X.fs) -> X.s₀.heap.FunFrames X.base l -> s.heap.FunFrames X.base l:=by
  intro l
  induction l with
  | nil=>intro _ _; trivial
  | cons env r ih =>
   intro hs hl
   obtain ⟨hk,⟨L,o,hf,hn,ho,hd⟩,hr⟩ := hl
   have hL:L ∈ X.fs:=hs L (by unfold jU; rw [List.filterMap_cons,hf]; exact List.mem_cons_self)
   obtain ⟨sl,e⟩ := I.base.slot L o ho (I.ok.sS L hL) hL fun z=>I.ok.kC L z hL
   exact ⟨hk,⟨L,_,hf,hn,e,hd⟩,ih (fun b hb=>hs b (by unfold jU; rw [List.filterMap_cons,hf]; exact List.mem_cons_of_mem _ hb)) hr⟩
 exact all X.outer (fun _ hb=>hb) I.ok.dU
theorem Ai.stack (I:Ai X pins σ H s):s.heap.FunFrames X.base X.stack:=by
 rcases I.ok.FK with e | ⟨e,hf⟩
 ·rw [e]; exact I.dU
 ·rw [e]
  obtain ⟨m,hn,_⟩ := I.loc
  refine .cons (by rw [I.ok.kind]; decide) hf hn ?_ I.dU
  exact Heap.get?_none_of_le (Nat.le_trans I.ok.nF I.ok.above)
theorem Ai.kD (I:Ai X pins σ H s):∀ b ∈ jU X.stack,b ∈ X.env.locals :: X.fs:=fun b hb=>by
 rcases I.ok.FK with e | ⟨e,hf⟩
 ·rw [e] at hb; exact List.mem_cons_of_mem _ hb
 ·rw [e] at hb
  unfold jU at hb
  rw [List.filterMap_cons,hf] at hb
  exact hb
theorem Ai.lH (I:Ai X pins σ H s):∀ b ∈ jU X.stack,H b = none:=fun b hb=>by
 rcases List.mem_cons.mp (I.kD b hb) with e | hb
 ·rw [e]; exact I.free
 ·obtain ⟨_,o,ho,_⟩ := I.ok.dU.mem hb
  exact I.base.free b o ho (I.ok.sS b hb) fun z=>I.ok.kC b z hb
theorem Ai.step {g' : Array GenState} {t' : Nat} {d' : Drawn} {ch : List Addr} (I : Ai X pins σ H s)
  (gI:∀ b ∈ ch,(b ∈ X.ex \/ X.s₀.heap.objs.size <= b) /\ b ≠ X.env.locals /\ (∀ x c,X.env.cells.lookup x = some c -> c ≠ b) /\ ∀ p ∈ X.pn ++ pins,p.1 ≠ b)
  (keep:∀ b o,b ≠ X.env.locals -> b ∉ X.fs -> b ∉ ch -> s.heap.get? b = some o -> H b = none -> h'.get? b = some o)
  (slot:∀ b o,b ≠ X.env.locals -> b ∈ X.fs -> b ∉ ch -> s.heap.get? b = some o -> H b = none -> ∃ sl,h'.get? b = some { o with slots:=sl }) (free:∀ b o,b ∉ ch -> s.heap.get? b = some o -> H b = none -> H' b = none)
  (there:∀ b o,b ∉ ch -> s.heap.get? b = some o -> ∃ o',h'.get? b = some o')
  (aX:∀ b xs,H b = some (.tup xs) -> H' b = some (.tup xs)) (dM:∀ b o u,H b = some (.bE o u) -> H' b = some (.bE o u)) (eO:∀ b ps,H b = some (.sA ps) -> ∃ more,H' b = some (.sA (ps ++ more)))
  (ns:∀ m,s.heap.Ns X.env.locals m -> h'.Ns X.env.locals m) (aF:G7 X.prog X.w H' h') (hg:AllBare g') :
  Ai X pins σ H' { s with heap:=h',gens:=g',drawn:=d',toks:=t' }:=by
 have neL:∀ b o,X.s₀.heap.get? b = some o -> b ≠ X.env.locals:=fun b o e=>Nat.ne_of_lt (Nat.lt_of_lt_of_le (Heap.lt_size e) I.ok.above)
 have PB:∀ b o,X.s₀.heap.get? b = some o -> b ∉ X.ex -> b ∉ ch:=fun b o e hx hb=>by
  rcases (gI b hb).1 with z | z
  ·exact hx z
  ·exact absurd (Nat.lt_of_lt_of_le (Heap.lt_size e) z) (Nat.lt_irrefl _)
 have cellK:∀ x c,X.env.cells.lookup x = some c -> ∀ v,s.heap.IsCell c v -> h'.IsCell c v:=fun x c e v ⟨o,ho,hd⟩=>by
  have GR:c ∉ ch:=fun z=>(gI c z).2.2.1 x c e rfl
  by_cases hc:c ∈ X.fs
  ·obtain ⟨sl,q⟩ := slot c o (I.xk x c e) hc GR ho (I.bD x c e)
   exact ⟨_,q,hd⟩
  ·exact ⟨o,keep c o (I.xk x c e) hc GR ho (I.bD x c e),hd⟩
 refine ⟨I.ok,I.os,hg,⟨fun b o e n hb hx=>?_,fun b o e n hb hx=>?_,fun b o e n hx=>?_,fun b o e hx=>?_,fun b xs e=>aX b xs (I.base.aX b xs e),fun b o xs e=>dM b o xs (I.base.dM b o xs e),fun b ps e=>?_⟩,?_,fun x c e=>?_,?_,fun x c e=>?_,fun p hp=>?_,aF,I.len⟩
 ·exact keep b o (neL b o e) hb (PB b o e hx) (I.base.keep b o e n hb hx) (I.base.free b o e n hx)
 ·obtain ⟨sl,e1⟩ := I.base.slot b o e n hb hx
  obtain ⟨GO,e2⟩ := slot b _ (neL b o e) hb (PB b o e hx) e1 (I.base.free b o e n hx)
  exact ⟨GO,e2⟩
 ·obtain ⟨o',e1⟩ := I.base.there b o e hx
  exact free b o' (PB b o e hx) e1 (I.base.free b o e n hx)
 ·obtain ⟨o',e1⟩ := I.base.there b o e hx
  exact there b o' (PB b o e hx) e1
 ·obtain ⟨m1,e1⟩ := I.base.eO b ps e
  obtain ⟨m2,e2⟩ := eO b _ e1
  exact ⟨m1 ++ m2,by rw [e2,Array.append_assoc]⟩
 ·obtain ⟨m,hn,hl⟩ := I.loc
  refine ⟨m,ns m hn,fun i x v e1 e2 e3=>?_⟩
  obtain ⟨u,r,l⟩ := hl i x v e1 e2 e3
  refine ⟨u,r,?_⟩
  rcases l with l | ⟨k,c,e,z⟩
  ·exact .inl l
  ·exact .inr ⟨k,c,e,cellK x c e _ z⟩
 ·obtain ⟨v,z⟩ := I.cell x c e
  exact ⟨v,cellK x c e v z⟩
 ·obtain ⟨m,⟨o,_,_,ho,_⟩,_⟩ := I.loc
  exact free _ o (fun z=>(gI _ z).2.1 rfl) ho I.free
 ·obtain ⟨v,o,ho,hd⟩ := I.cell x c e
  exact free c o (fun z=>(gI c z).2.2.1 x c e rfl) ho (I.bD x c e)
 ·obtain ⟨e,n,ne,nf,d⟩ := I.pin p hp
  have GR:p.1 ∉ ch:=fun z=>(gI p.1 z).2.2.2 p hp rfl
  exact ⟨keep p.1 p.2 ne nf GR e n,free p.1 p.2 GR e n,ne,nf,d⟩
theorem Ai.un {t':Nat} (I:Ai X pins σ H s) (u:Un X.fs [] H H' s.heap h') (aF:G7 X.prog X.w H' h'):Ai X pins σ H' { s with heap:=h',toks:=t' }:=by
 obtain ⟨m,⟨o,es,ep,ho,r⟩,_⟩ := id I.loc
 obtain ⟨sl,hL⟩ := u.any ho I.free (by simp)
 exact I.step (g':=s.gens) (d':=s.drawn) (ch:=[]) (fun _ z=>nomatch z) (fun b o _ hb _ e n=>u.keep b o e n hb (by simp)) (fun b o _ hb _ e n=>u.slot b o e n hb (by simp)) (fun b o _ e n=>u.free b o e n (by simp)) (fun b o _ e=>u.there b o e (by simp)) u.aX u.dM u.eO (fun m' hm=>by
  obtain ⟨o',sT,sU,mT,r'⟩ := hm
  rw [ho] at mT; cases mT
  exact ⟨_,sT,sU,hL,r'⟩) aF I.bare
theorem Ai.call {g' : Array GenState} {t' : Nat} {d' : Drawn} {ch : List Addr} (I : Ai X pins σ H s) (u : Un (jU X.stack) ch H H' s.heap h') (aF : G7 X.prog X.w H' h') (hg : AllBare g')
  (gI:∀ b ∈ ch,(b ∈ X.ex \/ X.s₀.heap.objs.size <= b) /\ b ≠ X.env.locals /\ (∀ x c,X.env.cells.lookup x = some c -> c ≠ b) /\ ∀ p ∈ X.pn ++ pins,p.1 ≠ b) :
  Ai X pins σ H' { s with heap:=h',gens:=g',drawn:=d',toks:=t' }:=by
 obtain ⟨m,⟨o,es,ep,ho,r⟩,_⟩ := id I.loc
 obtain ⟨sl,hL⟩ := u.any ho I.free fun z=>(gI _ z).2.1 rfl
 exact I.step (ch:=ch) gI (fun b o hL hb hc e n=>u.keep b o e n (fun z=>(List.mem_cons.mp (I.kD b z)).elim hL hb) hc) (fun b o _ _ hc e n=>u.any e n hc) (fun b o hc e n=>u.free b o e n hc) (fun b o hc e=>u.there b o e hc) u.aX u.dM u.eO (fun m' hm=>by
  obtain ⟨o',sT,sU,mT,r'⟩ := hm
  rw [ho] at mT; cases mT
  exact ⟨_,sT,sU,hL,r'⟩) aF hg
theorem Ai.turned {t' : Nat} {it : Addr} (I : Ai X pins σ H s) (k : ∀ b o, b ≠ it -> s.heap.get? b = some o -> h'.get? b = some o) (hn : H it = none) (hL : it ≠ X.env.locals)
  (h1:it ∈ X.ex \/ X.s₀.heap.objs.size <= it) (h2:∀ x c,X.env.cells.lookup x = some c -> c ≠ it) (h3:∀ p ∈ X.pn ++ pins,p.1 ≠ it):Ai X pins σ H { s with heap:=h',toks:=t' }:=by
 have nit:∀ b u,H b = some u -> b ≠ it:=fun b u e z=>by rw [z,hn] at e; cases e
 refine I.step (g':=s.gens) (d':=s.drawn) (ch:=[it]) (fun b hb=>?_) (fun b o _ _ hc e _=>k b o (fun z=>hc (by simp [z])) e) (fun b o _ _ hc e _=>⟨o.slots,k b o (fun z=>hc (by simp [z])) e⟩) (fun _ _ _ _ n=>n)
  (fun b o hc e=>⟨o,k b o (fun z=>hc (by simp [z])) e⟩) (fun _ _ e=>e) (fun _ _ _ e=>e) (fun b ps e=>⟨#[],by rw [e]; simp⟩) (fun m hm=>?_) (fun b u e=>?_) I.bare
 ·have e:b = it:=by simpa using hb
  subst e
  exact ⟨h1,hL,h2,h3⟩
 ·obtain ⟨o,es,ep,ho,r⟩ := hm
  exact ⟨o,es,ep,k _ o (Ne.symm hL) ho,r⟩
 ·refine (I.aF b u e).fM (fun c v hc q=>k c v ?_ q) (fun _ q=>q) fun _ _ q=>q
  rcases hc with z | z
  ·rw [z]; exact nit b u e
  ·exact nit c _ z
theorem Ai.tok (I:Ai X pins σ H s) (t:Nat):Ai X pins σ H { s with toks:=t }:=I.un (h':=s.heap) (t':=t) Un.refl I.aF
theorem Ai.kept {t':Nat} (I:Ai X pins σ H s) (k:∀ b u,s.heap.get? b = some u -> h'.get? b = some u):Ai X pins σ H { s with heap:=h',toks:=t' }:=I.un (Un.kept k) (I.aF.kept k)
theorem Ai.laid {a : Addr} {o : HO} {t' : Nat} (I : Ai X pins σ H s) (k : ∀ b u, s.heap.get? b = some u -> h'.get? b = some u) (hp : s.heap.objs.size <= a) (new : Bo X.prog X.w (upd H a o) h' a o) :
  Ai X pins σ (upd H a o) { s with heap:=h',toks:=t' }:=I.un (Un.laid k hp (I.aF.fresh hp)) (I.aF.laid k hp new)
theorem Ai.write {x e : Addr} {o : HO} {t' : Nat} (I : Ai X pins σ H s) (mu : nh (H x)) (he : e = x \/ H e = some (.own x)) (k : ∀ b u, b ≠ e -> s.heap.get? b = some u -> h'.get? b = some u) (FJ : ∃ u, h'.get? e = some u)
  (new:Bo X.prog X.w (upd H x o) h' x o):Ai X pins σ (upd H x o) { s with heap:=h',toks:=t' }:=I.un (Un.write mu he k FJ) (I.aF.write mu he k FJ new)
theorem Ai.weak {σ':List (Option V)} (I:Ai X pins σ H s) (hl:σ'.length = σ.length) (w:∀ (i:Nat) v,σ'[i]? = some (some v) -> σ[i]? = some (some v)):Ai X pins σ' H s :=
 ⟨I.ok,I.os,I.bare,I.base,let ⟨m,hn,hl'⟩ := I.loc; ⟨m,hn,fun i x v e1 e2 e3=>hl' i x v e1 (w i v e2) e3⟩,I.cell,I.free,I.bD,I.pin,I.aF,hl.trans I.len⟩
theorem Ai.lI {lJ:List (Addr × Obj)} (I:Ai X pins σ H s) (h:∀ p ∈ lJ,s.heap.get? p.1 = some p.2 /\ H p.1 = none /\ p.1 ≠ X.env.locals /\ p.1 ∉ X.fs /\ ∀ v,p.2.data ≠ .cell v):Ai X lJ σ H s :=
 ⟨I.ok,I.os,I.bare,I.base,I.loc,I.cell,I.free,I.bD,fun p hp=>(List.mem_append.mp hp).elim (fun z=>I.pin p (List.mem_append_left _ z)) (h p),I.aF,I.len⟩
theorem Qy {N:List Str} (hN:N.Nodup) {i j:Nat} {x:Str} (a:N[i]? = some x) (b:N[j]? = some x):i = j:=by
 obtain ⟨h1,e1⟩ := List.getElem?_eq_some_iff.mp a
 obtain ⟨h2,e2⟩ := List.getElem?_eq_some_iff.mp b
 exact (List.getElem_inj hN).mp (e1.trans e2.symm)
theorem N1 {M : Model} {A : Around} {E : Value -> Shared -> Prop} {i : Nat} {x : Str} {v : V} {u : Value} {Q : Unit -> Shared -> Prop} (I : Ai X pins σ H s) (hN : X.N.Nodup) (hi : X.N[i]? = some x) (hx : pe X.env.scope x) (r : Av v u)
  (h:∀ s',Ai X pins (σ.set i (some v)) H s' -> (∃ a,Heap.SameBut a s.heap s'.heap /\ (a = X.env.locals \/ X.env.cells.lookup x = some a)) -> Q () s') (hf:X.fn x = true \/ X.env.scope.names.lookup x = some .local:=by first | exact .inl rfl | exact .inr rfl | assumption):wpAny M A (storeName X.env x u) Q E s:=by
 obtain ⟨m,hn,hl⟩ := id I.loc
 have RN:(X.env.scope.kind == .class || (X.env.scope.kind == .module && X.env.locals != X.env.globals)) = false:=by rw [I.ok.kind]; rfl
 have hiσ:i < σ.length:=by rw [I.len]; exact (List.getElem?_eq_some_iff.mp hi).1
 have xk:=I.xk
 have tracked:∀ {a:Addr} {h':Heap},(∃ o,s.heap.get? a = some o /\ H a = none) -> Heap.SameBut a s.heap h' -> G7 X.prog X.w H h':=fun {a h'} ha hs b ob e=>by
  obtain ⟨_,_,uN⟩ := ha
  refine (I.aF b ob e).fM (fun c w' hc q=>(hs.2 c ?_).trans q) (fun _ q=>q) fun _ _ q=>q
  rintro rfl
  rcases hc with rfl | hc
  ·rw [uN] at e; cases e
  ·rw [uN] at hc; cases hc
 rcases hx with hk | hk
 ·refine wpAny_storeName_local hk hn (fun h' hn' hs=>?_) RN
  obtain ⟨oL,_,_,GS,_⟩ := id hn
  refine h _ ⟨I.ok,I.os,I.bare,⟨fun b o e n hb hx=>?_,fun b o e n hb hx=>?_,I.base.free,fun b o e hx=>?_,I.base.aX,I.base.dM,I.base.eO⟩,⟨_,hn',fun j y v' e1 e2 e3=>?_⟩,fun y c e=>?_,I.free,I.bD,fun p hp=>?_,tracked ⟨oL,GS,I.free⟩ hs,by simpa using I.len⟩ ⟨_,hs,.inl rfl⟩
  ·exact (hs.2 b (Nat.ne_of_lt (Nat.lt_of_lt_of_le (Heap.lt_size e) I.ok.above))).trans (I.base.keep b o e n hb hx)
  ·obtain ⟨sl,e1⟩ := I.base.slot b o e n hb hx
   exact ⟨sl,(hs.2 b (Nat.ne_of_lt (Nat.lt_of_lt_of_le (Heap.lt_size e) I.ok.above))).trans e1⟩
  ·obtain ⟨o',e1⟩ := I.base.there b o e hx
   exact ⟨o',(hs.2 b (Nat.ne_of_lt (Nat.lt_of_lt_of_le (Heap.lt_size e) I.ok.above))).trans e1⟩
  ·by_cases hj:j = i
   ·subst hj
    rw [hi] at e1; cases e1
    rw [List.getElem?_set_self hiσ] at e2
    cases e2
    exact ⟨u,r,.inl ⟨hk,by simp⟩⟩
   ·rw [List.getElem?_set_ne (Ne.symm hj)] at e2
    obtain ⟨u',r',q⟩ := hl j y v' e1 e2 e3
    refine ⟨u',r',?_⟩
    rcases q with ⟨k,e⟩ | ⟨k,c,e,z⟩
    ·refine .inl ⟨k,?_⟩
     have:y ≠ x:=fun e=>hj (Qy hN e1 (e ▸ hi))
     simp [this,e]
    ·exact .inr ⟨k,c,e,z.sameBut hs (xk y c e)⟩
  ·obtain ⟨w',z⟩ := I.cell y c e
   exact ⟨w',z.sameBut hs (xk y c e)⟩
  ·obtain ⟨e,n,ne,nf,d⟩ := I.pin p hp
   exact ⟨(hs.2 p.1 ne).trans e,n,ne,nf,d⟩
 ·have RO : X.fn x = true := by
   rcases hf with z | z
   ·exact z
   ·rw [z] at hk; cases hk
  obtain ⟨c,hc⟩ := I.ok.has x (.inl hk)
  obtain ⟨w',z⟩ := I.cell x c hc
  refine wpAny_storeName_cell I.ok.kind hk hc z (fun h' fN hs=>?_)
  obtain ⟨oc,FL,RP⟩ := id z
  refine h { s with heap:=h' } ⟨I.ok,I.os,I.bare,⟨fun b o e n hb hx=>?_,fun b o e n hb hx=>?_,I.base.free,fun b o e hx=>?_,I.base.aX,I.base.dM,I.base.eO⟩,⟨m,hn.sameBut hs (Ne.symm (xk x c hc)),fun j y v' e1 e2 e3=>?_⟩,fun y c' e=>?_,I.free,I.bD,fun p hp=>?_,tracked ⟨oc,FL,I.bD x c hc⟩ hs,by simpa using I.len⟩ ⟨c,hs,.inr hc⟩
  ·exact (hs.2 b (Nat.ne_of_lt (Nat.lt_of_lt_of_le (Heap.lt_size e) (I.ok.xj x c RO hc)))).trans (I.base.keep b o e n hb hx)
  ·obtain ⟨sl,e1⟩ := I.base.slot b o e n hb hx
   exact ⟨sl,(hs.2 b (Nat.ne_of_lt (Nat.lt_of_lt_of_le (Heap.lt_size e) (I.ok.xj x c RO hc)))).trans e1⟩
  ·obtain ⟨o',e1⟩ := I.base.there b o e hx
   exact ⟨o',(hs.2 b (Nat.ne_of_lt (Nat.lt_of_lt_of_le (Heap.lt_size e) (I.ok.xj x c RO hc)))).trans e1⟩
  ·by_cases hj:j = i
   ·subst hj
    rw [hi] at e1; cases e1
    rw [List.getElem?_set_self hiσ] at e2
    cases e2
    exact ⟨u,r,.inr ⟨.inl hk,c,hc,fN⟩⟩
   ·rw [List.getElem?_set_ne (Ne.symm hj)] at e2
    obtain ⟨u',r',q⟩ := hl j y v' e1 e2 e3
    refine ⟨u',r',?_⟩
    rcases q with q | ⟨k,c',e,z'⟩
    ·exact .inl q
    ·refine .inr ⟨k,c',e,z'.sameBut hs ?_⟩
     rintro rfl
     exact hj (Qy hN e1 (I.ok.inj _ _ _ e hc ▸ hi))
  ·by_cases hcc:c' = c
   ·subst hcc; exact ⟨_,fN⟩
   ·obtain ⟨w2,z2⟩ := I.cell y c' e
    exact ⟨w2,z2.sameBut hs hcc⟩
  ·obtain ⟨e,n,ne,nf,d⟩ := I.pin p hp
   refine ⟨(hs.2 p.1 ?_).trans e,n,ne,nf,d⟩
   intro q
   rw [q,FL] at e
   have q':oc = p.2:=Option.some.inj e
   exact d w' (by rw [<- q']; exact RP)
theorem S5 {M : Model} {A : Around} {E : Value -> Shared -> Prop} {i : Nat} {x : Str} {v : V} {u : Value} {Q : Unit -> Shared -> Prop} (I : Ai X pins σ H s) (hN : X.N.Nodup) (hi : X.N[i]? = some x) (hx : pe X.env.scope x) (r : Av v u)
  (h:∀ s',Ai X pins (σ.set i (some v)) H s' -> Q () s') (hf:X.fn x = true \/ X.env.scope.names.lookup x = some .local:=by first | exact .inl rfl | exact .inr rfl | assumption):wpAny M A (storeName X.env x u) Q E s :=
 N1 I hN hi hx r (fun s' I' _=>h s' I') hf
theorem Ai.GU {s' : Shared} {ch : List Addr} (I : Ai X pins σ H s) (ho : s'.os = s.os) (u : Un (jU X.stack) ch H H' s.heap s'.heap) (aF : G7 X.prog X.w H' s'.heap) (hg : AllBare s'.gens)
  (gI:∀ b ∈ ch,(b ∈ X.ex \/ X.s₀.heap.objs.size <= b) /\ b ≠ X.env.locals /\ (∀ x c,X.env.cells.lookup x = some c -> c ≠ b) /\ ∀ p ∈ X.pn ++ pins,p.1 ≠ b):Ai X pins σ H' s':=by
 obtain ⟨h',g',d',t',o'⟩ := s'
 have e:o' = s.os:=ho
 subst e
 exact I.call (g':=g') (t':=t') (d':=d') u aF hg gI
end
abbrev XK:=Value -> Option Addr -> Hp -> Prop
abbrev St:=List (Option V)
abbrev VK:=V -> Hp -> Prop
abbrev TE:=St -> Hp -> VK -> Prop
abbrev TT:=St -> Hp -> (Bool -> Hp -> Prop) -> Prop
abbrev TA:=St -> Hp -> (List V -> Hp -> Prop) -> Prop
set_option genInjectivity false in
set_option genSizeOf false in
structure Hq where
 nx:St -> Hp -> Prop
 rt:VK
 bk:St -> Hp -> Prop:=fun _ _=>False
 ct:St -> Hp -> Prop:=fun _ _=>False
abbrev TS:=Hq -> St -> Hp -> Prop
def EP (X:Cx) (pins:List (Addr × Obj)) (σ:St) (Q:VK) (u:Value) (s':Shared):Prop := ∃ v H',Ai X pins σ H' s' /\ Av v u /\ Q v H'
def TP (X:Cx) (pins:List (Addr × Obj)) (σ:St) (Q:Bool -> Hp -> Prop) (b:Bool) (s':Shared):Prop := ∃ H',Ai X pins σ H' s' /\ Q b H'
def AP (X:Cx) (pins:List (Addr × Obj)) (σ:St) (Q:List V -> Hp -> Prop) (us:List Value) (s':Shared):Prop := ∃ vs H',Ai X pins σ H' s' /\ Aw vs us /\ Q vs H'
def SP (X:Cx) (pins:List (Addr × Obj)) (D:Hq) (f:Flow) (s':Shared):Prop :=
 match f with
 | .next=>∃ σ' H',Ai X pins σ' H' s' /\ D.nx σ' H'
 | .brk=>∃ σ' H',Ai X pins σ' H' s' /\ D.bk σ' H'
 | .cont=>∃ σ' H',Ai X pins σ' H' s' /\ D.ct σ' H'
 | .ret u=>∃ v σ' H',Ai X pins σ' H' s' /\ Av v u /\ D.rt v H'
def PE (X:Cx) (e:Expr) (t:TE):Prop :=
 ∀ (pins:List (Addr × Obj)) (s:Shared) (σ:St) (H:Hp) (Q:VK),Ai X pins σ H s -> t σ H Q -> wpAny (model X.prog X.w) X.A (eval e X.env) (EP X pins σ Q) X.xe s
def PT (X:Cx) (e:Expr) (t:TT):Prop :=
 ∀ (pins:List (Addr × Obj)) (s:Shared) (σ:St) (H:Hp) (Q:Bool -> Hp -> Prop),Ai X pins σ H s -> t σ H Q -> wpAny (model X.prog X.w) X.A (isTrue e X.env (eval e X.env)) (TP X pins σ Q) X.xe s
def PW (X:Cx) (e:Expr) (t:TT):Prop :=
 ∀ (whole:Sem Value) (pins:List (Addr × Obj)) (s:Shared) (σ:St) (H:Hp) (Q:Bool -> Hp -> Prop),Ai X pins σ H s -> t σ H Q -> wpAny (model X.prog X.w) X.A (isTrue e X.env whole) (TP X pins σ Q) X.xe s
theorem PW.pt {X:Cx} {e:Expr} {t:TT} (h:PW X e t):PT X e t:=h _
def PA (X:Cx) (es:List Expr) (t:TA):Prop :=
 ∀ (pos:Pos) (pins:List (Addr × Obj)) (s:Shared) (σ:St) (H:Hp) (Q:List V -> Hp -> Prop),Ai X pins σ H s -> t σ H Q -> wpAny (model X.prog X.w) X.A (spliced (backTo pos (starEach es X.env))) (AP X pins σ Q) X.xe s
def PS (X:Cx) (st:Stmt) (t:TS):Prop :=
 ∀ (pins:List (Addr × Obj)) (s:Shared) (σ:St) (H:Hp) (D:Hq),Ai X pins σ H s -> t D σ H -> wpAny (model X.prog X.w) X.A (exec st X.env) (SP X pins D) X.xe s
def Sb (X:Cx) (st:List Stmt) (t:TS):Prop :=
 ∀ (pins:List (Addr × Obj)) (s:Shared) (σ:St) (H:Hp) (D:Hq),Ai X pins σ H s -> t D σ H -> wpAny (model X.prog X.w) X.A (execs st X.env) (SP X pins D) X.xe s
theorem C9 {α:Type} {t:Sem α} {Q Q':α -> Shared -> Prop} {M:Model} {A:Around} {E:Value -> Shared -> Prop} {s:Shared} (h:wpAny M A t Q E s) (hQ:∀ a s,Q a s -> Q' a s):wpAny M A t Q' E s:=wpAny_mono h hQ fun _ _ x=>x
section
variable {X:Cx}
def kz (i:Nat):TE:=fun σ H Q=>∃ v,σ[i]? = some (some v) /\ Q v H
def tC (v:V):TE:=fun _ H Q=>Q v H
theorem j9 {i:Nat} {x:Str} {pos:Pos} (hN:X.N[i]? = some x) (hv:pk X.env.scope x) (hd:(x == ("__debug__" : Str)) = false:=by decide) (nG:(x == ("__classdict__" : Str)) = false:=by decide):PE X (.Name x pos) (kz i):=by
 intro pins s σ H Q I h
 obtain ⟨v,e,h⟩ := h
 obtain ⟨m,hn,hl⟩ := I.loc
 obtain ⟨u,r,l⟩ := hl i x v hN e hv
 have fin:EP X pins σ Q u s:=⟨v,H,I,r,h⟩
 rcases l with ⟨hk,hm⟩ | ⟨hk,c,hc,uO⟩
 ·exact wpAny_Name (wpAny_loadName_local I.ok.kind hk hn hm fin) hd
 ·rcases hk with hk | hk
  ·exact wpAny_Name (wpAny_loadName_cell I.ok.kind hk hc uO fin) hd
  ·exact wpAny_Name (wpAny_loadName_free I.ok.kind hk hc uO fin nG) hd
theorem Ab {i j pos}:PE X (.Constant (.int i) j pos) (tC (.int i)):=fun _ _ _ H _ I h=>wpAny_Constant_int ⟨.int i,H,I.tok _,⟨_,rfl⟩,h⟩
theorem Ia {b j pos}:PE X (.Constant (.bool b) j pos) (tC (.bl b)):=fun _ _ _ H _ I h=>Constant_bool ⟨.bl b,H,I,rfl,h⟩
theorem Dj {j pos}:PE X (.Constant .none j pos) (tC .aR):=fun _ _ _ H _ I h=>Constant_none ⟨.aR,H,I,rfl,h⟩
def Gl (X:Cx) (x:Str):Prop:=X.env.kindOf x = some .globalImplicit
theorem Kl {E : Value -> Shared -> Prop} {pins : List (Addr × Obj)} {s : Shared} {σ : St} {H : Hp} {x : Str} {u : Value} {pos : Pos} {Q : Value -> Shared -> Prop} (I : Ai X pins σ H s) (hg : Gl X x) (hm : X.mg x = some u) (h : Q u s)
  (hd:(x == ("__debug__" : Str)) = false:=by decide):wpAny (model X.prog X.w) X.A (eval (.Name x pos) X.env) Q E s :=
 Calls.Name_function_global I.ok.kind hg (Calls.loadGlobal_global (by rw [I.ok.glob]; exact I.mod.glob.keeps I.bk) hm h) hd
theorem J5 {E : Value -> Shared -> Prop} {pins : List (Addr × Obj)} {s : Shared} {σ : St} {H : Hp} {x : Str} {u : Value} {pos : Pos} {Q : Value -> Shared -> Prop} (I : Ai X pins σ H s) (hg : Gl X x) (hm : X.mg x = none) (hv : bootBuiltins x = some u) (h : Q u s)
  (hn:x ≠ "__name__" := by decide) (hd:(x == ("__debug__" : Str)) = false:=by decide):wpAny (model X.prog X.w) X.A (eval (.Name x pos) X.env) Q E s:=by
 obtain ⟨mb,h1,h2⟩ := I.mod.blt
 exact Calls.Name_function_global I.ok.kind hg (Calls.loadGlobal_builtin (by rw [I.ok.glob]; exact I.mod.glob.keeps I.bk) hm (by rw [I.ok.blt]; exact h1.keeps I.bk) ((h2 x hn).trans hv) h) hd
theorem bz {x:Str} {v:V} {u:Value} {pos:Pos} (hg:Gl X x) (hm:X.mg x = some u) (r:Av v u) (hd:(x == ("__debug__" : Str)) = false:=by decide):PE X (.Name x pos) (tC v) :=
 fun _ _ _ H _ I h=>Kl I hg hm ⟨v,H,I,r,h⟩ hd
theorem b6 {x:Str} {v:V} {u:Value} {pos:Pos} (hg:Gl X x) (hm:X.mg x = none) (hv:bootBuiltins x = some u) (r:Av v u) (hn:x ≠ "__name__" := by decide) (hd:(x == ("__debug__" : Str)) = false:=by decide):PE X (.Name x pos) (tC v) :=
 fun _ _ _ H _ I h=>J5 I hg hm hv ⟨v,H,I,r,h⟩ hn hd
variable {a b:Expr} {ta tb:TE} {pos:Pos}
def PC (X:Cx) (op:CmpOp) (a b:Expr) (t:TE):Prop :=
 ∀ (pins:List (Addr × Obj)) (s:Shared) (σ:St) (H:Hp) (Q:VK),Ai X pins σ H s -> t σ H Q ->
  wpAny (model X.prog X.w) X.A (eval a X.env) (fun v s₁=>wpAny (model X.prog X.w) X.A (eval b X.env) (fun u s₂=>wpAny (model X.prog X.w) X.A (compareOp op v u) (EP X pins σ Q) X.xe s₂) X.xe s₁) X.xe s
def tB (t:TE):TT:=fun σ H Q=>t σ H fun x H1=>∃ c,x = .bl c /\ Q c H1
theorem i6 {op:CmpOp} {t:TE} (h:PC X op a b t) (h1:behindInMarks op b = false:=by first | exact nH _ (by decide) (by decide) | rfl):PE X (.Compare a [op] [b] pos) t:=fun pins s σ H Q I hw=>wpAny_Compare1 (h pins s σ H Q I hw) h1
theorem Iz {op:CmpOp} {t:TE} (h:PC X op a b t) (h1:behindInMarks op b = false:=by first | exact nH _ (by decide) (by decide) | rfl):PT X (.Compare a [op] [b] pos) (tB t):=by
 intro pins s σ H Q I hw
 refine wpAny_isTrue_Compare1 (C9 (h pins s σ H _ I hw) fun v s1 h1=>C9 h1 fun u s2 h2=>C9 h2 fun c s3 ⟨x,H1,I1,r1,q1⟩=>?_) h1
 obtain ⟨d,rfl,q⟩ := q1
 cases r1
 exact wpAny_truthy_bool ⟨H1,I1,q⟩
theorem Dz {e:Expr} {t:TE} (h:PE X e t) (he:∀ whole,isTrue e X.env whole = (do let v <- whole; standAt e.pos; holding [v] (truthy v)):=by intro _; rfl):PT X e (tB t):=by
 intro pins s σ H Q I hw
 refine isTrue_plain (C9 (h pins s σ H _ I hw) fun v s1 ⟨x,H1,I1,r1,q1⟩=>?_) (he _)
 obtain ⟨d,rfl,q⟩ := q1
 cases r1
 exact wpAny_truthy_bool ⟨H1,I1,q⟩
variable {tA uP:TT} {rest:List Expr}
def qw (t:TT):TT:=fun σ H Q=>t σ H fun c H1=>Q (!c) H1
theorem Py (ha:PT X a tA):PW X (.BoolOp .And [a] pos) tA:=by
 intro wh pins s σ H Q I h
 refine isTrue_and (C9 (ha pins s σ H Q I h) fun c s1 e=>?_)
 cases c with
 | true=>exact isTrue_and_nil e
 | false=>exact e
theorem L8 (ha:PT X a tA):PW X (.BoolOp .Or [a] pos) tA:=by
 intro wh pins s σ H Q I h
 refine isTrue_or (C9 (ha pins s σ H Q I h) fun c s1 e=>?_)
 cases c with
 | false=>exact isTrue_or_nil e
 | true=>exact e
theorem Ey (ha:PT X a tA):PT X (.UnaryOp .Not a pos) (qw tA):=by
 intro pins s σ H Q I h
 exact isTrue_not (ha pins s σ H (fun c H1=>Q (!c) H1) I h)
theorem Jd {op} {t:TE} (h:PE X a t):PE X (.BoolOp op [a] pos) t:=fun pins s σ H Q I hw=>BoolOp_one (h pins s σ H Q I hw)
def vx (t:TT) (ta tb:TE):TE:=fun σ H Q=>t σ H fun c H1=>if c = true then ta σ H1 Q else tb σ H1 Q
theorem Z5 {c:Expr} (hc:PT X c tA) (ha:PE X a ta) (hb:PE X b tb):PE X (.IfExp c a b pos) (vx tA ta tb):=by
 intro pins s σ H Q I h
 refine wpAny_IfExp (C9 (hc pins s σ H _ I h) fun d s1 aV=>?_)
 obtain ⟨H1,I1,q1⟩ := aV
 cases d with
 | true=>exact ha pins s1 σ H1 Q I1 q1
 | false=>exact hb pins s1 σ H1 Q I1 q1
end
def Bg (K:PySem.W.Frag) (H:Hp) (a:Addr) (xs:List V):Prop :=
 Rd H a (.lst xs) \/
  ∃ (o:Obj) (aD:Array Value) (n:Nat),K.lookup a = some o /\ o.cls = .type "list" /\ o.dict = none /\ o.data = .seq aD n /\ aD.size <= sizeLine /\ Aw xs aD.toList
def Bw (K:PySem.W.Frag) (H:Hp) (a:Addr) (xs:List V):Prop :=
 Rd H a (.tup xs) \/
  ∃ (o:Obj) (aD:Array Value) (n:Nat),K.lookup a = some o /\ o.cls = .type "tuple" /\ o.data = .seq aD n /\ aD.size <= sizeLine /\ Aw xs aD.toList
def qz:Value -> Option V
 | .none=>some .aR
 | .bool b=>some (.bl b)
 | .int i _=>some (.int i)
 | .str x _=>some (.str x)
 | .bytes b _=>some (.lG b)
 | .float b _=>some (.xi b)
 | .ref a=>some (.ref a)
 | .type n=>some (.ty n)
 | _=>none
theorem Av.abs {x:V} {u:Value} (r:Av x u):qz u = some x:=by
 cases x with
 | aR=>cases r; rfl
 | bl _=>cases r; rfl
 | int _=>obtain ⟨t,rfl⟩ := r; rfl
 | str _=>obtain ⟨t,rfl⟩ := r; rfl
 | lG _=>obtain ⟨t,rfl⟩ := r; rfl
 | xi _=>obtain ⟨t,rfl⟩ := r; rfl
 | ref _=>cases r; rfl
 | ty _=>cases r; rfl
theorem Av.inj {x y:V} {u:Value} (r:Av x u) (q:Av y u):x = y:=Option.some.inj (r.abs.symm.trans q.abs)
theorem Aw.inj {xs ys:List V} {us:List Value} (h:Aw xs us) (g:Aw ys us):xs = ys:=by
 induction h generalizing ys with
 | nil =>
  cases g
  rfl
 | cons r t ih =>
  cases g with
  | cons r' t'=>rw [r.inj r',ih t']
section
variable {X:Cx} {pins:List (Addr × Obj)} {σ:St} {H:Hp} {s:Shared} {a:Addr} {xs ys:List V}
theorem Bg.of {K:PySem.W.Frag} (h:H a = some (.lst xs)):Bg K H a xs := .inl (.inl h)
theorem Bw.of {K:PySem.W.Frag} (h:H a = some (.tup xs)):Bw K H a xs := .inl (.inl h)
theorem Ai.list (I:Ai X pins σ H s) (h:Bg X.K H a xs):∃ aD:List Value,Aw xs aD /\ PlainL s.heap a aD.toArray /\ xs.length <= sizeLine:=by
 rcases h with h | ⟨o,aD,n,hk,hc,hd,hs,hz,r⟩
 ·obtain ⟨z,aD,n,r,e⟩ := h.ok I.aF
  exact ⟨aD,r,⟨_,n,e,rfl,rfl,rfl⟩,z⟩
 ·refine ⟨aD.toList,r,⟨o,n,I.eP a o hk,hc,hd,by simpa using hs⟩,?_⟩
  have e:=r.length
  simp only [Array.length_toList] at e
  omega
theorem Ai.tuple (I:Ai X pins σ H s) (h:Bw X.K H a xs):∃ aD:List Value,Aw xs aD /\ IsTup s.heap a aD.toArray /\ xs.length <= sizeLine:=by
 rcases h with h | ⟨o,aD,n,hk,hc,hs,hz,r⟩
 ·obtain ⟨z,aD,r,p⟩ := h.ok I.aF
  exact ⟨aD,r,p,z.1⟩
 ·refine ⟨aD.toList,r,⟨o,I.eP a o hk,hc,n,by simpa using hs⟩,?_⟩
  have e:=r.length
  simp only [Array.length_toList] at e
  omega
theorem Ai.jE (I:Ai X pins σ H s) (h:Bg X.K H a xs) (h':Bg X.K H a ys):xs = ys:=by
 obtain ⟨aD,r,⟨o,n,e,_,_,d⟩,_⟩ := I.list h
 obtain ⟨its',r',⟨o',n',e',_,_,d'⟩,_⟩ := I.list h'
 rw [e] at e'; cases e'
 rw [d] at d'
 injection d' with d1 _
 have:aD = its':=by simpa using congrArg Array.toList d1
 subst this
 exact r.inj r'
theorem Ai.gY (I:Ai X pins σ H s) (h:Bw X.K H a xs) (h':Bw X.K H a ys):xs = ys:=by
 obtain ⟨aD,r,⟨o,e,_,n,d⟩,_⟩ := I.tuple h
 obtain ⟨its',r',⟨o',e',_,n',d'⟩,_⟩ := I.tuple h'
 rw [e] at e'; cases e'
 rw [d] at d'
 injection d' with d1 _
 have:aD = its':=by simpa using congrArg Array.toList d1
 subst this
 exact r.inj r'
end
abbrev Cx.fH (X:Cx) (E:Value -> Shared -> Prop):Cx:={ X with xe:=E }
abbrev Cx.sC (X:Cx):Cx:=X.fH fun _ _=>False
theorem Cx.Ok.fH {X:Cx} (ok:X.Ok) (E:Value -> Shared -> Prop):(X.fH E).Ok :=
 ⟨ok.mod,ok.kind,ok.glob,ok.blt,ok.above,ok.inj,ok.has,ok.xj,ok.hd,ok.frames,ok.FK,ok.GQ,ok.bs,ok.nF,ok.kB,ok.kC,ok.dU,ok.sS⟩
theorem Cx.Ok.bO {X:Cx} {E:Value -> Shared -> Prop} (ok:(X.fH E).Ok):X.Ok :=
 ⟨ok.mod,ok.kind,ok.glob,ok.blt,ok.above,ok.inj,ok.has,ok.xj,ok.hd,ok.frames,ok.FK,ok.GQ,ok.bs,ok.nF,ok.kB,ok.kC,ok.dU,ok.sS⟩
section
variable {X:Cx} {pins:List (Addr × Obj)} {σ:St} {H:Hp} {s:Shared} {E:Value -> Shared -> Prop}
theorem Ai.fH (I:Ai X pins σ H s) (E:Value -> Shared -> Prop):Ai (X.fH E) pins σ H s:=⟨I.ok.fH E,I.os,I.bare,I.base,I.loc,I.cell,I.free,I.bD,I.pin,I.aF,I.len⟩
theorem Ai.bO (I:Ai (X.fH E) pins σ H s):Ai X pins σ H s:=⟨I.ok.bO,I.os,I.bare,I.base,I.loc,I.cell,I.free,I.bD,I.pin,I.aF,I.len⟩
theorem SP.bO {D:Hq} {f:Flow} {s':Shared} (h:SP (X.fH E) pins D f s'):SP X pins D f s':=by
 cases f with
 | next=>obtain ⟨σ',H',I,q⟩ := h; exact ⟨σ',H',I.bO,q⟩
 | brk=>obtain ⟨σ',H',I,q⟩ := h; exact ⟨σ',H',I.bO,q⟩
 | cont=>obtain ⟨σ',H',I,q⟩ := h; exact ⟨σ',H',I.bO,q⟩
 | ret u=>obtain ⟨v,σ',H',I,r,q⟩ := h; exact ⟨v,σ',H',I.bO,r,q⟩
theorem PE.sC {e:Expr} {t:TE} (h:PE X.sC e t):PE X e t:=fun pins s σ H Q I hw =>
 wpAny_mono (h pins s σ H Q (I.fH _) hw) (fun _ _ ⟨v,H',I',r,q⟩=>⟨v,H',I'.bO,r,q⟩) fun _ _ z=>False.elim z
theorem PT.sC {e:Expr} {t:TT} (h:PT X.sC e t):PT X e t:=fun pins s σ H Q I hw =>
 wpAny_mono (h pins s σ H Q (I.fH _) hw) (fun _ _ ⟨H',I',q⟩=>⟨H',I'.bO,q⟩) fun _ _ z=>False.elim z
theorem Sb.sC {st:List Stmt} {t:TS} (h:Sb X.sC st t):Sb X st t:=fun pins s σ H D I hw =>
 wpAny_mono (h pins s σ H D (I.fH _) hw) (fun _ _ q=>q.bO) fun _ _ z=>False.elim z
end
section
variable {X:Cx} {st:Stmt} {rest:List Stmt} {t u:TS} {e:Expr} {te:TE} {pos:Pos}
def lj:TS:=fun D σ H=>D.nx σ H
def m7 (t u:TS):TS:=fun D σ H=>t { D with nx:=u D } σ H
theorem Bb:Sb X [] lj:=fun _ _ σ H _ I h=>wpAny_execs_nil ⟨σ,H,I,h⟩
theorem A7 (h1:PS X st t) (h2:Sb X rest u):Sb X (st :: rest) (m7 t u):=by
 intro pins s σ H D I h
 refine wpAny_execs_cons (C9 (h1 pins s σ H { D with nx:=u D } I h) fun f s1 q=>?_)
 cases f with
 | next =>
  obtain ⟨σ',H',I',q⟩ := q
  exact h2 pins s1 σ' H' D I' q
 | ret v=>exact q
 | brk=>exact q
 | cont=>exact q
theorem Ac (h1:PS X st t):Sb X [st] t:=by
 intro pins s σ H D I h
 refine wpAny_execs_cons (C9 (h1 pins s σ H D I h) fun f s1 q=>?_)
 cases f with
 | next=>exact wpAny_execs_nil q
 | ret v=>exact q
 | brk=>exact q
 | cont=>exact q
theorem Ai.quiet {pins:List (Addr × Obj)} {σ:St} {H:Hp} {s:Shared} (I:Ai X pins σ H s):interactive X.env = false:=by simp [interactive,I.ok.kind]
def mi (te:TE):TS:=fun D σ H=>te σ H fun _ H1=>D.nx σ H1
theorem D4 (he:PE X e te) (hs:swapsWith e none pos.line X.env = pure false:=by rfl):PS X (.Expr e pos) (mi te):=by
 intro pins s σ H D I h
 exact wpAny_Expr_any (C9 (he pins s σ H _ I h) fun v s1 ⟨x,H1,I1,r1,q1⟩=>⟨σ,H1,I1,q1⟩) I.quiet hs
def qg (te:TE):TS:=fun D σ H=>te σ H D.rt
theorem Aq (he:PE X e te):PS X (.Return (some e) pos) (qg te):=by
 intro pins s σ H D I h
 exact wpAny_Return_some (C9 (he pins s σ H _ I h) fun v s1 ⟨x,H1,I1,r1,q1⟩=>⟨x,σ,H1,I1,r1,q1⟩)
def qb (c:TT) (t u:TS):TS:=fun D σ H=>c σ H fun b H1=>if b = true then t D σ H1 else u D σ H1
theorem D1 {c:Expr} {a b:List Stmt} {tc:TT} (hc:PT X c tc) (ha:Sb X a t) (hb:Sb X b u):PS X (.If c a b pos) (qb tc t u):=by
 intro pins s σ H D I h
 refine wpAny_If (C9 (hc pins s σ H _ I h) fun d s1 aV=>?_)
 obtain ⟨H1,I1,q1⟩ := aV
 cases d with
 | true=>exact ha pins s1 σ H1 D I1 q1
 | false=>exact hb pins s1 σ H1 D I1 q1
def fi:TS:=fun _ _ _=>False
theorem Ky:PS X st fi:=fun _ _ _ _ _ _ h=>h.elim
end
abbrev TG:=V -> St -> Hp -> (St -> Hp -> Prop) -> Prop
abbrev b9:=List V -> St -> Hp -> (St -> Hp -> Prop) -> Prop
def PG (X:Cx) (target:Expr) (t:TG):Prop :=
 ∀ (pins:List (Addr × Obj)) (s:Shared) (σ:St) (H:Hp) (v:V) (u:Value) (Q:St -> Hp -> Prop),Ai X pins σ H s -> Av v u -> t v σ H Q ->
  wpAny (model X.prog X.w) X.A (assign target X.env u) (fun _ s'=>∃ σ' H',Ai X pins σ' H' s' /\ Q σ' H') X.xe s
def o5 (X:Cx) (ts:List Expr) (t:b9):Prop :=
 ∀ (pins:List (Addr × Obj)) (s:Shared) (σ:St) (H:Hp) (vs:List V) (us:List Value) (Q:St -> Hp -> Prop),Ai X pins σ H s -> Aw vs us -> t vs σ H Q ->
  wpAny (model X.prog X.w) X.A (assignInOrder ((assignEach ts X.env).map (·.2)) us) (fun _ s'=>∃ σ' H',Ai X pins σ' H' s' /\ Q σ' H') X.xe s
abbrev i5:=V -> V -> V -> Hp -> (Hp -> Prop) -> Prop
def o7 (X:Cx) (t:i5):Prop :=
 ∀ (pins:List (Addr × Obj)) (s:Shared) (σ:St) (H:Hp) (o i v:V) (ov iv u:Value) (Q:Hp -> Prop),Ai X pins σ H s -> Av o ov -> Av i iv -> Av v u -> t o i v H Q ->
  wpAny (model X.prog X.w) X.A (setItem ov iv u) (fun _ s'=>∃ H',Ai X pins σ H' s' /\ Q H') X.xe s
section
variable {X:Cx} {pos:Pos}
def F5 (i:Nat):TG:=fun v σ H Q=>Q (σ.set i (some v)) H
theorem Al {i:Nat} {x:Str} (hN:X.N.Nodup) (hi:X.N[i]? = some x) (hx:pe X.env.scope x) (hf:X.fn x = true \/ X.env.scope.names.lookup x = some .local:=by first | exact .inl rfl | exact .inr rfl | assumption):PG X (.Name x pos) (F5 i):=by
 intro pins s σ H v u Q I r h
 exact wpAny_assign_Name (S5 I hN hi hx r (fun s' I'=>⟨_,H,I',h⟩) hf)
def iu:b9:=fun vs σ H Q=>vs = [] /\ Q σ H
def Nr (t:TG) (u:b9):b9:=fun vs σ H Q=>∃ v r,vs = v :: r /\ t v σ H fun σ' H'=>u r σ' H' Q
theorem Dg:o5 X [] iu:=by
 intro pins s σ H vs us Q I r h
 obtain ⟨e,h⟩ := h
 subst e
 cases r
 exact assignInOrder_nil ⟨σ,H,I,h⟩
theorem Ay {e : Expr} {es : List Expr} {t : TG} {u : b9} (h1 : PG X e t) (h2 : o5 X es u)
  (hs:(assignEach (e :: es) X.env).map (·.2) = assign e X.env :: (assignEach es X.env).map (·.2):=by rfl):o5 X (e :: es) (Nr t u):=by
 intro pins s σ H vs us Q I r h
 obtain ⟨v,vr,e1,h⟩ := h
 subst e1
 cases r with
 | cons r rr =>
  rw [hs]
  refine assignInOrder_cons (C9 (h1 pins s σ H _ _ _ I r h) fun _ s1 aV=>?_)
  obtain ⟨σ1,H1,I1,q1⟩ := aV
  exact h2 pins s1 σ1 H1 _ _ Q I1 rr q1
def ai (K:PySem.W.Frag) (n:Nat) (t:b9):TG:=fun v σ H Q=>∃ a xs,v = .ref a /\ Bw K H a xs /\ xs.length = n /\ t xs σ H Q
theorem ip {es : List Expr} {k : Nat} {t : b9} {n : Nat} (hc : X.calm = true) (h : o5 X es t)
  (hn:(assignEach es X.env).length = n:=by rfl) (bQ:(assignEach es X.env).findIdx? (·.1) = none:=by rfl):PG X (.Tuple es k pos) (ai X.K n t):=by
 intro pins s σ H v u Q I r hw
 obtain ⟨a,xs,e1,hq,hl,hw⟩ := hw
 subst e1
 cases r
 obtain ⟨aD,rv,ht,hz⟩ := I.tuple hq
 refine assign_Tuple_tuple (I.ok.hd hc) ht (by simp [hn,<- hl,rv.length]) bQ fun h' hx=>?_
 have I1:Ai X pins σ H { s with heap:=h' }:=I.kept (t':=s.toks) fun b o e=>hx b o (Nat.ne_of_lt (Heap.lt_size e)) e
 exact h pins _ σ H xs _ Q I1 (by simpa using rv) hw
def rl (to ti:TE) (t:i5):TG:=fun v σ H Q=>to σ H fun o H1=>ti σ H1 fun i H2=>t o i v H2 fun H3=>Q σ H3
theorem Z0 {o i : Expr} {to ti : TE} {t : i5} (ho : PE X o to) (hi : PE X i ti) (hs : o7 X t)
  (ha:∀ v,assign (.Subscript o i pos) X.env v = (do
   let ov <- holding [v] (eval o X.env)
   let iv <- holding [v,ov] (eval i X.env)
   standAt pos
   holding [v,ov,iv] (setItem ov iv v)
   release [v,ov,iv] []):=by intro _; rfl):PG X (.Subscript o i pos) (rl to ti t):=by
 intro pins s σ H v u Q I r h
 rw [ha]
 refine wpAny_bind (wpAny_holding (C9 (ho pins s σ H _ I h) fun ov s1 aV=>?_))
 obtain ⟨x,H1,I1,r1,q1⟩ := aV
 refine wpAny_bind (wpAny_holding (C9 (hi pins s1 σ H1 _ I1 q1) fun iv s2 aV=>?_))
 obtain ⟨y,H2,I2,r2,q2⟩ := aV
 refine wpAny_bind (wpAny_standAt (wpAny_bind (wpAny_holding (C9 (hs pins s2 σ H2 x y v ov iv u _ I2 r1 r2 r q2) fun _ s3 aV=>?_))))
 obtain ⟨H3,I3,q3⟩ := aV
 exact wpAny_release ⟨σ,H3,I3,q3⟩
def lf (te:TE) (g:TG):TS:=fun D σ H=>te σ H fun x H1=>g x σ H1 D.nx
theorem Sx {tg e : Expr} {te : TE} {g : TG} (he : PE X e te) (hg : PG X tg g) (hs : swapsWithSole [tg] e pos.line X.env = pure false := by rfl) (hw : swappedStores [tg] e X.env = pure none := by rfl)
  (h1:(assignEach [tg] X.env).map (·.2) = [assign tg X.env]:=by rfl):PS X (.Assign [tg] e pos) (lf te g):=by
 intro pins s σ H D I h
 refine wpAny_Assign_stores (C9 (he pins s σ H _ I h) fun v s1 ⟨x,H1,I1,r1,q1⟩=>?_) hs hw
 rw [h1]
 exact C9 (hg pins s1 σ H1 x v _ I1 r1 q1) fun _ s2 q=>q
theorem Am {i : Nat} {x : Str} {e : Expr} {te : TE} {pos' : Pos} (hN : X.N.Nodup) (hi : X.N[i]? = some x) (hx : pe X.env.scope x) (he : PE X e te) (hs : swapsWith e (some (.Name x pos')) pos.line X.env = pure false := by rfl) (hf : X.fn x = true \/ X.env.scope.names.lookup x = some .local := by first | exact .inl rfl | exact .inr rfl | assumption) :
  PS X (.Assign [.Name x pos'] e pos) (lf te (F5 i)):=by
 intro pins s σ H D I h
 refine wpAny_Assign_Name (C9 (he pins s σ H _ I h) fun v s1 ⟨y,H1,I1,r1,q1⟩=>?_) hs
 exact S5 I1 hN hi hx r1 (fun s2 I2=>⟨_,H1,I2,q1⟩) hf
end
section
variable {X:Cx} {pos:Pos}
def Ph (c:TT) (tb:TS):TS:=fun D σ H=>∃ W:Nat -> St -> Hp -> Prop,(∃ m,W m σ H) /\ ∀ m σ H,W m σ H ->
 c σ H fun b H1=>if b = true then ∃ N:St -> Hp -> Prop,(∀ σ' H',N σ' H' -> ∃ m',m' < m /\ W m' σ' H') /\ tb { D with nx:=N,ct:=N,bk:=D.nx } σ H1 else D.nx σ H1
theorem Ii {c:Expr} {body:List Stmt} {tc:TT} {tb:TS} (hp:PassesOwn (model X.prog X.w) X.A X.env X.xe) (hc:PT X c tc) (hb:Sb X body tb):PS X (.While c body [] pos) (Ph tc tb):=by
 intro pins s σ H D I h
 obtain ⟨W,⟨m0,w0⟩,turn⟩ := h
 refine wpAny_While (codeAny_whileLoop (fun n s'=>∃ σ' H',Ai X pins σ' H' s' /\ W n σ' H') ?_ m0 ⟨σ,H,I,w0⟩)
 rintro n s1 ⟨σ1,H1,I1,w1⟩
 refine wpAny_passesOwn hp (C9 (hc pins s1 σ1 H1 _ I1 (turn n σ1 H1 w1)) fun b s2 aV=>?_)
 obtain ⟨H2,I2,q2⟩ := aV
 cases b with
 | true =>
  obtain ⟨N,hN,q2⟩ := q2
  rw [if_pos rfl]
  refine wpAny_passesOwn hp (C9 (hb pins s2 σ1 H2 _ I2 q2) fun f s3 q3=>?_)
  cases f with
  | next =>
   obtain ⟨σ3,H3,I3,n3⟩ := q3
   obtain ⟨m',hm,w3⟩ := hN σ3 H3 n3
   exact ⟨m',hm,σ3,H3,I3,w3⟩
  | cont =>
   obtain ⟨σ3,H3,I3,n3⟩ := q3
   obtain ⟨m',hm,w3⟩ := hN σ3 H3 n3
   exact ⟨m',hm,σ3,H3,I3,w3⟩
  | brk=>exact q3
  | ret v=>exact q3
 | false =>
  rw [if_neg Bool.false_ne_true]
  exact wpAny_execs_nil ⟨σ1,H2,I2,q2⟩
end
set_option genInjectivity false in
set_option genSizeOf false in
structure It where
 go:Nat -> Hp -> Prop
 xl:Nat -> Hp -> V -> Hp -> Prop
 stop:Nat -> Hp -> Prop
def Kz (X:Cx) (pins:List (Addr × Obj)) (H:Hp) (b:Addr):Prop :=
 H b = none /\ b ≠ X.env.locals /\ b ∉ X.fs /\ (b ∈ X.ex \/ X.s₀.heap.objs.size <= b) /\ (∀ x c,X.env.cells.lookup x = some c -> c ≠ b) /\ ∀ p ∈ X.pn ++ pins,p.1 ≠ b
theorem Ai.lU {X:Cx} {pins:List (Addr × Obj)} {σ:St} {H H':Hp} {s:Shared} {b:Addr} (I:Ai X pins σ H s) (hb:s.heap.objs.size <= b) (hn:H' b = none):Kz X pins H' b:=by
 refine ⟨hn,Nat.ne_of_gt (Nat.lt_of_lt_of_le I.lt hb),I.RM hb,.inr (Nat.le_trans I.sz hb),fun x c e z=>?_,fun p hp z=>?_⟩
 ·obtain ⟨v,q⟩ := I.cell x c e
  exact absurd (Nat.lt_of_lt_of_le q.lt (by rw [z]; exact hb)) (Nat.lt_irrefl _)
 ·exact absurd (Nat.lt_of_lt_of_le (Heap.lt_size (I.pin p hp).1) (by rw [z]; exact hb)) (Nat.lt_irrefl _)
structure U6 (P:Program) (w:World) (K:PySem.W.Frag) (tg:Expr) (J:It) (fp:List Addr) (it:Addr) (tn:Nat -> Heap -> Prop):Prop where
 mem:it ∈ fp
 obj:∀ i h,tn i h -> ∀ b ∈ fp,∃ o,h.get? b = some o /\ ∀ v,o.data ≠ .cell v
 keep:∀ i h h',tn i h -> (∀ b ∈ fp,∀ o,h.get? b = some o -> h'.get? b = some o) -> tn i h'
 item:∀ (X:Cx),X.prog = P -> X.w = w -> X.K = K -> X.calm = true -> ∀ (i:Nat) (pins:List (Addr × Obj)) (s:Shared) (σ:St) (H:Hp) (E:Value -> Shared -> Prop),Ai X pins σ H s -> (∀ b ∈ fp,Kz X pins H b) -> tn i s.heap -> J.go i H ->
  wpAny (model P w) X.A (pyNext (.ref it)) (fun r s1=>∃ u,r = some u /\
   wpAny (model P w) X.A (letOwnedTupleGo tg (.ref it) u) (fun _ s2=>∃ x H',Ai X pins σ H' s2 /\ Av x u /\ J.xl i H x H' /\ tn (i + 1) s2.heap /\ ∀ b ∈ fp,H' b = none) E s1) E s
 done:∀ (X:Cx),X.prog = P -> X.w = w -> X.K = K -> X.calm = true -> ∀ (i:Nat) (pins:List (Addr × Obj)) (s:Shared) (σ:St) (H:Hp) (E:Value -> Shared -> Prop),Ai X pins σ H s -> (∀ b ∈ fp,Kz X pins H b) -> tn i s.heap -> J.stop i H ->
  wpAny (model P w) X.A (pyNext (.ref it)) (fun r s1=>r = none /\ Ai X pins σ H s1) E s
 self:∀ (A:Around) (i:Nat) (s:Shared) (Q:Value -> Shared -> Prop) (E:Value -> Shared -> Prop),tn i s.heap -> Q (.ref it) s -> wpAny (model P w) A (pyIter (.ref it)) Q E s
abbrev TI:=St -> Hp -> (It -> Hp -> Prop) -> Prop
def qd (X:Cx) (pins:List (Addr × Obj)) (σ:St) (tg:Expr) (R:It -> Hp -> Prop) (PD:Value) (s2:Shared):Prop :=
 ∃ (it:Addr) (fp:List Addr) (tn:Nat -> Heap -> Prop) (J:It) (H':Hp),PD = .ref it /\ Ai X pins σ H' s2 /\ U6 X.prog X.w X.K tg J fp it tn /\ tn 0 s2.heap /\ (∀ b ∈ fp,Kz X pins H' b) /\ R J H'
def PI (X:Cx) (tg iter:Expr) (wi:TI):Prop :=
 ∀ (pins:List (Addr × Obj)) (s:Shared) (σ:St) (H:Hp) (R:It -> Hp -> Prop),Ai X pins σ H s -> wi σ H R ->
  wpAny (model X.prog X.w) X.A (eval iter X.env) (fun v s1=>wpAny (model X.prog X.w) X.A (pyIter v) (qd X pins σ tg R) X.xe s1) X.xe s
theorem Ya {M : Model} {A : Around} {E : Value -> Shared -> Prop} {s : Shared} {tg : Expr} {it : Addr} {u : Value} {o : Obj} {n : String} {vs : Array Value} {Q : Unit -> Shared -> Prop} (ho : s.heap.get? it = some o) (hc : o.cls = .type n) (hd : o.data = .fields vs)
  (hn:["enumerate","zip","dict_itemiterator","dict_reverseitemiterator","odict_iterator","itertools.zip_longest","itertools.pairwise"].contains n = false) (hQ:Q () s):wpAny M A (letOwnedTupleGo tg (.ref it) u) Q E s:=by
 unfold letOwnedTupleGo
 cases tg <;> first
  | exact wpAny_pure hQ
  | (cases u <;> first
    | exact wpAny_pure hQ
    | (refine wpAny_bind (wpAny_load ho ?_)
       rw [hc,hd]
       show wpAny M A (if (["enumerate","zip","dict_itemiterator","dict_reverseitemiterator","odict_iterator","itertools.zip_longest","itertools.pairwise"].contains n && vs[0]? == some (rawInt _)) = true then _ else _) Q E s
       rw [if_neg (by intro h; rw [hn,Bool.false_and] at h; cases h)]
       exact wpAny_pure hQ))
def dr (K:PySem.W.Frag) (a:Addr):It :=
 ⟨fun i H=>∃ xs x,Bg K H a xs /\ xs[i]? = some x,fun i H x H'=>H' = H /\ ∀ xs,Bg K H a xs -> xs[i]? = some x,fun i H=>∃ xs,Bg K H a xs /\ xs.length <= i⟩
def ka (K:PySem.W.Frag) (a:Addr):It :=
 ⟨fun i H=>∃ xs x,Bw K H a xs /\ xs[i]? = some x,fun i H x H'=>H' = H /\ ∀ xs,Bw K H a xs -> xs[i]? = some x,fun i H=>∃ xs,Bw K H a xs /\ xs.length <= i⟩
def cj (lo:Int) (n:Nat):It:=⟨fun i _=>i < n,fun i H x H'=>H' = H /\ x = .int (lo + i),fun i _=>n <= i⟩
theorem Wc {P:Program} {w:World} {K:PySem.W.Frag} {tg:Expr} (a it:Addr):U6 P w K tg (dr K a) [it] it (fun i h=>h.IsListIter it a i) where
 mem:=by simp
 obj:=fun i h st b hb=>by
  have e:b = it:=by simpa using hb
  subst e
  obtain ⟨o,e,c,d⟩ := st
  exact ⟨o,e,fun v z=>by rw [d] at z; cases z⟩
 keep:=fun i h h' st k=>st.at fun o e=>k it (by simp) o e
 item:=by
  intro X hP hw hK hc i pins s σ H E I hf st hg
  subst hP hw hK
  obtain ⟨xs,x,hq,hx⟩ := hg
  obtain ⟨aD,rv,p,hz⟩ := I.list hq
  obtain ⟨u,hu,ru⟩ := rv.get hx
  obtain ⟨f0,f1,f2,f3,f4,f5⟩ := hf it (by simp)
  refine wpAny_pyNext_list_item st p.isList (x:=u) (by simpa using hu) fun h' aE sb=>?_
  have I1:Ai X pins σ H { s with heap:=h' }:=I.turned (t':=s.toks) (fun b o hb e=>(sb.2 b hb).trans e) f0 f1 f3 f4 f5
  obtain ⟨o,e,c,d⟩ := id aE
  exact ⟨u,rfl,Ya (s:={ s with heap:=h' }) e c d (by decide) ⟨x,H,I1,ru,⟨rfl,fun ys hy=>by rw [I.jE hy hq]; exact hx⟩,aE,fun b hb=>(hf b hb).1⟩⟩
 done:=by
  intro X hP hw hK hc i pins s σ H E I hf st hg
  subst hP hw hK
  obtain ⟨xs,hq,hx⟩ := hg
  obtain ⟨aD,rv,p,hz⟩ := I.list hq
  obtain ⟨f0,f1,f2,f3,f4,f5⟩ := hf it (by simp)
  have hl:=rv.length
  exact wpAny_pyNext_list_end (I.ok.hd hc) st p.isList (by simp; omega) fun h' eb=>⟨rfl,I.turned (t':=s.toks) (fun b o hb e=>eb b o hb e) f0 f1 f3 f4 f5⟩
 self:=fun _ _ _ _ _ st h=>wpAny_pyIter_listiter st h
theorem Tw {P:Program} {w:World} {K:PySem.W.Frag} {tg:Expr} (a it:Addr):U6 P w K tg (ka K a) [it] it (fun i h=>h.IsTupleIter it a i) where
 mem:=by simp
 obj:=fun i h st b hb=>by
  have e:b = it:=by simpa using hb
  subst e
  obtain ⟨o,e,c,d⟩ := st
  exact ⟨o,e,fun v z=>by rw [d] at z; cases z⟩
 keep:=fun i h h' st k=>st.at fun o e=>k it (by simp) o e
 item:=by
  intro X hP hw hK hc i pins s σ H E I hf st hg
  subst hP hw hK
  obtain ⟨xs,x,hq,hx⟩ := hg
  obtain ⟨aD,rv,p,hz⟩ := I.tuple hq
  obtain ⟨u,hu,ru⟩ := rv.get hx
  obtain ⟨f0,f1,f2,f3,f4,f5⟩ := hf it (by simp)
  refine wpAny_pyNext_tuple_item st (show s.heap.IsTuple a aD.toArray from p) (x:=u) (by simpa using hu) fun h' aE sb=>?_
  have I1:Ai X pins σ H { s with heap:=h' }:=I.turned (t':=s.toks) (fun b o hb e=>(sb.2 b hb).trans e) f0 f1 f3 f4 f5
  obtain ⟨o,e,c,d⟩ := id aE
  exact ⟨u,rfl,Ya (s:={ s with heap:=h' }) e c d (by decide) ⟨x,H,I1,ru,⟨rfl,fun ys hy=>by rw [I.gY hy hq]; exact hx⟩,aE,fun b hb=>(hf b hb).1⟩⟩
 done:=by
  intro X hP hw hK hc i pins s σ H E I hf st hg
  subst hP hw hK
  obtain ⟨xs,hq,hx⟩ := hg
  obtain ⟨aD,rv,p,hz⟩ := I.tuple hq
  obtain ⟨f0,f1,f2,f3,f4,f5⟩ := hf it (by simp)
  have hl:=rv.length
  exact wpAny_pyNext_tuple_end (I.ok.hd hc) st (show s.heap.IsTuple a aD.toArray from p) (by simp; omega) fun h' eb=>⟨rfl,I.turned (t':=s.toks) (fun b o hb e=>eb b o hb e) f0 f1 f3 f4 f5⟩
 self:=fun _ _ _ _ _ st h=>wpAny_pyIter_tupleiter st h
theorem U4 {P:Program} {w:World} {K:PySem.W.Frag} {tg:Expr} (it:Addr) (lo:Int) (n:Nat):U6 P w K tg (cj lo n) [it] it (fun i h=>IsRangeIter h it (lo + (i:Nat) * 1) ((n:Int) - (i:Nat)) 1) where
 mem:=by simp
 obj:=fun i h st b hb=>by
  have e:b = it:=by simpa using hb
  subst e
  exact ⟨_,st,fun v z=>by
   have z':Data.fields _ = Data.cell v:=z
   cases z'⟩
 keep:=fun i h h' st k=>k it (by simp) _ st
 item:=by
  intro X hP hw hK hc i pins s σ H E I hf st hg
  subst hP hw hK
  obtain ⟨f0,f1,f2,f3,f4,f5⟩ := hf it (by simp)
  have W:=Walks.range (prog:=X.prog) (w:=X.w) (I.ok.hd hc) it lo 1 n
  refine W.item i s _ _ hg st fun v h' tk hv aE kk=>?_
  obtain ⟨t,rfl⟩ := hv
  have I1:Ai X pins σ H { s with heap:=h',toks:=tk }:=I.turned (fun b o hb e=>kk b o (by simpa using hb) e) f0 f1 f3 f4 f5
  refine ⟨_,rfl,Ya (s:={ s with heap:=h',toks:=tk }) (n := "range_iterator") aE rfl rfl (by decide) ⟨.int (lo + i),H,I1,⟨t,?_⟩,⟨rfl,rfl⟩,aE,fun b hb=>(hf b hb).1⟩⟩
  rw [Int.mul_one]
 done:=by
  intro X hP hw hK hc i pins s σ H E I hf st hg
  subst hP hw hK
  obtain ⟨f0,f1,f2,f3,f4,f5⟩ := hf it (by simp)
  exact wpAny_pyNext_range_end (I.ok.hd hc) st (by have:n <= i:=hg; omega) fun h' eb=>⟨rfl,I.turned (t':=s.toks) (fun b o hb e=>eb b o hb e) f0 f1 f3 f4 f5⟩
 self:=fun _ _ _ _ _ st h=>wpAny_pyIter_rangeiter st h
section
variable {X:Cx} {tg:Expr}
theorem Rz {pins : List (Addr × Obj)} {σ : St} {H : Hp} {s : Shared} {R : It -> Hp -> Prop} {E : Value -> Shared -> Prop} {lo hi : Int} {t u v : Tok} {tk : Nat} (I : Ai X pins σ H s) (h1 : -(2 ^ 62) <= lo) (h2 : lo < 2 ^ 62) (h3 : -(2 ^ 62) <= hi) (h4 : hi < 2 ^ 62)
  (q:R (cj lo (hi - lo).toNat) H):wpAny (model X.prog X.w) X.A (pyIter (.ref s.heap.objs.size)) (qd X pins σ tg R) E { s with heap:=s.heap.push { cls := .type "range",data := .fields #[.int lo t,.int hi u,.int 1 v] },toks:=tk }:=by
 refine wpAny_pyIter_range (IsRange.new ..) (small_one h1 h2 h3 h4) ?_
 have I1:Ai X pins σ H { s with heap:=s.heap.push { cls := .type "range",data := .fields #[.int lo t,.int hi u,.int 1 v] },toks:=tk }:=I.kept fun b o e=>Heap.get?_push_of_some _ e
 refine ⟨(s.heap.push { cls := .type "range",data := .fields #[.int lo t,.int hi u,.int 1 v] }).objs.size,[(s.heap.push { cls := .type "range",data := .fields #[.int lo t,.int hi u,.int 1 v] }).objs.size],_,_,H,rfl,
  I1.kept (t':=tk) fun b o e=>Heap.get?_push_of_some _ e,U4 _ lo (hi - lo).toNat,?_,fun b hb=>?_,q⟩
 ·have e1:lo + ((0:Nat):Int) * 1 = lo:=by simp
  have e2:(((hi - lo).toNat:Nat):Int) - ((0:Nat):Int) = Builtin.Range.rangeSize lo hi 1:=by rw [rangeSize_one]; split <;> omega
  show IsRangeIter _ _ (lo + ((0:Nat):Int) * 1) ((((hi - lo).toNat:Nat):Int) - ((0:Nat):Int)) 1
  rw [e1,e2]
  exact Heap.get?_push_size _ rfl
 ·have e:b = (s.heap.push { cls := .type "range",data := .fields #[.int lo t,.int hi u,.int 1 v] }).objs.size:=by simpa using hb
  subst e
  exact I1.lU (Nat.le_refl _) (I1.aF.fresh (Nat.le_refl _))
def md (ta:TA):TI:=fun σ H R=>ta σ H fun vs H1=>∃ j:Int,vs = [.int j] /\ -(2 ^ 62) <= j /\ j < 2 ^ 62 /\ R (cj 0 j.toNat) H1
def ky (ta:TA):TI:=fun σ H R=>ta σ H fun vs H1=>∃ i j:Int,vs = [.int i,.int j] /\ (-(2 ^ 62) <= i /\ i < 2 ^ 62 /\ -(2 ^ 62) <= j /\ j < 2 ^ 62) /\ R (cj i (j - i).toNat) H1
theorem F4 {a:Expr} {ta:TA} {p pos:Pos} (hg:Gl X "range") (hm:X.mg "range" = none) (ha:PA X [a] ta) (hs:starEach [a] X.env = [(false,eval a X.env)]:=by rfl):PI X tg (.Call (.Name "range" p) [a] [] pos) (md ta):=by
 intro pins s σ H R I h
 refine Call_ (J5 I hg hm boot_range (PyProof.Rows.callWith_type1 (C9 (ha pos pins s σ H _ I h) fun us s1 ⟨vs,H1,I1,r1,q1⟩=>?_) hs rfl))
 obtain ⟨j,e,q1,q2,q⟩ := q1
 subst e
 cases r1 with
 | cons r rr =>
  cases rr
  obtain ⟨t,rfl⟩ := r
  exact call_range_1 (Rz I1 (by omega) (by omega) q1 q2 (by simpa using q))
theorem Xf {a b : Expr} {ta : TA} {p pos : Pos} (hg : Gl X "range") (hm : X.mg "range" = none) (ha : PA X [a, b] ta) (hs : starEach [a, b] X.env = [(false, eval a X.env), (false, eval b X.env)] := by rfl) (mW : starEach [b] X.env = [(false, eval b X.env)] := by rfl) :
  PI X tg (.Call (.Name "range" p) [a,b] [] pos) (ky ta):=by
 intro pins s σ H R I h
 refine Call_ (J5 I hg hm boot_range (PyProof.Rows.callWith_type1 (C9 (ha pos pins s σ H _ I h) fun us s1 ⟨vs,H1,I1,r1,q1⟩=>?_) (by rw [hs,mW]) (by rw [mW]; rfl)))
 obtain ⟨i,j,e,⟨q1,q2,q3,q4⟩,q⟩ := q1
 subst e
 cases r1 with
 | cons r rr =>
  cases rr with
  | cons r' rr =>
   cases rr
   obtain ⟨t,rfl⟩ := r
   obtain ⟨t',rfl⟩ := r'
   exact call_range_2 (Rz I1 q1 q2 q3 q4 q)
def qr (wi:TI) (g:TG) (tb:TS):TS:=fun D σ H=>wi σ H fun J H1=>∃ W:Nat -> Nat -> St -> Hp -> Prop,(∃ m,W 0 m σ H1) /\ ∀ i m σ H,W i m σ H ->
 (J.stop i H /\ D.nx σ H) \/ (J.go i H /\ ∃ N:St -> Hp -> Prop,(∀ σ' H',N σ' H' -> ∃ m',m' < m /\ W (i + 1) m' σ' H') /\ ∀ x H',J.xl i H x H' -> g x σ H' fun σ2 H2=>tb { D with nx:=N,ct:=N,bk:=D.nx } σ2 H2)
def Le (fp:List Addr) (h:Heap):List (Addr × Obj):=fp.filterMap fun b=>(h.get? b).map fun o=>(b,o)
theorem Fo {fp:List Addr} {h:Heap} {b:Addr} {o:Obj} (hb:b ∈ fp) (e:h.get? b = some o):(b,o) ∈ Le fp h:=List.mem_filterMap.mpr ⟨b,hb,by rw [e]; rfl⟩
theorem Wx {fp:List Addr} {h:Heap} {p:Addr × Obj} (hp:p ∈ Le fp h):p.1 ∈ fp /\ h.get? p.1 = some p.2:=by
 obtain ⟨b,hb,e⟩ := List.mem_filterMap.mp hp
 cases q:h.get? b with
 | none=>rw [q] at e; cases e
 | some o =>
  rw [q] at e
  have e':(b,o) = p:=Option.some.inj e
  subst e'
  exact ⟨hb,q⟩
theorem Ai.pinned {pins:List (Addr × Obj)} {σ:St} {H:Hp} {s:Shared} {fp:List Addr} (I:Ai X pins σ H s) (hf:∀ b ∈ fp,Kz X pins H b) (ho:∀ b ∈ fp,∃ o,s.heap.get? b = some o /\ ∀ v,o.data ≠ .cell v):Ai X (pins ++ Le fp s.heap) σ H s :=
 I.lI fun p hp=>(List.mem_append.mp hp).elim (fun z=>I.pin p (List.mem_append_right _ z)) fun z=>by
  obtain ⟨hb,e⟩ := Wx z
  obtain ⟨f0,f1,f2,_⟩ := hf p.1 hb
  obtain ⟨o,e',d⟩ := ho p.1 hb
  rw [e] at e'; cases e'
  exact ⟨e,f0,f1,f2,d⟩
theorem Ai.dW {pins pl:List (Addr × Obj)} {σ:St} {H:Hp} {s:Shared} (I:Ai X (pins ++ pl) σ H s):Ai X pins σ H s:=I.lI fun p hp=>I.pin p (List.mem_append_right _ (List.mem_append_left _ hp))
theorem D6 {iter : Expr} {body : List Stmt} {wi : TI} {g : TG} {tb : TS} {pos : Pos} (hp : PassesOwn (model X.prog X.w) X.A X.env X.xe) (hc : X.calm = true) (hi : PI X tg iter wi) (hg : PG X tg g) (hb : Sb X body tb)
  (hs:∀ x,foldedSetIterable iter X.env x = pure x:=by intro _; rfl):PS X (.For tg iter body [] pos) (qr wi g tb):=by
 intro pins s σ H D I h
 refine wpAny_For (C9 (hi pins s σ H _ I h) fun v s1 h1=>C9 h1 fun PD s2 h2=>?_) hs
 obtain ⟨it,fp,tn,J,H2,e,I2,T,aL,f2,W,⟨m0,w0⟩,turn⟩ := h2
 subst e
 have stat:∀ {H':Hp},(∀ b ∈ fp,H' b = none) -> ∀ b ∈ fp,Kz X pins H' b:=fun hn b hb=>⟨hn b hb,(f2 b hb).2⟩
 refine codeAny_forLoop_any (fun n s'=>∃ i σ' H',Ai X pins σ' H' s' /\ tn i s'.heap /\ (∀ b ∈ fp,H' b = none) /\ W i n σ' H') ?_ m0 ⟨0,σ,H2,I2,aL,fun b hb=>(f2 b hb).1,w0⟩
 rintro n s3 ⟨i,σ3,H3,I3,bX,PF,w3⟩
 rcases turn i n σ3 H3 w3 with ⟨stop,qn⟩ | ⟨go,N,hN,step⟩
 ·refine wpAny_passesOwn hp (C9 (T.done X rfl rfl rfl hc i pins s3 σ3 H3 X.xe I3 (stat PF) bX stop) fun r s4 aV=>?_)
  obtain ⟨hr,I4⟩ := aV
  subst hr
  exact wpAny_execs_nil ⟨σ3,H3,I4,qn⟩
 ·refine wpAny_passesOwn hp (C9 (T.item X rfl rfl rfl hc i pins s3 σ3 H3 X.xe I3 (stat PF) bX go) fun r s4 aV=>?_)
  obtain ⟨u,hr,h4⟩ := aV
  subst hr
  refine wpAny_passesOwn hp (C9 h4 fun _ s5 aV=>?_)
  obtain ⟨x,H5,I5,r5,y5,xm,fr5⟩ := aV
  have I5':=I5.pinned (stat fr5) (T.obj _ _ xm)
  refine wpAny_passesOwn hp (C9 (hg _ s5 σ3 H5 x u _ I5' r5 (step x H5 y5)) fun _ s6 aV=>?_)
  obtain ⟨σ6,H6,I6,q6⟩ := aV
  refine wpAny_passesOwn hp (C9 (hb _ s6 σ6 H6 _ I6 q6) fun f s7 q7=>?_)
  have again:∀ {σ7:St} {H7:Hp},Ai X (pins ++ Le fp s5.heap) σ7 H7 s7 -> N σ7 H7 -> ∃ m,m < n /\ ∃ i σ' H',Ai X pins σ' H' s7 /\ tn i s7.heap /\ (∀ b ∈ fp,H' b = none) /\ W i m σ' H':=fun {σ7 H7} I7 n7=>by
   obtain ⟨m',hm,w7⟩ := hN σ7 H7 n7
   refine ⟨m',hm,i + 1,σ7,H7,I7.dW,T.keep _ _ _ xm fun b hb o e=>(I7.pin (b,o) (List.mem_append_right _ (List.mem_append_right _ (Fo hb e)))).1,fun b hb=>?_,w7⟩
   obtain ⟨o,e,d⟩ := T.obj _ _ xm b hb
   exact (I7.pin (b,o) (List.mem_append_right _ (List.mem_append_right _ (Fo hb e)))).2.1
  cases f with
  | next=>obtain ⟨σ7,H7,I7,n7⟩ := q7; exact again I7 n7
  | cont=>obtain ⟨σ7,H7,I7,n7⟩ := q7; exact again I7 n7
  | brk=>obtain ⟨σ7,H7,I7,q7⟩ := q7; exact ⟨σ7,H7,I7.dW,q7⟩
  | ret v=>obtain ⟨x7,σ7,H7,I7,r7,q7⟩ := q7; exact ⟨x7,σ7,H7,I7.dW,r7,q7⟩
end
theorem D3 {K : PySem.W.Frag} {a : Addr} {xs : List V} {g : TG} {tb : TS} {D : Hq} {σ : St} {H : Hp} (Pv : Nat -> St -> Hp -> Prop) (h0 : Pv 0 σ H) (hl : ∀ i σ H, i <= xs.length -> Pv i σ H -> Bg K H a xs)
  (hs:∀ i x σ H,xs[i]? = some x -> Pv i σ H -> g x σ H fun σ2 H2=>tb { D with nx:=Pv (i + 1),ct:=Pv (i + 1),bk:=D.nx } σ2 H2) (hd:∀ σ H,Pv xs.length σ H -> D.nx σ H) :
  ∃ W:Nat -> Nat -> St -> Hp -> Prop,(∃ m,W 0 m σ H) /\ ∀ i m σ H,W i m σ H ->
   ((dr K a).stop i H /\ D.nx σ H) \/ ((dr K a).go i H /\ ∃ N:St -> Hp -> Prop,(∀ σ' H',N σ' H' -> ∃ m',m' < m /\ W (i + 1) m' σ' H') /\ ∀ x H',(dr K a).xl i H x H' -> g x σ H' fun σ2 H2=>tb { D with nx:=N,ct:=N,bk:=D.nx } σ2 H2):=by
 refine ⟨fun i m σ H=>m = xs.length - i /\ i <= xs.length /\ Pv i σ H,⟨xs.length,by simp,Nat.zero_le _,h0⟩,?_⟩
 rintro i m σ H ⟨rfl,hi,p⟩
 have q:=hl i σ H hi p
 by_cases aN:i < xs.length
 ·refine .inr ⟨⟨xs,xs[i],q,by simp [aN]⟩,Pv (i + 1),fun σ' H' p'=>⟨xs.length - (i + 1),by omega,rfl,aN,p'⟩,fun x H' y=>?_⟩
  obtain ⟨e,y⟩ := y
  subst e
  exact hs i x σ _ (y xs q) p
 ·have e:i = xs.length:=by omega
  subst e
  exact .inl ⟨⟨xs,q,Nat.le_refl _⟩,hd σ H p⟩
theorem Va {K : PySem.W.Frag} {a : Addr} {xs : List V} {g : TG} {tb : TS} {D : Hq} {σ : St} {H : Hp} (Pv : Nat -> St -> Hp -> Prop) (h0 : Pv 0 σ H) (hl : ∀ i σ H, i <= xs.length -> Pv i σ H -> Bw K H a xs)
  (hs:∀ i x σ H,xs[i]? = some x -> Pv i σ H -> g x σ H fun σ2 H2=>tb { D with nx:=Pv (i + 1),ct:=Pv (i + 1),bk:=D.nx } σ2 H2) (hd:∀ σ H,Pv xs.length σ H -> D.nx σ H) :
  ∃ W:Nat -> Nat -> St -> Hp -> Prop,(∃ m,W 0 m σ H) /\ ∀ i m σ H,W i m σ H ->
   ((ka K a).stop i H /\ D.nx σ H) \/ ((ka K a).go i H /\ ∃ N:St -> Hp -> Prop,(∀ σ' H',N σ' H' -> ∃ m',m' < m /\ W (i + 1) m' σ' H') /\ ∀ x H',(ka K a).xl i H x H' -> g x σ H' fun σ2 H2=>tb { D with nx:=N,ct:=N,bk:=D.nx } σ2 H2):=by
 refine ⟨fun i m σ H=>m = xs.length - i /\ i <= xs.length /\ Pv i σ H,⟨xs.length,by simp,Nat.zero_le _,h0⟩,?_⟩
 rintro i m σ H ⟨rfl,hi,p⟩
 have q:=hl i σ H hi p
 by_cases aN:i < xs.length
 ·refine .inr ⟨⟨xs,xs[i],q,by simp [aN]⟩,Pv (i + 1),fun σ' H' p'=>⟨xs.length - (i + 1),by omega,rfl,aN,p'⟩,fun x H' y=>?_⟩
  obtain ⟨e,y⟩ := y
  subst e
  exact hs i x σ _ (y xs q) p
 ·have e:i = xs.length:=by omega
  subst e
  exact .inl ⟨⟨xs,q,Nat.le_refl _⟩,hd σ H p⟩
theorem Wg {lo : Int} {n : Nat} {g : TG} {tb : TS} {D : Hq} {σ : St} {H : Hp} (Pv : Nat -> St -> Hp -> Prop) (h0 : Pv 0 σ H)
  (hs:∀ i σ H,i < n -> Pv i σ H -> g (.int (lo + i)) σ H fun σ2 H2=>tb { D with nx:=Pv (i + 1),ct:=Pv (i + 1),bk:=D.nx } σ2 H2) (hd:∀ σ H,Pv n σ H -> D.nx σ H) :
  ∃ W:Nat -> Nat -> St -> Hp -> Prop,(∃ m,W 0 m σ H) /\ ∀ i m σ H,W i m σ H ->
   ((cj lo n).stop i H /\ D.nx σ H) \/ ((cj lo n).go i H /\ ∃ N:St -> Hp -> Prop,(∀ σ' H',N σ' H' -> ∃ m',m' < m /\ W (i + 1) m' σ' H') /\ ∀ x H',(cj lo n).xl i H x H' -> g x σ H' fun σ2 H2=>tb { D with nx:=N,ct:=N,bk:=D.nx } σ2 H2):=by
 refine ⟨fun i m σ H=>m = n - i /\ i <= n /\ Pv i σ H,⟨n,by simp,Nat.zero_le _,h0⟩,?_⟩
 rintro i m σ H ⟨rfl,hi,p⟩
 by_cases aN:i < n
 ·refine .inr ⟨aN,Pv (i + 1),fun σ' H' p'=>⟨n - (i + 1),by omega,rfl,aN,p'⟩,fun x H' y=>?_⟩
  obtain ⟨e,y⟩ := y
  subst e y
  exact hs i σ _ aN p
 ·have e:i = n:=by omega
  subst e
  exact .inl ⟨Nat.le_refl _,hd σ H p⟩
theorem Ic {c : TT} {tb : TS} {D : Hq} {σ : St} {H : Hp} (Pv : St -> Hp -> Prop) (μ : St -> Hp -> Nat) (h0 : Pv σ H)
  (hs:∀ σ H,Pv σ H -> c σ H fun b H1=>if b = true then tb { D with nx:=fun σ' H'=>Pv σ' H' /\ μ σ' H' < μ σ H,ct:=fun σ' H'=>Pv σ' H' /\ μ σ' H' < μ σ H,bk:=D.nx } σ H1 else D.nx σ H1)
  (mono:∀ σ H Q Q',(∀ b H1,Q b H1 -> Q' b H1) -> c σ H Q -> c σ H Q'):Ph c tb D σ H:=by
 refine ⟨fun m σ H=>m = μ σ H /\ Pv σ H,⟨_,rfl,h0⟩,?_⟩
 rintro m σ H ⟨rfl,p⟩
 refine mono σ H _ _ (fun b H1 q=>?_) (hs σ H p)
 cases b with
 | true=>exact ⟨_,fun σ' H' ⟨p',l⟩=>⟨_,l,rfl,p'⟩,q⟩
 | false=>exact q
abbrev R2:=V -> V -> Hp -> VK -> Prop
def K6 (X:Cx) (f:Value -> Value -> Sem Value) (r:R2):Prop :=
 ∀ (pins:List (Addr × Obj)) (s:Shared) (σ:St) (H:Hp) (x y:V) (v u:Value) (Q:VK),Ai X pins σ H s -> Av x v -> Av y u -> r x y H Q ->
  wpAny (model X.prog X.w) X.A (f v u) (EP X pins σ Q) X.xe s
def Dy (X:Cx) (f:Value) (r:List V -> Hp -> VK -> Prop):Prop :=
 ∀ (pins:List (Addr × Obj)) (s:Shared) (σ:St) (H:Hp) (xs:List V) (us:List Value) (Q:VK),Ai X pins σ H s -> Aw xs us -> r xs H Q ->
  wpAny (model X.prog X.w) X.A (call f us) (EP X pins σ Q) X.xe s
def qu (X:Cx) (r:V -> Hp -> (Bool -> Hp -> Prop) -> Prop):Prop :=
 ∀ (pins:List (Addr × Obj)) (s:Shared) (σ:St) (H:Hp) (x:V) (v:Value) (Q:Bool -> Hp -> Prop),Ai X pins σ H s -> Av x v -> r x H Q ->
  wpAny (model X.prog X.w) X.A (truthy v) (TP X pins σ Q) X.xe s
def ou (r:R2) (ta tb:TE):TE:=fun σ H Q=>ta σ H fun x H1=>tb σ H1 fun y H2=>r x y H2 Q
def rI (C:Int -> Int -> Prop) (g:Int -> Int -> V):R2:=fun x y H Q=>∃ i j,x = .int i /\ y = .int j /\ C i j /\ Q (g i j) H
def jx (g:Int -> Int -> V):R2:=fun x y H Q=>∃ i j,x = .int i /\ y = .int j /\ Q (g i j) H
section
variable {X:Cx} {a b c:Expr} {ta tb tc:TE} {pos:Pos}
theorem jg (ha : PE X a ta) (hb : PE X b tb) {pins : List (Addr × Obj)} {s : Shared} {σ : St} {H : Hp} {R : V -> V -> Hp -> Prop} (I : Ai X pins σ H s)
  (h:ta σ H fun x H1=>tb σ H1 fun y H2=>R x y H2) {Q:Value -> Shared -> Prop} {f:Value -> Value -> Sem Value}
  (hf:∀ v u s2 x y H2,Ai X pins σ H2 s2 -> Av x v -> Av y u -> R x y H2 -> wpAny (model X.prog X.w) X.A (f v u) Q X.xe s2) :
  wpAny (model X.prog X.w) X.A (eval a X.env) (fun v s₁=>wpAny (model X.prog X.w) X.A (eval b X.env) (fun u s₂=>wpAny (model X.prog X.w) X.A (f v u) Q X.xe s₂) X.xe s₁) X.xe s:=by
 refine C9 (ha pins s σ H _ I h) fun v s1 aV=>?_
 obtain ⟨x,H1,I1,r1,q1⟩ := aV
 refine C9 (hb pins s1 σ H1 _ I1 q1) fun u s2 aV=>?_
 obtain ⟨y,H2,I2,r2,q2⟩ := aV
 exact hf v u s2 x y H2 I2 r1 r2 q2
theorem B6 {op:Operator} {r:R2} (ho:K6 X (binaryOp op) r) (ha:PE X a ta) (hb:PE X b tb):PE X (.BinOp a op b pos) (ou r ta tb):=by
 intro pins s σ H Q I h
 exact wpAny_BinOp (jg ha hb I h fun v u s2 x y H2 I2 rx ry q=>ho pins s2 σ H2 x y v u Q I2 rx ry q)
theorem qq {f : Value -> Value -> Sem Value} {C : Int -> Int -> Prop} {g : Int -> Int -> Int}
  (rule:∀ (i j:Int) (t u:Tok) (s:Shared) (Q:Value -> Shared -> Prop) (E:Value -> Shared -> Prop),C i j -> Q (.int (g i j) s.toks) { s with toks:=s.toks + 1 } -> wpAny (model X.prog X.w) X.A (f (.int i t) (.int j u)) Q E s) :
  K6 X f (rI C fun i j=>.int (g i j)):=by
 intro pins s σ H x y v u Q I rx ry h
 obtain ⟨i,j,rfl,rfl,hc,q⟩ := h
 obtain ⟨t,rfl⟩ := rx
 obtain ⟨t',rfl⟩ := ry
 exact rule i j t t' s _ _ hc ⟨.int (g i j),H,I.tok _,⟨_,rfl⟩,q⟩
theorem lg {f : Value -> Value -> Sem Value} {g : Int -> Int -> Int}
  (rule:∀ (i j:Int) (t u:Tok) (s:Shared) (Q:Value -> Shared -> Prop) (E:Value -> Shared -> Prop),Q (.int (g i j) s.toks) { s with toks:=s.toks + 1 } -> wpAny (model X.prog X.w) X.A (f (.int i t) (.int j u)) Q E s) :
  K6 X f (jx fun i j=>.int (g i j)):=by
 intro pins s σ H x y v u Q I rx ry h
 obtain ⟨i,j,rfl,rfl,q⟩ := h
 obtain ⟨t,rfl⟩ := rx
 obtain ⟨t',rfl⟩ := ry
 exact rule i j t t' s _ _ ⟨.int (g i j),H,I.tok _,⟨_,rfl⟩,q⟩
theorem je {f : Value -> Value -> Sem Value} {g : Int -> Int -> Bool}
  (rule:∀ (i j:Int) (t u:Tok) (s:Shared) (Q:Value -> Shared -> Prop) (E:Value -> Shared -> Prop),Q (.bool (g i j)) s -> wpAny (model X.prog X.w) X.A (f (.int i t) (.int j u)) Q E s) :
  K6 X f (jx fun i j=>.bl (g i j)):=by
 intro pins s σ H x y v u Q I rx ry h
 obtain ⟨i,j,rfl,rfl,q⟩ := h
 obtain ⟨t,rfl⟩ := rx
 obtain ⟨t',rfl⟩ := ry
 exact rule i j t t' s _ _ ⟨.bl (g i j),H,I,rfl,q⟩
def pj (i j:Int):Prop:=0 < j /\ j < 1073741824
theorem Cy:K6 X (binaryOp .Add) (jx fun i j=>.int (i + j)):=lg fun _ _ _ _ _ _ _ q=>add_int q
theorem Ou:K6 X (binaryOp .Sub) (jx fun i j=>.int (i - j)):=lg fun _ _ _ _ _ _ _ q=>sub_int q
theorem E4:K6 X (binaryOp .FloorDiv) (rI pj fun i j=>.int (i / j)):=qq fun i j _ _ _ _ _ hc q=>by
 have h1:(0:Int) < j:=hc.1
 have h2:j < 1073741824:=hc.2
 exact floordiv_int (by omega) (by rw [Int.fdiv_eq_ediv_of_nonneg i (by omega)]; exact q) (.inl (PyProof.noPylong_small (by omega)))
theorem Cw:K6 X (binaryOp .Mod) (rI (fun _ j=>0 < j) fun i j=>.int (i % j)):=qq fun i j _ _ _ _ _ hc q=>by
 have h1:(0:Int) < j:=hc
 exact mod_int' (by omega) (by rw [Int.fmod_eq_emod_of_nonneg i (by omega)]; exact q)
end
def mv:V -> V -> Bool
 | .aR,.aR=>true | .aR,.int _=>true | .int _,.aR=>true | .aR,.bl _=>true | .bl _,.aR=>true | .aR,.str _=>true | .str _,.aR=>true
 | .int _,.int _=>true | .bl _,.bl _=>true | .str _,.str _=>true | .lG _,.lG _=>true
 | .int _,.str _=>true | .str _,.int _=>true | .bl _,.str _=>true | .str _,.bl _=>true
 | _,_=>false
def uv:R2:=fun x y H Q=>mv x y = true /\ Q (.bl (decide (x = y))) H
def uz:R2:=fun x y H Q=>mv x y = true /\ Q (.bl (!decide (x = y))) H
theorem Us {i j:Int}:decide (V.int i = V.int j) = (i == j):=by
 rw [Bool.eq_iff_iff]
 simp
theorem Zo {i j:Bool}:decide (V.bl i = V.bl j) = (i == j):=by
 rw [Bool.eq_iff_iff]
 simp
theorem Uv {i j:Str}:decide (V.str i = V.str j) = (i == j):=by
 rw [Bool.eq_iff_iff]
 simp
theorem Ut {i j:Array UInt8}:decide (V.lG i = V.lG j) = (i.toList == j.toList):=by
 rw [Bool.eq_iff_iff]
 cases i
 cases j
 simp
section
variable {X:Cx} {a b c:Expr} {ta tb tc:TE} {pos:Pos}
theorem Be {pins:List (Addr × Obj)} {σ:St} {H:Hp} {s:Shared} {Q:VK} {k k':Bool} (I:Ai X pins σ H s) (q:Q (.bl k) H) (e:k = k'):EP X pins σ Q (.bool k') s:=by
 subst e
 exact ⟨.bl k,H,I,rfl,q⟩
theorem O7:K6 X (compareOp .Eq) uv:=by
 intro pins s σ H x y v u Q I rx ry h
 obtain ⟨hs,q⟩ := h
 cases x with
 | aR =>
  cases rx
  cases y with
  | aR=>cases ry; exact PySem.EqNone.eq_none_none (Be I q (by simp))
  | bl j=>cases ry; exact PySem.EqNone.eq_none_bool (Be I q (by simp))
  | int j=>obtain ⟨t',rfl⟩ := ry; exact PySem.EqNone.eq_none_int (Be I q (by simp))
  | str j=>obtain ⟨t',rfl⟩ := ry; exact PySem.EqNone.eq_none_str (Be I q (by simp))
  | _=>exact absurd (show false = true from hs) Bool.false_ne_true
 | bl i =>
  cases rx
  cases y with
  | aR=>cases ry; exact PySem.EqNone.eq_bool_none (Be I q (by simp))
  | bl j=>cases ry; exact eq_bool (Be I q Zo)
  | str j=>obtain ⟨t',rfl⟩ := ry; exact PySem.EqMixed.eq_bool_str (Be I q (by simp))
  | _=>exact absurd (show false = true from hs) Bool.false_ne_true
 | int i =>
  obtain ⟨t,rfl⟩ := rx
  cases y with
  | aR=>cases ry; exact PySem.EqNone.eq_int_none (Be I q (by simp))
  | int j=>obtain ⟨t',rfl⟩ := ry; exact eq_int (Be I q Us)
  | str j=>obtain ⟨t',rfl⟩ := ry; exact PySem.EqMixed.eq_int_str (Be I q (by simp))
  | _=>exact absurd (show false = true from hs) Bool.false_ne_true
 | str i =>
  obtain ⟨t,rfl⟩ := rx
  cases y with
  | aR=>cases ry; exact PySem.EqNone.eq_str_none (Be I q (by simp))
  | bl j=>cases ry; exact PySem.EqMixed.eq_str_bool (Be I q (by simp))
  | int j=>obtain ⟨t',rfl⟩ := ry; exact PySem.EqMixed.eq_str_int (Be I q (by simp))
  | str j=>obtain ⟨t',rfl⟩ := ry; exact eq_str (Be I q Uv)
  | _=>exact absurd (show false = true from hs) Bool.false_ne_true
 | lG i =>
  obtain ⟨t,rfl⟩ := rx
  cases y with
  | lG j=>obtain ⟨t',rfl⟩ := ry; exact PySem.W.eq_bytes (Be I q Ut)
  | _=>exact absurd (show false = true from hs) Bool.false_ne_true
 | _=>cases y <;> exact absurd (show false = true from hs) Bool.false_ne_true
theorem Y0:K6 X (compareOp .NotEq) uz:=by
 intro pins s σ H x y v u Q I rx ry h
 obtain ⟨hs,q⟩ := h
 cases x with
 | aR =>
  cases rx
  cases y with
  | aR=>cases ry; exact PySem.EqNone.ne_none_none (Be I q (by simp))
  | bl j=>cases ry; exact PySem.EqNone.ne_none_bool (Be I q (by simp))
  | int j=>obtain ⟨t',rfl⟩ := ry; exact PySem.EqNone.ne_none_int (Be I q (by simp))
  | str j=>obtain ⟨t',rfl⟩ := ry; exact PySem.EqNone.ne_none_str (Be I q (by simp))
  | _=>exact absurd (show false = true from hs) Bool.false_ne_true
 | bl i =>
  cases rx
  cases y with
  | aR=>cases ry; exact PySem.EqNone.ne_bool_none (Be I q (by simp))
  | bl j=>cases ry; exact ne_bool (Be I q (congrArg not Zo))
  | str j=>obtain ⟨t',rfl⟩ := ry; exact PySem.EqMixed.ne_bool_str (Be I q (by simp))
  | _=>exact absurd (show false = true from hs) Bool.false_ne_true
 | int i =>
  obtain ⟨t,rfl⟩ := rx
  cases y with
  | aR=>cases ry; exact PySem.EqNone.ne_int_none (Be I q (by simp))
  | int j=>obtain ⟨t',rfl⟩ := ry; exact ne_int (Be I q (congrArg not Us))
  | str j=>obtain ⟨t',rfl⟩ := ry; exact PySem.EqMixed.ne_int_str (Be I q (by simp))
  | _=>exact absurd (show false = true from hs) Bool.false_ne_true
 | str i =>
  obtain ⟨t,rfl⟩ := rx
  cases y with
  | aR=>cases ry; exact PySem.EqNone.ne_str_none (Be I q (by simp))
  | bl j=>cases ry; exact PySem.EqMixed.ne_str_bool (Be I q (by simp))
  | int j=>obtain ⟨t',rfl⟩ := ry; exact PySem.EqMixed.ne_str_int (Be I q (by simp))
  | str j=>obtain ⟨t',rfl⟩ := ry; exact ne_str (Be I q (congrArg not Uv))
  | _=>exact absurd (show false = true from hs) Bool.false_ne_true
 | lG i =>
  obtain ⟨t,rfl⟩ := rx
  cases y with
  | lG j=>obtain ⟨t',rfl⟩ := ry; exact PySem.W.ne_bytes (Be I q (congrArg not Ut))
  | _=>exact absurd (show false = true from hs) Bool.false_ne_true
 | _=>cases y <;> exact absurd (show false = true from hs) Bool.false_ne_true
theorem L5:K6 X (compareOp .Lt) (jx fun i j=>.bl (decide (i < j))):=je fun _ _ _ _ _ _ _ q=>lt_int q
theorem dl:K6 X (compareOp .Gt) (jx fun i j=>.bl (decide (j < i))):=je fun _ _ _ _ _ _ _ q=>gt_int q
theorem dq:K6 X (compareOp .GtE) (jx fun i j=>.bl (decide (j <= i))):=je fun _ _ _ _ _ _ _ q=>ge_int q
theorem Pp:K6 X (compareOp .Is) (fun x y H Q=>y = .aR /\ Q (.bl (decide (x = .aR))) H):=by
 intro pins s σ H x y v u Q I rx ry h
 obtain ⟨rfl,q⟩ := h
 cases ry
 refine is_none_gen (Be I q ?_)
 cases x <;> first
  | (cases rx; rfl)
  | (obtain ⟨t,rfl⟩ := rx; rfl)
theorem Pm:K6 X (compareOp .IsNot) (fun x y H Q=>y = .aR /\ Q (.bl (!decide (x = .aR))) H):=by
 intro pins s σ H x y v u Q I rx ry h
 obtain ⟨rfl,q⟩ := h
 cases ry
 refine isnot_none_gen (Be I q ?_)
 cases x <;> first
  | (cases rx; rfl)
  | (obtain ⟨t,rfl⟩ := rx; rfl)
theorem Bh (b:Expr) {op:CmpOp} (h:op ≠ .In:=by decide) (h2:op ≠ .NotIn:=by decide):behindInMarks op b = false:=by
 have e1:(op == CmpOp.In) = false:=by cases op <;> first | rfl | exact absurd rfl h
 have e2:(op == CmpOp.NotIn) = false:=by cases op <;> first | rfl | exact absurd rfl h2
 cases b <;> simp [behindInMarks,e1,e2]
theorem E5 {op:CmpOp} {r:R2} (ho:K6 X (compareOp op) r) (ha:PE X a ta) (hb:PE X b tb) (hm:behindInMarks op b = false):PE X (.Compare a [op] [b] pos) (ou r ta tb):=by
 intro pins s σ H Q I h
 exact wpAny_Compare1 (jg ha hb I h fun v u s2 x y H2 I2 rx ry q=>ho pins s2 σ H2 x y v u Q I2 rx ry q) hm
def om (t:TE):TT:=fun σ H Q=>t σ H fun x H'=>∃ k,x = .bl k /\ Q k H'
theorem Bk {op:CmpOp} {r:R2} (ho:K6 X (compareOp op) r) (ha:PE X a ta) (hb:PE X b tb) (hm:behindInMarks op b = false):PT X (.Compare a [op] [b] pos) (om (ou r ta tb)):=by
 intro pins s σ H Q I h
 refine wpAny_isTrue_Compare1 (C9 (ha pins s σ H _ I h) fun v s1 ⟨x,H1,I1,r1,q1⟩=>C9 (hb pins s1 σ H1 _ I1 q1) fun u s2 ⟨y,H2,I2,r2,q2⟩ =>
  C9 (ho pins s2 σ H2 x y v u _ I2 r1 r2 q2) fun c s3 ⟨z,H3,I3,r3,k,e,q3⟩=>?_) hm
 subst e
 cases r3
 exact wpAny_truthy_bool ⟨H3,I3,q3⟩
def ki (K:PySem.W.Frag) (x:V) (H:Hp) (k:Bool):Prop :=
 match x with
 | .aR=>k = false
 | .bl b=>k = b
 | .int i=>k = (i != 0)
 | .str y=>y.length <= sizeLine /\ k = ((y.length:Int) != 0)
 | .lG y=>y.size <= sizeLine /\ k = ((y.size:Int) != 0)
 | .ref p=>(∃ xs,Bg K H p xs /\ k = !xs.isEmpty) \/ (∃ xs,Bw K H p xs /\ k = !xs.isEmpty) \/ ∃ kvs,H p = some (.dK kvs) /\ k = !kvs.isEmpty
 | _=>False
theorem Tn {κ:Type} {kvs:List (κ × V)} {vs:List (κ × Value)} (r:KV kvs vs):(!vs.isEmpty) = !kvs.isEmpty:=by
 cases r <;> rfl
theorem Lu {xs:List V} {aD:List Value} (r:Aw xs aD):(!aD.toArray.isEmpty) = !xs.isEmpty:=by
 cases r <;> simp
theorem G8:(sizeLine:Nat) < 2 ^ 63:=by rw [sizeLine_eq]; decide
theorem j0:qu X (fun x H Q=>∃ k,ki X.K x H k /\ Q k H):=by
 intro pins s σ H x v Q I rx h
 obtain ⟨k,e,q⟩ := h
 have hl:=G8
 have hs:sizeLine = 16777216:=sizeLine_eq
 cases x with
 | aR =>
  cases rx
  have e':k = false:=e
  subst e'
  exact truthy_none ⟨H,I,q⟩
 | bl b =>
  cases rx
  have e':k = b:=e
  subst e'
  exact wpAny_truthy_bool ⟨H,I,q⟩
 | int i =>
  obtain ⟨t,rfl⟩ := rx
  have e':k = (i != 0):=e
  subst e'
  exact PySem.P.truthy_int ⟨H,I,q⟩
 | str y =>
  obtain ⟨t,rfl⟩ := rx
  obtain ⟨hy,e'⟩ : y.length <= sizeLine /\ k = ((y.length:Int) != 0):=e
  subst e'
  exact PySem.P.truthy_str (by omega) ⟨H,I.tok _,q⟩
 | lG y =>
  obtain ⟨t,rfl⟩ := rx
  obtain ⟨hy,e'⟩ : y.size <= sizeLine /\ k = ((y.size:Int) != 0):=e
  subst e'
  exact PySem.W.truthy_bytes (by omega) ⟨H,I.tok _,q⟩
 | ref p =>
  cases rx
  have e':(∃ xs,Bg X.K H p xs /\ k = !xs.isEmpty) \/ (∃ xs,Bw X.K H p xs /\ k = !xs.isEmpty) \/ ∃ kvs,H p = some (.dK kvs) /\ k = !kvs.isEmpty:=e
  rcases e' with ⟨xs,hx,e'⟩ | ⟨xs,hx,e'⟩ | ⟨kvs,hx,e'⟩
  ·subst e'
   obtain ⟨aD,r,pl,hz⟩ := I.list hx
   have hlen:=r.length
   exact wpAny_truthy_list pl.isList (by simp only [List.size_toArray]; omega) ⟨H,I.tok _,by rw [Lu r]; exact q⟩
  ·subst e'
   obtain ⟨aD,r,pl,hz⟩ := I.tuple hx
   have hlen:=r.length
   exact truthy_tuple pl (by simp only [List.size_toArray]; omega) ⟨H,I.tok _,by rw [Lu r]; exact q⟩
  ·subst e'
   obtain ⟨hz,hS,vs,r,m⟩ : kvs.length <= sizeLine /\ (p == sysModules) = false /\ ∃ vs,KV kvs vs /\ s.heap.DictOf (Db X.prog X.w) p vs:=I.aF p _ hx
   have hlen:kvs.length = vs.length:=Paired.length r
   exact wpAny_truthy_dict hS m (by omega) ⟨H,I.tok _,by rw [Tn r]; exact q⟩
 | _=>exact (show False from e).elim
theorem Li (ha : PE X a ta) (he : ∀ whole, isTrue a X.env whole = (do let v <- whole; standAt a.pos; holding [v] (truthy v))) :
  PT X a (fun σ H Q=>ta σ H fun x H'=>∃ k,ki X.K x H' k /\ Q k H'):=by
 intro pins s σ H Q I h
 exact isTrue_plain (C9 (ha pins s σ H _ I h) fun v s1 ⟨x,H1,I1,r1,q1⟩=>j0 pins s1 σ H1 x v Q I1 r1 q1) (he _)
theorem Jy {x:V} {us:List Value} (r:Aw [x] us):∃ u,us = [u] /\ Av x u:=by
 cases r with
 | cons r1 r2=>cases r2; exact ⟨_,rfl,r1⟩
theorem dn {x y:V} {us:List Value} (r:Aw [x,y] us):∃ u w',us = [u,w'] /\ Av x u /\ Av y w':=by
 cases r with
 | cons r1 r2 =>
  cases r2 with
  | cons r3 r4=>cases r4; exact ⟨_,_,rfl,r1,r3⟩
theorem Xa (hc:X.calm = true):Dy X (.builtin "max") (fun xs H Q=>∃ i j,xs = [.int i,.int j] /\ Q (.int (if j > i then j else i)) H):=by
 intro pins s σ H xs us Q I r h
 obtain ⟨i,j,rfl,q⟩ := h
 obtain ⟨u,w',rfl,⟨t,rfl⟩,⟨t',rfl⟩⟩ := dn r
 refine max_two_ints (I.ok.hd hc) fun h' tk k=>⟨_,H,I.kept k,?_,q⟩
 by_cases hj:j > i
 ·rw [if_pos hj,if_pos hj]; exact ⟨_,rfl⟩
 ·rw [if_neg hj,if_neg hj]; exact ⟨_,rfl⟩
end
structure U5 (h:Heap) (x dx C:Addr) (mA:Str -> Option Value):Prop where
 obj:h.get? x = some (PySem.W.instObj C dx)
 ns:h.Ns1 dx mA
 ne:dx ≠ x
theorem Vs {h:Heap} {dx:Addr} {mA:Str -> Option Value} (n:h.Ns1 dx mA):∃ od,h.get? dx = some od /\ ∀ name,PySem.W.lookIn name od = some (mA name):=by
 obtain ⟨o,es,ep,ho,hd,hk,_,hm⟩ := n
 refine ⟨o,ho,fun name=>?_⟩
 have e:=hm name
 unfold nsFind findBy at e
 rw [<- Array.find?_toList] at e
 unfold PySem.W.lookIn
 rw [hd]
 dsimp only
 split
 ·rename_i y q
  rw [q] at e
  exact congrArg some e
 ·rename_i q
  rw [q] at e
  have a:es.toList.any (·.refKey) = false:=by
   rw [List.any_eq_false]
   intro y hy
   obtain ⟨z,t,bU⟩ := hk y (Array.mem_toList_iff.mp hy)
   simp [DictEntry.refKey,bU]
  have a':¬ es.toList.any (·.refKey) = true:=by rw [a]; exact Bool.false_ne_true
  rw [if_neg a']
  exact congrArg some e
theorem U5.look {h:Heap} {x dx C:Addr} {mA:Str -> Option Value} (I:U5 h x dx C mA):∃ od,PySem.W.InstAt h x (PySem.W.instObj C dx) C (some od) /\ ∀ name,PySem.W.lookIn name od = some (mA name) :=
 let ⟨od,ho,hl⟩ := Vs I.ns
 ⟨od,⟨I.obj,rfl,rfl,ho⟩,hl⟩
section
variable {prog:Program} {w:World} {A:Around} {E:Value -> Shared -> Prop} {s:Shared} {K:PySem.W.Frag} {x dx C f:Addr} {mA:Str -> Option Value} {name:Str} {v:Value}
theorem aa {expr : Bool} {Q : Value -> Shared -> Prop} (X : K.In s.heap) (I : U5 s.heap x dx C mA) (hg : PySem.W.plainGet K C name = true) (hh : PySem.W.hasDictIn K C = true)
  (ha:PySem.W.findIn K (.ref C) name = some none) (hv:mA name = some v) (jV:PySem.W.handedIn v = true) (h:Q v { s with toks:=s.toks + 1 }) :
  wpAny (model prog w) A (getAttr (.ref x) name expr) Q E s:=by
 obtain ⟨od,J,hl⟩ := I.look
 exact PySem.W.get_value X J (PySem.W.plainGet_of hg).1 (PySem.W.findObj_own hh ha rfl (by rw [hl,hv])) jV h
theorem Zc {pl : Sem Bool} {Q : Value × List Value -> Shared -> Prop} (X : K.In s.heap) (I : U5 s.heap x dx C mA) (hg : PySem.W.plainGet K C name = true)
  (hf:PySem.W.findIn K (.ref C) name = some (some (.ref f))) (ht:PySem.W.isFn K (.ref f) = true) (hv:mA name = none) (h:Q (.ref f,[.ref x]) s) :
  wpAny (model prog w) A (getMethod (.ref x) name pl) Q E s:=by
 obtain ⟨od,J,hl⟩ := I.look
 exact PySem.W.method_fn X J (PySem.W.plainGet_of hg).1 (PySem.W.plainGet_of hg).2 hf (beq_iff_eq.mp ht) (by show (PySem.W.lookIn name od).map (·.isSome) = some false; rw [hl,hv]; rfl) h
theorem bf {ns : List Str} {Q : Unit -> Shared -> Prop} (X : K.In s.heap) (I : U5 s.heap x dx C mA)
  (hs:PySem.W.findIn K (.ref C) "__setattr__" = some (some (.builtin "object.__setattr__"))) (hp:PySem.W.plainOver K C = true) (ht:PySem.W.takerIn K C name = some none) (hh:PySem.W.hasDictIn K C = true)
  (hw:PySem.Within mA ns) (hsz:ns.length <= sizeLine)
  (h:∀ h',U5 h' x dx C (fun y=>if y = name then some v else mA y) -> Heap.SameBut dx s.heap h' -> Q () { s with heap:=h',toks:=s.toks + 2 }) :
  wpAny (model prog w) A (setAttr (.ref x) name v) Q E s:=by
 obtain ⟨od,J,hl⟩ := I.look
 refine PySem.W.set_plain X J hs (PySem.W.osa_open (s:={ s with toks:=s.toks + 1 }) (r:=none) X J hp ht fun b=>?_)
 obtain ⟨cd,hc,mU⟩ := PySem.W.any_some hh
 have hx:s.heap.get? x = some ⟨.ref C,some dx,.plain,#[]⟩ := I.obj
 refine wpAny_bind (wpAny_pure (wpAny_bind (wpAny_bind (wpAny_loadPart hx (wpAny_bind (PySem.W.Looks.here (s:={ s with toks:=s.toks + 1 }) (PySem.W.looks_clsIn X hc) ?_))))))
 rw [mU]
 refine wpAny_pure (a:=some dx) (wpAny_bind (wpAny_pure (wpAny_bind ?_)))
 refine wpAny_nsSet1 (s:={ s with toks:=s.toks + 1 }) I.ns fun h' sV mW=>?_
 obtain ⟨oD,esD,epD,hoD,hdD,GV⟩ := sV.count (PySem.Within.cons name v hw)
 refine wpAny_bind (wpAny_lookBehind hoD (by rw [hdD]; exact pastItsLine_dict (Nat.le_trans GV (by rw [List.length_cons]; omega))) ?_)
 exact wpAny_pure (h _ ⟨(mW.2 _ (Ne.symm I.ne)).trans I.obj,sV,I.ne⟩ mW)
theorem Zj {R : Result -> Shared -> Prop} {vs : List Value} {kw : List (Str × Value)} (X : K.In s.heap) (hm : PySem.W.makesIn K C = true)
  (hi:PySem.W.findIn K (.ref C) "__init__" = some (some (.ref f))) (hf:PySem.W.typeIn K (.ref f) = some (.type "function"))
  (h:codeAny (model prog w) (A.under (.builtin "type.__call__" ⟨.ref C :: vs,kw⟩)) (.call (.ref f) ⟨.ref (s.heap.objs.size + 1) :: vs,kw⟩) (PySem.W.InitBack (s.heap.objs.size + 1) R)
   { s with heap:=(s.heap.push PySem.W.emptyDict).push (PySem.W.instObj C s.heap.objs.size) }) :
  codeAny (model prog w) A (.call (.ref C) ⟨vs,kw⟩) R s:=by
 obtain ⟨hh,g,d,t,os⟩ := s
 exact PySem.W.make_core (PySem.W.makes_of X hm) (PySem.W.looks_findIn X hi) (fun self=>PySem.W.bind_fn X self hf) (.inl rfl) h
theorem Vx {R : Result -> Shared -> Prop} (X : K.In s.heap) (hm : PySem.W.makesIn K C = true)
  (hi:PySem.W.findIn K (.ref C) "__init__" = some (some (.builtin "object.__init__")))
  (hb:∀ self,PySem.W.Looks (model prog w) s.heap (bindSpecial (.builtin "object.__init__") self) (.builtin "object.__init__",[self]))
  (h:codeAny (model prog w) (A.under (.builtin "type.__call__" ⟨[.ref C],[]⟩)) (.call (.builtin "object.__init__") ⟨[.ref (s.heap.objs.size + 1)],[]⟩) (PySem.W.InitBack (s.heap.objs.size + 1) R)
   { s with heap:=(s.heap.push PySem.W.emptyDict).push (PySem.W.instObj C s.heap.objs.size) }) :
  codeAny (model prog w) A (.call (.ref C) ⟨[],[]⟩) R s:=by
 obtain ⟨hh,g,d,t,os⟩ := s
 exact PySem.W.make_core (PySem.W.makes_of X hm) (PySem.W.looks_findIn X hi) hb (.inr ⟨rfl,rfl⟩) h
end
def Eh (f:Str) (v:V):List (Str × V) -> List (Str × V)
 | []=>[(f,v)]
 | (g,x) :: r=>if g = f then (g,v) :: r else (g,x) :: Eh f v r
theorem Jw (f g:Str) (v:V):∀ fs:List (Str × V),(Eh f v fs).lookup g = if g = f then some v else fs.lookup g
 | []=>by
  show List.lookup g [(f,v)] = _
  by_cases h:g = f
  ·have hb:(g == f) = true:=beq_iff_eq.mpr h
   simp only [List.lookup,hb,if_pos h]
  ·have hb:(g == f) = false:=beq_eq_false_iff_ne.mpr h
   simp only [List.lookup,hb,if_neg h]
 | (k,x) :: r=>by
  have ih:=Jw f g v r
  rw [show Eh f v ((k,x) :: r) = (if k = f then (k,v) :: r else (k,x) :: Eh f v r) from rfl]
  by_cases hk:k = f
  ·rw [if_pos hk]
   by_cases h:g = k
   ·have hb:(g == k) = true:=beq_iff_eq.mpr h
    simp only [List.lookup,hb,if_pos (h.trans hk)]
   ·have hb:(g == k) = false:=beq_eq_false_iff_ne.mpr h
    simp only [List.lookup,hb,if_neg (fun e:g = f=>h (e.trans hk.symm))]
  ·rw [if_neg hk]
   by_cases h:g = k
   ·have hb:(g == k) = true:=beq_iff_eq.mpr h
    simp only [List.lookup,hb,if_neg (fun e:g = f=>hk (h.symm.trans e))]
   ·have hb:(g == k) = false:=beq_eq_false_iff_ne.mpr h
    simp only [List.lookup,hb]
    exact ih
theorem Jb (f:Str) (v:V):∀ fs:List (Str × V),f ∈ (Eh f v fs).map (·.1) /\ ∀ g,g ∈ fs.map (·.1) -> g ∈ (Eh f v fs).map (·.1)
 | []=>⟨by simp [Eh],fun g h=>by simp at h⟩
 | (k,x) :: r=>by
  obtain ⟨i1,i2⟩ := Jb f v r
  rw [show Eh f v ((k,x) :: r) = (if k = f then (k,v) :: r else (k,x) :: Eh f v r) from rfl]
  by_cases hk:k = f
  ·rw [if_pos hk]
   subst hk
   exact ⟨by simp,fun g h=>by simpa using h⟩
  ·rw [if_neg hk]
   refine ⟨?_,fun g h=>?_⟩
   ·rw [List.map_cons]
    exact List.mem_cons_of_mem _ i1
   ·rw [List.map_cons] at h ⊢
    rcases List.mem_cons.mp h with e | e
    ·exact List.mem_cons.mpr (.inl e)
    ·exact List.mem_cons_of_mem _ (i2 g e)
theorem K0 (f:Str) (v:V):∀ fs:List (Str × V),(Eh f v fs).length <= fs.length + 1
 | []=>by simp [Eh]
 | (k,x) :: r=>by
  have ih:=K0 f v r
  rw [show Eh f v ((k,x) :: r) = (if k = f then (k,v) :: r else (k,x) :: Eh f v r) from rfl]
  by_cases hk:k = f
  ·rw [if_pos hk,List.length_cons,List.length_cons]; omega
  ·rw [if_neg hk,List.length_cons,List.length_cons]; omega
theorem Fq.some_of {v:V} {o:Option Value} (r:Fq (some v) o):∃ u,o = some u /\ Av v u:=by
 cases o with
 | none=>exact (show False from r).elim
 | some u=>exact ⟨u,rfl,r⟩
theorem Fq.none_of {o:Option Value} (r:Fq none o):o = none:=by
 cases o with
 | none=>rfl
 | some u=>exact (show False from r).elim
theorem Wr {v:V} {u:Value} (r:Av v u):PySem.W.handedIn u = true:=by
 cases v with
 | aR=>cases (show u = Value.none from r); rfl
 | bl b=>cases (show u = Value.bool b from r); rfl
 | int i=>obtain ⟨t,e⟩ := (show ∃ t,u = Value.int i t from r); cases e; rfl
 | str x=>obtain ⟨t,e⟩ := (show ∃ t,u = Value.str x t from r); cases e; rfl
 | lG b=>obtain ⟨t,e⟩ := (show ∃ t,u = Value.bytes b t from r); cases e; rfl
 | xi b=>obtain ⟨t,e⟩ := (show ∃ t,u = Value.float b t from r); cases e; rfl
 | ref a=>cases (show u = Value.ref a from r); rfl
 | ty n=>cases (show u = Value.type n from r); rfl
section
variable {P:Program} {w:World} {H H':Hp} {h h':Heap} {a C dx:Addr} {fs fs':List (Str × V)}
theorem Kj (aF:G7 P w H h) (e:H a = some (.ins C dx fs)):∃ mA,U5 h a dx C mA /\ (∀ f,Fq (fs.lookup f) (mA f)) /\ PySem.Within mA (fs.map (·.1)) /\ fs.length <= 1000 /\ H dx = some (.own a):=by
 obtain ⟨d,z,ne,ob,mA,n,r,q⟩ := (show Bo P w H h a (.ins C dx fs) from aF a _ e)
 exact ⟨mA,⟨ob,n,ne⟩,r,q,z,d⟩
end
structure Xk (K:PySem.W.Frag) (C:Addr):Prop where
 pg:PySem.W.plainGet K C Str.empty = true
 hd:PySem.W.hasDictIn K C = true
 po:PySem.W.plainOver K C = true
 sa:PySem.W.findIn K (.ref C) "__setattr__" = some (some (.builtin "object.__setattr__"))
theorem Xk.get {K:PySem.W.Frag} {C:Addr} (c:Xk K C) (f:Str):PySem.W.plainGet K C f = true:=c.pg
def Fx (K:PySem.W.Frag) (C:Addr) (f:Str):Prop:=PySem.W.findIn K (.ref C) f = some none
theorem Fx.GW {K:PySem.W.Frag} {C:Addr} {f:Str} (n:Fx K C f):PySem.W.takerIn K C f = some none:=by
 unfold PySem.W.takerIn
 rw [show PySem.W.findIn K (.ref C) f = some none from n]
 rfl
structure Z2 (K:PySem.W.Frag) (C:Addr) (m:Str) (f:Addr):Prop where
 at_:PySem.W.findIn K (.ref C) m = some (some (.ref f))
 fn:PySem.W.isFn K (.ref f) = true
 kp:PySem.W.keepIn K (.ref f) = true
section
variable {X:Cx} {pins:List (Addr × Obj)} {σ:St} {H:Hp} {s:Shared} {a C dx:Addr} {fs:List (Str × V)} {f:Str} {v:V} {A:Around} {E:Value -> Shared -> Prop}
theorem Tb {b : Bool} {Q : Value -> Shared -> Prop} (I : Ai X pins σ H s) (e : H a = some (.ins C dx fs)) (c : Xk X.K C) (n : Fx X.K C f) (l : fs.lookup f = some v)
  (h:∀ u s',Ai X pins σ H s' -> Av v u -> Q u s'):wpAny (model X.prog X.w) A (getAttr (.ref a) f b) Q E s:=by
 obtain ⟨mA,O,r,_,_,_⟩ := Kj I.aF e
 obtain ⟨u,hu,ru⟩ := Fq.some_of (v:=v) (o:=mA f) (by rw [<- l]; exact r f)
 exact aa I.eP O (c.get f) c.hd n hu (Wr ru) (h u _ (I.tok _) ru)
theorem Tk {m : Str} {g : Addr} {pl : Sem Bool} {Q : Value × List Value -> Shared -> Prop} (I : Ai X pins σ H s) (e : H a = some (.ins C dx fs)) (c : Xk X.K C) (k : Z2 X.K C m g) (l : fs.lookup m = none)
  (h:Q (.ref g,[.ref a]) s):wpAny (model X.prog X.w) A (getMethod (.ref a) m pl) Q E s:=by
 obtain ⟨mA,O,r,_,_,_⟩ := Kj I.aF e
 have hn:mA m = none:=Fq.none_of (by rw [<- l]; exact r m)
 exact Zc I.eP O (c.get m) k.at_ k.fn hn h
theorem Tz {y : V} {u : Value} {Q : Unit -> Shared -> Prop} (I : Ai X pins σ H s) (e : H a = some (.ins C dx fs)) (c : Xk X.K C) (n : Fx X.K C f) (hl : fs.length < 1000) (ry : Av y u)
  (h:∀ s',Ai X pins σ (upd H a (.ins C dx (Eh f y fs))) s' -> Q () s'):wpAny (model X.prog X.w) A (setAttr (.ref a) f u) Q E s:=by
 obtain ⟨mA,O,r,wi,_,ho⟩ := Kj I.aF e
 have hz:(fs.map (·.1)).length <= sizeLine:=by rw [List.length_map,sizeLine_eq]; omega
 refine bf I.eP O c.sa c.po n.GW c.hd wi hz fun h' O' sb=>h _ ?_
 have hd:∃ o,h'.get? dx = some o:=let ⟨o,_,_,e',_⟩ := O'.ns; ⟨o,e'⟩
 refine I.write (x:=a) (e:=dx) (by rw [e]; exact True.intro) (.inr ho) (fun b q hb z=>(sb.2 b hb).trans z) hd ?_
 refine ⟨by rw [Aa O.ne]; exact ho,?_,O.ne,O'.obj,_,O'.ns,fun g=>?_,fun g hg=>?_⟩
 ·have:=K0 f y fs; omega
 ·show Fq ((Eh f y fs).lookup g) (if g = f then some u else mA g)
  rw [Jw]
  by_cases q:g = f
  ·rw [if_pos q,if_pos q]; exact ry
  ·rw [if_neg q,if_neg q]; exact r g
 ·by_cases q:g = f
  ·rw [q]; exact (Jb f y fs).1
  ·refine (Jb f y fs).2 g (wi g fun z=>hg ?_)
   show (if g = f then some u else mA g) = none
   rw [if_neg q]; exact z
theorem Ai.made (I : Ai X pins σ H s) : Ai X pins σ (upd (upd H s.heap.objs.size (.own (s.heap.objs.size + 1))) (s.heap.objs.size + 1) (.ins C s.heap.objs.size []))
  { s with heap:=(s.heap.push PySem.W.emptyDict).push (PySem.W.instObj C s.heap.objs.size) }:=by
 have e1:(s.heap.push PySem.W.emptyDict).get? s.heap.objs.size = some PySem.W.emptyDict:=Heap.get?_push_size s.heap rfl
 have e2:((s.heap.push PySem.W.emptyDict).push (PySem.W.instObj C s.heap.objs.size)).get? (s.heap.objs.size + 1) = some (PySem.W.instObj C s.heap.objs.size):=by
  have:=Heap.get?_push_size (s.heap.push PySem.W.emptyDict) (o:=PySem.W.instObj C s.heap.objs.size) rfl
  rwa [Heap.size_push] at this
 have e3:(s.heap.push PySem.W.emptyDict).Ns s.heap.objs.size (fun _=>none):=⟨PySem.W.emptyDict,#[],_,e1,rfl,(fun e he=>absurd he (by simp)),fun _=>rfl⟩
 have I1:=I.laid (a:=s.heap.objs.size) (o := .own (s.heap.objs.size + 1)) (h':=s.heap.push PySem.W.emptyDict) (t':=s.toks) (fun b u q=>Heap.get?_push_of_some _ q) (Nat.le_refl _) ⟨_,e1⟩
 refine I1.laid (a:=s.heap.objs.size + 1) (o := .ins C s.heap.objs.size []) (t':=s.toks) (fun b u q=>Heap.get?_push_of_some _ q) (Nat.le_of_eq (Heap.size_push _ _)) ?_
 have ne:s.heap.objs.size ≠ s.heap.objs.size + 1:=Nat.ne_of_lt (Nat.lt_succ_self _)
 refine ⟨by rw [Aa ne,A5],Nat.zero_le _,ne,e2,fun _=>none,(Heap.Ns1.of_empty e3).at fun o q=>Heap.get?_push_of_some _ q,fun _=>True.intro,fun y hy=>absurd rfl hy⟩
theorem cw {prog : Program} {w : World} {env : Env} {e : Expr} {f : Str} {pos : Pos} {s : Shared} {Q : Value -> Shared -> Prop} (hb : attributeBase e f env (eval e env) = eval e env)
  (h:wpAny (model prog w) A (eval e env) (fun o s₁=>wpAny (model prog w) A (getAttr o f true) Q E s₁) E s):wpAny (model prog w) A (eval (.Attribute e f pos) env) Q E s :=
 Attribute_any_ h (by rw [arm_eval_Attribute,hb])
end
def si (K:PySem.W.Frag) (ta:TE) (f:Str):TE:=fun σ H Q=>ta σ H fun x H1=>∃ a C dx fs v,x = .ref a /\ H1 a = some (.ins C dx fs) /\ Xk K C /\ Fx K C f /\ fs.lookup f = some v /\ Q v H1
def sj (K:PySem.W.Frag) (ta tv:TE) (f:Str):TS:=fun D σ H=>tv σ H fun y H1=>ta σ H1 fun x H2=>∃ a C dx fs,x = .ref a /\ H2 a = some (.ins C dx fs) /\ Xk K C /\ Fx K C f /\ fs.length < 1000 /\
 D.nx σ (upd H2 a (.ins C dx (Eh f y fs)))
section
variable {X:Cx} {o e value:Expr} {f:Str} {pos pos' lV:Pos} {ta tv:TE}
theorem Mi (he:PE X e ta) (hb:attributeBase e f X.env (eval e X.env) = eval e X.env):PE X (.Attribute e f pos) (si X.K ta f):=by
 intro pins s σ H Q I h
 refine cw hb (C9 (he pins s σ H _ I h) fun u s1 aV=>?_)
 obtain ⟨x,H1,I1,rx,a,C,dx,fs,v,ex,ea,c,n,l,q⟩ := aV
 subst ex
 obtain rfl:u = Value.ref a:=rx
 exact Tb I1 ea c n l fun u' s2 I2 ru=>⟨v,H1,I2,ru,q⟩
theorem Oo (ha:PE X o ta) (hv:PE X value tv) (hs:swapsWith value (some (.Attribute o f pos')) pos.line X.env = pure false):PS X (.Assign [.Attribute o f pos'] value pos) (sj X.K ta tv f):=by
 intro pins s σ H D I h
 refine plainObj_wpAny_Assign_Attribute (C9 (hv pins s σ H _ I h) fun u s1 ⟨y,H1,I1,ry,q⟩=>C9 (ha pins s1 σ H1 _ I1 q) fun ov s2 ⟨x,H2,I2,rx,a,C,dx,fs,ex,ea,c,n,l,q2⟩=>?_) hs
 subst ex
 obtain rfl:ov = Value.ref a:=rx
 exact Tz I2 ea c n l ry fun s3 I3=>⟨σ,_,I3,q2⟩
end
section
variable {X:Cx} {pins:List (Addr × Obj)} {σ:St} {H:Hp} {s:Shared} {A:Around} {E:Value -> Shared -> Prop} {Q:Value -> Shared -> Prop} {c:Value} {b:Bool}
inductive Jr (K:PySem.W.Frag) (H:Hp):V -> Value -> Prop where
 | aR:Jr K H .aR (.type "NoneType")
 | bl (x:Bool):Jr K H (.bl x) (.type "bool")
 | int (i:Int):Jr K H (.int i) (.type "int")
 | str (x:Str):Jr K H (.str x) (.type "str")
 | xi (x:UInt64):Jr K H (.xi x) (.type "float")
 | lst {a:Addr} {xs:List V} (e:H a = some (.lst xs)):Jr K H (.ref a) (.type "list")
 | bE {a:Addr} {o:Obj} {xs:List V} (e:H a = some (.bE o (.lst xs))):Jr K H (.ref a) (.type "list")
 | tup {a:Addr} {xs:List V} (e:H a = some (.tup xs)):Jr K H (.ref a) (.type "tuple")
 | dK {a:Addr} {kvs:List (Dt × V)} (e:H a = some (.dK kvs)):Jr K H (.ref a) (.type "dict")
 | dT {a:Addr} {kvs:List ((List Int × Int) × V)} (e:H a = some (.dT kvs)):Jr K H (.ref a) (.type "dict")
 | ins {a C dx : Addr} {fs : List (Str × V)} (e : H a = some (.ins C dx fs)) (cl : Xk K C) (ha : PySem.W.findIn K (.ref C) "__class__" = some (some (.builtin "object.__class__")))
   (hn:PySem.W.specialIn K (.builtin "object.__class__") "__get__" = some (some (.builtin "getset_descriptor.__get__"))) (htk:PySem.W.takesIn K (.builtin "object.__class__") = some true)
   (hm:PySem.W.mroIn K C (.type "object") = some true):Jr K H (.ref a) (.ref C)
theorem Wt {x : V} {u t : Value} (I : Ai X pins σ H s) (rx : Av x u) (ty : Jr X.K H x t) (e : PySem.W.kitOne X.K t c = some b) (h : ∀ tk, Q (.bool b) { s with toks := tk }) :
  wpAny (model X.prog X.w) A (call (.builtin "isinstance") [u,c]) Q E s:=by
 cases ty with
 | aR=>cases (show u = Value.none from rx); exact PySem.W.kia_one PySem.W.kitx_none I.eP True.intro e (fun z=>nomatch z) h
 | bl y=>cases (show u = Value.bool y from rx); exact PySem.W.kia_one PySem.W.kitx_bool I.eP True.intro e (fun z=>nomatch z) h
 | int i=>obtain ⟨t,q⟩ := (show ∃ t,u = Value.int i t from rx); cases q; exact PySem.W.kia_one PySem.W.kitx_int I.eP True.intro e (fun z=>nomatch z) h
 | str y=>obtain ⟨t,q⟩ := (show ∃ t,u = Value.str y t from rx); cases q; exact PySem.W.kia_one PySem.W.kitx_str I.eP True.intro e (fun z=>nomatch z) h
 | xi y=>obtain ⟨t,q⟩ := (show ∃ t,u = Value.float y t from rx); cases q; exact PySem.W.kia_one PySem.W.kitx_float I.eP True.intro e (fun z=>nomatch z) h
 | @lst a xs ea =>
  cases (show u = Value.ref a from rx)
  obtain ⟨_,_,n,_,h1⟩ := (show Bo X.prog X.w H s.heap a (.lst xs) from I.aF a _ ea)
  exact PySem.W.kia_one PySem.W.kitx_list I.eP ⟨_,h1,rfl⟩ e (fun z=>nomatch z) h
 | @bE a ob xs ea =>
  cases (show u = Value.ref a from rx)
  obtain ⟨_,_,_,n,_,h1⟩ := (show Bo X.prog X.w H s.heap a (.bE ob (.lst xs)) from I.aF a _ ea)
  exact PySem.W.kia_one PySem.W.kitx_list I.eP ⟨_,h1,rfl⟩ e (fun z=>nomatch z) h
 | @tup a xs ea =>
  cases (show u = Value.ref a from rx)
  obtain ⟨_,_,_,p⟩ := (show Bo X.prog X.w H s.heap a (.tup xs) from I.aF a _ ea)
  obtain ⟨o,h1,h2,_⟩ := p
  exact PySem.W.kia_one PySem.W.kitx_tuple I.eP ⟨o,h1,h2⟩ e (fun z=>nomatch z) h
 | @dK a kvs ea =>
  cases (show u = Value.ref a from rx)
  obtain ⟨_,_,vs,_,p⟩ := (show Bo X.prog X.w H s.heap a (.dK kvs) from I.aF a _ ea)
  obtain ⟨o,es,ep,h1,h2,_⟩ := p
  exact PySem.W.kia_one PySem.W.kitx_dict I.eP ⟨o,h1,h2.1⟩ e (fun z=>nomatch z) h
 | @dT a kvs ea =>
  cases (show u = Value.ref a from rx)
  obtain ⟨_,_,xs,_,o,es,ep,h1,h2,_⟩ := (show Bo X.prog X.w H s.heap a (.dT kvs) from I.aF a _ ea)
  exact PySem.W.kia_one PySem.W.kitx_dict I.eP ⟨o,h1,h2.1⟩ e (fun z=>nomatch z) h
 | @ins a C dx fs ea cl ha hn htk hm =>
  cases (show u = Value.ref a from rx)
  obtain ⟨mA,O,_⟩ := Kj I.aF ea
  obtain ⟨od,J,_⟩ := O.look
  exact PySem.W.kia_one (PySem.W.kitx_own (cl.get _) cl.hd ha hn htk hm) I.eP J e (fun z=>nomatch z) h
end
structure Cq (k:Nat) (A:Around):Prop where
 hd:A.handled = none
 dp:A.depth + 3 * k + 5 < recursionLimit
 un:A.units + 16 * k + 200 < cLine
theorem Cq.mono {j k:Nat} {A:Around} (r:Cq k A) (h:j <= k):Cq j A:=⟨r.hd,by have:=r.dp; omega,by have:=r.un; omega⟩
theorem Cq.deeper {k:Nat} {A:Around} (r:Cq (k + 1) A) (env:Env):Cq k (A.deeper env) :=
 ⟨r.hd,by have:=r.dp; show A.depth + 1 + 3 * k + 5 < _; omega,by have:=r.un; show A.units + 3 + 16 * k + 200 < _; omega⟩
theorem Sh {A:Around} {C:Addr} {us:List Value} {kw:List (Str × Value)}:(A.under (.builtin "type.__call__" ⟨.ref C :: us,kw⟩)).depth = A.depth + 1:=by
 first | rfl | simp [Around.under,Code.weight,Code.isCreation,Code.isGuard,Code.isCaller,Code.frames,Code.isFrame,guardIds]
theorem Ui {A:Around} {C:Addr} {us:List Value} {kw:List (Str × Value)}:(A.under (.builtin "type.__call__" ⟨.ref C :: us,kw⟩)).units = A.units + 1:=by
 first | rfl | simp [Around.under,Code.cUnits,Code.frames,Code.isFrame]
theorem Cq.make {k:Nat} {A:Around} (r:Cq (k + 1) A) (C:Addr) (us:List Value) (kw:List (Str × Value)):Cq k (A.under (.builtin "type.__call__" ⟨.ref C :: us,kw⟩)) :=
 ⟨r.hd,by have:=r.dp; rw [Sh]; omega,by have:=r.un; rw [Ui]; omega⟩
theorem Cq.depth {k:Nat} {A:Around} (r:Cq k A):A.depth < recursionLimit:=by have:=r.dp; omega
theorem Cq.units {k:Nat} {A:Around} (r:Cq k A):A.units + 64 < cLine:=by have:=r.un; omega
def mf:TA:=fun _ H Q=>Q [] H
def de (ta:TE) (tr:TA):TA:=fun σ H Q=>ta σ H fun x H1=>tr σ H1 fun xs H2=>Q (x :: xs) H2
section
variable {X:Cx} {e:Expr} {es:List Expr} {te:TE} {t:TA} {pos:Pos}
theorem A8:PA X [] mf:=fun _ _ _ _ H Q I h=>Calls.spliced_nil ⟨[],H,I,.nil,h⟩
theorem A0 (ha:PE X e te) (hr:PA X es t) (hs:starEach (e :: es) X.env = (false,eval e X.env) :: starEach es X.env:=by rfl):PA X (e :: es) (de te t):=by
 intro pos pins s σ H Q I h
 rw [hs]
 show wpAny _ _ (spliced ((false,eval e X.env) :: backTo pos (starEach es X.env))) _ _ s
 refine Calls.spliced_cons (C9 (ha pins s σ H _ I h) fun u s1 aV=>?_)
 obtain ⟨x,H1,I1,r1,q1⟩ := aV
 exact C9 (hr pos pins s1 σ H1 _ I1 q1) fun us s2 ⟨xs,H2,I2,r2,q2⟩=>⟨x :: xs,H2,I2,.cons r1 r2,q2⟩
def rf (t:TA):TE:=fun σ H Q=>t σ H fun xs H1=>xs.length <= sizeLine /\ ∀ p,H1 p = none -> Q (.ref p) (upd H1 p (.tup xs))
def qj (t:TA):TE:=fun σ H Q=>t σ H fun xs H1=>xs.length <= sizeLine /\ ∀ p,H1 p = none -> Q (.ref p) (upd H1 p (.lst xs))
theorem C4 {x1} (h:PA X es t):PE X (.Tuple es x1 pos) (rf t):=by
 intro pins s σ H Q I hq
 refine wpAny_Tuple_spliced (C9 (h pos pins s σ H _ I hq) fun us s1 ⟨xs,H1,I1,r,z,q⟩=>⟨by rw [<- r.length]; exact z,?_⟩)
 have hf:H1 s1.heap.objs.size = none:=I1.aF.fresh (Nat.le_refl _)
 refine ⟨.ref s1.heap.objs.size,upd H1 s1.heap.objs.size (.tup xs),I1.laid (t':=s1.toks) (fun b u e=>Heap.get?_push_of_some _ e) (Nat.le_refl _) ?_,rfl,q _ hf⟩
 exact ⟨⟨z,⟨_,Heap.get?_push_size _ rfl,rfl⟩⟩,us,r,⟨_,Heap.get?_push_size _ rfl,rfl,_,rfl⟩⟩
theorem D5 (h:PA X es t):PE X (.List es pos) (qj t):=by
 intro pins s σ H Q I hq
 refine wpAny_List_spliced (C9 (h pos pins s σ H _ I hq) fun us s1 ⟨xs,H1,I1,r,z,q⟩=>⟨by rw [<- r.length]; exact z,?_⟩)
 have hf:H1 s1.heap.objs.size = none:=I1.aF.fresh (Nat.le_refl _)
 refine ⟨.ref s1.heap.objs.size,upd H1 s1.heap.objs.size (.lst xs),I1.laid (t':=s1.toks) (fun b u e=>Heap.get?_push_of_some _ e) (Nat.le_refl _) ?_,rfl,q _ hf⟩
 exact ⟨z,us,0,r,Heap.get?_push_size _ rfl⟩
end
abbrev Sp:=List V -> Hp -> VK -> XK -> Prop
abbrev Xl:=List Env -> Hp -> Shared -> XK -> Value -> Shared -> Prop
structure Sn (P:Program) (w:World) (K:PySem.W.Frag) (mg:Str -> Option Value) (base:Heap) (A:Around) (outer:List Env) (s:Shared) (H:Hp):Prop where
 frames:A.frames = some outer
 mod:Mod K mg base
 bs:∀ b o,base.get? b = some o -> s.heap.get? b = some o /\ H b = none
 nF:base.objs.size <= s.heap.objs.size
 dU:s.heap.FunFrames base outer
 sS:∀ b ∈ jU outer,H b = none
 aF:G7 P w H s.heap
 bare:AllBare s.gens
def CE (outer:List Env) (P:Program) (w:World) (H:Hp) (s:Shared) (Q:VK) (u:Value) (s':Shared):Prop :=
 ∃ v H',s'.os = s.os /\ AllBare s'.gens /\ Un (jU outer) [] H H' s.heap s'.heap /\ G7 P w H' s'.heap /\ Av v u /\ Q v H'
def CR (CX:Xl) (outer:List Env) (P:Program) (w:World) (H:Hp) (s:Shared) (Q:VK) (E:XK) (r:Result) (s':Shared):Prop :=
 match r with
 | .ok (.ret u)=>CE outer P w H s Q u s'
 | .ok _=>False
 | .error e=>CX outer H s E e s'
structure Af (P:Program) (w:World) (K:PySem.W.Frag) (mg:Str -> Option Value) (base:Heap) (CX:Xl) (k:Nat) (f:Addr) (fd:FuncData) (ps:List Str) (sp:Sp):Prop where
 len:∀ vs H Q E,sp vs H Q E -> vs.length = ps.length
 run:∀ (A:Around) (outer:List Env) (s:Shared) (H:Hp) (args:Args) (us:List Value) (vs:List V) (Q:VK) (E:XK),Cq k A -> Sn P w K mg base A outer s H -> BindsTo s fd args (ps.zip us) -> Aw vs us -> sp vs H Q E ->
  codeAny (model P w) A (.call (.ref f) args) (CR CX outer P w H s Q E) s
theorem Sn.make {P : Program} {w : World} {K : PySem.W.Frag} {mg : Str -> Option Value} {base : Heap} {A : Around} {outer : List Env} {s : Shared} {H : Hp} (e : Sn P w K mg base A outer s H) (C : Addr) (us : List Value) (kw : List (Str × Value)) :
  Sn P w K mg base (A.under (.builtin "type.__call__" ⟨.ref C :: us,kw⟩)) outer s H:=⟨by first | exact e.frames | (simpa [Around.under,Code.envs,Code.isFrame,pushEnvs] using e.frames),e.mod,e.bs,e.nF,e.dU,e.sS,e.aF,e.bare⟩
section
variable {X:Cx} {pins:List (Addr × Obj)} {σ:St} {H:Hp} {s s':Shared}
theorem Ai.GX (I:Ai X pins σ H s):Sn X.prog X.w X.K X.mg X.base X.A X.stack s H :=
 ⟨I.ok.frames,I.ok.mod,I.bs,Nat.le_trans I.ok.nF I.sz,I.stack,I.lH,I.aF,I.bare⟩
theorem Ai.after {Q:VK} {u:Value} (I:Ai X pins σ H s) (h:CE X.stack X.prog X.w H s Q u s'):EP X pins σ Q u s':=by
 obtain ⟨v,H',os,bare,un,aF,r,q⟩ := h
 obtain ⟨hh,g,d,t,os'⟩ := s'
 obtain rfl:os' = s.os:=os
 exact ⟨v,H',I.call (h':=hh) (g':=g) (d':=d) (t':=t) (ch:=[]) un aF bare (fun b z=>absurd z (by simp)),r,q⟩
end
def mr (sp:Sp) (gJ:List V) (E:XK) (t:TA):TE:=fun σ H Q=>t σ H fun vs H1=>sp (vs ++ gJ) H1 Q E
def ln (C:Addr) (m:Str) (sp:Sp) (gJ:List V) (E:XK) (ta:TE) (t:TA):TE:=fun σ H Q=>ta σ H fun x H1=>∃ a dx fs,x = .ref a /\ H1 a = some (.ins C dx fs) /\ fs.lookup m = none /\
 t σ H1 fun vs H2=>sp (x :: (vs ++ gJ)) H2 Q E
def ny (C:Addr) (sp:Sp) (gJ:List V) (E:XK) (t:TA):TE:=fun σ H Q=>t σ H fun vs H1=>∀ x dx,H1 x = none -> H1 dx = none -> dx ≠ x ->
 sp (.ref x :: (vs ++ gJ)) (upd (upd H1 dx (.own x)) x (.ins C dx [])) (fun v H2=>v = .aR /\ Q (.ref x) H2) E
def Ap (K:PySem.W.Frag) (fd:FuncData) (ps:List Str) (ds:List Value):Prop :=
 ∀ (s:Shared) (us:List Value),K.In s.heap -> (us ++ ds).length = ps.length -> BindsTo s fd ⟨us,[]⟩ (ps.zip (us ++ ds))
theorem Ap.all {K:PySem.W.Frag} {fd:FuncData} {ps:List Str} (h:∀ us:List Value,us.length = ps.length -> bindArgs fd ⟨us,[]⟩ = pure (ps.zip us)):Ap K fd ps []:=fun s us _ hl=>by
 rw [List.append_nil] at hl ⊢
 exact .of_eq (h us hl)
def Iw (CX:Xl) (X:Cx) (E:XK):Prop := ∀ (pins:List (Addr × Obj)) (σ:St) (H:Hp) (s:Shared) (e:Value) (s':Shared),Ai X pins σ H s -> CX X.stack H s E e s' -> X.xe e s'
section
variable {X:Cx} {CX:Xl} {k:Nat} {f C:Addr} {fd:FuncData} {ps:List Str} {sp:Sp} {gJ:List V} {ds:List Value} {E:XK} {x m:Str} {p pos apos:Pos} {e o:Expr} {es:List Expr} {ta:TE} {t:TA}
theorem Zb {pins : List (Addr × Obj)} {σ : St} {H : Hp} {s : Shared} {Q : VK} {us : List Value} {vs : List V} (F : Af X.prog X.w X.K X.mg X.base CX k f fd ps sp) (hr : Cq k X.A) (hb : Ap X.K fd ps ds) (hd : Aw gJ ds) (hx : Iw CX X E)
  (I:Ai X pins σ H s) (r:Aw vs us) (h:sp (vs ++ gJ) H Q E):wpAny (model X.prog X.w) X.A (call (.ref f) us) (EP X pins σ Q) X.xe s:=by
 have r2:Aw (vs ++ gJ) (us ++ ds):=r.append hd
 have hl:(us ++ ds).length = ps.length:=by rw [<- r2.length]; exact F.len _ _ _ _ h
 refine wpAny_call (codeAny_mono (F.run X.A X.stack s H ⟨us,[]⟩ (us ++ ds) (vs ++ gJ) Q E hr I.GX (hb s us I.eP hl) r2 h) fun r s' hq=>?_)
 cases r with
 | error e=>exact hx pins σ H s e s' I hq
 | ok fl =>
  cases fl with
  | ret u=>exact I.after hq
  | next=>exact False.elim hq
  | brk=>exact False.elim hq
  | cont=>exact False.elim hq
theorem Ag (F : Af X.prog X.w X.K X.mg X.base CX k f fd ps sp) (hr : Cq k X.A) (hg : Gl X x) (hm : X.mg x = some (.ref f)) (hk : PySem.W.keepIn X.K (.ref f) = true) (hb : Ap X.K fd ps ds) (hd : Aw gJ ds) (hx : Iw CX X E)
  (ha:PA X (e :: es) t) (nD:(x == ("__debug__" : Str)) = false:=by decide) (he:starEach (e :: es) X.env = (false,eval e X.env) :: starEach es X.env:=by rfl) (lK:(backTo pos (starEach es X.env)).any (·.1) = false:=by rfl) :
  PE X (.Call (.Name x p) (e :: es) [] pos) (mr sp gJ E t):=by
 intro pins s σ H Q I h
 refine wpAny_Call_Name_kw (Kl I hg hm ?_ nD)
 refine PySem.W.callWith_K (h₀:=X.base) I.ok.mod.GP hk (C9 (ha pos pins s σ H _ I h) fun us s1 ⟨vs,H1,I1,r,q⟩=>⟨I1.eP,?_⟩) he lK
 exact Zb F hr hb hd hx I1 r q
theorem Kq {pl : Sem Bool} (he : PE X o ta) (c : Xk X.K C) (hm : Z2 X.K C m f) (F : Af X.prog X.w X.K X.mg X.base CX k f fd ps sp) (hr : Cq k X.A) (hb : Ap X.K fd ps ds) (hd : Aw gJ ds) (hx : Iw CX X E) (ha : PA X (e :: es) t)
  (bQ:starEach (e :: es) X.env = (false,eval e X.env) :: starEach es X.env:=by rfl) (lK:(backTo pos (starEach es X.env)).any (·.1) = false:=by rfl)
  (ht:eval (.Call (.Attribute o m apos) (e :: es) [] pos) X.env = (do
   let ov <- eval o X.env
   standAt apos.atName
   let (f,first) <- holding [ov] (getMethod ov m pl)
   callWith pos f first (backTo pos (starEach (e :: es) X.env)) (backToKw pos (keywordEach [] X.env))):=by rfl) :
  PE X (.Call (.Attribute o m apos) (e :: es) [] pos) (ln C m sp gJ E ta t):=by
 intro pins s σ H Q I h
 refine PySem.W.methodCall_KW (pl:=pl) (C9 (he pins s σ H _ I h) fun u s1 ⟨x,H1,I1,rx,a,dx,fs,ex,ea,l,q⟩=>?_) ht
 subst ex
 obtain rfl:u = Value.ref a:=rx
 refine Tk I1 ea c hm l ?_
 refine PySem.W.callWith_K (first:=[.ref a]) (h₀:=X.base) I.ok.mod.GP hm.kp (C9 (ha pos pins s1 σ H1 _ I1 q) fun us s2 ⟨vs,H2,I2,r,q2⟩=>⟨I2.eP,?_⟩) bQ lK
 exact Zb (us := .ref a :: us) (vs := .ref a :: vs) F hr hb hd hx I2 (.cons rfl r) q2
structure Mk (K:PySem.W.Frag) (C f:Addr):Prop where
 makes:PySem.W.makesIn K C = true
 init:PySem.W.findIn K (.ref C) "__init__" = some (some (.ref f))
 fn:PySem.W.isFn K (.ref f) = true
 kp:PySem.W.keepIn K (.ref C) = true
theorem Zk {pins : List (Addr × Obj)} {σ : St} {H : Hp} {s : Shared} {Q : VK} {us : List Value} {vs : List V} (M : Mk X.K C f) (F : Af X.prog X.w X.K X.mg X.base CX k f fd ps sp) (hr : Cq (k + 1) X.A) (hb : Ap X.K fd ps ds) (hd : Aw gJ ds)
  (hx:Iw CX X E) (I:Ai X pins σ H s) (r:Aw vs us)
  (h:∀ x dx,H x = none -> H dx = none -> dx ≠ x -> sp (.ref x :: (vs ++ gJ)) (upd (upd H dx (.own x)) x (.ins C dx [])) (fun v H2=>v = .aR /\ Q (.ref x) H2) E) :
  wpAny (model X.prog X.w) X.A (call (.ref C) us) (EP X pins σ Q) X.xe s:=by
 have hq:=h (s.heap.objs.size + 1) s.heap.objs.size (I.aF.fresh (Nat.le_succ _)) (I.aF.fresh (Nat.le_refl _)) (Nat.ne_of_lt (Nat.lt_succ_self _))
 have I2:=Ai.made (C:=C) I
 have r2:Aw (V.ref (s.heap.objs.size + 1) :: (vs ++ gJ)) (Value.ref (s.heap.objs.size + 1) :: (us ++ ds)) := .cons rfl (r.append hd)
 have hl:(Value.ref (s.heap.objs.size + 1) :: us ++ ds).length = ps.length:=by
  have e:=r2.length
  rw [F.len _ _ _ _ hq] at e
  exact e.symm
 refine wpAny_call (Zj (f:=f) I.eP M.makes M.init (beq_iff_eq.mp M.fn) (codeAny_mono (F.run _ X.stack _ _ ⟨Value.ref (s.heap.objs.size + 1) :: us,[]⟩ (Value.ref (s.heap.objs.size + 1) :: (us ++ ds)) _ _ E (hr.make C us [])
  (I2.GX.make C us []) (hb _ (Value.ref (s.heap.objs.size + 1) :: us) I2.eP hl) r2 hq) fun r s' lW=>?_))
 cases r with
 | error e=>exact hx pins σ _ _ e s' I2 lW
 | ok fl =>
  cases fl with
  | ret u =>
   obtain ⟨v,H',I3,rv,ev,q3⟩ := I2.after lW
   subst ev
   exact ⟨rv,⟨V.ref (s.heap.objs.size + 1),H',I3,rfl,q3⟩⟩
  | next=>exact False.elim lW
  | brk=>exact False.elim lW
  | cont=>exact False.elim lW
theorem Q5 (M : Mk X.K C f) (F : Af X.prog X.w X.K X.mg X.base CX k f fd ps sp) (hr : Cq (k + 1) X.A) (hg : Gl X x) (hm : X.mg x = some (.ref C)) (hb : Ap X.K fd ps ds) (hd : Aw gJ ds) (hx : Iw CX X E)
  (ha:PA X (e :: es) t) (nD:(x == ("__debug__" : Str)) = false:=by decide) (he:starEach (e :: es) X.env = (false,eval e X.env) :: starEach es X.env:=by rfl) (lK:(backTo pos (starEach es X.env)).any (·.1) = false:=by rfl) :
  PE X (.Call (.Name x p) (e :: es) [] pos) (ny C sp gJ E t):=by
 intro pins s σ H Q I h
 refine wpAny_Call_Name_kw (Kl I hg hm ?_ nD)
 refine PySem.W.callWith_K (h₀:=X.base) I.ok.mod.GP M.kp (C9 (ha pos pins s σ H _ I h) fun us s1 ⟨vs,H1,I1,r,q⟩=>⟨I1.eP,?_⟩) he lK
 exact Zk M F hr hb hd hx I1 r q
end
section
variable {X:Cx} {CX:Xl} {k:Nat} {f C:Addr} {fd:FuncData} {ps ks:List Str} {sp:Sp} {E:XK} {x m:Str} {p pos apos RQ:Pos} {e o:Expr} {es:List Expr} {kws:List Keyword} {te ta:TE} {t tk:TA} {nm:Option Str}
variable {g:List Value -> List Value -> List Value} {gV:List V -> List V -> List V}
end
structure Ar (N P:List Str) (sc:Scope):Prop where
 kind:sc.kind = .function
 co:sc.isCoroutine = false
 gen:sc.isGenerator = false
 nd:N.Nodup
 pre:N.take P.length = P
 par:∀ x ∈ P,sc.names.lookup x = some .local \/ sc.names.lookup x = some .cell
 xn:∀ y ∈ sc.names,y.2 ≠ .free
theorem O6 {kindOf:Str -> Option NameKind} {x:Str}:∀ {binds:List (Str × Value)} {m:Str -> Option Value},(∀ v,(x,v) ∉ binds) -> bindL kindOf binds m x = m x
 | [],_,_=>rfl
 | (n,v) :: r,m,h=>by
  unfold bindL
  rw [O6 fun w hw=>h w (List.mem_cons_of_mem _ hw)]
  split
  ·have:x ≠ n:=by rintro rfl; exact h v List.mem_cons_self
   simp [this]
  ·rfl
theorem O1 {kindOf:Str -> Option NameKind} {x:Str}:∀ {binds:List (Str × Value)} {m:Str -> Option Value},(∀ v,(x,v) ∉ binds) -> bindC kindOf binds m x = m x
 | [],_,_=>rfl
 | (n,v) :: r,m,h=>by
  unfold bindC
  rw [O1 fun w hw=>h w (List.mem_cons_of_mem _ hw)]
  split
  ·rfl
  ·have:x ≠ n:=by rintro rfl; exact h v List.mem_cons_self
   simp [this]
theorem Nz {kindOf : Str -> Option NameKind} {x : Str} {v : Value} : ∀ {P : List Str} {vs : List Value} {i : Nat} {m : Str -> Option Value}, P.Nodup -> P[i]? = some x -> vs[i]? = some v -> kindOf x = some .local ->
  bindL kindOf (P.zip vs) m x = some v
 | [],_,_,_,_,h,_,_=>by simp at h
 | _ :: _,[],_,_,_,_,h,_=>by simp at h
 | p :: P,w :: vs,0,m,nd,h1,h2,hk=>by
  simp at h1 h2; subst h1; subst h2
  show bindL kindOf ((p,w) :: P.zip vs) m p = _
  unfold bindL
  rw [O6 fun v hv=>(List.nodup_cons.mp nd).1 (List.of_mem_zip hv).1,if_pos hk]
  simp
 | p :: P,w :: vs,i + 1,m,nd,h1,h2,hk=>by
  show bindL kindOf ((p,w) :: P.zip vs) m x = _
  unfold bindL
  exact Nz (i:=i) (List.nodup_cons.mp nd).2 (by simpa using h1) (by simpa using h2) hk
theorem Nk {kindOf : Str -> Option NameKind} {x : Str} {v : Value} : ∀ {P : List Str} {vs : List Value} {i : Nat} {m : Str -> Option Value}, P.Nodup -> P[i]? = some x -> vs[i]? = some v -> kindOf x ≠ some .local ->
  bindC kindOf (P.zip vs) m x = some v
 | [],_,_,_,_,h,_,_=>by simp at h
 | _ :: _,[],_,_,_,_,h,_=>by simp at h
 | p :: P,w :: vs,0,m,nd,h1,h2,hk=>by
  simp at h1 h2; subst h1; subst h2
  show bindC kindOf ((p,w) :: P.zip vs) m p = _
  unfold bindC
  rw [O1 fun v hv=>(List.nodup_cons.mp nd).1 (List.of_mem_zip hv).1,if_neg hk]
  simp
 | p :: P,w :: vs,i + 1,m,nd,h1,h2,hk=>by
  show bindC kindOf ((p,w) :: P.zip vs) m x = _
  unfold bindC
  exact Nk (i:=i) (List.nodup_cons.mp nd).2 (by simpa using h1) (by simpa using h2) hk
def start (N:List Str) (vs:List V):St:=vs.map some ++ List.replicate (N.length - vs.length) none
def Sg (CX:Xl) (P:Program) (w:World) (K:PySem.W.Frag) (mg:Str -> Option Value) (base:Heap) (N:List Str) (qual:Str) (scope:Scope) (f:Addr) (cd:Value) (A:Around) (outer:List Env) (s:Shared) (H:Hp) (E:XK):Cx where
 prog:=P
 w:=w
 K:=K
 mg:=mg
 base:=base
 A:=A.deeper (envOfC qual scope s.heap.objs.size f cd)
 N:=N
 s₀:=s
 H₀:=H
 env:=envOfC qual scope s.heap.objs.size f cd
 outer:=outer
 stack:=envOfC qual scope s.heap.objs.size f cd :: outer
 ex:=[]
 calm:=true
 fn:=fun _=>true
 pn:=[]
 xe:=fun e s'=>wpAny (model P w) (A.deeper (envOfC qual scope s.heap.objs.size f cd)) (leaving (envOfC qual scope s.heap.objs.size f cd) e) (fun _ RS=>CX outer H s E e RS) (fun e' RS=>CX outer H s E e' RS) s'
theorem Qn {sc:Scope} {n:Nat} {x:Str} (h:sc.names.lookup x = some .cell):∃ c,(cellsFrom n sc.names []).lookup x = some c:=by
 have q:=PySem.W.cellsFrom_some sc.names n [] (.inl h)
 exact Option.isSome_iff_exists.mp q
theorem Wk {CX : Xl} {P : Program} {w : World} {K : PySem.W.Frag} {mg : Str -> Option Value} {base : Heap} {N ps : List Str} {qual : Str} {scope : Scope} {f : Addr} {cd : Value} {A : Around} {outer : List Env} {s s1 : Shared} {H : Hp} {E : XK} {us : List Value} {vs : List V}
  (S:Ar N ps scope) (hd:A.handled = none) (e0:Sn P w K mg base A outer s H) (hl:vs.length = ps.length) (r:Aw vs us)
  (x:InCallC s s.heap.objs.size (bindL (envOfC qual scope s.heap.objs.size f cd).kindOf (ps.zip us) fun _=>none) (cellsFrom (s.heap.objs.size + 1) scope.names []) (bindC (envOfC qual scope s.heap.objs.size f cd).kindOf (ps.zip us) fun _=>none) s1) :
  Ai (Sg CX P w K mg base N qual scope f cd A outer s H E) [] (start N vs) H s1:=by
 have lK:ps.length <= N.length:=by have:=congrArg List.length S.pre; rw [List.length_take] at this; omega
 obtain ⟨h1,tk,rfl,hk⟩ := x.done
 have GY:∀ b:Addr,b ∉ (Sg CX P w K mg base N qual scope f cd A outer s H E).ex:=fun b z=>absurd (show b ∈ ([]:List Addr) from z) (by simp)
 refine ⟨⟨e0.mod,S.kind,rfl,rfl,Nat.le_refl _,fun y z c h1 h2=>?_,fun y hy=>?_,fun y c _ h=>?_,fun _=>hd,Around.frames_deeper e0.frames,.inr ⟨rfl,rfl⟩,fun b z=>absurd z (GY b),e0.bs,e0.nF,fun b _ _=>GY b,fun b z=>absurd z (GY b),e0.dU,e0.sS⟩,
  rfl,e0.bare,Un.kept hk,⟨_,x.toInCall.ns,fun i y v h1 h2 h3=>?_⟩,fun y c h=>⟨_,x.cell y c h⟩,e0.aF.fresh (Nat.le_refl _),fun y c h=>?_,fun p hp=>absurd (show p ∈ ([]:List (Addr × Obj)) from hp) (by simp),e0.aF.kept hk,?_⟩
 ·exact name_of_addr x.apart (PySem.mem_of_lookup h1) (PySem.mem_of_lookup h2)
 ·have hy:scope.names.lookup y = some .cell \/ scope.names.lookup y = some .free:=hy
  rcases hy with hy | hy
  ·exact Qn hy
  ·exact absurd rfl (S.xn _ (PySem.mem_of_lookup hy))
 ·exact Nat.le_of_lt (x.above y c (PySem.mem_of_lookup h))
 ·have hi : i < vs.length := by
   unfold start at h2
   by_cases hi:i < vs.length
   ·exact hi
   ·rw [List.getElem?_append_right (by simpa using hi)] at h2
    rw [List.getElem?_replicate] at h2
    split at h2 <;> cases h2
  have ha:vs[i]? = some v:=by
   unfold start at h2
   rw [List.getElem?_append_left (by simpa using hi),List.getElem?_map] at h2
   cases e:vs[i]? with
   | none=>rw [e] at h2; cases h2
   | some a=>rw [e] at h2; cases h2; rfl
  obtain ⟨u,hu,rv⟩ := r.get ha
  have hp:ps[i]? = some y:=by
   rw [<- S.pre,List.getElem?_take_of_lt (by omega)]; exact h1
  have ndP:ps.Nodup:=by rw [<- S.pre]; exact S.nd.sublist (List.take_sublist _ _)
  refine ⟨u,rv,?_⟩
  rcases S.par y (List.mem_of_getElem? hp) with k | k
  ·exact .inl ⟨k,Nz ndP hp hu k⟩
  ·obtain ⟨c,e⟩ := Qn (n:=s.heap.objs.size + 1) k
   refine .inr ⟨.inl k,c,e,?_⟩
   have q:=x.cell y c e
   rw [Nk ndP hp hu (by show scope.names.lookup y ≠ _; rw [k]; decide)] at q
   exact q
 ·exact e0.aF.fresh (Nat.le_of_lt (x.above y c (PySem.mem_of_lookup h)))
 ·unfold start
  show _ = N.length
  rw [List.length_append,List.length_map,List.length_replicate]
  omega
theorem dk {CX : Xl} {P : Program} {w : World} {K : PySem.W.Frag} {mg : Str -> Option Value} {base : Heap} {k : Nat} {f : Addr} {name qual : Str} {params : Arguments} {body : List Stmt} {scope : Scope} {dV kV doc pm aS ct oc : Value} {an od : Option Addr}
  {gZ:Array (Option Value)} {N ps:List Str} {sp:Sp} (lk:K.lookup f = some ⟨oc,od,.func (PySem.W.fnOf name qual params body scope dV kV doc pm an aS ct),gZ⟩) (nG:PySem.W.codeIn K aS qual = true) (S:Ar N ps scope)
  (len:∀ vs H Q E,sp vs H Q E -> vs.length = ps.length)
  (jF:∀ (A:Around) (outer:List Env) (s:Shared) (H:Hp) (vs:List V) (Q:VK) (E:XK),Cq k (A.deeper (envOfC qual scope s.heap.objs.size f aS)) -> sp vs H Q E ->
   ∃ t,Sb (Sg CX P w K mg base N qual scope f aS A outer s H E) body t /\ t { nx:=fun _ H'=>Q .aR H',rt:=Q } (start N vs) H) :
  Af P w K mg base CX (k + 1) f (PySem.W.fnOf name qual params body scope dV kV doc pm an aS ct) ps sp:=by
 refine ⟨len,fun A outer s H args us vs Q E hr e0 hb r sD=>?_⟩
 have hl:=len _ _ _ _ sD
 have KX:K.In s.heap:=e0.mod.GP.keeps fun b o e=>(e0.bs b o e).1
 have lim:s.heap.NoLimit:=e0.mod.nolimit.keeps fun b o e=>(e0.bs b o e).1
 have GZ:∀ y ∈ ps.zip us,scope.names.lookup y.1 = some .local \/ (scope.names.lookup y.1 = some .cell /\ ((cellsFrom (s.heap.objs.size + 1) scope.names []).lookup y.1).isSome = true):=fun ⟨n,v⟩ hy=>by
  rcases S.par n (List.of_mem_zip hy).1 with q | q
  ·exact .inl q
  ·exact .inr ⟨q,PySem.W.cellsFrom_some _ _ _ (.inl q)⟩
 refine codeAny_call_function hr.depth (KX _ _ lk) rfl S.co S.gen rfl (PySem.W.codeRec_of KX nG) (hb _ _ _ _ ?_)
 refine wpAny_newFunctionEnv_cells S.kind GZ fun env he s1 x=>?_
 subst he
 refine ⟨lim.keeps x.toInCall.keep,codeAny_func ?_⟩
 obtain ⟨t,ht,hq⟩ := jF A outer s H vs Q E (hr.deeper _) sD
 have I:Ai (Sg CX P w K mg base N qual scope f aS A outer s H E) [] (start N vs) H s1:=Wk S hr.hd e0 hl r x
 refine wpAny_mono (ht [] s1 (start N vs) H _ I hq) (fun fl s' hs=>?_) fun e s' hs=>hs
 have fin:∀ {σ':St} {H':Hp} {v:V} {u:Value},Ai (Sg CX P w K mg base N qual scope f aS A outer s H E) [] σ' H' s' -> Av v u -> Q v H' -> CE outer P w H s Q u s' :=
  fun {σ' H' v u} J rv q=>⟨v,H',J.os,J.bare,J.base,J.aF,rv,q⟩
 cases fl with
 | ret u =>
  obtain ⟨v,σ',H',J,rv,q⟩ := hs
  exact fin J rv q
 | next =>
  obtain ⟨σ',H',J,q⟩ := hs
  exact fin (v:=V.aR) (u:=Value.none) J rfl q
 | brk =>
  obtain ⟨_,_,_,q⟩ := hs
  exact False.elim q
 | cont =>
  obtain ⟨_,_,_,q⟩ := hs
  exact False.elim q
section
variable {X:Cx} {x:Str} {p pos:Pos} {e:Expr} {es:List Expr} {t:TA} {id T:String} {r:List V -> Hp -> VK -> Prop}
def ui (r:List V -> Hp -> VK -> Prop) (t:TA):TE:=fun σ H Q=>t σ H fun vs H1=>r vs H1 Q
theorem Bf (hc : Dy X (.builtin id) r) (hg : Gl X x) (hm : X.mg x = none) (hv : bootBuiltins x = some (.builtin id)) (ha : PA X (e :: es) t) (hn : x ≠ "__name__" := by decide) (nD : (x == ("__debug__" : Str)) = false := by decide)
  (he:starEach (e :: es) X.env = (false,eval e X.env) :: starEach es X.env:=by rfl) (lK:(backTo pos (starEach es X.env)).any (·.1) = false:=by rfl):PE X (.Call (.Name x p) (e :: es) [] pos) (ui r t):=by
 intro pins s σ H Q I h
 refine wpAny_Call_Name_kw (J5 I hg hm hv ?_ hn nD)
 exact PyProof.Rows.callWith_builtin1 (C9 (ha pos pins s σ H _ I h) fun us s1 ⟨vs,H1,I1,r1,q1⟩=>hc pins s1 σ H1 vs us Q I1 r1 q1) he lK
theorem Ea (hc : Dy X (.type T) r) (hg : Gl X x) (hm : X.mg x = none) (hv : bootBuiltins x = some (.type T)) (ha : PA X (e :: es) t) (hn : x ≠ "__name__" := by decide) (nD : (x == ("__debug__" : Str)) = false := by decide)
  (he:starEach (e :: es) X.env = (false,eval e X.env) :: starEach es X.env:=by rfl) (lK:(backTo pos (starEach es X.env)).any (·.1) = false:=by rfl):PE X (.Call (.Name x p) (e :: es) [] pos) (ui r t):=by
 intro pins s σ H Q I h
 refine wpAny_Call_Name_kw (J5 I hg hm hv ?_ hn nD)
 exact PyProof.Rows.callWith_type1 (C9 (ha pos pins s σ H _ I h) fun us s1 ⟨vs,H1,I1,r1,q1⟩=>hc pins s1 σ H1 vs us Q I1 r1 q1) he lK
end
end L2
namespace HT
local macro_rules | `(tactic| omega) => `(tactic| lia)
open PySem PyProof.Rows
section
open PySem.SeqAt
open PySem.AutoSeq1 (wpAny_loadPart')
open PySem.MeetsSeq PySem.MeetsSeq2 PySem.MeetsSeq3
end
section
variable {prog:Program} {w:World} {A:Around} {E:Value -> Shared -> Prop} {s:Shared}
theorem sW {t b : Addr} {vs ws : List Value} {Q : Value -> Shared -> Prop} (ht : IsTup s.heap t vs.toArray) (hb : IsTup s.heap b ws.toArray) (hv : vs ≠ [])
  (h1:ws = [] -> Q (.ref t) s) (h2:ws ≠ [] -> Q (.ref s.heap.objs.size) { s with heap:=s.heap.push { cls := .type "tuple",data := .seq (vs ++ ws).toArray } })
  (hsz:vs.length + ws.length <= sizeLine):wpAny (model prog w) A (binaryOp .Add (.ref t) (.ref b)) Q E s:=by
 obtain ⟨⟨cls,dd,data,sl⟩,ho,hc,n,hd⟩ := id ht
 obtain ⟨⟨cls2,FN,data2,FO⟩,iL,gL,n2,hd2⟩ := id hb
 simp only at hc hd gL hd2
 subst hc hd gL hd2
 have e:vs.toArray ++ ws.toArray = (vs ++ ws).toArray:=by simp
 by_cases hw:ws = []
 ·exact concat_meets ⟨_, ho, rfl⟩ ⟨_, iL, rfl⟩ noFill_tuple_add seq_tuple_add PySem.F.slot_tuple_add PySem.F.entry_tuple_add (PySem.F.args_tuple_add_2 _ _)
   (tuple_addW1 t b vs.toArray ws.toArray n n2 dd FN sl FO (by simpa using hv) (by simp [hw])) ⟨ho,iL,h1 hw⟩
 ·refine concat_meets ⟨_, ho, rfl⟩ ⟨_, iL, rfl⟩ noFill_tuple_add seq_tuple_add PySem.F.slot_tuple_add PySem.F.entry_tuple_add (PySem.F.args_tuple_add_2 _ _)
   (tuple_addW2 t b vs.toArray ws.toArray n n2 dd FN sl FO (by simpa using hv) (by simpa using hw) (by rw [List.size_toArray,List.size_toArray]; exact hsz)) ⟨ho,iL,?_⟩
  rw [e]
  exact h2 hw
def jB (n d:Nat):Option Int -> Nat
 | none=>d
 | some v=>if v < 0 then (v + (n:Int)).toNat else min v.toNat n
end
end HT
namespace L2
local macro_rules | `(tactic| omega) => `(tactic| lia)
open PySem PySem.Spec PyProof.Rows
abbrev TO:=St -> Hp -> (Option Int -> Hp -> Prop) -> Prop
def PO (X:Cx) (e:Option Expr) (t:TO):Prop :=
 ∀ (pins:List (Addr × Obj)) (s:Shared) (σ:St) (H:Hp) (Q:Option Int -> Hp -> Prop),Ai X pins σ H s -> t σ H Q ->
  wpAny (model X.prog X.w) X.A (evalPart e X.env) (fun u s'=>∃ o H',Ai X pins σ H' s' /\ IsPart u o /\ Q o H') X.xe s
def cf:TO:=fun _ H Q=>Q none H
def mh (t:TE):TO:=fun σ H Q=>t σ H fun x H1=>∃ i,x = .int i /\ Q (some i) H1
theorem Lp {ns:List Int}:∀ {us:List Value},Aw (ns.map V.int) us -> IntsAre us ns:=by
 induction ns with
 | nil=>intro us r; rw [List.map_nil] at r; cases r; exact .nil
 | cons n ns ih =>
  intro us r
  rw [List.map_cons] at r
  cases r with
  | cons r1 r2 =>
   obtain ⟨t,e⟩ := r1
   subst e
   exact .cons n t (ih r2)
section
variable {X:Cx} {e:Expr} {te:TE} {lo hi:Option Expr} {tl th:TO} {pos p2:Pos}
theorem ck:PO X none cf:=by
 intro pins s σ H Q I h
 rw [evalPart_none]
 exact wpAny_pure ⟨none,H,I,.none,h⟩
theorem Po (h:PE X e te):PO X (some e) (mh te):=by
 intro pins s σ H Q I hw
 rw [evalPart_some]
 refine C9 (h pins s σ H _ I hw) fun u s1 aV=>?_
 obtain ⟨x,H1,I1,r1,q1⟩ := aV
 obtain ⟨i,rfl,q⟩ := q1
 obtain ⟨t,rfl⟩ := r1
 exact ⟨some i,H1,I1,.int i t,q⟩
def qx (X:Cx) (r:V -> Option Int -> Option Int -> Hp -> VK -> Prop):Prop :=
 ∀ (pins:List (Addr × Obj)) (s:Shared) (σ:St) (H:Hp) (x:V) (v vl vu:Value) (lo hi:Option Int) (sl:Addr) (Q:VK),Ai X pins σ H s -> Av x v -> s.heap.IsSliceOf sl vl vu .none -> IsPart vl lo -> IsPart vu hi -> r x lo hi H Q ->
  ∃ T id,typeLookup (.type T) "__getitem__" = pure (some (.builtin id)) /\ s.TypeIs v T /\ wpAny (model X.prog X.w) X.A (getItem v (.ref sl)) (EP X pins σ Q) X.xe s
def vq (r:V -> Option Int -> Option Int -> Hp -> VK -> Prop) (te:TE) (tl th:TO):TE:=fun σ H Q=>te σ H fun x H1=>tl σ H1 fun l H2=>th σ H2 fun u H3=>r x l u H3 Q
theorem Rq {r:V -> Option Int -> Option Int -> Hp -> VK -> Prop} (hr:qx X r) (he:PE X e te) (hl:PO X lo tl) (hu:PO X hi th):PE X (.Subscript e (.Slice lo hi none p2) pos) (vq r te tl th):=by
 intro pins s σ H Q I h
 refine Subscript_ (C9 (he pins s σ H _ I h) fun v s1 aV=>?_)
 obtain ⟨x,H1,I1,r1,q1⟩ := aV
 refine wpAny_Slice (C9 (hl pins s1 σ H1 _ I1 q1) fun vl s2 ⟨l,H2,I2,pl,q2⟩=>C9 (hu pins s2 σ H2 _ I2 q2) fun vu s3 aV=>?_)
 obtain ⟨u,H3,I3,pu,q3⟩ := aV
 rw [evalPart_none]
 refine wpAny_pure ?_
 have I4:Ai X pins σ H3 { s3 with heap:=s3.heap.push { cls := .type "slice",data := .fields #[vl,vu,.none] } }:=I3.kept (t':=s3.toks) fun b ob q=>Heap.get?_push_of_some _ q
 obtain ⟨T,id,hT,ht,hg⟩ := hr pins { s3 with heap:=s3.heap.push { cls := .type "slice",data := .fields #[vl,vu,.none] } } σ H3 x v vl vu l u s3.heap.objs.size Q I4 r1 (Heap.IsSliceOf.new ..) pl pu q3
 show wpAny (model X.prog X.w) X.A (subscriptTail e (.Slice lo hi none p2) v (.ref s3.heap.objs.size)) (EP X pins σ Q) X.xe { s3 with heap:=s3.heap.push { cls := .type "slice",data := .fields #[vl,vu,.none] } }
 exact tail_any (ops:=[.ref s3.heap.objs.size,v]) ht hT hg (by with_unfolding_all rfl)
def W8 (xs:List V) (lo hi:Option Int):List V:=(xs.drop (HT.jB xs.length 0 lo)).take (HT.jB xs.length xs.length hi - HT.jB xs.length 0 lo)
theorem S6 (xs:List V) (lo hi:Option Int):(W8 xs lo hi).length <= xs.length:=by
 unfold W8
 rw [List.length_take,List.length_drop]
 omega
def nq (K:PySem.W.Frag):R2:=fun x y H Q=>∃ a b xs ys,x = .ref a /\ y = .ref b /\ Bw K H a xs /\ Bw K H b ys /\ xs ≠ [] /\ xs.length + ys.length <= sizeLine /\
 (ys = [] -> Q (.ref a) H) /\ (ys ≠ [] -> ∀ p,H p = none -> Q (.ref p) (upd H p (.tup (xs ++ ys))))
theorem Aw.iM {xs:List V} {us:List Value} (r:Aw xs us):us = [] ↔ xs = []:=by
 cases r with
 | nil=>simp
 | cons _ _=>simp
theorem ae:K6 X (binaryOp .Add) (nq X.K):=by
 intro pins s σ H x y v u Q I rx ry h
 obtain ⟨a,b,xs,ys,rfl,rfl,ha,hb,hx,hz,q1,q2⟩ := h
 cases rx
 cases ry
 obtain ⟨aD,r1,p1,_⟩ := I.tuple ha
 obtain ⟨iO,r2,p2,_⟩ := I.tuple hb
 refine HT.sW p1 p2 (fun z=>hx (r1.iM.mp z)) (fun z=>⟨.ref a,H,I,rfl,q1 (r2.iM.mp z)⟩) (fun z=>?_) (by rw [<- r1.length,<- r2.length]; exact hz)
 refine ⟨.ref s.heap.objs.size,_,I.laid (t':=s.toks) (o := .tup (xs ++ ys)) (fun b ob q=>Heap.get?_push_of_some _ q) (Nat.le_refl _) ?_,rfl,q2 (fun w=>z (r2.iM.mpr w)) _ (I.aF.fresh (Nat.le_refl _))⟩
 exact ⟨⟨by rw [List.length_append]; exact hz,⟨_,Heap.get?_push_size _ rfl,rfl⟩⟩,_,r1.append r2,IsTup.new _ _⟩
end
def Yu (n:Nat) (i:Int):Option Nat:=if 0 <= i then (if i < n then some i.toNat else none) else if -(n:Int) <= i then some (i + n).toNat else none
def Ux {α:Type} (xs:List α) (i:Int):Option α:=(Yu xs.length i).bind fun j=>xs[j]?
theorem V3 {n:Nat} {i:Int} {j:Nat} (h:Yu n i = some j):seqIndex? i n = some j /\ j < n /\ -(n:Int) <= i /\ i < n:=by
 unfold Yu at h
 by_cases h0:0 <= i
 ·rw [if_pos h0] at h
  by_cases h1:i < n
  ·rw [if_pos h1] at h
   have e:i.toNat = j:=Option.some.inj h
   exact ⟨by rw [seqIndex_of h0 h1,e],by omega,by omega,h1⟩
  ·rw [if_neg h1] at h; cases h
 ·rw [if_neg h0] at h
  by_cases h1 : -(n:Int) <= i
  ·rw [if_pos h1] at h
   have e:(i + n).toNat = j:=Option.some.inj h
   exact ⟨by rw [seqIndex_neg (by omega) h1,e],by omega,h1,by omega⟩
  ·rw [if_neg h1] at h; cases h
theorem V1 {α:Type} {xs:List α} {i:Int} {v:α} (h:Ux xs i = some v):∃ j,seqIndex? i xs.length = some j /\ xs[j]? = some v /\ j < xs.length /\ -(xs.length:Int) <= i /\ i < xs.length:=by
 unfold Ux at h
 cases e:Yu xs.length i with
 | none=>rw [e] at h; cases h
 | some j =>
  rw [e] at h
  obtain ⟨h1,h2,h3,h4⟩ := V3 e
  exact ⟨j,h1,h,h2,h3,h4⟩
theorem Ij {α:Type} {xs:List α} {j:Nat} {v:α} (h:xs[j]? = some v):Ux xs (j:Int) = some v:=by
 have hj:j < xs.length:=(List.getElem?_eq_some_iff.mp h).1
 have e:Yu xs.length (j:Int) = some j:=by
  unfold Yu
  rw [if_pos (by omega),if_pos (by omega)]; simp
 unfold Ux; rw [e]; exact h
def b7 (b:Expr):Prop := ∀ o i,subscripted b false o i = operate [o,i] (getItem o i)
def pd (X:Cx) (r:R2):Prop :=
 ∀ (value slice:Expr) (pins:List (Addr × Obj)) (s:Shared) (σ:St) (H:Hp) (x y:V) (v u:Value) (Q:VK),Ai X pins σ H s -> Av x v -> Av y u -> r x y H Q ->
  subscripted slice false v u = operate [v,u] (getItem v u) -> wpAny (model X.prog X.w) X.A (subscriptTail value slice v u) (EP X pins σ Q) X.xe s
def se (X:Cx) (id:String) (r:V -> List V -> Hp -> VK -> Prop):Prop :=
 ∀ (pins:List (Addr × Obj)) (s:Shared) (σ:St) (H:Hp) (x:V) (xs:List V) (v:Value) (us:List Value) (Q:VK),Ai X pins σ H s -> Av x v -> Aw xs us -> r x xs H Q ->
  wpAny (model X.prog X.w) X.A (call (.builtin id) (v :: us)) (EP X pins σ Q) X.xe s
section
variable {X:Cx} {a b:Expr} {ta tb:TE} {pos:Pos}
theorem Ba {r:R2} (hr:pd X r) (ha:PE X a ta) (hb:PE X b tb) (hs:b7 b):PE X (.Subscript a b pos) (ou r ta tb):=by
 intro pins s σ H Q I h
 exact Subscript_ (jg ha hb I h fun v u s2 x y H2 I2 rx ry q=>hr a b pins s2 σ H2 x y v u Q I2 rx ry q (hs _ _))
def qh (K:PySem.W.Frag):R2:=fun x y H Q=>∃ p xs i v,x = .ref p /\ y = .int i /\ Bg K H p xs /\ Ux xs i = some v /\ Q v H
def qm (K:PySem.W.Frag):R2:=fun x y H Q=>∃ p xs i v,x = .ref p /\ y = .int i /\ Bw K H p xs /\ Ux xs i = some v /\ Q v H
theorem bh:pd X (qh X.K):=by
 intro value slice pins s σ H x y v u Q I rx ry h hs
 obtain ⟨p,xs,i,z,rfl,rfl,hq,he,q⟩ := h
 cases rx
 obtain ⟨t,rfl⟩ := ry
 obtain ⟨aD,r,pl,hz⟩ := I.list hq
 obtain ⟨j,h1,h2,h3,h4,h5⟩ := V1 he
 obtain ⟨w,ew,fJ⟩ := r.get h2
 have hl:=r.length
 have hn:=G8
 have fin:EP X pins σ Q w s:=⟨z,H,I,fJ,q⟩
 by_cases h0:0 <= i
 ·have hj : i.toNat = j := by
   rw [seqIndex_of h0 h5] at h1
   exact Option.some.inj h1
  exact item_listR pl.isList h0 (by omega) (by rw [hj]; simpa using ew) fin hs
 ·have hj : (i + (aD.toArray.size : Int)).toNat = j := by
   rw [seqIndex_neg (by omega) h4] at h1
   rw [List.size_toArray,<- hl]
   exact Option.some.inj h1
  exact subscriptTail_builtinR (x:=w) pl.isList.typeIs slot_list_getitem.lookup
   (wpAny_getItem_list_neg (Q:=fun r s'=>r = w /\ EP X pins σ Q r s') pl.isList (by omega) (by rw [List.size_toArray] <;> omega) (by omega) (by rw [hj]; simpa using ew) ⟨rfl,fin⟩) hs
theorem ez:pd X (qm X.K):=by
 intro value slice pins s σ H x y v u Q I rx ry h hs
 obtain ⟨p,xs,i,z,rfl,rfl,hq,he,q⟩ := h
 cases rx
 obtain ⟨t,rfl⟩ := ry
 obtain ⟨aD,r,pl,hz⟩ := I.tuple hq
 obtain ⟨j,h1,h2,h3,h4,h5⟩ := V1 he
 obtain ⟨w,ew,fJ⟩ := r.get h2
 have hl:=r.length
 have hn:=G8
 have fin:EP X pins σ Q w s:=⟨z,H,I,fJ,q⟩
 exact subscriptTail_builtinR (x:=w) pl.typeIs slot_tuple_getitem.lookup
  (getItem_tuple (j:=j) (Q:=fun r s'=>r = w /\ EP X pins σ Q r s') pl (by omega) (by omega) (by rw [List.size_toArray,<- hl]; exact h1) (by simpa using ew) ⟨rfl,fin⟩) hs
theorem Tj (aD:List Value) (n j:Nat) (u:Value):Obj.mapSeq (·.setIfInBounds j u) { cls := .type "list",data := .seq aD.toArray n } = { cls := .type "list",data := .seq (aD.set j u).toArray n }:=by
 simp [Obj.mapSeq]
theorem Ai.lst {pins : List (Addr × Obj)} {σ : St} {H : Hp} {s : Shared} {p : Addr} {xs : List V} (I : Ai X pins σ H s) (h : H p = some (.lst xs)) :
  ∃ (aD:List Value) (n:Nat),Aw xs aD /\ s.heap.get? p = some { cls := .type "list",data := .seq aD.toArray n } /\ xs.length <= sizeLine:=by
 obtain ⟨z,aD,n,r,e⟩ := I.aF p _ h
 exact ⟨aD,n,r,e,z⟩
theorem Ai.xo {pins : List (Addr × Obj)} {σ : St} {H : Hp} {s : Shared} {p : Addr} {xs ys : List V} {aD its' : List Value} {n n' : Nat} {f : Obj -> Obj} (I : Ai X pins σ H s) (h : H p = some (.lst xs))
  (ho:s.heap.get? p = some { cls := .type "list",data := .seq aD.toArray n }) (hf:f { cls := .type "list",data := .seq aD.toArray n } = { cls := .type "list",data := .seq its'.toArray n' }) (r:Aw ys its') (hz:ys.length <= sizeLine) (t:Nat) :
  Ai X pins σ (upd H p (.lst ys)) { s with heap:=s.heap.update p f,toks:=t }:=by
 have e:(s.heap.update p f).get? p = some { cls := .type "list",data := .seq its'.toArray n' }:=by
  rw [Heap.get?_update_self f ho (by rw [hf] <;> rfl),hf]
 refine I.write (x:=p) (e:=p) (by rw [h]; trivial) (.inl rfl) (fun b u hb q=>(Heap.get?_update_other _ _ (Ne.symm hb)).trans q) ⟨_,e⟩ ?_
 exact ⟨hz,its',n',r,e⟩
def n8:V -> V -> V -> Hp -> (Hp -> Prop) -> Prop:=fun o i v H Q=>∃ p xs k j,o = .ref p /\ i = .int k /\ H p = some (.lst xs) /\ Yu xs.length k = some j /\ Q (upd H p (.lst (xs.set j v)))
theorem Qo:o7 X n8:=by
 intro pins s σ H o i v ov iv u Q I ro ri rv h
 obtain ⟨p,xs,k,j,rfl,rfl,hp,hj,q⟩ := h
 cases ro
 obtain ⟨t,rfl⟩ := ri
 obtain ⟨aD,n,r,ho,hz⟩ := I.lst hp
 obtain ⟨h1,h2,h3,h4⟩ := V3 hj
 have hl:=r.length
 have hn:=G8
 have I':Ai X pins σ (upd H p (.lst (xs.set j v))) { s with heap:=s.heap.update p (Obj.mapSeq (·.setIfInBounds j u)) } :=
  I.xo hp ho (Tj aD n j u) (r.set rv j) (by rw [List.length_set]; exact hz) s.toks
 by_cases h0:0 <= k
 ·have hk : k.toNat = j := by
   rw [seqIndex_of h0 h4] at h1
   exact Option.some.inj h1
  exact PySem.W.ki_setAt ho h0 (by omega) (by rw [List.size_toArray,<- hl]; exact h4) (by rw [hk]; exact ⟨_,I',q⟩)
 ·have hk : (k + (aD.toArray.size : Int)).toNat = j := by
   rw [seqIndex_neg (by omega) h3] at h1
   rw [List.size_toArray,<- hl]
   exact Option.some.inj h1
  exact PySem.W.ki_setBack ho (by omega) (by rw [List.size_toArray,<- hl]; exact h3) (by omega) (by rw [hk]; exact ⟨_,I',q⟩)
theorem Oz (lo hi:Option Int) (n:Nat):(sliceBounds lo hi none n).1 = ((HT.jB n 0 lo:Nat):Int) /\ (sliceBounds lo hi none n).2.1 = ((HT.jB n n hi:Nat):Int) /\ (sliceBounds lo hi none n).2.2 = 1:=by
 refine ⟨?_,?_,rfl⟩
 ·cases lo with
  | none=>simp [sliceBounds,HT.jB]
  | some i =>
   simp only [sliceBounds,HT.jB,Option.getD_none,show (1:Int) > 0 by decide,if_true]
   by_cases h:i < 0
   ·simp only [h,if_true] <;> omega
   ·simp only [h,if_false] <;> omega
 ·cases hi with
  | none=>simp [sliceBounds,HT.jB]
  | some i =>
   simp only [sliceBounds,HT.jB,Option.getD_none,show (1:Int) > 0 by decide,if_true]
   by_cases h:i < 0
   ·simp only [h,if_true] <;> omega
   ·simp only [h,if_false] <;> omega
theorem Mw (aD:List Value) (lo hi:Option Int):slicePick aD.toArray lo hi none = ((aD.drop (HT.jB aD.length 0 lo)).take (HT.jB aD.length aD.length hi - HT.jB aD.length 0 lo)).toArray:=by
 obtain ⟨h1,h2,h3⟩ := Oz lo hi aD.toArray.size
 unfold slicePick
 rw [h1,h2,h3]
 simp only [sliceRange_one,pick_run,List.size_toArray] <;> rfl
def nv (K:PySem.W.Frag):V -> Option Int -> Option Int -> Hp -> VK -> Prop:=fun x lo hi H Q=>∃ a xs,x = .ref a /\ Bg K H a xs /\ ∀ p,H p = none -> Q (.ref p) (upd H p (.lst (W8 xs lo hi)))
theorem cx:qx X (nv X.K):=by
 intro pins s σ H x v vl vu lo hi sl Q I rx hs pl pu h
 obtain ⟨a,xs,rfl,hx,q⟩ := h
 cases rx
 obtain ⟨aD,r,ht,hz⟩ := I.list hx
 have hlen:=r.length
 refine ⟨"list",_,slot_list_getitem.lookup,ht.isList.typeIs,?_⟩
 refine wpAny_getItem_list_slice ht.isList hs pl pu .none (by simp) ?_ (by rw [List.size_toArray] <;> omega)
 rw [Mw,<- hlen]
 refine ⟨.ref s.heap.objs.size,_,I.laid (t':=s.toks) (o := .lst (W8 xs lo hi)) (fun b ob q=>Heap.get?_push_of_some _ q) (Nat.le_refl _) ?_,rfl,q _ (I.aF.fresh (Nat.le_refl _))⟩
 exact ⟨Nat.le_trans (S6 xs lo hi) hz,_,0,(r.drop (HT.jB xs.length 0 lo)).take (HT.jB xs.length xs.length hi - HT.jB xs.length 0 lo),Heap.get?_push_size _ rfl⟩
def Ej:V -> Bool
 | .aR=>true
 | .bl _=>true
 | .int _=>true
 | .str _=>true
 | _=>false
def ak:V -> V -> Bool
 | .aR,.aR=>true
 | .bl a,.bl b=>a == b
 | .bl a,.int b=>(if a then 1 else 0) == b
 | .int a,.bl b=>a == (if b then 1 else 0)
 | .int a,.int b=>a == b
 | .str a,.str b=>a == b
 | _,_=>false
theorem gu {A:Around} {s:Shared} {y x:V} {u v:Value} (ry:Av y u) (rx:Av x v) (fy:Ej y = true) (fx:Ej x = true):SeqAt.EqAt A s u v (ak y x):=by
 cases y with
 | aR =>
  cases ry
  cases x with
  | aR=>cases rx; exact SeqAt.EqAt.same _
  | bl b=>cases rx; exact SeqAt.EqAt.none_bool b
  | int b=>obtain ⟨t,rfl⟩ := rx; exact SeqAt.EqAt.none_int b t
  | str b=>obtain ⟨t,rfl⟩ := rx; exact SeqAt.EqAt.none_str b t
  | _=>exact absurd (show false = true from fx) Bool.false_ne_true
 | bl a =>
  cases ry
  cases x with
  | aR=>cases rx; exact SeqAt.EqAt.bool_none a
  | bl b=>cases rx; exact SeqAt.EqAt.bool_bool a b
  | int b=>obtain ⟨t,rfl⟩ := rx; exact SeqAt.EqAt.bool_int a b t
  | str b=>obtain ⟨t,rfl⟩ := rx; exact SeqAt.EqAt.bool_str a b t
  | _=>exact absurd (show false = true from fx) Bool.false_ne_true
 | int a =>
  obtain ⟨t',rfl⟩ := ry
  cases x with
  | aR=>cases rx; exact SeqAt.EqAt.int_none a t'
  | bl b=>cases rx; exact SeqAt.EqAt.int_bool a t' b
  | int b=>obtain ⟨t,rfl⟩ := rx; exact SeqAt.EqAt.int_int a t' b t
  | str b=>obtain ⟨t,rfl⟩ := rx; exact SeqAt.EqAt.int_str a t' b t
  | _=>exact absurd (show false = true from fx) Bool.false_ne_true
 | str a =>
  obtain ⟨t',rfl⟩ := ry
  cases x with
  | aR=>cases rx; exact SeqAt.EqAt.str_none a t'
  | bl b=>cases rx; exact SeqAt.EqAt.str_bool a t' b
  | int b=>obtain ⟨t,rfl⟩ := rx; exact SeqAt.EqAt.str_int a t' b t
  | str b=>obtain ⟨t,rfl⟩ := rx; exact SeqAt.EqAt.str_str a t' b t
  | _=>exact absurd (show false = true from fx) Bool.false_ne_true
 | _=>exact absurd (show false = true from fy) Bool.false_ne_true
def Zl (x:V) (u:Value):Bool:=match u with
 | .none=>ak .aR x
 | .bool b=>ak (.bl b) x
 | .int i _=>ak (.int i) x
 | .str z _=>ak (.str z) x
 | _=>false
theorem Ua {x y:V} {u:Value} (r:Av y u) (f:Ej y = true):Zl x u = ak y x:=by
 cases y with
 | aR=>cases r; rfl
 | bl b=>cases r; rfl
 | int i=>obtain ⟨t,rfl⟩ := r; rfl
 | str z=>obtain ⟨t,rfl⟩ := r; rfl
 | _=>exact absurd (show false = true from f) Bool.false_ne_true
theorem Uu {x:V} {xs:List V} {us:List Value} (h:Aw xs us) (f:xs.all Ej = true):us.any (Zl x) = xs.any fun y=>ak y x:=by
 induction h with
 | nil=>rfl
 | cons r t ih =>
  rw [List.all_cons,Bool.and_eq_true] at f
  rw [List.any_cons,List.any_cons,Ua r f.1,ih f.2]
theorem Lv {A:Around} {s:Shared} {x:V} {v:Value} (rx:Av x v) (fx:Ej x = true) {xs:List V} {us:List Value} (h:Aw xs us) (f:xs.all Ej = true):∀ u ∈ us,SeqAt.EqAt A s u v (Zl x u):=by
 induction h with
 | nil =>
  intro u hu
  cases hu
 | cons r t ih =>
  intro u' hu
  rw [List.all_cons,Bool.and_eq_true] at f
  rcases List.mem_cons.mp hu with rfl | hu
  ·rw [Ua r f.1]
   exact gu r rx f.1 fx
  ·exact ih f.2 u' hu
def oz (x:V) (xs:List V):Bool:=xs.any fun y=>ak y x
def ul (K:PySem.W.Frag) (neg:Bool):R2:=fun x y H Q=>∃ p xs,y = .ref p /\ (Bg K H p xs \/ Bw K H p xs) /\ Ej x = true /\ xs.all Ej = true /\ Q (.bl (if neg then !oz x xs else oz x xs)) H
theorem Xc:K6 X (compareOp .In) (ul X.K false):=by
 intro pins s σ H x y v u Q I rx ry h
 obtain ⟨p,xs,rfl,hq,fx,fs,q⟩ := h
 cases ry
 rcases hq with hq | hq
 ·obtain ⟨aD,r,pl,hz⟩ := I.list hq
  refine SeqAt.in_listAt (Zl x) pl.isList (fun w hw=>Lv rx fx r fs w (by simpa using hw)) ⟨.bl _,H,I,rfl,?_⟩
  rw [show aD.toArray.any (Zl x) = aD.any (Zl x) by simp,Uu r fs]
  exact q
 ·obtain ⟨aD,r,pl,hz⟩ := I.tuple hq
  refine SeqAt.in_tupleAt (Zl x) pl (fun w hw=>Lv rx fx r fs w (by simpa using hw)) ⟨.bl _,H,I,rfl,?_⟩
  rw [show aD.toArray.any (Zl x) = aD.any (Zl x) by simp,Uu r fs]
  exact q
theorem Pt:Dy X (.builtin "len") (fun xs H Q=>∃ p ys,xs = [.ref p] /\ (Bg X.K H p ys \/ Bw X.K H p ys) /\ Q (.int ys.length) H):=by
 intro pins s σ H xs us Q I r h
 obtain ⟨p,ys,rfl,hq,q⟩ := h
 obtain ⟨u,rfl,rx⟩ := Jy r
 cases rx
 have hn:=G8
 rcases hq with hq | hq
 ·obtain ⟨aD,r',pl,hz⟩ := I.list hq
  have hlen:=r'.length
  exact Calls.call_len_list pl.isList (by simp only [List.size_toArray] <;> omega) ⟨.int ys.length,H,I.tok _,⟨s.toks + 1,by rw [List.size_toArray,hlen]⟩,q⟩
 ·obtain ⟨aD,r',pl,hz⟩ := I.tuple hq
  have hlen:=r'.length
  exact len_tuple pl (by simp only [List.size_toArray] <;> omega) ⟨.int ys.length,H,I.tok _,⟨s.toks + 1,by rw [List.size_toArray,hlen]⟩,q⟩
theorem P0:Dy X (.type "list") (fun xs H Q=>∃ p ys,xs = [.ref p] /\ (Bg X.K H p ys \/ Bw X.K H p ys) /\ ∀ l,H l = none -> Q (.ref l) (upd H l (.lst ys))):=by
 intro pins s σ H xs us Q I r h
 obtain ⟨p,ys,rfl,hq,q⟩ := h
 obtain ⟨u,rfl,rx⟩ := Jy r
 cases rx
 have fin : ∀ (aD : List Value), Aw ys aD -> ys.length <= sizeLine -> ∀ (h' : Heap) (c' : Nat), (∀ b o', s.heap.get? b = some o' -> h'.get? b = some o') ->
   h'.get? s.heap.objs.size = some { cls := .type "list",dict:=none,data := .seq aD.toArray c',slots := #[] } -> EP X pins σ Q (.ref s.heap.objs.size) { s with heap:=h' }:=fun aD r' hz h' c' kp e =>
  ⟨.ref s.heap.objs.size,_,I.laid (t':=s.toks) kp (Nat.le_refl _) (show Bo X.prog X.w _ h' _ (.lst ys) from ⟨hz,aD,c',r',e⟩),rfl,q _ (I.aF.fresh (Nat.le_refl _))⟩
 rcases hq with hq | hq
 ·obtain ⟨aD,r',pl,hz⟩ := I.list hq
  have hlen:=r'.length
  obtain ⟨o,ho,hc,n,hd⟩ := pl.isList
  exact call_list_seq p (.inl rfl) ho hc hd (fun h' c' kp e=>fin aD r' hz h' c' kp e) (by simp only [List.size_toArray] <;> omega)
 ·obtain ⟨aD,r',pl,hz⟩ := I.tuple hq
  have hlen:=r'.length
  obtain ⟨o,ho,hc,n,hd⟩ := pl
  exact call_list_seq p (.inr rfl) ho hc hd (fun h' c' kp e=>fin aD r' hz h' c' kp e) (by simp only [List.size_toArray] <;> omega)
theorem Mq:Dy X (.type "tuple") (fun xs H Q=>∃ p ys,xs = [.ref p] /\ ((Bg X.K H p ys /\ ∀ l,H l = none -> Q (.ref l) (upd H l (.tup ys))) \/ (Bw X.K H p ys /\ Q (.ref p) H))):=by
 intro pins s σ H xs us Q I r h
 obtain ⟨p,ys,rfl,h⟩ := h
 obtain ⟨u,rfl,rx⟩ := Jy r
 cases rx
 rcases h with ⟨hq,q⟩ | ⟨hq,q⟩
 ·obtain ⟨aD,r',pl,hz⟩ := I.list hq
  have hlen:=r'.length
  refine call_tuple_list pl.isList (fun h' kp=>?_) (by simp only [List.size_toArray] <;> omega)
  have I1:Ai X pins σ H { s with heap:=h' }:=I.kept (t':=s.toks) kp
  have I2:Ai X pins σ (upd H h'.objs.size (.tup ys)) { s with heap:=h'.push { cls := .type "tuple",data := .seq aD.toArray } } :=
   I1.laid (t':=s.toks) (fun b o e=>Heap.get?_push_of_some _ e) (Nat.le_refl _) (show Bo X.prog X.w _ _ _ (.tup ys) from ⟨⟨hz,⟨_,Heap.get?_push_size _ rfl,rfl⟩⟩,aD,r',IsTup.new _ _⟩)
  exact ⟨.ref h'.objs.size,_,I2,rfl,q _ (I1.aF.fresh (Nat.le_refl _))⟩
 ·obtain ⟨aD,r',pl,hz⟩ := I.tuple hq
  exact call_tuple_same pl ⟨.ref p,H,I,rfl,q⟩
def rh (K:PySem.W.Frag) (T:String) (x:V) (H:Hp):Prop:=match x with
 | .str _=>T = "str"
 | .int _=>T = "int"
 | .ref p => (T = "list" /\ ∃ xs, Bg K H p xs) \/ (T = "tuple" /\ ((∃ o, K.lookup p = some o /\ o.cls = .type "tuple" /\ o.dict = none) \/ ∃ xs, H p = some (.tup xs))) \/
   (T = "dict" /\ ((∃ kvs,H p = some (.dK kvs)) \/ ∃ kvs,H p = some (.dT kvs))) \/ (T = "set" /\ ∃ S n,H p = some (.set S n))
 | _=>False
theorem Ye {pins : List (Addr × Obj)} {σ : St} {H : Hp} {s : Shared} {T : String} {x : V} {v : Value} (I : Ai X pins σ H s) (r : Av x v) (ty : rh X.K T x H) :
  s.TypeIs v T /\ ∀ a,v = .ref a -> ∃ ob,s.heap.get? a = some ob /\ ob.dict = none:=by
 cases x with
 | str z =>
  obtain ⟨t,rfl⟩ := r
  cases (show T = "str" from ty)
  exact ⟨typeIs_str s z t,fun _ e=>nomatch e⟩
 | int i =>
  obtain ⟨t,rfl⟩ := r
  cases (show T = "int" from ty)
  exact ⟨typeIs_int s i t,fun _ e=>nomatch e⟩
 | ref p =>
  cases r
  rcases ty with ⟨rfl,xs,hq⟩ | ⟨rfl,⟨o,hk,hc,hd⟩ | ⟨ys,hk⟩⟩ | ⟨rfl,hk⟩ | ⟨rfl,S,n,hk⟩
  ·obtain ⟨aD,_,pl,_⟩ := I.list hq
   refine ⟨pl.isList.typeIs,fun a e=>?_⟩
   cases e
   obtain ⟨o,n,e,c,hd,_⟩ := pl
   exact ⟨o,e,hd⟩
  ·refine ⟨⟨o,I.eP p o hk,hc⟩,fun a e=>?_⟩
   cases e
   exact ⟨o,I.eP _ o hk,hd⟩
  ·obtain ⟨⟨_,o2,e2,d2⟩,_,_,⟨o1,e1,c1,_⟩⟩ := (show Bo X.prog X.w H s.heap p (.tup ys) from I.aF p _ hk)
   refine ⟨⟨o1,e1,c1⟩,fun a ea=>?_⟩
   cases ea
   exact ⟨o2,e2,d2⟩
  ·have z : ∃ o, s.heap.get? p = some o /\ o.ExactDict := by
    rcases hk with ⟨kvs,hk⟩ | ⟨kvs,hk⟩
    ·obtain ⟨_,_,_,_,o,_,_,e,ex,_⟩ := I.aF p _ hk
     exact ⟨o,e,ex⟩
    ·obtain ⟨_,_,_,_,o,_,_,e,ex,_⟩ := I.aF p _ hk
     exact ⟨o,e,ex⟩
   obtain ⟨o,e,ex⟩ := z
   refine ⟨⟨o,e,ex.1⟩,fun a e2=>?_⟩
   cases e2
   exact ⟨o,e,ex.2.1⟩
  ·obtain ⟨o,_,_,_,e,ex,_⟩ := I.aF p _ hk
   refine ⟨⟨o,e,ex.1⟩,fun a e2=>?_⟩
   cases e2
   exact ⟨o,e,ex.2.1⟩
 | _=>exact False.elim ty
def lr (K:PySem.W.Frag) (T:String) (r:V -> List V -> Hp -> VK -> Prop) (to:TE):TE:=fun σ H Q=>to σ H fun x H1=>rh K T x H1 /\ r x [] H1 Q
def X0 (K:PySem.W.Frag) (T:String) (r:V -> List V -> Hp -> VK -> Prop) (to:TE) (t:TA):TE:=fun σ H Q=>to σ H fun x H1=>rh K T x H1 /\ t σ H1 fun xs H2=>r x xs H2 Q
variable {o e:Expr} {es:List Expr} {to:TE} {t:TA} {name:Str} {apos bA:Pos} {T id:String} {r:V -> List V -> Hp -> VK -> Prop}
theorem jk (pa : PlainAttrs T) (slot : Slot T name id) (RU : typeOf (.builtin id) = pure (.type "method_descriptor")) (hm : se X id r) (ho : PE X o to)
  (jG:attributeBase o name X.env (eval o X.env) = eval o X.env:=by rfl) (jH:(apos.endLine == bA.line) = true:=by rfl):PE X (.Call (.Attribute o name apos) [] [] bA) (lr X.K T r to):=by
 intro pins s σ H Q I h
 refine wpAny_Call_method0_late jG jH (C9 (ho pins s σ H _ I h) fun v s1 aV=>?_)
 obtain ⟨x,H1,I1,r1,ty,q1⟩ := aV
 obtain ⟨h1,h2⟩ := Ye I1 r1 ty
 exact ⟨T,id,pa,slot,RU,h1,h2,Calls.callWith_builtin rfl (PySem.evalArgs_none (hm pins s1 σ H1 x [] v [] Q I1 r1 .nil q1))⟩
theorem G3 (pa : PlainAttrs T) (slot : Slot T name id) (RU : typeOf (.builtin id) = pure (.type "method_descriptor")) (hm : se X id r) (ho : PE X o to) (ha : PA X (e :: es) t)
  (jG:attributeBase o name X.env (eval o X.env) = eval o X.env:=by rfl)
  (RV:((backTo bA (starEach (e :: es) X.env)).all (fun x=>!x.1) && (backToKw bA (keywordEach [] X.env)).all (fun x=>x.1.isSome)
   && decide ((e :: es).length + ([]:List Keyword).length + (if ([]:List Keyword).isEmpty then 0 else 1) < 30)) = true:=by rfl)
  (jH:(apos.endLine == bA.line) = true:=by rfl) (hs:starEach (e :: es) X.env = (false,eval e X.env) :: starEach es X.env:=by rfl) (xp:(backTo bA (starEach es X.env)).any (·.1) = false:=by rfl) :
  PE X (.Call (.Attribute o name apos) (e :: es) [] bA) (X0 X.K T r to t):=by
 intro pins s σ H Q I h
 refine wpAny_Call_method_late jG RV jH rfl (C9 (ho pins s σ H _ I h) fun v s1 aV=>?_)
 obtain ⟨x,H1,I1,r1,ty,q1⟩ := aV
 obtain ⟨h1,h2⟩ := Ye I1 r1 ty
 refine ⟨T,id,pa,slot,RU,h1,h2,?_⟩
 have hA:=ha bA pins s1 σ H1 _ I1 q1
 rw [hs] at hA ⊢
 refine Calls.callWith_builtin (by show (false || (backTo bA (starEach es X.env)).any (·.1)) = false; rw [xp] <;> rfl) (Calls.evalArgs_plain ?_)
 exact C9 hA fun us s2 ⟨vs,H2,I2,r2,q2⟩=>hm pins s2 σ H2 x vs v us Q I2 r1 r2 q2
/- xs.append(e),list.index on a HA tuple .. are se facts of 06m -/
end
def kc (X:Cx) (id:String) (r:V -> List V -> Hp -> VK -> Prop):Prop :=
 ∀ (pins:List (Addr × Obj)) (s:Shared) (σ:St) (H:Hp) (x:V) (xs:List V) (v:Value) (us:List Value) (Q:VK),Ai X pins σ H s -> Av x v -> Aw xs us -> r x xs H Q ->
  wpAny (model X.prog X.w) X.A (call (.builtin id) (v :: us)) (EP X pins σ Q) X.xe s
theorem Aw.one {x:V} {us:List Value} (h:Aw [x] us):∃ u,us = [u] /\ Av x u:=by
 cases h with
 | cons r t =>
  cases t
  exact ⟨_,rfl,r⟩
theorem Aw.two {x y:V} {us:List Value} (h:Aw [x,y] us):∃ u v,us = [u,v] /\ Av x u /\ Av y v:=by
 cases h with
 | cons r t =>
  obtain ⟨v,rfl,q⟩ := Aw.one t
  exact ⟨_,v,rfl,r,q⟩
theorem Aw.zero:∀ {us:List Value},Aw [] us -> us = []
 | _,.nil=>rfl
theorem Aw.dropLast {xs:List V} {us:List Value} (h:Aw xs us):Aw xs.dropLast us.dropLast:=by
 induction h with
 | nil=>exact .nil
 | cons r t ih =>
  cases t with
  | nil=>exact .nil
  | cons q t'=>exact .cons r ih
theorem Sd {α:Type} (l:List α):l.eraseIdx (l.length - 1) = l.dropLast:=by
 induction l with
 | nil=>rfl
 | cons a r ih =>
  cases r with
  | nil=>rfl
  | cons b r =>
   have e:(a :: b :: r).length - 1 = ((b :: r).length - 1) + 1:=by
    have h1:(a :: b :: r).length = r.length + 2:=rfl
    have h2:(b :: r).length = r.length + 1:=rfl
    omega
   rw [e,List.eraseIdx_cons_succ,ih]
   all_goals rfl
section
variable {X:Cx} {pins:List (Addr × Obj)} {σ:St} {H:Hp} {s:Shared} {l b:Addr} {xs ys zs:List V}
theorem Ai.sX {aD its' : List Value} {n : Nat} {f : Array Value -> Array Value} {t' : Nat} (I : Ai X pins σ H s) (hH : H l = some (.lst xs))
  (e:s.heap.get? l = some { cls := .type "list",data := .seq aD.toArray n }) (hf:f aD.toArray = its'.toArray) (hv:Aw ys its') (hz:ys.length <= sizeLine) :
  Ai X pins σ (upd H l (.lst ys)) { s with heap:=s.heap.update l (Obj.mapSeq f),toks:=t' }:=by
 have q:=PySem.IsL.update e f
 rw [hf] at q
 refine I.write (x:=l) (e:=l) (by rw [hH]; exact trivial) (.inl rfl) (fun b' u hb hu=>(Heap.get?_update_other s.heap (Obj.mapSeq f) (Ne.symm hb)).trans hu) ⟨_,q⟩ ?_
 exact ⟨hz,its',_,hv,q⟩
theorem Ai.fresh (I:Ai X pins σ H s):H s.heap.objs.size = none:=I.aF.fresh (Nat.le_refl _)
theorem Ai.nI (I:Ai X pins σ H s) (hH:H l = some (.lst xs)):xs.length <= sizeLine /\ ∃ (aD:List Value) (n:Nat),Aw xs aD /\ xs.length = aD.length /\ s.heap.get? l = some { cls := .type "list",data := .seq aD.toArray n }:=by
 obtain ⟨z,aD,n,r,e⟩ := I.aF l _ hH
 exact ⟨z,aD,n,r,r.length,e⟩
theorem Yv {n:Nat} (h:n <= sizeLine):Builtin.List.listTooLong n = false:=by
 unfold Builtin.List.listTooLong
 exact decide_eq_false (by omega)
end
section
variable {X:Cx}
def bo:V -> List V -> Hp -> VK -> Prop:=fun x vs H Q=>∃ l xs y,x = .ref l /\ vs = [y] /\ H l = some (.lst xs) /\ xs.length < sizeLine /\ Q .aR (upd H l (.lst (xs ++ [y])))
theorem Dp:kc X "list.append" bo:=by
 intro pins s σ H x vs v us Q I rx rv h
 obtain ⟨l,xs,y,rfl,rfl,hH,hz,q⟩ := h
 cases rx
 obtain ⟨u,rfl,ru⟩ := rv.one
 obtain ⟨z,aD,n,r,hl,e⟩ := I.nI hH
 refine call_meets F.slot_list_append ⟨_,e,rfl⟩ F.entry_list_append (F.args_list_append_2 _ _) (PySem.list_append l aD.toArray n u (by rw [List.size_toArray]; omega)) ⟨e,?_⟩
 refine ⟨.aR,_,I.sX (its':=aD ++ [u]) hH e (by simp) (r.append (.cons ru .nil)) ?_,rfl,q⟩
 rw [List.length_append,List.length_singleton]
 omega
def bn:V -> List V -> Hp -> VK -> Prop:=fun x vs H Q=>∃ l b xs zs,x = .ref l /\ vs = [.ref b] /\ H l = some (.lst xs) /\ H b = some (.lst zs) /\ xs.length + zs.length <= sizeLine /\ Q .aR (upd H l (.lst (xs ++ zs)))
theorem J0:kc X "list.extend" bn:=by
 intro pins s σ H x vs v us Q I rx rv h
 obtain ⟨l,b,xs,zs,rfl,rfl,hH,hB,hz,q⟩ := h
 cases rx
 obtain ⟨u,rfl,ru⟩ := rv.one
 cases ru
 obtain ⟨z,aD,n,r,hl,e⟩ := I.nI hH
 obtain ⟨z2,iO,n2,r2,sF,e2⟩ := I.nI hB
 have hsz:aD.toArray.size + iO.toArray.size <= sizeLine:=by rw [List.size_toArray,List.size_toArray]; omega
 have HB:¬ (!aD.toArray.isEmpty && Builtin.List.listTooLong (aD.toArray.size + iO.toArray.size)) = true:=by
  rw [Yv hsz,Bool.and_false]
  exact Bool.false_ne_true
 refine call_meets F.slot_list_extend ⟨_,e,rfl⟩ F.entry_list_extend (F.args_list_extend_2 _ _)
  (AutoSeq1.list_extend_list_list_0 l aD.toArray n b iO.toArray n2 HB (by rw [List.size_toArray]; omega) (by omega)) ⟨e,e2,?_⟩
 refine ⟨.aR,_,I.sX (its':=aD ++ iO) hH e (by simp) (r.append r2) ?_,rfl,q⟩
 rw [List.length_append]
 omega
def qf:V -> List V -> Hp -> VK -> Prop:=fun x vs H Q=>∃ l xs y,x = .ref l /\ vs = [] /\ H l = some (.lst xs) /\ xs[xs.length - 1]? = some y /\ Q y (upd H l (.lst xs.dropLast))
theorem i4:kc X "list.pop" qf:=by
 intro pins s σ H x vs v us Q I rx rv h
 obtain ⟨l,xs,y,rfl,rfl,hH,hy,q⟩ := h
 cases rx
 have jW:=rv.zero
 subst jW
 obtain ⟨z,aD,n,r,hl,e⟩ := I.nI hH
 obtain ⟨u,hu,ru⟩ := r.get hy
 have nJ:aD.toArray[aD.toArray.size - 1]? = some u:=by
  show aD.toArray[aD.length - 1]? = some u
  rw [<- Array.getElem?_toList,<- hl]
  exact hu
 refine call_meets F.slot_list_pop ⟨_,e,rfl⟩ F.entry_list_pop (F.args_list_pop_1 _) (MeetsSeq.list_pop_last l aD.toArray n u nJ (by rw [List.size_toArray]; omega)) ⟨e,?_⟩
 refine ⟨y,_,I.sX (its':=aD.dropLast) hH e ?_ r.dropLast ?_,ru,q⟩
 ·show aD.toArray.eraseIdxIfInBounds (aD.toArray.size - 1) = aD.dropLast.toArray
  rw [List.size_toArray,List.eraseIdxIfInBounds_toArray,Sd]
 ·rw [List.length_dropLast]
  omega
end
section
variable {prog:Program} {w:World} {A:Around} {E:Value -> Shared -> Prop} {s:Shared}
end
section
variable {X:Cx}
end
end L2
namespace Att
local macro_rules | `(tactic| omega) => `(tactic| lia)
open PySem PySem.W PySem.Calls PyProof.Rows
theorem K7 {P:Params} {h:Heap}:∀ (ns:List Int) (vs:List Value),WellAll P h vs (ns.map WData.int) -> IntsAre vs ns:=by
 intro ns
 induction ns with
 | nil =>
  intro vs w
  rw [List.map_nil] at w
  cases w
  exact .nil
 | cons n ns ih =>
  intro vs w
  rw [List.map_cons] at w
  cases w with
  | cons a b =>
   cases a
   exact .cons _ _ (ih _ b)
theorem lX {l : OpenLaw} {n : Nat} (hn : l.most = some n) {P : Params} {h : Heap} {args : List WData} {vals : List Value}
  (sY:l.row.toRowW.claim.pre args = true) (FP:WellAll P h vals args) :
  ∃ a vs ns,vals = [Value.ref a] /\ args = [WData.list (ns.map WData.int)] /\ h.get? a = some { cls := .type "list",data := .seq vs.toArray } /\ IntsAre vs ns /\ ns.length <= n:=by
 have hsh:WShape.hasAll [] args [.list .int] = true:=(pre_splitW sY).1
 have hc:l.pre.holds [] { args:=args } = true:=(pre_splitW sY).2
 obtain ⟨d,r,rfl,h1,h2⟩ := hasAllW_cons hsh
 obtain rfl:=hasAllW_nil h2
 obtain ⟨xs,rfl,h3⟩ := hasW_list h1
 obtain ⟨ns,rfl⟩ := items_int h3
 have hlen:ns.length <= n:=by
  unfold OpenLaw.pre at hc
  have h4:(WTm.not (.lt (.lit (.int (n:Int))) (.len (.arg 0)))).holds [] { args:=[.list (ns.map .int)] } = true:=by
   have h4:=(holds_andW hc).1
   rw [hn] at h4
   exact h4
  have h5:=condW_of h4 (w_not (w_lt w_lit (w_len_list (w_arg rfl))))
  rw [List.length_map] at h5
  refine Nat.le_of_not_lt fun q=>?_
  have q':(n:Int) < ((ns.length:Nat):Int):=by omega
  first
   | (rw [decide_eq_true q'] at h5; exact absurd h5 (by decide))
   | (simp at h5; omega)
 cases FP with
 | cons w1 w2 =>
  cases w2
  cases w1 with
  | list ho hall=>exact ⟨_,_,ns,rfl,rfl,ho,K7 ns _ hall,hlen⟩
theorem lY (l:OpenLaw) (args:List WData):l.row.toRowW.claim.post args (.bool true) args = true :=
 postW_of (r:=l.row.toRowW) (X:=(true == true))
  (show WShape.has [] (.bool true) .bool = true by first | rfl | decide | simp [WShape.has,WShape.arms,WShape.armsAll])
  (show (WTm.eq .res (.lit (.bool true))).value [] { args:=args,res:=some (.bool true),after:=args } = some (.bool (true == true)) from w_eq_bool (w_res rfl) w_lit) rfl
section
variable {prog:Program} {w:World} {A:Around} {E:Value -> Shared -> Prop} {s:Shared} {K:Frag}
end
end Att
namespace L2
local macro_rules | `(tactic| omega) => `(tactic| lia)
open PySem PySem.Spec PyProof.Rows
theorem Oe:∀ {vs:List Value} {ns:List Int},IntsAre vs ns -> Aw (ns.map V.int) vs
 | _,_,.nil=>.nil
 | _,_,.cons n t h=>.cons ⟨t,rfl⟩ (Oe h)
def k0 (H:Hp):Prop := ∀ b,H b = none \/ ∃ o xs,H b = some (.bE o (.lst xs))
theorem Y3 {P : Program} {w : World} {K : PySem.W.Frag} {mg mb : Str -> Option Value} {CX : Xl} {k : Nat} {fa a : Addr} {fd : FuncData} {x : Str} {sp : Sp} {s₁ : Shared} {vs : List Value} {ns : List Int}
  (KX:K.In s₁.heap) (sH:s₁.heap.Ns mainGlobals mg) (hb:s₁.heap.Ns builtinsNs mb) (hbb:∀ x:Str,x ≠ "__name__" -> mb x = bootBuiltins x) (RX:s₁.heap.NoLimit) (hg:s₁.gens = #[])
  (ha:s₁.heap.get? a = some { cls := .type "list",data := .seq vs.toArray }) (hi:IntsAre vs ns) (hl:ns.length <= sizeLine) (hr:Cq k callerA)
  (F:∀ base:Heap,K.In base -> base.Ns mainGlobals mg -> Af P w K mg base CX k fa fd [x] sp) (HC:∀ (s:Shared) (u:Value),BindsTo s fd ⟨[u],[]⟩ [(x,u)])
  (sD:∀ H:Hp,k0 H -> Bg K H a (ns.map V.int) -> sp [.ref a] H (fun v _=>v = .bl true) fun _ _ _=>False)
  (RY:∀ H e s',CX [] H s₁ (fun _ _ _=>False) e s' -> False) :
  codeAny (model P w) callerA (.call (.ref fa) ⟨[.ref a],[]⟩) (fun r s'=>r = .ok (.ret (.bool true)) /\ OldK s₁.heap s'.heap /\ s'.os = s₁.os /\ AllBare s'.gens) s₁:=by
 have rv:=Oe hi
 have RZ:=hi.length
 have core : ∀ H : Hp, k0 H -> Bg K H a (ns.map V.int) -> G7 P w H s₁.heap -> (∀ b, H b ≠ none -> b = a) -> (H a ≠ none -> K.lookup a = none) ->
   codeAny (model P w) callerA (.call (.ref fa) ⟨[.ref a],[]⟩) (fun r s'=>r = .ok (.ret (.bool true)) /\ OldK s₁.heap s'.heap /\ s'.os = s₁.os /\ AllBare s'.gens) s₁:=by
  intro H hO hS aF hA hK
  have lL:∀ {b:Addr} {o:Obj},s₁.heap.get? b = some o -> H b = none -> (Pn s₁.heap H).get? b = some o:=fun e n=>Xv e n
  have GY:∀ {b:Addr} {o:Obj} {es:Array DictEntry} {ep:Nat},s₁.heap.get? b = some o -> o.data = .dict es ep -> H b = none:=fun {b o es ep} e d=>by
   cases q:H b with
   | none=>rfl
   | some u =>
    have e':b = a:=hA b (by rw [q]; simp)
    subst e'
    rw [ha] at e; cases e
    have d':Data.seq vs.toArray _ = Data.dict es ep:=d
    cases d'
  have PH:∀ {b:Addr} {m:Str -> Option Value},s₁.heap.Ns b m -> (Pn s₁.heap H).Ns b m:=fun {b m} ⟨o,es,ep,e,d,r⟩=>⟨o,es,ep,lL e (GY e d),d,r⟩
  have hKb:K.In (Pn s₁.heap H):=fun b o e=>lL (KX b o e) (by
   cases q:H b with
   | none=>rfl
   | some u =>
    have e':b = a:=hA b (by rw [q]; simp)
    subst e'
    rw [hK (by rw [q]; simp)] at e; cases e)
  have hM:Mod K mg (Pn s₁.heap H):=⟨hKb,PH sH,⟨mb,PH hb,hbb⟩,let ⟨mc,h1,h2⟩ := RX; ⟨mc,PH h1,h2⟩⟩
  have e0:Sn P w K mg (Pn s₁.heap H) callerA [] s₁ H:=⟨rfl,hM,fun b o e=>cn e,Nat.le_of_eq (Ww _ _),trivial,fun b hb=>absurd (show b ∈ ([]:List Addr) from hb) (by simp),aF,.of_eq hg⟩
  refine codeAny_mono ((F _ hKb (PH sH)).run callerA [] s₁ H ⟨[.ref a],[]⟩ [.ref a] [.ref a] _ _ hr e0 (HC s₁ (.ref a)) (.cons rfl .nil) (sD H hO hS)) fun r s' h=>?_
  cases r with
  | error e=>exact (RY H e s' h).elim
  | ok fl =>
   cases fl with
   | next=>exact False.elim h
   | brk=>exact False.elim h
   | cont=>exact False.elim h
   | ret u =>
    obtain ⟨v,H',os,bare,un,SA,r',q⟩ := h
    have q':v = .bl true:=q
    subst q'
    obtain rfl:u = Value.bool true:=r'
    refine ⟨rfl,OldK.of_keep fun b o e=>?_,os,bare⟩
    cases q:H b with
    | none=>exact un.keep b o e q (by intro z; exact absurd (show b ∈ ([]:List Addr) from z) (by simp)) (by simp)
    | some u =>
     rcases hO b with z | ⟨ob,xs,z⟩
     ·rw [q] at z; cases z
     ·have z2:=un.dM b ob _ z
      obtain ⟨e1,_⟩ := aF b _ z
      obtain ⟨e2,_⟩ := SA b _ z2
      rw [e] at e1; cases e1
      exact e2
 cases hk:K.lookup a with
 | some o =>
  have e:=KX a o hk
  rw [ha] at e
  cases e
  refine core (fun _=>none) (fun _=>.inl rfl) (.inr ⟨_,vs.toArray,_,hk,rfl,rfl,rfl,by rw [List.size_toArray,RZ]; exact hl,by simpa using rv⟩) (fun b u z=>by have z':(none:Option HO) = some u:=z; cases z') (fun b z=>absurd rfl z) fun z=>absurd rfl z
 | none =>
  refine core (fun b=>if b = a then some (.bE { cls := .type "list",data := .seq vs.toArray } (.lst (ns.map V.int))) else none) (fun b=>?_) (.inl (.inr ⟨{ cls := .type "list",data := .seq vs.toArray },if_pos rfl⟩)) (fun b u z=>?_) (fun b z=>?_) fun _=>hk
  ·by_cases hb:b = a
   ·exact .inr ⟨_,_,if_pos hb⟩
   ·exact .inl (if_neg hb)
  ·by_cases hb:b = a
   ·have z':=(if_pos hb).symm.trans z
    cases z'
    subst hb
    exact ⟨ha,by rw [List.length_map]; exact hl,vs,_,rv,ha⟩
   ·have z':=(if_neg hb).symm.trans z
    cases z'
  ·by_cases hb:b = a
   ·exact hb
   ·exact absurd (if_neg hb) z
def Hv (s:Stmt) (j:Nat):Stmt:=match s with
 | .ClassDef _ _ _ body _ _ _ _ _ _ _=>body.getD j (.Pass ⟨0,0,0,0⟩)
 | _=>.Pass ⟨0,0,0,0⟩
def Ak (s:Stmt):Arguments:=match s with
 | .FunctionDef _ a _ _ _ _ _ _ _ _=>a
 | _=>{ posonlyargs:=[],args:=[],vararg:=none,kwonlyargs:=[],kw_defaults:=[],kwarg:=none,defaults:=[] }
def Aj (s:Stmt):List Stmt:=match s with
 | .FunctionDef _ _ b _ _ _ _ _ _ _=>b
 | _=>[]
def A6 (s:Stmt):Scope:=match s with
 | .FunctionDef _ _ _ _ _ _ sc _ _ _=>sc
 | _=>{ kind := .function,names:=[],isGenerator:=false,isCoroutine:=false }
abbrev Bd:Xl:=fun _ _ _ _ _ _=>False
abbrev E0:XK:=fun _ _ _=>False
theorem As {X:Cx}:Iw Bd X E0:=fun _ _ _ _ _ _ _ h=>h.elim
structure Fn (K:PySem.W.Frag) (x qual:Str) (st:Stmt) (f:Addr) (fd:FuncData):Prop where
 ex:∃ (oc:Value) (od:Option Addr) (kV doc pm:Value) (an:Option Addr) (aS ct:Value) (gZ:Array (Option Value)),
  fd = PySem.W.fnOf x qual (Ak st) (Aj st) (A6 st) .none kV doc pm an aS ct /\ K.lookup f = some ⟨oc,od,.func fd,gZ⟩ /\ PySem.W.codeIn K aS qual = true
 kp:PySem.W.keepIn K (.ref f) = true
section
variable {P:Program} {w:World} {K:PySem.W.Frag} {mg:Str -> Option Value} {base:Heap}
theorem Fn.ok {x qual : Str} {st : Stmt} {f : Addr} {fd : FuncData} {N ps : List Str} {k : Nat} {sp : Sp} (F : Fn K x qual st f fd) (S : Ar N ps (A6 st)) (len : ∀ vs H Q E, sp vs H Q E -> vs.length = ps.length)
  (jF:∀ (aS:Value) (A:Around) (outer:List Env) (s:Shared) (H:Hp) (vs:List V) (Q:VK) (E:XK),Cq k (A.deeper (envOfC qual (A6 st) s.heap.objs.size f aS)) -> sp vs H Q E ->
   ∃ t,Sb (Sg Bd P w K mg base N qual (A6 st) f aS A outer s H E).sC (Aj st) t /\ t { nx:=fun _ H'=>Q .aR H',rt:=Q } (start N vs) H):Af P w K mg base Bd (k + 1) f fd ps sp:=by
 obtain ⟨oc,od,kV,doc,pm,an,aS,ct,gZ,rfl,lk,nG⟩ := F.ex
 refine dk lk nG S len fun A outer s H vs Q E hr sD=>?_
 obtain ⟨t,h,q⟩ := jF aS A outer s H vs Q E hr sD
 exact ⟨t,h.sC,q⟩
theorem Fn.binds {x qual : Str} {st : Stmt} {f : Addr} {fd : FuncData} {ps : List Str} (F : Fn K x qual st f fd)
  (h:∀ (kV doc pm:Value) (an:Option Addr) (aS ct:Value) (us:List Value),us.length = ps.length -> bindArgs (PySem.W.fnOf x qual (Ak st) (Aj st) (A6 st) .none kV doc pm an aS ct) ⟨us,[]⟩ = pure (ps.zip us)):Ap K fd ps []:=by
 obtain ⟨oc,od,kV,doc,pm,an,aS,ct,gZ,rfl,lk,nG⟩ := F.ex
 exact .all (h kV doc pm an aS ct)
theorem B8 {x qual : Str} {st : Stmt} {f : Addr} {oc : Value} {od an : Option Addr} {gZ : Array (Option Value)} {kV doc pm aS ct : Value} (l : K.lookup f = some ⟨oc, od, .func (PySem.W.fnOf x qual (Ak st) (Aj st) (A6 st) .none kV doc pm an aS ct), gZ⟩)
  (c:PySem.W.codeIn K aS qual = true) (k:PySem.W.keepIn K (.ref f) = true):Fn K x qual st f (PySem.W.fnOf x qual (Ak st) (Aj st) (A6 st) .none kV doc pm an aS ct):=⟨⟨oc,od,kV,doc,pm,an,aS,ct,gZ,rfl,l,c⟩,k⟩
end
theorem Bj {n:Nat} (h:n <= 1000):n < sizeLine:=Nat.lt_of_le_of_lt h (by decide)
section
variable {X:Cx}
theorem pv (i : Nat) {x : Str} {pos : Pos} (hN : X.N[i]? = some x := by rfl) (hv : pk X.env.scope x := by first | exact Or.inl rfl | exact Or.inr (Or.inl rfl) | exact Or.inr (Or.inr rfl)) (hd : (x == ("__debug__" : Str)) = false := by decide)
  (nG:(x == ("__classdict__" : Str)) = false:=by decide):PE X (.Name x pos) (kz i):=j9 hN hv hd nG
end
theorem Hi {c A B:Prop} [Decidable c] (h1:c -> A) (h2:¬ c -> B):if c then A else B:=by
 by_cases h:c
 ·rw [if_pos h]
  exact h1 h
 ·rw [if_neg h]
  exact h2 h
def A9 (H H':Hp):Prop := ∀ b o,H b = some o -> H' b = some o
theorem A9.refl (H:Hp):A9 H H:=fun _ _ h=>h
theorem A9.trans {H H1 H2:Hp} (a:A9 H H1) (b:A9 H1 H2):A9 H H2:=fun c o h=>b c o (a c o h)
theorem A9.free {H H':Hp} (e:A9 H H') {l:Addr} (h:H' l = Option.none):H l = Option.none:=by
 cases q:H l with
 | none=>rfl
 | some o =>
  rw [e l o q] at h
  cases h
theorem A9.seq {K:PySem.W.Frag} {H H':Hp} {a:Addr} {xs:List V} (e:A9 H H') (h:Bg K H a xs):Bg K H' a xs:=by
 rcases h with (h | ⟨o,h⟩) | h
 ·exact .inl (.inl (e _ _ h))
 ·exact .inl (.inr ⟨o,e _ _ h⟩)
 ·exact .inr h
def Em (cells:List (Str × Addr)):List (Str × NameKind) -> List (Str × Addr) -> List (Str × Addr)
 | [],cs=>cs
 | (n,k) :: r,cs=>if k == NameKind.free then Em cells r ((n,(cells.lookup n).getD 0) :: cs) else Em cells r cs
theorem Je {cells : List (Str × Addr)} {x : Str} {c : Addr} : ∀ {names : List (Str × NameKind)} {cs : List (Str × Addr)}, (Em cells names cs).lookup x = some c ->
  cs.lookup x = some c \/ ((x,NameKind.free) ∈ names /\ c = (cells.lookup x).getD 0)
 | [],cs,h=>.inl h
 | (n,k) :: r,cs,h=>by
  unfold Em at h
  by_cases hk:(k == NameKind.free) = true
  ·rw [if_pos hk] at h
   rcases Je h with h1 | ⟨h1,h2⟩
   ·rw [List.lookup_cons] at h1
    by_cases hx:(x == n) = true
    ·rw [hx] at h1
     have e:x = n:=eq_of_beq hx
     have e2:k = NameKind.free:=eq_of_beq hk
     subst e e2
     exact .inr ⟨List.mem_cons_self,(Option.some.inj h1).symm⟩
    ·have mX:(x == n) = false:=by simpa using hx
     rw [mX] at h1
     exact .inl h1
   ·exact .inr ⟨List.mem_cons_of_mem _ h1,h2⟩
  ·rw [if_neg hk] at h
   rcases Je h with h1 | ⟨h1,h2⟩
   ·exact .inl h1
   ·exact .inr ⟨List.mem_cons_of_mem _ h1,h2⟩
theorem Hl {cells:List (Str × Addr)} {x:Str}:∀ {names:List (Str × NameKind)} {cs:List (Str × Addr)},(∃ c,cs.lookup x = some c) -> ∃ c,(Em cells names cs).lookup x = some c
 | [],cs,h=>h
 | (n,k) :: r,cs,h=>by
  unfold Em
  by_cases hk:(k == NameKind.free) = true
  ·rw [if_pos hk]
   refine Hl ?_
   rw [List.lookup_cons]
   cases hx:x == n with
   | true=>exact ⟨_,rfl⟩
   | false=>exact h
  ·rw [if_neg hk]
   exact Hl h
theorem F6 {cells:List (Str × Addr)} {x:Str}:∀ {names:List (Str × NameKind)} {cs:List (Str × Addr)},(x,NameKind.free) ∈ names -> ∃ c,(Em cells names cs).lookup x = some c
 | [],cs,h=>by cases h
 | (n,k) :: r,cs,h=>by
  unfold Em
  rcases List.mem_cons.mp h with e | h
  ·have e1:x = n:=congrArg Prod.fst e
   have e2:NameKind.free = k:=congrArg Prod.snd e
   subst e1 e2
   rw [if_pos (by decide)]
   refine Hl ⟨(cells.lookup x).getD 0,?_⟩
   rw [List.lookup_cons,beq_self_eq_true]
  ·by_cases hk:(k == NameKind.free) = true
   ·rw [if_pos hk]
    exact F6 h
   ·rw [if_neg hk]
    exact F6 h
theorem Fv {env : Env} : ∀ {names : List (Str × NameKind)} {x : Str} {k' : NameKind}, (∀ y ∈ names, y.2 ≠ NameKind.cell) -> k' ≠ .local -> (k' = .cell \/ k' = .free) ->
  (names.map fun (n,k)=>if (k == NameKind.free && env.scope.kind == .function && env.kindOf n == some .cell) then (n,NameKind.cell) else (n,k)).lookup x = some k' -> (x,NameKind.free) ∈ names
 | [],_,_,_,_,_,h=>by simp at h
 | (n,k) :: r,x,k',hc,hl,eK,h=>by
  have ih:=@Fv env r x k' (fun y hy=>hc y (List.mem_cons_of_mem _ hy)) hl eK
  have h0:List.lookup x ((if (k == NameKind.free && env.scope.kind == .function && env.kindOf n == some .cell) = true then (n,NameKind.cell) else (n,k)) :: (r.map fun (n,k)=>if (k == NameKind.free && env.scope.kind == .function && env.kindOf n == some .cell) then (n,NameKind.cell) else (n,k))) = some k':=h
  by_cases xq:(k == NameKind.free && env.scope.kind == .function && env.kindOf n == some .cell) = true
  ·rw [if_pos xq,List.lookup_cons] at h0
   have e2:k = NameKind.free:=by
    have q:=(Bool.and_eq_true_iff.mp (Bool.and_eq_true_iff.mp xq).1).1
    exact eq_of_beq q
   cases hx:x == n with
   | true =>
    have e:x = n:=eq_of_beq hx
    subst e e2
    exact List.mem_cons_self
   | false =>
    rw [hx] at h0
    exact List.mem_cons_of_mem _ (ih h0)
  ·rw [if_neg xq,List.lookup_cons] at h0
   cases hx:x == n with
   | true =>
    rw [hx] at h0
    have e:x = n:=eq_of_beq hx
    have e3:k = k':=Option.some.inj h0
    subst e e3
    rcases eK with z | z
    ·exact absurd z (hc _ List.mem_cons_self)
    ·subst z
     exact List.mem_cons_self
   | false =>
    rw [hx] at h0
    exact List.mem_cons_of_mem _ (ih h0)
structure Cz (sc scope:Scope) (N bV:List Str) (fr:List Nat):Prop where
 kind:scope.kind = .function
 kE:∀ y ∈ scope.names,y.2 ≠ NameKind.cell
 loc:∀ y ∈ scope.names,y.2 = NameKind.local -> scope.names.lookup y.1 = some NameKind.local
 free:∀ y ∈ scope.names,y.2 = NameKind.free -> sc.names.lookup y.1 = some NameKind.cell
 jU:∀ j ∈ fr,(N[j]?.bind fun x=>scope.names.lookup x) = some NameKind.free
def Br (N bV:List Str) (fr:List Nat):List Str:=bV ++ fr.map fun j=>(N[j]?).getD ⟨#[]⟩
def Cn (fr:List Nat) (σ:St):St:=fr.map fun j=>(σ[j]?).getD none
def F0 (n:Nat) (fr:List Nat) (σ:St):St:=List.replicate n none ++ Cn fr σ
def Ck (X:Cx) (Nc:List Str) (scope:Scope) (C:Addr) (s2:Shared) (H2:Hp) (fp:List Addr):Cx :=
 { X with N:=Nc,s₀:=s2,H₀:=H2,env:=compEnvC scope (Em X.env.cells scope.names []) C X.env,outer:=X.stack,ex:=fp,fn:=fun _=>false,pn:=[],xe:=fun _ _=>False }
def kj (X:Cx) (ifs:List Expr) (t:TT):Prop :=
 ∀ (pins:List (Addr × Obj)) (s:Shared) (σ:St) (H:Hp) (Q:Bool -> Hp -> Prop),Ai X pins σ H s -> t σ H Q ->
  wpAny (model X.prog X.w) X.A (forIn ifs true fun c r=>if r = true then do let ok <- isTrue c X.env (eval c X.env); pure (ForInStep.yield ok) else pure (ForInStep.yield r)) (TP X pins σ Q) X.xe s
def Mu:TT:=fun _ H Q=>Q true H
theorem E6 {X:Cx}:kj X [] Mu:=fun _ _ _ H _ I h=>wpAny_tests_nil ⟨H,I,h⟩
theorem Kp {X:Cx} {c:Expr} {t:TT} (h:PT X c t):kj X [c] t:=fun pins s σ H Q I hq=>wpAny_tests_one (h pins s σ H Q I hq)
section
variable {prog:Program} {w:World} {A:Around} {R:Result -> Shared -> Prop} {s:Shared}
theorem Pw {elt target iter : Expr} {ifs : List Expr} {scope : Scope} {pos : Pos} {it acc : Value} {env : Env} (I : Nat -> Shared -> Prop)
  (turn:∀ n s,I n s -> wpAny (model prog w) A (pyNext it) (fun r s₁=>match r with
   | none=>R (.ok .next) s₁
   | some v => wpAny (model prog w) A (letOwnedTupleGo target it v) (fun _ s₁' => wpAny (model prog w) A (assign target env v) (fun _ s₂ =>
     wpAny (model prog w) A (forIn ifs true fun c r=>if r = true then do let ok <- isTrue c env (eval c env); pure (ForInStep.yield ok) else pure (ForInStep.yield r)) (fun ok s₃ =>
      if ok = true then wpAny (model prog w) A (eval elt env) (fun x s₄ =>
       wpAny (model prog w) A (call (.builtin "list.append") [acc,x]) (fun _ s₅=>∃ m,m < n /\ I m s₅) (fun _ _=>False) s₄) (fun _ _=>False) s₃
      else ∃ m,m < n /\ I m s₃) (fun _ _=>False) s₂) (fun _ _=>False) s₁') (fun _ _=>False) s₁) (fun _ _=>False) s)
  (n:Nat) (h:I n s) :
  codeAny (model prog w) A (.compLoop (.ListComp elt [⟨target,iter,ifs,0⟩] scope pos) 0 it acc env) R s:=by
 refine codeAny_loop rfl I (fun n s hI=>?_) n h
 show wpAny _ A ((compTurn (.ListComp elt [⟨target,iter,ifs,0⟩] scope pos) 0 it acc env).onRaise (fun x=>do noteFrame x env; theTreesLotGoes x)) _ _ s
 refine wpAny_noted ?_
 rw [compTurn_list]
 refine wpAny_bind (wpAny_standAt (wpAny_bind (wpAny_mono (turn n s hI) (fun r s₁ h₁=>?_) fun _ _ h'=>h'.elim)))
 cases r with
 | none=>exact wpAny_pure h₁
 | some v =>
  refine wpAny_bind (wpAny_mono h₁ (fun _ s₁' h₁'=>?_) fun _ _ h'=>h'.elim)
  refine wpAny_bind (wpAny_mono h₁' (fun _ s₂ h₂=>wpAny_bind (wpAny_mono h₂ (fun ok s₃ h₃=>?_) fun _ _ h'=>h'.elim)) fun _ _ h'=>h'.elim)
  cases ok with
  | false=>exact wpAny_pure ⟨rfl,h₃⟩
  | true =>
   exact wpAny_bind (wpAny_bind (wpAny_mono h₃ (fun x s₄ h₄=>wpAny_bind (wpAny_mono h₄ (fun _ s₅ h₅=>wpAny_pure (wpAny_pure ⟨rfl,h₅⟩)) fun _ _ h'=>h'.elim)) fun _ _ h'=>h'.elim))
end
def Dd (n:Nat) (fr:List Nat) (J:It) (g:TG) (tt:TT) (te:TE) (σ:St) (D:Addr) (H1:Hp) (Q:Hp -> Prop):Prop :=
 ∃ W:Nat -> Nat -> List V -> Hp -> Prop,(∃ m,W 0 m [] (upd H1 D (.lst []))) /\ ∀ i m ys H',W i m ys H' ->
  (J.stop i H' /\ Q H') \/ (J.go i H' /\ ∀ x H2,J.xl i H' x H2 -> g x (F0 n fr σ) H2 fun σ3 H3=>(∃ zs:St,zs.length = n /\ σ3 = zs ++ Cn fr σ) /\ tt σ3 H3 fun b H4 =>
   if b = true then te σ3 H4 fun y H5=>H5 D = some (.lst ys) /\ ys.length < sizeLine /\ ∃ m',m' < m /\ W (i + 1) m' (ys ++ [y]) (upd H5 D (.lst (ys ++ [y])))
   else ∃ m',m' < m /\ W (i + 1) m' ys H4)
def kg (n:Nat) (fr:List Nat) (wi:TI) (g:TG) (tt:TT) (te:TE):TE:=fun σ H Q=>wi σ H fun J H1=>∀ D,H1 D = none -> Dd n fr J g tt te σ D H1 (Q (.ref D))
def Z7 (n:Nat) (fr:List Nat) (wi:TI) (g:TG) (tt:TT) (te:TE) (i:Nat):TS:=fun D σ H=>wi σ H fun J H1=>∀ l,H1 l = none -> Dd n fr J g tt te σ l H1 (D.nx (σ.set i (some (.ref l))))
section
variable {X:Cx} {tg iter elt:Expr} {ifs:List Expr} {scope sc:Scope} {bV:List Str} {fr:List Nat} {wi:TI} {g:TG} {tt:TT} {te:TE} {pos:Pos}
theorem Oh {pins : List (Addr × Obj)} {σ : St} {H2 : Hp} {s2 : Shared} {it : Addr} {fp : List Addr} {tn : Nat -> Heap -> Prop} {J : It} {RR : Value -> Addr -> Result -> Shared -> Prop} {E : Value -> Shared -> Prop} {Qf : Hp -> Prop}
  (FQ:X.env.scope = sc) (S:Cz sc scope X.N bV fr) (hc:X.calm = true)
  (hg:∀ C s2 H2 fp,PG (Ck X (Br X.N bV fr) scope C s2 H2 fp) tg g) (ht:∀ C s2 H2 fp,kj (Ck X (Br X.N bV fr) scope C s2 H2 fp) ifs tt) (he:∀ C s2 H2 fp,PE (Ck X (Br X.N bV fr) scope C s2 H2 fp) elt te)
  (I2:Ai X pins σ H2 s2) (T:U6 X.prog X.w X.K tg J fp it tn) (aL:tn 0 s2.heap) (f2:∀ b ∈ fp,Kz X pins H2 b)
  (run:Dd bV.length fr J g tt te σ s2.heap.objs.size H2 Qf)
  (hRR:∀ (C:Addr) (H3:Hp) (s4:Shared),Ai X pins σ H3 s4 -> Kz X pins H3 C -> (∃ m,s4.heap.Ns C m) -> Qf H3 -> RR (.ref s2.heap.objs.size) C (.ok .next) s4) :
  wpAny (model X.prog X.w) X.A (newList []) (fun acc s₃=>wpAny (model X.prog X.w) X.A (newFunctionEnv scope X.env.globals (Em X.env.cells scope.names []) [] X.env.qual none .none (some X.env)) (fun HD s₄ =>
   codeAny (model X.prog X.w) X.A (.compStart (.ListComp elt [⟨tg,iter,ifs,0⟩] scope pos) 0 (.ref it) acc { HD with scope:=relabel scope X.env }) (RR acc HD.locals) s₄) E s₃) E s2:=by
 refine wpAny_newObj_type (wpAny_newFunctionEnv S.kE (by intro y hy; simp at hy) (fun h₁ xr sZ=>?_) S.kind)
 dsimp only at xr sZ ⊢
 generalize SD:s2.heap.push { cls := .type "list",dict:=none,data := .seq ([]:List Value).toArray } = G2 at xr sZ ⊢
 have hC:G2.objs.size = s2.heap.objs.size + 1:=by rw [<- SD,Heap.size_push]
 have hDC:s2.heap.objs.size ≠ G2.objs.size:=by rw [hC]; exact Nat.ne_of_lt (Nat.lt_succ_self _)
 have hle:s2.heap.objs.size <= G2.objs.size:=by rw [hC]; exact Nat.le_succ _
 have below:∀ b,b < s2.heap.objs.size -> b ≠ G2.objs.size /\ b ≠ s2.heap.objs.size:=fun b hb=>⟨Nat.ne_of_lt (Nat.lt_of_lt_of_le hb hle),Nat.ne_of_lt hb⟩
 have old:∀ b o,s2.heap.get? b = some o -> h₁.get? b = some o:=fun b o e=>sZ.extBut b o (below b (Heap.lt_size e)).1 (Heap.get?_push_of_some _ (SD ▸ Heap.get?_push_of_some _ e))
 have SE:h₁.get? s2.heap.objs.size = some { cls := .type "list",data := .seq ([]:List Value).toArray 0 }:=sZ.extBut _ _ hDC (Heap.get?_push_of_some _ (SD ▸ Heap.get?_push_size _ rfl))
 have xt:∀ y ∈ scope.names,y.2 = NameKind.free -> ∃ c,X.env.cells.lookup y.1 = some c:=fun y hy e=>I2.ok.has y.1 (.inl (by show X.env.scope.names.lookup y.1 = _; rw [FQ]; exact S.free y hy e))
 have kG:∀ x c,(Em X.env.cells scope.names []).lookup x = some c -> X.env.cells.lookup x = some c:=fun x c e=>by
  rcases Je e with z | ⟨z1,z2⟩
  ·simp at z
  ·obtain ⟨c',e'⟩ := xt _ z1 rfl
   rw [z2,e']
   rfl
 have xu:∀ x c,X.env.cells.lookup x = some c -> c < s2.heap.objs.size:=fun x c e=>by
  obtain ⟨v,q⟩ := I2.cell x c e
  exact q.lt
 have xv:∀ b ∈ fp,b < s2.heap.objs.size:=fun b hb=>by
  obtain ⟨o,e,_⟩ := T.obj 0 _ aL b hb
  exact Heap.lt_size e
 have SF:(Ck X (Br X.N bV fr) scope G2.objs.size s2 H2 fp).Ok:=by
  refine ⟨I2.ok.mod,S.kind,I2.ok.glob,I2.ok.blt,hle,fun x y c e1 e2=>I2.ok.inj x y c (kG x c e1) (kG y c e2),fun x hx=>?_,fun x c z _=>absurd z Bool.false_ne_true,I2.ok.hd,I2.ok.frames,.inl rfl,
   fun b hb=>⟨(below b (xv b hb)).1,fun x c e=>(f2 b hb).2.2.2.2.1 x c (kG x c e)⟩,I2.bs,Nat.le_trans I2.ok.nF I2.sz,fun b o e hb=>?_,fun b hb z=>?_,I2.stack,I2.lH⟩
  ·rcases hx with hx | hx
   ·exact F6 (Fv (env:=X.env) S.kE (by decide) (.inl rfl) hx)
   ·exact F6 (Fv (env:=X.env) S.kE (by decide) (.inr rfl) hx)
  ·rcases (f2 b hb).2.2.2.1 with z | z
   ·exact I2.ok.kB b o e z
   ·exact absurd (Nat.lt_of_lt_of_le (Heap.lt_size e) (Nat.le_trans I2.ok.nF z)) (Nat.lt_irrefl _)
  ·rcases List.mem_cons.mp (I2.kD b z) with z | z
   ·exact (f2 b hb).2.1 z
   ·exact (f2 b hb).2.2.1 z
 have I3:Ai (Ck X (Br X.N bV fr) scope G2.objs.size s2 H2 fp) [] (F0 bV.length fr σ) (upd H2 s2.heap.objs.size (.lst [])) { s2 with heap:=h₁,toks:=s2.toks + ([]:List (Str × Value)).length }:=by
  refine ⟨SF,rfl,I2.bare,Un.laid old (Nat.le_refl _) I2.fresh,⟨_,xr,fun i x v e1 e2 e3=>?_⟩,fun x c e=>?_,?_,fun x c e=>?_,fun p hp=>absurd (show p ∈ ([]:List (Addr × Obj)) from hp) (by simp),I2.aF.laid old (Nat.le_refl _) ⟨Nat.zero_le _,[],0,.nil,SE⟩,?_⟩
  ·-- a name of the comprehension that has a value at the start is one of the def's cells
   have hi:bV.length <= i:=by
    refine Nat.le_of_not_lt fun aN=>?_
    unfold F0 at e2
    rw [List.getElem?_append_left (by simpa using aN),List.getElem?_replicate,if_pos aN] at e2
    cases e2
   have PJ:(Cn fr σ)[i - bV.length]? = some (some v):=by
    unfold F0 at e2
    rw [List.getElem?_append_right (by simpa using hi)] at e2
    simpa using e2
   have nK:(fr.map fun j=>(X.N[j]?).getD ⟨#[]⟩)[i - bV.length]? = some x:=by
    have e1:(Br X.N bV fr)[i]? = some x:=e1
    unfold Br at e1
    rw [List.getElem?_append_right hi] at e1
    exact e1
   unfold Cn at PJ
   rw [List.getElem?_map] at nK PJ
   cases ej:fr[i - bV.length]? with
   | none=>rw [ej] at nK; cases nK
   | some j =>
    rw [ej] at nK PJ
    have e1j:(X.N[j]?).getD ⟨#[]⟩ = x:=Option.some.inj nK
    have PK:(σ[j]?).getD none = some v:=Option.some.inj PJ
    have jI:=S.jU j (List.mem_of_getElem? ej)
    cases eN:X.N[j]? with
    | none=>rw [eN] at jI; cases jI
    | some x' =>
     rw [eN] at jI e1j
     have ex:x' = x:=e1j
     subst ex
     have hfx:scope.names.lookup x' = some NameKind.free:=jI
     have hσ:σ[j]? = some (some v):=by
      cases eσ:σ[j]? with
      | none=>rw [eσ] at PK; cases PK
      | some o=>rw [eσ] at PK; exact congrArg some PK
     have bW:=PySem.mem_of_lookup hfx
     have hkc:X.env.scope.names.lookup x' = some NameKind.cell:=by rw [FQ]; exact S.free _ bW rfl
     obtain ⟨m,hn,hl⟩ := I2.loc
     obtain ⟨u,ru,lk⟩ := hl j x' v eN hσ (.inr (.inl hkc))
     refine ⟨u,ru,.inr ⟨?_,?_⟩⟩
     ·have e3:(relabel scope X.env).names.lookup x' = some NameKind.local \/ (relabel scope X.env).names.lookup x' = some NameKind.cell \/ (relabel scope X.env).names.lookup x' = some NameKind.free:=e3
      rcases e3 with z | z | z
      ·exfalso
       have key:∀ (names:List (Str × NameKind)),names.lookup x' = some NameKind.free -> (names.map fun (n,k)=>if (k == NameKind.free && X.env.scope.kind == .function && X.env.kindOf n == some .cell) then (n,NameKind.cell) else (n,k)).lookup x' ≠ some NameKind.local:=by
        intro names
        induction names with
        | nil=>intro h; simp at h
        | cons p r ih =>
         obtain ⟨n,k⟩ := p
         intro h h2
         have h2:List.lookup x' ((if (k == NameKind.free && X.env.scope.kind == .function && X.env.kindOf n == some .cell) = true then (n,NameKind.cell) else (n,k)) :: (r.map fun (n,k)=>if (k == NameKind.free && X.env.scope.kind == .function && X.env.kindOf n == some .cell) then (n,NameKind.cell) else (n,k))) = some NameKind.local:=h2
         rw [List.lookup_cons] at h
         cases hx:x' == n with
         | true =>
          rw [hx] at h
          have ek:k = NameKind.free:=Option.some.inj h
          subst ek
          split at h2
          ·rw [List.lookup_cons,hx] at h2; cases h2
          ·rw [List.lookup_cons,hx] at h2; cases h2
         | false =>
          rw [hx] at h
          split at h2
          ·rw [List.lookup_cons,hx] at h2; exact ih h h2
          ·rw [List.lookup_cons,hx] at h2; exact ih h h2
       exact key scope.names hfx z
      ·exact .inl z
      ·exact .inr z
     ·obtain ⟨c,ec⟩ := F6 (cells:=X.env.cells) (cs:=[]) bW
      rcases lk with ⟨k1,_⟩ | ⟨_,c',ec',ic⟩
      ·have k1:X.env.scope.names.lookup x' = some NameKind.local:=k1
       rw [hkc] at k1; cases k1
      ·have q:=kG _ _ ec
       rw [ec'] at q
       have q':c' = c:=Option.some.inj q
       subst q'
       exact ⟨_,ec,ic.keeps old⟩
  ·obtain ⟨v,q⟩ := I2.cell x c (kG x c e)
   exact ⟨v,q.keeps old⟩
  ·show upd H2 s2.heap.objs.size (.lst []) G2.objs.size = none
   rw [Aa hDC.symm]
   exact I2.aF.fresh hle
  ·rw [Aa (Nat.ne_of_lt (xu x c (kG x c e)))]
   exact I2.bD x c (kG x c e)
  ·unfold F0 Cn
   show _ = (Br X.N bV fr).length
   unfold Br
   simp
 obtain ⟨W,⟨m0,w0⟩,turn⟩ := run
 have stat:∀ {H':Hp},(∀ b ∈ fp,H' b = none) -> ∀ b ∈ fp,Kz (Ck X (Br X.N bV fr) scope G2.objs.size s2 H2 fp) [] H' b:=fun hn b hb =>
  ⟨hn b hb,(below b (xv b hb)).1,SF.kC b hb,.inl hb,(SF.GQ b hb).2,fun p hp=>absurd (show p ∈ ([]:List (Addr × Obj)) from hp) (by simp)⟩
 have PF:∀ b ∈ fp,upd H2 s2.heap.objs.size (.lst []) b = none:=fun b hb=>by rw [Aa (below b (xv b hb)).2]; exact (f2 b hb).1
 have bX:tn 0 h₁:=T.keep 0 _ _ aL fun b _ o e=>old b o e
 have fin:∀ {H3:Hp} {s4:Shared},Ai (Ck X (Br X.N bV fr) scope G2.objs.size s2 H2 fp) [] (F0 bV.length fr σ) H3 s4 -> Qf H3 -> RR (.ref s2.heap.objs.size) G2.objs.size (.ok .next) s4:=fun {H3 s4} I4 q=>by
  obtain ⟨m,hn,_⟩ := id I4.loc
  have ub:Un (jU X.stack) fp H2 H3 s2.heap s4.heap:=I4.base
  refine hRR G2.objs.size H3 s4 (I2.GU (ch:=fp) (s':=s4) I4.os ub I4.aF I4.bare fun b hb=>⟨(f2 b hb).2.2.2.1,(f2 b hb).2.1,(f2 b hb).2.2.2.2.1,(f2 b hb).2.2.2.2.2⟩) (I2.lU hle I4.free) ⟨m,hn⟩ q
 have loop : ∀ s₃ : Shared, s₃ = { s2 with heap := h₁, toks := s2.toks + ([] : List (Str × Value)).length } ->
   codeAny (model X.prog X.w) X.A (.compLoop (.ListComp elt [⟨tg,iter,ifs,0⟩] scope pos) 0 (.ref it) (.ref s2.heap.objs.size) (compEnvC scope (Em X.env.cells scope.names []) G2.objs.size X.env)) (RR (.ref s2.heap.objs.size) G2.objs.size) s₃:=by
  rintro s₃ rfl
  refine Pw (fun n s'=>∃ i ys H',Ai (Ck X (Br X.N bV fr) scope G2.objs.size s2 H2 fp) [] (F0 bV.length fr σ) H' s' /\ tn i s'.heap /\ (∀ b ∈ fp,H' b = none) /\ W i n ys H') ?_ m0 ⟨0,[],_,I3,bX,PF,w0⟩
  rintro n s5 ⟨i,ys,H3,J3,sti,fri,w3⟩
  rcases turn i n ys H3 w3 with ⟨stop,q⟩ | ⟨go,step⟩
  ·refine wpAny_mono (T.done (Ck X (Br X.N bV fr) scope G2.objs.size s2 H2 fp) rfl rfl rfl hc i [] s5 _ H3 (fun _ _=>False) J3 (stat fri) sti stop) (fun r s6 ⟨hr,J4⟩=>?_) (fun _ _ f=>f)
   subst hr
   exact fin J4 q
  ·refine wpAny_mono (T.item (Ck X (Br X.N bV fr) scope G2.objs.size s2 H2 fp) rfl rfl rfl hc i [] s5 _ H3 (fun _ _=>False) J3 (stat fri) sti go) (fun r s6 ⟨u,hr,h6⟩=>?_) (fun _ _ f=>f)
   subst hr
   refine wpAny_mono h6 (fun _ s7 ⟨x,H7,J7,r7,y7,xw,fr7⟩=>?_) (fun _ _ f=>f)
   have J7':=J7.pinned (stat fr7) (T.obj _ _ xw)
   refine wpAny_mono (hg G2.objs.size s2 H2 fp _ s7 _ H7 x u _ J7' r7 (step x H7 y7)) (fun _ s8 ⟨σ8,H8,J8,⟨zs,hz,e8⟩,q8⟩=>?_) (fun _ _ f=>f)
   have again : ∀ {H9 : Hp} {s9 : Shared} {HE : List V}, Ai (Ck X (Br X.N bV fr) scope G2.objs.size s2 H2 fp) ([] ++ Le fp s7.heap) σ8 H9 s9 -> (∃ m', m' < n /\ W (i + 1) m' HE H9) ->
     ∃ m,m < n /\ ∃ i ys H',Ai (Ck X (Br X.N bV fr) scope G2.objs.size s2 H2 fp) [] (F0 bV.length fr σ) H' s9 /\ tn i s9.heap /\ (∀ b ∈ fp,H' b = none) /\ W i m ys H':=fun {H9 s9 HE} J9 ⟨m',hm,w9⟩=>by
    refine ⟨m',hm,i + 1,HE,H9,J9.dW.weak ?_ ?_,T.keep _ _ _ xw fun b hb o e=>(J9.pin (b,o) (List.mem_append_right _ (List.mem_append_right _ (Fo hb e)))).1,fun b hb=>?_,w9⟩
    ·rw [e8]; unfold F0; simp [hz]
    ·intro k v ek
     rw [e8]
     unfold F0 at ek
     by_cases hk:k < bV.length
     ·rw [List.getElem?_append_left (by simpa using hk),List.getElem?_replicate,if_pos hk] at ek
      cases ek
     ·rw [List.getElem?_append_right (by simpa using hk)] at ek
      rw [List.getElem?_append_right (by omega),hz]
      simpa using ek
    ·obtain ⟨o,e,d⟩ := T.obj _ _ xw b hb
     exact (J9.pin (b,o) (List.mem_append_right _ (List.mem_append_right _ (Fo hb e)))).2.1
   refine wpAny_mono (ht G2.objs.size s2 H2 fp _ s8 σ8 H8 _ J8 q8) (fun ok s9 ⟨H9,J9,q9⟩=>?_) (fun _ _ f=>f)
   cases ok with
   | false =>
    rw [if_neg Bool.false_ne_true] at q9 ⊢
    exact again J9 q9
   | true =>
    rw [if_pos rfl] at q9 ⊢
    refine wpAny_mono (he G2.objs.size s2 H2 fp _ s9 σ8 H9 _ J9 q9) (fun y PL ⟨v10,PM,J10,r10,hD,hlen,SG⟩=>?_) (fun _ _ f=>f)
    refine wpAny_mono (Dp (X:=Ck X (Br X.N bV fr) scope G2.objs.size s2 H2 fp) _ PL σ8 PM (.ref s2.heap.objs.size) [v10] (.ref s2.heap.objs.size) [y] (fun _ HH=>HH = upd PM s2.heap.objs.size (.lst (ys ++ [v10]))) J10 rfl (.cons r10 .nil) ⟨_,ys,v10,rfl,rfl,hD,hlen,rfl⟩) (fun _ s11 ⟨_,HH,J11,_,e11⟩=>?_) (fun _ _ f=>f)
    subst e11
    exact again J11 SG
 exact codeAny_compStart_list (loop _ rfl) (T.self _ 0 _ _ _ bX (loop _ rfl))
theorem En (hi : PI X tg iter wi) (sc : Scope) (FQ : X.env.scope = sc) (S : Cz sc scope X.N bV fr) (hc : X.calm = true) (nL : closureFor scope X.env = pure (Em X.env.cells scope.names []))
  (hg:∀ C s2 H2 fp,PG (Ck X (Br X.N bV fr) scope C s2 H2 fp) tg g) (ht:∀ C s2 H2 fp,kj (Ck X (Br X.N bV fr) scope C s2 H2 fp) ifs tt) (he:∀ C s2 H2 fp,PE (Ck X (Br X.N bV fr) scope C s2 H2 fp) elt te)
  (hs:∀ x,foldedSetIterable iter X.env x = pure x:=by intro _; rfl):PE X (.ListComp elt [⟨tg,iter,ifs,0⟩] scope pos) (kg bV.length fr wi g tt te):=by
 intro pins s σ H Q I h
 rw [eval_ListComp]
 refine wpAny_comprehension_free (use:=none) rfl hs nL S.kind S.loc (wpAny_mono (hi pins s σ H _ I h) (fun v s1 h1=>wpAny_mono h1 (fun PD s2 h2=>?_) fun _ _ e=>e) fun _ _ e=>e)
 obtain ⟨it,fp,tn,J,H2,e,I2,T,aL,f2,R2⟩ := h2
 subst e
 refine Oh (RR:=fun acc C=>compPost (model X.prog X.w) X.A X.xe none (EP X pins σ Q) acc C) FQ S hc hg ht he I2 T aL f2 (R2 _ I2.fresh) ?_
 intro C H3 s4 I4 fC ⟨m,hn⟩ q
 refine ⟨m,hn,fun h' HJ=>⟨.ref s2.heap.objs.size,H3,?_,rfl,q⟩⟩
 obtain ⟨hh,gg,dd,SH,oo⟩ := s4
 exact I4.turned (h':=h') (t':=SH) (it:=C) (fun b o hb e=>HJ.extBut b o hb e) fC.1 fC.2.1 fC.2.2.2.1 fC.2.2.2.2.1 fC.2.2.2.2.2
theorem Ee {i : Nat} {y : Str} {py HK : Pos} (hN : X.N.Nodup) (hiy : X.N[i]? = some y) (hi : PI X tg iter wi) (sc : Scope) (FQ : X.env.scope = sc) (S : Cz sc scope X.N bV fr) (hc : X.calm = true)
  (nL:closureFor scope X.env = pure (Em X.env.cells scope.names []))
  (hg:∀ C s2 H2 fp,PG (Ck X (Br X.N bV fr) scope C s2 H2 fp) tg g) (ht:∀ C s2 H2 fp,kj (Ck X (Br X.N bV fr) scope C s2 H2 fp) ifs tt) (he:∀ C s2 H2 fp,PE (Ck X (Br X.N bV fr) scope C s2 H2 fp) elt te)
  (hy:X.env.scope.names.lookup y = some NameKind.local)
  (hsw:swapsWith (.ListComp elt [⟨tg,iter,ifs,0⟩] scope pos) (some (.Name y py)) HK.line X.env = pure true)
  (hs:∀ x,foldedSetIterable iter X.env x = pure x:=by intro _; rfl) :
  PS X (.Assign [.Name y py] (.ListComp elt [⟨tg,iter,ifs,0⟩] scope pos) HK) (Z7 bV.length fr wi g tt te i):=by
 intro pins s σ H D I h
 rw [exec_Assign_Name_used _ _ _ _ hsw]
 refine wpAny_bind (wpAny_standAt (wpAny_bind ?_))
 show wpAny _ X.A (do let _ <- comprehension (.ListComp elt [⟨tg,iter,ifs,0⟩] scope pos) scope X.env _ (newList []) false (eval iter X.env) (some (assign (.Name y py) X.env))) _ _ s
 refine wpAny_bind (wpAny_mono (wpAny_comprehension_free (use:=some (assign (.Name y py) X.env)) (Q:=fun _ s'=>SP X pins D .next s') rfl hs nL S.kind S.loc
  (wpAny_mono (hi pins s σ H _ I h) (fun v s1 h1=>wpAny_mono h1 (fun PD s2 h2=>?_) fun _ _ e=>e) fun _ _ e=>e)) (fun _ s' hq=>wpAny_pure (wpAny_pure hq)) fun _ _ e=>e)
 obtain ⟨it,fp,tn,J,H2,e,I2,T,aL,f2,R2⟩ := h2
 subst e
 refine Oh (RR:=fun acc C=>compPost (model X.prog X.w) X.A X.xe (some (assign (.Name y py) X.env)) (fun _ s'=>SP X pins D .next s') acc C) FQ S hc hg ht he I2 T aL f2 (R2 _ I2.fresh) ?_
 intro C H3 s4 I4 fC ⟨m,hn⟩ q
 refine wpAny_assign_Name (N1 (v := .ref s2.heap.objs.size) I4 hN hiy (.inl hy) rfl (fun s5 I5 ⟨a,hsb,ha⟩=>?_) (.inr hy))
 have SI:C ≠ a:=by
  rcases ha with z | z
  ·rw [z]; exact fC.2.1
  ·exact fun z2=>fC.2.2.2.2.1 y a z z2.symm
 refine ⟨m,hn.sameBut hsb SI,fun h' HJ=>⟨_,H3,?_,q⟩⟩
 obtain ⟨hh,gg,dd,SH,oo⟩ := s5
 exact I5.turned (h':=h') (t':=SH) (it:=C) (fun b o hb e=>HJ.extBut b o hb e) fC.1 fC.2.1 fC.2.2.2.1 fC.2.2.2.2.1 fC.2.2.2.2.2
end
open PySem.Builtin.Int (intBits)
section
variable {X:Cx}
theorem Vn:K6 X (binaryOp .Mult) (rI IntMulOk fun i j=>.int (i * j)):=qq fun _ _ _ _ _ _ _ hc q=>mul_int q hc
end
theorem d7 {a b:Int} {m n:Nat} (ha:intBits a <= m) (hb:intBits b <= n) (h:m + n <= 134217728):IntMulOk a b:=PyProof.Rows.mulOk_of_bits ha hb h
theorem Ts {a:Int} (h1 : -(2 ^ 64) < a) (h2:a < 2 ^ 64):intBits a <= 64:=intBits_le_64 h1 h2
def bg (T C:String):Option Bool:=if (Value.type T == Value.type C) = true then some true else if PySem.W.kitMeta C = true then (fastBuiltinMro T).map (·.contains (Value.type C)) else none
theorem Zs (K:PySem.W.Frag) (T C:String):PySem.W.kitOne K (.type T) (.type C) = bg T C:=rfl
theorem Ml:bg "tuple" "tuple" = some true:=by decide +kernel
theorem Pl:bg "list" "list" = some true:=by decide +kernel
section
variable {X:Cx}
def lv (K:PySem.W.Frag):List V -> Hp -> VK -> Prop:=fun xs H Q=>∃ x T C b,xs = [x,.ty C] /\ Jr K H x (.type T) /\ bg T C = some b /\ Q (.bl b) H
theorem Zq:Dy X (.builtin "isinstance") (lv X.K):=by
 intro pins s σ H xs us Q I r h
 obtain ⟨x,T,C,b,rfl,ty,e,q⟩ := h
 obtain ⟨u,w',rfl,rx,rc⟩ := dn r
 obtain rfl:w' = Value.type C:=rc
 exact Wt I rx ty ((Zs X.K T C).trans e) fun tk=>⟨.bl b,H,I.tok _,rfl,q⟩
theorem du {x:Str} {T:String} {pos:Pos} (hg:Gl X x) (hm:X.mg x = none) (hv:bootBuiltins x = some (.type T)) (hn:x ≠ "__name__" := by decide) (hd:(x == ("__debug__" : Str)) = false:=by decide):PE X (.Name x pos) (tC (.ty T)) :=
 b6 hg hm hv rfl hn hd
end
mutual
def Rp (H:Hp):PyData -> V -> Prop
 | .none,v=>v = .aR
 | .bool b,v=>v = .bl b
 | .int i,v=>v = .int i
 | .tuple ds,v=>∃ a xs,v = .ref a /\ H a = some (.tup xs) /\ aG H ds xs
 | .list ds,v=>∃ a xs,v = .ref a /\ H a = some (.lst xs) /\ aG H ds xs
 | .str x,v=>v = .str x /\ PyData.strOk x = true
 | .dict _,_=>False
def aG (H:Hp):List PyData -> List V -> Prop
 | [],vs=>vs = []
 | d :: ds,vs=>∃ x xs,vs = x :: xs /\ Rp H d x /\ aG H ds xs
end
mutual
theorem Cs {H:Hp}:∀ (d:PyData) (v:V),Rp H d v -> d.canLay0 = true
 | .none,_,_=>rfl
 | .bool _,_,_=>rfl
 | .int _,_,_=>rfl
 | .tuple ds,_,h=>by
  unfold Rp at h
  obtain ⟨a,xs,_,_,h⟩ := h
  exact eQ ds xs h
 | .list ds,_,h=>by
  unfold Rp at h
  obtain ⟨a,xs,_,_,h⟩ := h
  exact eQ ds xs h
 | .str x,v,h=>by
  unfold Rp at h
  exact h.2
 | .dict _,_,h=>by unfold Rp at h; exact h.elim
theorem eQ {H:Hp}:∀ (ds:List PyData) (vs:List V),aG H ds vs -> PyData.canLayAll0 ds = true
 | [],_,_=>rfl
 | d :: ds,vs,h=>by
  unfold aG at h
  obtain ⟨x,xs,_,h1,h2⟩ := h
  show (d.canLay0 && PyData.canLayAll0 ds) = true
  rw [Cs d x h1,eQ ds xs h2]
  rfl
end
section
variable {X:Cx} {pins:List (Addr × Obj)} {σ:St} {H:Hp} {s:Shared}
mutual
theorem Cr (I:Ai X pins σ H s):∀ (d:PyData) (v:V) (u:Value),Rp H d v -> Av v u -> ∃ as,Reads s.heap u d as
 | .none,v,u,h,r=>by
  unfold Rp at h
  subst h
  cases r
  exact ⟨_,.none⟩
 | .bool b,v,u,h,r=>by
  unfold Rp at h
  subst h
  cases r
  exact ⟨_,.bool b⟩
 | .int i,v,u,h,r=>by
  unfold Rp at h
  subst h
  obtain ⟨t,rfl⟩ := r
  exact ⟨_,.int i t⟩
 | .tuple ds,v,u,h,r=>by
  unfold Rp at h
  obtain ⟨a,xs,rfl,ha,h⟩ := h
  cases r
  obtain ⟨_,aD,rv,p⟩ := I.aF a _ ha
  obtain ⟨o,h1,h2,n,h3⟩ := p
  obtain ⟨as,q⟩ := cD I ds xs aD h rv
  exact ⟨_,.tuple h1 h2 h3 (by simpa using q)⟩
 | .list ds,v,u,h,r=>by
  unfold Rp at h
  obtain ⟨a,xs,rfl,ha,h⟩ := h
  cases r
  obtain ⟨_,aD,n,rv,p⟩ := I.aF a _ ha
  obtain ⟨as,q⟩ := cD I ds xs aD h rv
  exact ⟨_,.list p rfl rfl (by simpa using q)⟩
 | .str x,v,u,h,r=>by
  unfold Rp at h
  obtain ⟨rfl,_⟩ := h
  obtain ⟨t,rfl⟩ := r
  exact ⟨_,.str x t⟩
 | .dict _,_,_,h,_=>by unfold Rp at h; exact h.elim
theorem cD (I:Ai X pins σ H s):∀ (ds:List PyData) (vs:List V) (us:List Value),aG H ds vs -> Aw vs us -> ∃ as,ReadsAll s.heap us ds as
 | [],vs,us,h,r=>by
  unfold aG at h
  subst h
  cases r
  exact ⟨_,.nil⟩
 | d :: ds,vs,us,h,r=>by
  unfold aG at h
  obtain ⟨x,xs,rfl,h1,h2⟩ := h
  cases r with
  | cons r1 r2 =>
   obtain ⟨as,q1⟩ := Cr I d x _ h1 r1
   obtain ⟨bs,q2⟩ := cD I ds xs _ h2 r2
   exact ⟨_,.cons q1 q2⟩
end
end
section
variable {X:Cx} {k:Nat}
def rg (neg:Bool):R2:=fun x y H Q=>∃ d e:PyData,Rp H d x /\ Rp H e y /\ d.depth <= 60 /\ Q (.bl (if neg then !PyData.eqv d e else PyData.eqv d e)) H
theorem Tr (hr:Cq k X.A):K6 X (compareOp .Eq) (rg false):=by
 intro pins s σ H x y v u Q I rx ry h
 obtain ⟨d,e,h1,h2,hd,q⟩ := h
 obtain ⟨as,q1⟩ := Cr I d x v h1 rx
 obtain ⟨bs,q2⟩ := Cr I e y u h2 ry
 have hu:=hr.units
 exact PySem.SeqAt.compareEq_reads q1 q2 (Cs d x h1) (Cs e y h2) (by omega) ⟨.bl (PyData.eqv d e),H,I,rfl,q⟩
end
theorem Q0 {H:Hp}:∀ ns:List Int,aG H (ns.map PyData.int) (ns.map V.int)
 | []=>by unfold aG; rfl
 | n :: ns=>by
  show aG H (PyData.int n :: ns.map PyData.int) (V.int n :: ns.map V.int)
  unfold aG
  exact ⟨_,_,rfl,by unfold Rp; rfl,Q0 ns⟩
theorem A9.new {H H':Hp} {p:Addr} {o:HO} (e:A9 H H') (h:H p = none):A9 H (upd H' p o):=fun b u q=>by
 rw [Aa (Ad q h)]
 exact e b u q
theorem A9.upd {H:Hp} {p:Addr} {o:HO} (h:H p = none):A9 H (upd H p o):=(A9.refl H).new h
theorem nM {l : PySem.W.OpenLaw} {n k : Nat} {q : Program} {loose : List Str} {XP : (Str -> Option Value) -> Heap -> Prop} {YP : World -> Heap -> Prop} {d : DefRec} {K : Params -> PySem.W.Frag} {CX : World -> Xl} {sp : World -> Sp} {x : Str}
  (hn:l.most = some n) (sV:n <= sizeLine) (SJ:d.params.defaults = []) (hr:Cq k callerA)
  (hY:∀ (w:World) (h:Heap),YP w h -> (K w.params).In h)
  (F:∀ (w:World) (mg:Str -> Option Value) (fa:Addr) (h:Heap),(K w.params).In h -> h.Ns mainGlobals mg -> mg d.name = some (.ref fa) ->
   ∃ fd:FuncData,(∀ (s:Shared) (u:Value),BindsTo s fd ⟨[u],[]⟩ [(x,u)]) /\
    ∀ base:Heap,(K w.params).In base -> base.Ns mainGlobals mg -> Af l.prog w (K w.params) mg base (CX w) k fa fd [x] (sp w))
  (sD:∀ (w:World) (H:Hp) (a:Addr) (ns:List Int),ns.length <= n -> (∀ z ∈ ns,intBits z <= 2 ^ 20) -> k0 H -> Bg (K w.params) H a (ns.map V.int) -> sp w [.ref a] H (fun v _=>v = .bl true) fun _ _ _=>False)
  (RY:∀ (w:World) (H:Hp) (s:Shared) (e:Value) (s':Shared),CX w [] H s (fun _ _ _=>False) e s' -> False) :
  PySem.W.WalkO q loose XP YP l.row.toRowW d [] (fun f vs=>PySem.call f vs):=by
 intro w s₀ s₁ mg mb G Y fa o pm cd doc dV kV ho hd nG hD hmg hg args vals as sY SK hrd FP hlo
 obtain rfl:dV = .none:=PySem.W.Dflts.none hD SJ
 obtain rfl:kV = .none:=PySem.W.Dflts.noKw hD
 obtain ⟨a,vs,ns,rfl,rfl,SM,hints,hlen⟩ := Att.lX hn sY FP
 have big:∀ z ∈ ns,intBits z <= 2 ^ 20:=fun z hz=>by
  have l1:=(PySem.W.layW_cons SK).1
  have l2:=PySem.W.layableW_item l1 (.int z) (List.mem_map.mpr ⟨z,hz,rfl⟩)
  have l3:=(PySem.W.layableW_iff.mp l2).2.2
  simpa only [PySem.W.WData.weight,Builtin.Int.intBits] using l3
 have KX:=hY w _ Y
 obtain ⟨fd,hb,hF⟩ := F w mg fa _ KX G.T.g hmg
 refine PySem.W.enter_call (codeAny_mono (Y3 KX G.T.g G.T.b G.T.builtins G.T.nolimit hg SM hints (Nat.le_trans hlen sV) hr hF hb (fun H hO hS=>sD w H a ns hlen big hO hS) fun H e s'=>RY w H s₁ e s') fun r s' hq=>?_)
 obtain ⟨rfl,h2,h3,h4⟩ := hq
 exact ⟨.inl ⟨.bool true,.bool true,[],rfl,fun _=>rfl,.bool true,Att.lY l _,fun _=>⟨List.Pairwise.nil,fun _ hm=>(nomatch hm)⟩⟩,h2,h3,h4⟩
section
variable {X:Cx} {tg:Expr}
def qt (K:PySem.W.Frag):R2:=fun x y H Q=>∃ p xs i v,x = .ref p /\ y = .int i /\ (Bg K H p xs \/ Bw K H p xs) /\ Ux xs i = some v /\ Q v H
theorem B9 (K:PySem.W.Frag) (hK:X.K = K:=by rfl):pd X (qt K):=by
 subst hK
 intro value slice pins s σ H x y v u Q I rx ry h hs
 obtain ⟨p,xs,i,z,e1,e2,h | h,ea,q⟩ := h
 ·exact bh value slice pins s σ H x y v u Q I rx ry ⟨p,xs,i,z,e1,e2,h,ea,q⟩ hs
 ·exact ez value slice pins s σ H x y v u Q I rx ry ⟨p,xs,i,z,e1,e2,h,ea,q⟩ hs
def pi (K:PySem.W.Frag):List V -> Hp -> VK -> Prop:=fun xs H Q=>∃ p ys,xs = [.ref p] /\ (Bg K H p ys \/ Bw K H p ys) /\ Q (.int ys.length) H
theorem Bz (K:PySem.W.Frag) (hK:X.K = K:=by rfl):Dy X (.builtin "len") (pi K):=by
 subst hK
 exact Pt
theorem Nx (K:PySem.W.Frag) (hK:X.K = K:=by rfl):Dy X (.builtin "isinstance") (lv K):=by
 subst hK
 exact Zq
theorem jv (K:PySem.W.Frag) (hK:X.K = K:=by rfl):K6 X (compareOp .In) (ul K false):=by
 subst hK
 exact Xc
theorem Qc (K:PySem.W.Frag) (hK:X.K = K:=by rfl):qx X (nv K):=by
 subst hK
 exact cx
theorem De (K : PySem.W.Frag) {es : List Expr} {kk : Nat} {t : b9} {n : Nat} {pos : Pos} (hc : X.calm = true) (h : o5 X es t) (hK : X.K = K := by rfl)
  (hn:(assignEach es X.env).length = n:=by rfl) (bQ:(assignEach es X.env).findIdx? (·.1) = none:=by rfl):PG X (.Tuple es kk pos) (ai K n t):=by
 subst hK
 exact ip hc h hn bQ
def Ra (K:PySem.W.Frag) (tl:TE):TI:=fun σ H R=>tl σ H fun x H1=>∃ a,x = .ref a /\ (((∃ xs,Bg K H1 a xs) /\ R (dr K a) H1) \/ ((∃ xs,Bw K H1 a xs) /\ R (ka K a) H1))
theorem E3 {l:Expr} {tl:TE} (hl:PE X l tl):PI X tg l (Ra X.K tl):=by
 intro pins s σ H R I h
 refine C9 (hl pins s σ H _ I h) fun v s1 aV=>?_
 obtain ⟨x,H1,I1,r1,q1⟩ := aV
 obtain ⟨a,e,q1⟩ := q1
 subst e
 cases r1
 rcases q1 with ⟨⟨xs,hq⟩,q⟩ | ⟨⟨xs,hq⟩,q⟩
 ·obtain ⟨aD,rv,p,hz⟩ := I1.list hq
  refine wpAny_pyIter_list p.isList ?_
  refine ⟨s1.heap.objs.size,[s1.heap.objs.size],_,_,H1,rfl,I1.kept (t':=s1.toks) fun b o e=>Heap.get?_push_of_some _ e,Wc a _,⟨_,Heap.get?_push_size _ rfl,rfl,rfl⟩,fun b hb=>?_,q⟩
  have e:b = s1.heap.objs.size:=by simpa using hb
  subst e
  exact I1.lU (Nat.le_refl _) (I1.aF.fresh (Nat.le_refl _))
 ·obtain ⟨aD,rv,p,hz⟩ := I1.tuple hq
  refine wpAny_pyIter_tuple (show s1.heap.IsTuple a aD.toArray from p) ?_
  refine ⟨s1.heap.objs.size,[s1.heap.objs.size],_,_,H1,rfl,I1.kept (t':=s1.toks) fun b o e=>Heap.get?_push_of_some _ e,Tw a _,⟨_,Heap.get?_push_size _ rfl,rfl,rfl⟩,fun b hb=>?_,q⟩
  have e:b = s1.heap.objs.size:=by simpa using hb
  subst e
  exact I1.lU (Nat.le_refl _) (I1.aF.fresh (Nat.le_refl _))
end
theorem Fu {fr : List Nat} {te : TE} {σ : St} {D : Addr} {H1 : Hp} {Q : Hp -> Prop} {lo : Int} {cnt : Nat} (Pv : Nat -> List V -> Hp -> Prop) (h0 : Pv 0 [] (upd H1 D (.lst [])))
  (hs:∀ i ys H,i < cnt -> Pv i ys H -> ∀ Qe:VK,(∀ y H5,H5 D = some (.lst ys) -> ys.length < sizeLine -> Pv (i + 1) (ys ++ [y]) (upd H5 D (.lst (ys ++ [y]))) -> Qe y H5) -> te (some (.int (lo + i)) :: Cn fr σ) H Qe)
  (hd:∀ ys H,Pv cnt ys H -> Q H):Dd 1 fr (cj lo cnt) (F5 0) Mu te σ D H1 Q:=by
 refine ⟨fun i m ys H=>m = cnt - i /\ i <= cnt /\ Pv i ys H,⟨cnt,by simp,Nat.zero_le _,h0⟩,?_⟩
 rintro i m ys H' ⟨rfl,hi,p⟩
 by_cases aN:i < cnt
 ·refine .inr ⟨aN,fun x H2 y=>?_⟩
  obtain ⟨e,y⟩ := y
  subst e y
  refine ⟨⟨[some (.int (lo + i))],rfl,rfl⟩,?_⟩
  simp only [Mu,↓reduceIte]
  exact hs i ys _ aN p _ fun y H5 hD hz pv=>⟨hD,hz,cnt - (i + 1),by omega,rfl,aN,pv⟩
 ·have e:i = cnt:=by omega
  subst e
  exact .inl ⟨Nat.le_refl _,hd ys H' p⟩
theorem W0 {K : PySem.W.Frag} {a : Addr} {xs : List V} {fr : List Nat} {te : TE} {σ : St} {D : Addr} {H1 : Hp} {Q : Hp -> Prop} (Pv : Nat -> List V -> Hp -> Prop) (h0 : Pv 0 [] (upd H1 D (.lst [])))
  (hl:∀ i ys H,i <= xs.length -> Pv i ys H -> Bg K H a xs)
  (hs:∀ i x ys H,xs[i]? = some x -> Pv i ys H -> ∀ Qe:VK,(∀ y H5,H5 D = some (.lst ys) -> ys.length < sizeLine -> Pv (i + 1) (ys ++ [y]) (upd H5 D (.lst (ys ++ [y]))) -> Qe y H5) -> te (some x :: Cn fr σ) H Qe)
  (hd:∀ ys H,Pv xs.length ys H -> Q H):Dd 1 fr (dr K a) (F5 0) Mu te σ D H1 Q:=by
 refine ⟨fun i m ys H=>m = xs.length - i /\ i <= xs.length /\ Pv i ys H,⟨xs.length,by simp,Nat.zero_le _,h0⟩,?_⟩
 rintro i m ys H' ⟨rfl,hi,p⟩
 have q:=hl i ys H' hi p
 by_cases aN:i < xs.length
 ·refine .inr ⟨⟨xs,xs[i],q,by simp [aN]⟩,fun x H2 y=>?_⟩
  obtain ⟨e,y⟩ := y
  subst e
  refine ⟨⟨[some x],rfl,rfl⟩,?_⟩
  simp only [Mu,↓reduceIte]
  exact hs i x ys _ (y xs q) p _ fun y H5 hD hz pv=>⟨hD,hz,xs.length - (i + 1),by omega,rfl,aN,pv⟩
 ·have e:i = xs.length:=by omega
  subst e
  exact .inl ⟨⟨xs,q,Nat.le_refl _⟩,hd ys H' p⟩
theorem Xn {K : PySem.W.Frag} {a : Addr} {xs : List V} {fr : List Nat} {te : TE} {σ : St} {D : Addr} {H1 : Hp} {Q : Hp -> Prop} (Pv : Nat -> List V -> Hp -> Prop) (h0 : Pv 0 [] (upd H1 D (.lst [])))
  (hl:∀ i ys H,i <= xs.length -> Pv i ys H -> Bw K H a xs)
  (hs:∀ i x ys H,xs[i]? = some x -> Pv i ys H -> ∀ Qe:VK,(∀ y H5,H5 D = some (.lst ys) -> ys.length < sizeLine -> Pv (i + 1) (ys ++ [y]) (upd H5 D (.lst (ys ++ [y]))) -> Qe y H5) -> te (some x :: Cn fr σ) H Qe)
  (hd:∀ ys H,Pv xs.length ys H -> Q H):Dd 1 fr (ka K a) (F5 0) Mu te σ D H1 Q:=by
 refine ⟨fun i m ys H=>m = xs.length - i /\ i <= xs.length /\ Pv i ys H,⟨xs.length,by simp,Nat.zero_le _,h0⟩,?_⟩
 rintro i m ys H' ⟨rfl,hi,p⟩
 have q:=hl i ys H' hi p
 by_cases aN:i < xs.length
 ·refine .inr ⟨⟨xs,xs[i],q,by simp [aN]⟩,fun x H2 y=>?_⟩
  obtain ⟨e,y⟩ := y
  subst e
  refine ⟨⟨[some x],rfl,rfl⟩,?_⟩
  simp only [Mu,↓reduceIte]
  exact hs i x ys _ (y xs q) p _ fun y H5 hD hz pv=>⟨hD,hz,xs.length - (i + 1),by omega,rfl,aN,pv⟩
 ·have e:i = xs.length:=by omega
  subst e
  exact .inl ⟨⟨xs,q,Nat.le_refl _⟩,hd ys H' p⟩
def Jt (ns:List Int) (k:Int):Int:=(ns[k.toNat]?).getD 0
theorem ag {ns:List Int} {k:Int} (h0:0 <= k) (h:k < ns.length):Ux (ns.map V.int) k = some (.int (Jt ns k)):=by
 obtain ⟨j,rfl⟩ : ∃ j:Nat,k = j:=⟨k.toNat,by omega⟩
 have hj:j < ns.length:=by omega
 refine Ij ?_
 unfold Jt
 rw [List.getElem?_map,Int.toNat_natCast,List.getElem?_eq_getElem hj]
 rfl
theorem We {ns:List Int} {k:Int} (h0:0 <= k) (h:¬ k < ns.length):Jt ns k = 0:=by
 unfold Jt
 rw [List.getElem?_eq_none (by omega)]
 rfl
theorem Bw.same {K:PySem.W.Frag} {H H':Hp} {a:Addr} {xs:List V} (e:A9 H H') (h:Bw K H a xs):Bw K H' a xs:=by
 rcases h with (h | ⟨o,h⟩) | h
 ·exact .inl (.inl (e _ _ h))
 ·exact .inl (.inr ⟨o,e _ _ h⟩)
 ·exact .inr h
theorem Nh {c:Bool} {A B:Prop} (hc:c = true) (h:A):if c = true then A else B:=by rw [if_pos hc]; exact h
theorem Ek {c:Bool} {A B:Prop} (hc:c = false) (h:B):if c = true then A else B:=by rw [if_neg (by rw [hc]; exact Bool.false_ne_true)]; exact h
theorem Bm {xs:List V} (h:xs.length <= 1000:=by simp):xs.length <= sizeLine:=Nat.le_of_lt (Bj h)
theorem Uw {n:Nat} (h:n <= 1000):n <= sizeLine:=Nat.le_of_lt (Bj h)
def dT (ws:List Int):PyData := .tuple (ws.map PyData.int)
def dL (ws:List Int):PyData := .list (ws.map PyData.int)
def dP (d e:PyData):PyData := .tuple [d,e]
def dO:Option Int -> PyData
 | none=>.none
 | some i=>.int i
def vO:Option Int -> V
 | none=>.aR
 | some i=>.int i
theorem Q9 {H:Hp} (i:Int):Rp H (.int i) (.int i):=by unfold Rp; rfl
theorem Zh {H:Hp}:Rp H .none .aR:=by unfold Rp; rfl
theorem mm {H:Hp} (b:Bool):Rp H (.bool b) (.bl b):=by unfold Rp; rfl
theorem df {H:Hp} {t:Addr} {ws:List Int} (h:H t = some (.tup (ws.map V.int))):Rp H (dT ws) (.ref t):=by
 unfold dT Rp
 exact ⟨t,_,rfl,h,Q0 ws⟩
theorem V8 {H:Hp} {t:Addr} {ws:List Int} (h:H t = some (.lst (ws.map V.int))):Rp H (dL ws) (.ref t):=by
 unfold dL Rp
 exact ⟨t,_,rfl,h,Q0 ws⟩
theorem Za {H:Hp} {p:Addr} {d e:PyData} {x y:V} (h:H p = some (.tup [x,y])) (hd:Rp H d x) (he:Rp H e y):Rp H (dP d e) (.ref p):=by
 unfold dP Rp
 refine ⟨p,_,rfl,h,?_⟩
 unfold aG
 refine ⟨x,_,rfl,hd,?_⟩
 unfold aG
 refine ⟨y,_,rfl,he,?_⟩
 unfold aG
 rfl
theorem Ev:∀ ws:List Int,PyData.depthAll (ws.map PyData.int) = 0
 | []=>rfl
 | w :: ws=>by
  show max (PyData.depth (.int w)) (PyData.depthAll (ws.map PyData.int)) = 0
  rw [Ev ws]
  rfl
theorem Zp (ws:List Int):(dT ws).depth = 1:=by
 show PyData.depthAll (ws.map PyData.int) + 1 = 1
 rw [Ev]
theorem S9 (ws:List Int):(dL ws).depth = 1:=by
 show PyData.depthAll (ws.map PyData.int) + 1 = 1
 rw [Ev]
theorem Rn (d e:PyData):(dP d e).depth = max d.depth e.depth + 1:=by
 show max d.depth (max e.depth 0) + 1 = _
 rw [Nat.max_zero]
theorem Dw:∀ xs ys:List Int,PyData.eqvAll (xs.map PyData.int) (ys.map PyData.int) = decide (xs = ys)
 | [],[]=>rfl
 | x :: xs,y :: ys=>by
  show (PyData.eqv (.int x) (.int y) && PyData.eqvAll (xs.map PyData.int) (ys.map PyData.int)) = _
  rw [Dw xs ys]
  show ((x == y) && decide (xs = ys)) = _
  by_cases h1:x = y <;> by_cases h2:xs = ys <;> simp [h1,h2]
 | [],_ :: _=>rfl
 | _ :: _,[]=>rfl
theorem Yj (xs ys:List Int):PyData.eqv (dT xs) (dT ys) = decide (xs = ys):=Dw xs ys
theorem Xx (xs ys:List Int):PyData.eqv (dL xs) (dL ys) = decide (xs = ys):=Dw xs ys
theorem gw (a b c d:PyData):PyData.eqv (dP a b) (dP c d) = (PyData.eqv a c && PyData.eqv b d):=by
 show (PyData.eqv a c && (PyData.eqv b d && true)) = _
 rw [Bool.and_true]
section
variable {X:Cx} {pins:List (Addr × Obj)} {σ:St} {H:Hp} {s:Shared} {h':Heap}
theorem Ai.jJ {ch : List Addr} {T : Addr} {o : HO} {t' : Nat} (I : Ai X pins σ H s) (gI : ∀ b ∈ ch, Kz X pins H b) (k : ∀ b ob, b ∉ ch -> s.heap.get? b = some ob -> h'.get? b = some ob)
  (hT:s.heap.objs.size <= T) (new:Bo X.prog X.w (upd H T o) h' T o):Ai X pins σ (upd H T o) { s with heap:=h',toks:=t' }:=by
 have hn:H T = none:=I.aF.fresh hT
 have off:∀ b u,H b = some u -> b ∉ ch:=fun b u e hb=>by
  have z:=(gI b hb).1
  rw [e] at z
  cases z
 refine I.call (g':=s.gens) (d':=s.drawn) (t':=t') (ch:=ch) ⟨fun b ob e _ _ hc=>k b ob hc e,fun b ob e _ _ hc=>⟨ob.slots,k b ob hc e⟩,fun b ob e n hc=>?_,fun b ob e hc=>⟨ob,k b ob hc e⟩,fun b xs e=>?_,fun b ob u e=>?_,fun b ps e=>⟨#[],?_⟩⟩ (fun b u e=>?_) I.bare
  (fun b hb=>⟨(gI b hb).2.2.2.1,(gI b hb).2.1,(gI b hb).2.2.2.2.1,(gI b hb).2.2.2.2.2⟩)
 ·rw [Aa (Nat.ne_of_lt (Nat.lt_of_lt_of_le (Heap.lt_size e) hT))]
  exact n
 ·rw [Aa (Ad e hn)]
  exact e
 ·rw [Aa (Ad e hn)]
  exact e
 ·rw [Aa (Ad e hn),e]
  simp
 ·by_cases hb:b = T
  ·subst hb
   rw [A5] at e
   cases e
   exact new
  ·rw [Aa hb] at e
   refine (I.aF b u e).fM (fun c v hc q=>k c v ?_ q) (fun c q=>?_) fun c xs q=>?_
   ·rcases hc with rfl | hc
    ·exact off _ _ e
    ·exact off _ _ hc
   ·rw [Aa (Ad q hn)]
    exact q
   ·rw [Aa (Ad q hn)]
    exact q
theorem Ai.jK {ch:List Addr} {t':Nat} (I:Ai X pins σ H s) (gI:∀ b ∈ ch,Kz X pins H b) (k:∀ b ob,b ∉ ch -> s.heap.get? b = some ob -> h'.get? b = some ob):Ai X pins σ H { s with heap:=h',toks:=t' }:=by
 have off:∀ b u,H b = some u -> b ∉ ch:=fun b u e hb=>by
  have z:=(gI b hb).1
  rw [e] at z
  cases z
 refine I.call (g':=s.gens) (d':=s.drawn) (t':=t') (ch:=ch) ⟨fun b ob e _ _ hc=>k b ob hc e,fun b ob e _ _ hc=>⟨ob.slots,k b ob hc e⟩,fun b ob e n hc=>n,fun b ob e hc=>⟨ob,k b ob hc e⟩,fun b xs e=>e,fun b ob u e=>e,fun b ps e=>⟨#[],by rw [e]; simp⟩⟩ (fun b u e=>?_) I.bare
  (fun b hb=>⟨(gI b hb).2.2.2.1,(gI b hb).2.1,(gI b hb).2.2.2.2.1,(gI b hb).2.2.2.2.2⟩)
 refine (I.aF b u e).fM (fun c v hc q=>k c v ?_ q) (fun c q=>q) fun c xs q=>q
 rcases hc with rfl | hc
 ·exact off _ _ e
 ·exact off _ _ hc
end
def vo (K:PySem.W.Frag) (l1 l2:Addr):It :=
 ⟨fun i H=>∃ xs ys x y,Bg K H l1 xs /\ Bg K H l2 ys /\ xs[i]? = some x /\ ys[i]? = some y,
  fun i H v H'=>∃ T x y,v = .ref T /\ H T = none /\ H' = upd H T (.tup [x,y]) /\ (∀ xs,Bg K H l1 xs -> xs[i]? = some x) /\ ∀ ys,Bg K H l2 ys -> ys[i]? = some y,
  fun i H=>∃ xs ys,Bg K H l1 xs /\ Bg K H l2 ys /\ (xs.length <= i \/ ys.length <= i)⟩
section
variable {X:Cx}
def vt (K:PySem.W.Frag) (ta:TA):TI:=fun σ H R=>ta σ H fun vs H1=>∃ a b,vs = [.ref a,.ref b] /\ (∃ xs,Bg K H1 a xs) /\ (∃ ys,Bg K H1 b ys) /\ R (vo K a b) H1
end
def vn (K:PySem.W.Frag) (l:Addr):It :=
 ⟨fun i H=>∃ xs x,Bg K H l xs /\ xs[i]? = some x,
  fun i H v H'=>∃ T x,v = .ref T /\ H T = none /\ H' = upd H T (.tup [.int i,x]) /\ ∀ xs,Bg K H l xs -> xs[i]? = some x,
  fun i H=>∃ xs,Bg K H l xs /\ xs.length <= i⟩
section
variable {X:Cx}
def um (K:PySem.W.Frag) (ta:TA):TI:=fun σ H R=>ta σ H fun vs H1=>∃ a,vs = [.ref a] /\ (∃ xs,Bg K H1 a xs) /\ R (vn K a) H1
end
section
variable {X:Cx}
theorem X9 (hc:X.calm = true):Dy X (.builtin "min") (fun xs H Q=>∃ (p:Addr) (ns:List Int),xs = [.ref p] /\ Bg X.K H p (ns.map V.int) /\ 0 < ns.length /\ ∀ m:Int,m ∈ ns -> (∀ a ∈ ns,m <= a) -> Q (.int m) H):=by
 intro pins s σ H vs us Q I r q
 obtain ⟨p,ns,rfl,hq,bP,q⟩ := q
 obtain ⟨u,rfl,rx⟩ := Jy r
 cases rx
 obtain ⟨aD,rv,pl,hz⟩ := I.list hq
 have hi:=Lp rv
 obtain ⟨ys,ey⟩ := hi.allInts.items
 have sH:ns = ys.toList.map (·.1):=by
  have e1:=hi.numsOf
  have e2:=nums_intItems ys
  rw [<- ey] at e2
  exact e1.symm.trans e2
 have hsz:0 < ys.size:=by
  rw [sH,List.length_map,Array.length_toList] at bP
  exact bP
 have hl:=pl.isList
 rw [ey] at hl
 refine min_intList (I.ok.hd hc) hl hsz fun v g' tk hv hk=>?_
 obtain ⟨t,rfl⟩ := intItems_at hv
 obtain ⟨b1,b2⟩ := argBest_lt (numAt ys) (ys.size - 1)
 refine ⟨.int _,H,I.kept hk,⟨t,rfl⟩,q _ ?_ fun a ha=>?_⟩
 ·rw [sH,numAt_eq]
  exact getD_mem (by rw [List.length_map,Array.length_toList]; omega)
 ·rw [sH] at ha
  obtain ⟨j,hj,rfl⟩ := mem_getD ha
  rw [List.length_map,Array.length_toList] at hj
  rw [<- numAt_eq]
  exact b2 j (by omega)
end
section
variable {X:Cx}
def pr (K:PySem.W.Frag):V -> List V -> Hp -> VK -> Prop:=fun x vs H Q=>∃ (l:Addr) (ns:List Int) (y:Int) (j:Nat),x = .ref l /\ vs = [.int y] /\ Bg K H l (ns.map V.int) /\ ns[j]? = some y /\ (∀ m,m < j -> ns[m]? ≠ some y) /\ Q (.int (j:Nat)) H
theorem Hg:∀ ns:List Int,(ns.map V.int).all Ej = true
 | []=>rfl
 | n :: ns=>by
  show (Ej (V.int n) && (ns.map V.int).all Ej) = true
  rw [Hg ns]
  rfl
end
structure X3 (K:PySem.W.Frag) (x qual:Str) (st:Stmt) (f:Addr) (fd:FuncData):Prop where
 ex:∃ (oc:Value) (od:Option Addr) (dV kV doc pm:Value) (an:Option Addr) (aS ct:Value) (gZ:Array (Option Value)),
  fd = PySem.W.fnOf x qual (Ak st) (Aj st) (A6 st) dV kV doc pm an aS ct /\ K.lookup f = some ⟨oc,od,.func fd,gZ⟩ /\ PySem.W.codeIn K aS qual = true
section
variable {P:Program} {w:World} {K:PySem.W.Frag} {mg:Str -> Option Value} {base:Heap}
theorem X3.ok {x qual : Str} {st : Stmt} {f : Addr} {fd : FuncData} {N ps : List Str} {k : Nat} {sp : Sp} (F : X3 K x qual st f fd) (S : Ar N ps (A6 st)) (len : ∀ vs H Q E, sp vs H Q E -> vs.length = ps.length)
  (jF:∀ (aS:Value) (A:Around) (outer:List Env) (s:Shared) (H:Hp) (vs:List V) (Q:VK) (E:XK),Cq k (A.deeper (envOfC qual (A6 st) s.heap.objs.size f aS)) -> sp vs H Q E ->
   ∃ t,Sb (Sg Bd P w K mg base N qual (A6 st) f aS A outer s H E).sC (Aj st) t /\ t { nx:=fun _ H'=>Q .aR H',rt:=Q } (start N vs) H):Af P w K mg base Bd (k + 1) f fd ps sp:=by
 obtain ⟨oc,od,dV,kV,doc,pm,an,aS,ct,gZ,rfl,lk,nG⟩ := F.ex
 refine dk lk nG S len fun A outer s H vs Q E hr sD=>?_
 obtain ⟨t,h,q⟩ := jF aS A outer s H vs Q E hr sD
 exact ⟨t,h.sC,q⟩
end
section
variable {X:Cx} {a b c:Expr} {rest:List Expr} {ta tb:TE} {tA uP:TT} {t u:TS} {pos:Pos}
def oj (ta tb:TE):TE:=fun σ H Q=>ta σ H fun x H1=>∃ c d:Bool,x = .bl c /\ (c = true -> ∀ Q':VK,Q' (.bl d) H1 -> tb σ H1 Q') /\ Q (.bl (c && d)) H1
def vv (ta tb:TE):TE:=fun σ H Q=>ta σ H fun x H1=>∃ c d:Bool,x = .bl c /\ (c = false -> ∀ Q':VK,Q' (.bl d) H1 -> tb σ H1 Q') /\ Q (.bl (c || d)) H1
theorem Ib (ha:PE X a ta) (hb:PE X (.BoolOp .And (b :: rest) pos) tb):PE X (.BoolOp .And (a :: b :: rest) pos) (oj ta tb):=by
 intro pins s σ H Q I h
 refine BoolOp_and (C9 (ha pins s σ H _ I h) fun v s1 aV=>?_)
 obtain ⟨x,H1,I1,r1,q1⟩ := aV
 obtain ⟨c,d,rfl,q0,q1⟩ := q1
 cases r1
 refine wpAny_truthy_bool ?_
 cases c with
 | true=>exact hb pins s1 σ H1 Q I1 (q0 rfl Q q1)
 | false=>exact ⟨.bl false,H1,I1,rfl,q1⟩
def kh (t u:TT):TT:=fun σ H Q=>t σ H fun c H1=>∃ d:Bool,(c = true -> ∀ Q':Bool -> Hp -> Prop,Q' d H1 -> u σ H1 Q') /\ Q (c && d) H1
def vd (t u:TT):TT:=fun σ H Q=>t σ H fun c H1=>∃ d:Bool,(c = false -> ∀ Q':Bool -> Hp -> Prop,Q' d H1 -> u σ H1 Q') /\ Q (c || d) H1
theorem V7 (ha:PT X a tA) (hb:PW X (.BoolOp .And (b :: rest) pos) uP):PW X (.BoolOp .And (a :: b :: rest) pos) (kh tA uP):=by
 intro wh pins s σ H Q I h
 refine isTrue_and (C9 (ha pins s σ H _ I h) fun c s1 aV=>?_)
 obtain ⟨H1,I1,d,q0,q1⟩ := aV
 cases c with
 | true=>exact hb wh pins s1 σ H1 Q I1 (q0 rfl Q q1)
 | false=>exact ⟨H1,I1,q1⟩
theorem SP.mono {pins:List (Addr × Obj)} {D D':Hq} {f:Flow} {s':Shared} (h:SP X pins D f s') (hn:∀ σ H,D.nx σ H -> D'.nx σ H) (hr:∀ v H,D.rt v H -> D'.rt v H) (hb:∀ σ H,D.bk σ H -> D'.bk σ H) (hc:∀ σ H,D.ct σ H -> D'.ct σ H):SP X pins D' f s':=by
 cases f with
 | next=>obtain ⟨σ',H',I,q⟩ := h; exact ⟨σ',H',I,hn _ _ q⟩
 | brk=>obtain ⟨σ',H',I,q⟩ := h; exact ⟨σ',H',I,hb _ _ q⟩
 | cont=>obtain ⟨σ',H',I,q⟩ := h; exact ⟨σ',H',I,hc _ _ q⟩
 | ret v=>obtain ⟨x,σ',H',I,r,q⟩ := h; exact ⟨x,σ',H',I,r,hr _ _ q⟩
def sk (c:TT) (t u:TS):TS:=fun D σ H=>c σ H fun b H1=>∃ N:St -> Hp -> Prop,(b = true -> t { D with nx:=N } σ H1) /\ (b = false -> u { D with nx:=N } σ H1) /\ ∀ σ' H',N σ' H' -> D.nx σ' H'
theorem Hh {c:Expr} {a b:List Stmt} {tc:TT} (hc:PT X c tc) (ha:Sb X a t) (hb:Sb X b u):PS X (.If c a b pos) (sk tc t u):=by
 intro pins s σ H D I h
 refine wpAny_If (C9 (hc pins s σ H _ I h) fun d s1 aV=>?_)
 obtain ⟨H1,I1,N,q1,q2,q3⟩ := aV
 cases d with
 | true=>exact C9 (ha pins s1 σ H1 _ I1 (q1 rfl)) fun f s2 q=>q.mono q3 (fun _ _ z=>z) (fun _ _ z=>z) fun _ _ z=>z
 | false=>exact C9 (hb pins s1 σ H1 _ I1 (q2 rfl)) fun f s2 q=>q.mono q3 (fun _ _ z=>z) (fun _ _ z=>z) fun _ _ z=>z
end
section
variable {P:Program} {w:World} {A:Around} {E:Value -> Shared -> Prop} {s:Shared}
theorem Uo {I T : Addr} {k : Nat} {vs : Array Value} {v : Value} {Q : Value -> Shared -> Prop} (hI : s.heap.IsTupleIter I T k) (hT : s.heap.IsTuple T vs) (hv : vs[k]? = some v)
  (q:∀ h',h'.IsTupleIter I T (k + 1) -> Heap.SameBut I s.heap h' -> Q v { s with heap:=h' }):wpAny (model P w) A (Builtin.SmallTypes.nextOf (.ref I)) Q E s:=by
 obtain ⟨oI,eI,cI,dI⟩ := id hI
 obtain ⟨oT,eT,_,nT,SN⟩ := hT
 unfold Builtin.SmallTypes.nextOf
 refine wpAny_bind (wpAny_callSpecial?_slot (name:=Str.ofString "__next__") hI.typeIs F.slot_tuple_iterator_next (wpAny_call_entry F.slot_tuple_iterator_next hI.typeIs F.entry_tuple_iterator_next ?_ (F.args_tuple_iterator_next_1 _)))
 show wpAny _ _ (field (.ref I) 0 >>= _) _ _ s
 refine wpAny_bind (wpAny_field eI dI (x := .ref T) rfl ?_)
 show wpAny _ _ (if (Value.ref T == Value.none) = true then _ else _) _ _ s
 rw [if_neg (show ¬ ((Value.ref T == Value.none) = true) from Bool.false_ne_true)]
 show wpAny _ _ (field (.ref I) 1 >>= _) _ _ s
 refine wpAny_bind (wpAny_field eI dI (x := .int k 0) rfl ?_)
 show wpAny _ _ (seqItems? (.ref T) >>= _) _ _ s
 refine wpAny_bind (wpAny_seqItems eT SN ?_)
 simp only [Int.toNat_natCast,hv]
 refine wpAny_bind (wpAny_setField eI dI (by simp) (wpAny_pure ⟨v,rfl,wpAny_pure (q _ ⟨_,Heap.get?_update_self _ eI (Obj.isFreed_of_fields (Obj.data_mapFields dI _)),(Obj.cls_mapFields ..).trans cI,?_⟩ (Heap.SameBut.update ..))⟩))
 rw [Obj.data_mapFields dI]
 simp [rawInt]
theorem Wh {I T : Addr} {k : Nat} {vs : Array Value} {Q : Value -> Shared -> Prop} (no : A.handled = none) (hI : s.heap.IsTupleIter I T k) (hT : s.heap.IsTuple T vs) (hv : vs[k]? = none)
  (q:∀ h' e,Heap.ExtBut I s.heap h' -> (∃ o,h'.get? e = some o /\ o.cls = .type "StopIteration") -> E (.ref e) { s with heap:=h' }):wpAny (model P w) A (Builtin.SmallTypes.nextOf (.ref I)) Q E s:=by
 obtain ⟨oI,eI,cI,dI⟩ := id hI
 obtain ⟨oT,eT,_,nT,SN⟩ := hT
 unfold Builtin.SmallTypes.nextOf
 refine wpAny_bind (wpAny_callSpecial?_slot (name:=Str.ofString "__next__") hI.typeIs F.slot_tuple_iterator_next (wpAny_call_entry F.slot_tuple_iterator_next hI.typeIs F.entry_tuple_iterator_next ?_ (F.args_tuple_iterator_next_1 _)))
 show wpAny _ _ (field (.ref I) 0 >>= _) _ _ s
 refine wpAny_bind (wpAny_field eI dI (x := .ref T) rfl ?_)
 show wpAny _ _ (if (Value.ref T == Value.none) = true then _ else _) _ _ s
 rw [if_neg (show ¬ ((Value.ref T == Value.none) = true) from Bool.false_ne_true)]
 show wpAny _ _ (field (.ref I) 1 >>= _) _ _ s
 refine wpAny_bind (wpAny_field eI dI (x := .int k 0) rfl ?_)
 show wpAny _ _ (seqItems? (.ref T) >>= _) _ _ s
 refine wpAny_bind (wpAny_seqItems eT SN ?_)
 simp only [Int.toNat_natCast,hv]
 refine wpAny_bind (wpAny_rule (wpAny_bind (wpAny_setField eI dI (by simp) ?_)))
 show wpAny _ _ (newExc (.type "StopIteration") [] >>= fun _=>_) _ _ _
 refine wpAny_bind ?_
 simp only [newExc,newTuple]
 refine wpAny_bind (wpAny_newObj_type (wpAny_bind (m:=firstArgMember _ _) (wpAny_of_eq (a:=Value.none) (by first | rfl | (simp only [firstArgMember]; rfl)) (wpAny_newObj_type ?_ (by size_fits)))) (by size_fits))
 simp only [raiseNew]
 refine wpAny_bind (wpAny_handled ?_)
 first | rw [show A.in1.handled = none from no] | rw [no]
 refine wpAny_bind (wpAny_pure (wpAny_throw (q _ _ (((Heap.SameBut.update ..).extBut.push _).push _) ⟨_,Heap.get?_push_size _ rfl,rfl⟩)))
end
theorem gy {P:Program} {w:World} {A:Around} (no:A.handled = none) (I T:Addr) (ne:T ≠ I) (vs:Array Value):Draws P w A I [I,T] vs.size (fun i v=>vs[i]? = some v) (fun i h=>h.IsTupleIter I T i /\ h.IsTuple T vs) where
 live:=fun _ _ st=>let ⟨o,e,_⟩ := st.1; ⟨o,e⟩
 frame:=fun _ _ _ st k=>⟨st.1.at fun o e=>k I (by simp) o e,let ⟨o,e,r⟩ := st.2; ⟨o,k T (by simp) o e,r⟩⟩
 item:=fun i s Q E hi st q=>Uo st.1 st.2 (v:=vs[i]) (by simp [hi]) fun h' aE sb=>q _ h' s.toks (by simp [hi]) ⟨aE,st.2.extBut sb.extBut ne⟩ sb
 done:=fun s Q E st q=>Wh no st.1 st.2 (by simp) q
def Ik:Bool -> Heap -> Addr -> Addr -> Nat -> Prop
 | true,h,I,T,i=>h.IsTupleIter I T i
 | false,h,I,T,i=>h.IsListIter I T i
def Qr:Bool -> Heap -> Addr -> Array Value -> Prop
 | true,h,T,vs=>h.IsTuple T vs
 | false,h,T,vs=>h.IsList T vs
def Y9:Bool -> String
 | true=>"tuple_iterator"
 | false=>"list_iterator"
def Sq:Bool -> PySem.W.Frag -> Hp -> Addr -> List V -> Prop
 | true,K,H,a,xs=>Bw K H a xs
 | false,K,H,a,xs=>Bg K H a xs
theorem Qx {P:Program} {w:World} {A:Around} (no:A.handled = none) (b:Bool) (I T:Addr) (ne:T ≠ I) (vs:Array Value):Draws P w A I [I,T] vs.size (fun i v=>vs[i]? = some v) (fun i h=>Ik b h I T i /\ Qr b h T vs):=by
 cases b
 ·exact Draws.list no I T ne vs
 ·exact gy no I T ne vs
theorem Ik.data {b:Bool} {h:Heap} {I T:Addr} {i:Nat} (x:Ik b h I T i):∃ o,h.get? I = some o /\ o.cls = .type (Y9 b) /\ o.data = .fields #[.ref T,.int i 0]:=by cases b <;> exact x
theorem Ik.of {b:Bool} {h:Heap} {I T:Addr} {i:Nat} (x:∃ o,h.get? I = some o /\ o.cls = .type (Y9 b) /\ o.data = .fields #[.ref T,.int i 0]):Ik b h I T i:=by cases b <;> exact x
theorem Ik.at' {b:Bool} {h h':Heap} {I T:Addr} {i:Nat} (x:Ik b h I T i) (k:∀ o,h.get? I = some o -> h'.get? I = some o):Ik b h' I T i:=by
 obtain ⟨o,e,r⟩ := x.data
 exact .of ⟨o,k _ e,r⟩
theorem Qr.at' {b:Bool} {h h':Heap} {T:Addr} {vs:Array Value} (x:Qr b h T vs) (k:∀ o,h.get? T = some o -> h'.get? T = some o):Qr b h' T vs:=by
 cases b <;> exact let ⟨o,e,r⟩ := x; ⟨o,k _ e,r⟩
theorem Qr.lt {b:Bool} {h:Heap} {T:Addr} {vs:Array Value} (x:Qr b h T vs):T < h.objs.size:=by
 cases b <;> exact let ⟨_,e,_⟩ := x; Heap.lt_size e
theorem Ik.lt {b:Bool} {h:Heap} {I T:Addr} {i:Nat} (x:Ik b h I T i):I < h.objs.size:=by
 obtain ⟨_,e,_⟩ := x.data
 exact Heap.lt_size e
theorem Ik.ne {b c:Bool} {h:Heap} {I T:Addr} {i:Nat} {vs:Array Value} (x:Ik b h I T i) (y:Qr c h T vs):T ≠ I:=by
 rintro rfl
 obtain ⟨o,e,k,_⟩ := x.data
 cases c <;> (obtain ⟨o',e',k',_⟩ := y; rw [e] at e'; cases e'; rw [k] at k'; cases b <;> simp [Y9] at k')
section
variable {X:Cx} {pins:List (Addr × Obj)} {σ:St} {H:Hp} {s:Shared}
theorem Ai.sq {b:Bool} {a:Addr} {xs:List V} (I:Ai X pins σ H s) (q:Sq b X.K H a xs):∃ us,Aw xs us /\ Qr b s.heap a us.toArray:=by
 cases b
 ·obtain ⟨us,r,p,_⟩ := I.list q
  exact ⟨us,r,p.isList⟩
 ·obtain ⟨us,r,p,_⟩ := I.tuple q
  exact ⟨us,r,p⟩
theorem Ai.xx {b:Bool} {a:Addr} {xs ys:List V} (I:Ai X pins σ H s) (q:Sq b X.K H a xs) (r:Sq b X.K H a ys):xs = ys:=by
 cases b
 ·exact I.jE q r
 ·exact I.gY q r
end
open AutoSeq1 (wpAny_loadPart')
structure w6 (z TI TO i1 i2 l1 l2:Nat):Prop where
 a:TI ≠ z
 b:TO ≠ z
 c:i1 ≠ z
 d:i2 ≠ z
 e:TI ≠ TO
 f:TI ≠ i1
 g:TI ≠ i2
 h:TO ≠ i1
 i:TO ≠ i2
 j:i1 ≠ i2
 k1:l1 ≠ z /\ l1 ≠ TO /\ l1 ≠ i1 /\ l1 ≠ i2
 k2:l2 ≠ z /\ l2 ≠ TO /\ l2 ≠ i1 /\ l2 ≠ i2
section
variable {P:Program} {w:World} {A:Around} {E:Value -> Shared -> Prop} {s:Shared}
abbrev kb (b1:Bool) (h:Heap) (l1:Addr):Heap:=h.push { cls := .type (Y9 b1),data := .fields #[.ref l1,.int 0 0] }
abbrev uo (b1 b2:Bool) (h:Heap) (l1 l2:Addr):Heap:=(kb b1 h l1).push { cls := .type (Y9 b2),data := .fields #[.ref l2,.int 0 0] }
abbrev u9 (b1 b2:Bool) (h:Heap) (l1 l2:Addr):Heap:=(uo b1 b2 h l1 l2).push { cls := .type "tuple",data := .seq #[.ref h.objs.size,.ref (kb b1 h l1).objs.size] }
abbrev uw (b1 b2:Bool) (h:Heap) (l1 l2:Addr):Heap:=(u9 b1 b2 h l1 l2).push { cls := .type "tuple",data := .seq #[.none,.none] }
abbrev w8 (b1 b2:Bool) (h:Heap) (l1 l2:Addr):Heap:=(uw b1 b2 h l1 l2).push { cls := .type "zip",data := .fields #[.none,.bool false,.bool false,.ref (uo b1 b2 h l1 l2).objs.size,.ref (u9 b1 b2 h l1 l2).objs.size] }
end
open AutoSeq1 (wpAny_loadPart')
section
variable {P:Program} {w:World} {A:Around} {E:Value -> Shared -> Prop} {s:Shared}
end
def qo (K:PySem.W.Frag) (b1 b2:Bool) (l1 l2:Addr):It :=
 ⟨fun i H=>∃ xs ys x y,Sq b1 K H l1 xs /\ Sq b2 K H l2 ys /\ xs[i]? = some x /\ ys[i]? = some y,
  fun i H v H'=>∃ T x y,v = .ref T /\ H T = none /\ H' = upd H T (.tup [x,y]) /\ (∀ xs,Sq b1 K H l1 xs -> xs[i]? = some x) /\ ∀ ys,Sq b2 K H l2 ys -> ys[i]? = some y,
  fun i H=>∃ xs ys,Sq b1 K H l1 xs /\ Sq b2 K H l2 ys /\ (xs.length = i \/ (i < xs.length /\ ys.length = i))⟩
section
variable {X:Cx}
def tj (K:PySem.W.Frag) (ta:TA):TI:=fun σ H R=>ta σ H fun vs H1=>∃ (b1 b2:Bool) (a b:Addr),vs = [.ref a,.ref b] /\ (∃ xs,Sq b1 K H1 a xs) /\ (∃ ys,Sq b2 K H1 b ys) /\ R (qo K b1 b2 a b) H1
end
def iq (K:PySem.W.Frag) (b:Bool) (l:Addr):It :=
 ⟨fun i H=>∃ xs x,Sq b K H l xs /\ xs[i]? = some x,
  fun i H v H'=>∃ T x,v = .ref T /\ H T = none /\ H' = upd H T (.tup [.int i,x]) /\ ∀ xs,Sq b K H l xs -> xs[i]? = some x,
  fun i H=>∃ xs,Sq b K H l xs /\ xs.length = i⟩
theorem Sv {P : Program} {w : World} {K : PySem.W.Frag} {elts : List Expr} {kk : Nat} {pos : Pos} {b : Bool} {e it l : Addr} (bP : e ≠ it) (hel : e ≠ l) :
  U6 P w K (.Tuple elts kk pos) (iq K b l) [e,it] e (fun i h=>(∃ old,IsEnum h e it i old) /\ Ik b h it l i) where
 mem:=List.mem_cons_self
 obj:=fun i h ⟨⟨old,he⟩,h1⟩ c hc=>by
  obtain ⟨o1,e1,c1,d1⟩ := h1.data
  simp only [List.mem_cons,List.not_mem_nil,or_false] at hc
  rcases hc with rfl | rfl
  ·exact ⟨_,he,fun v q=>by cases q⟩
  ·exact ⟨_,e1,fun v q=>by rw [d1] at q; cases q⟩
 keep:=fun i h h' ⟨⟨old,he⟩,h1⟩ hk=>⟨⟨old,hk e (by simp) _ he⟩,h1.at' fun o q=>hk it (by simp) o q⟩
 item:=by
  intro X hP hw hK hc i pins s σ H E I FR ⟨⟨old,he⟩,h1⟩ ⟨xs,x,q1,ex⟩
  subst hP hw hK
  obtain ⟨lZ,r1,p1⟩ := I.sq q1
  obtain ⟨u1,eu1,SO⟩ := r1.get ex
  have SQ:i < lZ.toArray.size:=by
   have:=(List.getElem?_eq_some_iff.mp eu1).1
   simpa using this
  refine wpAny_pyNext_enum_itemD (Qx (A:=X.A.in1) (I.ok.hd hc) b it l (h1.ne p1) lZ.toArray) he ⟨h1,p1⟩ SQ bP (by simp [bP,hel]) fun u h' tk eu a1 a2 a3 a4 hk=>⟨_,rfl,?_⟩
  have e2:u = u1:=Option.some.inj (eu.symm.trans (by simpa using eu1))
  subst e2
  refine wpAny_letOwnedTupleGo_enum a1 fun SR SS xy=>?_
  have HL:e < s.heap.objs.size:=Heap.lt_size he
  have HM:SR.get? s.heap.objs.size = some { cls := .type "tuple",data := .seq #[.int i tk,u] }:=xy.extBut _ _ (Nat.ne_of_gt HL) a3
  refine ⟨.ref s.heap.objs.size,upd H s.heap.objs.size (.tup [.int i,x]),I.jJ (t':=tk + 1) (ch:=[e,it]) FR (fun c o hc ec=>?_) (Nat.le_refl _) ?_,rfl,⟨_,x,rfl,I.fresh,rfl,fun xs' q=>?_⟩,⟨⟨u,?_⟩,?_⟩,fun c hc=>?_⟩
  ·simp only [List.mem_cons,List.not_mem_nil,or_false,not_or] at hc
   exact xy.extBut _ _ hc.1 (hk c o hc.1 hc.2 ec)
  ·exact ⟨⟨Nat.le_trans (by decide:2 <= 1000) (Uw (Nat.le_refl _)),_,HM,rfl⟩,[.int i tk,u],.cons ⟨_,rfl⟩ (.cons SO .nil),⟨_,HM,rfl,0,rfl⟩⟩
  ·rw [I.xx q q1]
   exact ex
  ·have z:=SS
   rw [show ((i:Int) + 1) = ((i + 1:Nat):Int) by omega] at z
   exact z
  ·exact a2.1.at' fun o eo=>xy.extBut _ _ (Ne.symm bP) eo
  ·rw [Aa]
   ·exact (FR c hc).1
   ·simp only [List.mem_cons,List.not_mem_nil,or_false] at hc
    rcases hc with rfl | rfl
    ·exact Nat.ne_of_lt HL
    ·exact Nat.ne_of_lt h1.lt
 done:=by
  intro X hP hw hK hc i pins s σ H E I FR ⟨⟨old,he⟩,h1⟩ ⟨xs,q1,hl⟩
  subst hP hw hK
  obtain ⟨lZ,r1,p1⟩ := I.sq q1
  have n1:=r1.length
  have n2:i = lZ.toArray.size:=by simp only [List.size_toArray]; omega
  subst n2
  refine wpAny_pyNext_enum_endD (Qx (A:=X.A.in1) (I.ok.hd hc) b it l (h1.ne p1) lZ.toArray) he ⟨h1,p1⟩ fun h' hk=>⟨rfl,I.jK (t':=s.toks) (ch:=[e,it]) FR fun c o hc ec=>?_⟩
  simp only [List.mem_cons,List.not_mem_nil,or_false,not_or] at hc
  exact hk c o hc.2 ec
 self:=fun A i s Q E ⟨⟨old,he⟩,_⟩ hQ=>wpAny_pyIter_enum he hQ
theorem Rr (l : Addr) (items : Array Value) (n : Nat) (SU : Option Addr) (sl : Array (Option Value)) :
  Meets (Builtin.«enumerate.__new__» ⟨[.type "enumerate",.ref l],[]⟩) (fun _ R s=>s.heap.get? l = some { cls := .type "tuple",dict:=SU,data := .seq items n,slots:=sl } /\
   R (.ok (.ret (.ref (kb true s.heap l).objs.size))) { s with heap:=(kb true s.heap l).push { cls := .type "enumerate",data := .fields #[.none,.bool false,.ref s.heap.objs.size,rawInt 0,.none,.none] } }) :=
 .of_wp fun prog w A R s h=>by
  obtain ⟨hp,g,d,tk,os⟩ := s
  obtain ⟨hl,h⟩ := h
  have tE:=sub_enumerate
  have hT:Heap.IsTuple (Shared.heap ⟨hp,g,d,tk,os⟩) l items:=⟨_,hl,rfl,n,rfl⟩
  wp_walk using wpAny_loadPart' hl
  refine wpAny_stack_any fun st=>wpAny_pure ?_
  split
  ·rename_i c _ _ _ _ _
   cases (c == Value.type "enumerate")
   ·wp_walk using wpAny_loadPart' hl,wpAny_pyIter_tuple hT
    exact ⟨_,rfl,h⟩
   ·wp_walk using wpAny_loadPart' hl,wpAny_pyIter_tuple hT
    exact ⟨_,rfl,h⟩
  ·wp_walk using wpAny_loadPart' hl,wpAny_pyIter_tuple hT
   exact ⟨_,rfl,h⟩
theorem Uh {P : Program} {w : World} {A : Around} {E : Value -> Shared -> Prop} {s : Shared} {l : Addr} {items : Array Value} {Q : Value -> Shared -> Prop} (hT : s.heap.IsTuple l items)
  (h:∀ h',IsEnum h' (s.heap.objs.size + 1) s.heap.objs.size 0 .none -> h'.IsTupleIter s.heap.objs.size l 0 -> (∀ b o,s.heap.get? b = some o -> h'.get? b = some o) -> Q (.ref (s.heap.objs.size + 1)) { s with heap:=h' }) :
  wpAny (model P w) A (call (.type "enumerate") [.ref l]) Q E s:=by
 obtain ⟨⟨c,SU,dt,sl⟩,hl,hc,n,hd⟩ := hT
 have fN:c = .type "tuple" := hc
 have mU:dt = .seq items n:=hd
 subst fN mU
 refine callType_new F.called_enumerate (by decide) (F.typeCall_enumerate_1 _) (F.newCall_enumerate_1 _) (fun obj=>F.args_object_init_2 obj _) F.entry_enumerate_new (Rr l items n SU sl) ⟨hl,?_⟩
 have hz:(kb true s.heap l).objs.size = s.heap.objs.size + 1:=Heap.size_push ..
 show _ /\ _
 rw [hz]
 have he:=Heap.get?_push_size (kb true s.heap l) (o:={ cls := .type "enumerate",data := .fields #[.none,.bool false,.ref s.heap.objs.size,rawInt 0,.none,.none] }) rfl
 rw [hz] at he
 exact ⟨⟨_,he,rfl⟩,h _ he ⟨_,Heap.get?_push_of_some _ (Heap.get?_push_size _ rfl),rfl,rfl⟩ fun b o x=>Heap.get?_push_of_some _ (Heap.get?_push_of_some _ x)⟩
section
variable {X:Cx}
def gk (K:PySem.W.Frag) (ta:TA):TI:=fun σ H R=>ta σ H fun vs H1=>∃ (b:Bool) (a:Addr),vs = [.ref a] /\ (∃ xs,Sq b K H1 a xs) /\ R (iq K b a) H1
theorem Rc {elts : List Expr} {kk : Nat} {lV : Pos} {a : Expr} {ta : TA} {p pos : Pos} (hg : Gl X "enumerate") (hm : X.mg "enumerate" = none) (ha : PA X [a] ta) (hs : starEach [a] X.env = [(false, eval a X.env)] := by rfl) :
  PI X (.Tuple elts kk lV) (.Call (.Name "enumerate" p) [a] [] pos) (gk X.K ta):=by
 intro pins s σ H R I h
 refine Call_ (J5 I hg hm boot_enumerate (PyProof.Rows.callWith_type1 (C9 (ha pos pins s σ H _ I h) fun us s1 ⟨vs,H1,I1,r1,q1⟩=>?_) hs rfl))
 obtain ⟨b,l1,e,⟨xs,hx⟩,q⟩ := q1
 subst e
 obtain ⟨u1,rfl,SO⟩ := Jy r1
 cases SO
 obtain ⟨lZ,rr1,p1⟩ := I1.sq hx
 have SQ:=p1.lt
 have fin : ∀ h', IsEnum h' (s1.heap.objs.size + 1) s1.heap.objs.size 0 .none -> Ik b h' s1.heap.objs.size l1 0 -> (∀ b o, s1.heap.get? b = some o -> h'.get? b = some o) ->
   wpAny (model X.prog X.w) X.A (pyIter (.ref (s1.heap.objs.size + 1))) (qd X pins σ (.Tuple elts kk lV) R) X.xe { s1 with heap:=h' }:=fun h' a1 a2 hk=>by
  refine wpAny_pyIter_enum a1 ?_
  have I2:Ai X pins σ H1 { s1 with heap:=h' }:=I1.kept (t':=s1.toks) hk
  refine ⟨s1.heap.objs.size + 1,[s1.heap.objs.size + 1,s1.heap.objs.size],_,_,H1,rfl,I2,Sv (Nat.ne_of_gt (Nat.lt_succ_self _)) (Nat.ne_of_gt (Nat.lt_succ_of_lt SQ)),⟨⟨_,a1⟩,a2⟩,fun c hc=>?_,q⟩
  have hle:s1.heap.objs.size <= c:=by
   simp only [List.mem_cons,List.not_mem_nil,or_false] at hc
   rcases hc with rfl | rfl <;> omega
  exact I1.lU hle (I1.aF.fresh hle)
 cases b with
 | false=>exact call_enumerate_list p1 fun h' a1 a2 a3 hk=>fin h' a1 a2 hk
 | true=>exact Uh p1 fun h' a1 a2 hk=>fin h' a1 a2 hk
end
abbrev nw (K:PySem.W.Frag):TG:=ai K 2 (Nr (F5 0) (Nr (F5 1) iu))
theorem Mc {K : PySem.W.Frag} {b1 : Bool} {c : Addr} {xs : List V} {fr : List Nat} {tt : TT} {te : TE} {σ : St} {D : Addr} {H1 : Hp} {Q : Hp -> Prop} (Pv : Nat -> List V -> Hp -> Prop) (h0 : Pv 0 [] (upd H1 D (.lst [])))
  (hl:∀ i zs H,i <= xs.length -> Pv i zs H -> Sq b1 K H c xs)
  (hs:∀ i x T zs H,xs[i]? = some x -> Pv i zs H -> H T = none -> tt (some (.int i) :: some x :: Cn fr σ) (upd H T (.tup [.int i,x])) fun b H4 =>
   if b = true then te (some (.int i) :: some x :: Cn fr σ) H4 fun v H5=>H5 D = some (.lst zs) /\ zs.length < sizeLine /\ Pv (i + 1) (zs ++ [v]) (upd H5 D (.lst (zs ++ [v]))) else Pv (i + 1) zs H4)
  (mt:∀ σ H Q Q',(∀ b H',Q b H' -> Q' b H') -> tt σ H Q -> tt σ H Q') (me:∀ σ H Q Q',(∀ v H',Q v H' -> Q' v H') -> te σ H Q -> te σ H Q')
  (hd:∀ zs H,Pv xs.length zs H -> Q H):Dd 2 fr (iq K b1 c) (nw K) tt te σ D H1 Q:=by
 refine ⟨fun i m zs H=>m = xs.length - i /\ i <= xs.length /\ Pv i zs H,⟨xs.length,by simp,Nat.zero_le _,h0⟩,?_⟩
 rintro i m zs H' ⟨rfl,hi,p⟩
 have q1:=hl i zs H' hi p
 by_cases aN:i < xs.length
 ·refine .inr ⟨⟨xs,xs[i],q1,by simp [aN]⟩,fun v H2 y=>?_⟩
  obtain ⟨T,x,rfl,hT,rfl,e1⟩ := y
  refine ⟨T,_,rfl,Bw.of A5,rfl,_,_,rfl,x,_,rfl,rfl,⟨[some (.int i),some x],rfl,rfl⟩,?_⟩
  refine mt _ _ _ _ ?_ (hs i x T zs H' (e1 xs q1) p hT)
  intro b H4 q
  cases b with
  | false=>exact ⟨xs.length - (i + 1),by omega,rfl,aN,q⟩
  | true=>exact me _ _ _ _ (fun v H5 ⟨r1,r2,r3⟩=>⟨r1,r2,xs.length - (i + 1),by omega,rfl,aN,r3⟩) q
 ·have e:i = xs.length:=by omega
  subst e
  exact .inl ⟨⟨xs,q1,rfl⟩,hd zs H' p⟩
section
variable {X:Cx} {a b:Expr} {rest:List Expr} {ta tb:TE} {tA uP:TT} {pos:Pos}
def o0 (ta tb:TE):TE:=fun σ H Q=>ta σ H fun x H1=>∃ (c:Bool) (N:Bool -> Hp -> Prop),x = .bl c /\ (c = false -> N false H1) /\ (c = true -> tb σ H1 fun y H2=>∃ d:Bool,y = .bl d /\ N d H2) /\ ∀ d H2,N d H2 -> Q (.bl d) H2
def w5 (ta tb:TE):TE:=fun σ H Q=>ta σ H fun x H1=>∃ (c:Bool) (N:Bool -> Hp -> Prop),x = .bl c /\ (c = true -> N true H1) /\ (c = false -> tb σ H1 fun y H2=>∃ d:Bool,y = .bl d /\ N d H2) /\ ∀ d H2,N d H2 -> Q (.bl d) H2
theorem Vi (ha:PE X a ta) (hb:PE X (.BoolOp .And (b :: rest) pos) tb):PE X (.BoolOp .And (a :: b :: rest) pos) (o0 ta tb):=by
 intro pins s σ H Q I h
 refine BoolOp_and (C9 (ha pins s σ H _ I h) fun v s1 aV=>?_)
 obtain ⟨x,H1,I1,r1,q1⟩ := aV
 obtain ⟨c,N,rfl,q0,q1,q2⟩ := q1
 cases r1
 refine wpAny_truthy_bool ?_
 cases c with
 | true=>exact C9 (hb pins s1 σ H1 _ I1 (q1 rfl)) fun v s2 ⟨y,H2,I2,r2,d,e,n⟩=>⟨y,H2,I2,r2,by rw [e]; exact q2 d H2 n⟩
 | false=>exact ⟨.bl false,H1,I1,rfl,q2 _ _ (q0 rfl)⟩
def lq (t u:TT):TT:=fun σ H Q=>t σ H fun c H1=>∃ N:Bool -> Hp -> Prop,(c = false -> N false H1) /\ (c = true -> u σ H1 N) /\ ∀ d H2,N d H2 -> Q d H2
def ph (t u:TT):TT:=fun σ H Q=>t σ H fun c H1=>∃ N:Bool -> Hp -> Prop,(c = true -> N true H1) /\ (c = false -> u σ H1 N) /\ ∀ d H2,N d H2 -> Q d H2
theorem b8 (ha:PT X a tA) (hb:PW X (.BoolOp .And (b :: rest) pos) uP):PW X (.BoolOp .And (a :: b :: rest) pos) (lq tA uP):=by
 intro wh pins s σ H Q I h
 refine isTrue_and (C9 (ha pins s σ H _ I h) fun c s1 aV=>?_)
 obtain ⟨H1,I1,N,q0,q1,q2⟩ := aV
 cases c with
 | true=>exact C9 (hb wh pins s1 σ H1 _ I1 (q1 rfl)) fun d s2 ⟨H2,I2,n⟩=>⟨H2,I2,q2 d H2 n⟩
 | false=>exact ⟨H1,I1,q2 _ _ (q0 rfl)⟩
theorem Hs (ha:PT X a tA) (hb:PW X (.BoolOp .Or (b :: rest) pos) uP):PW X (.BoolOp .Or (a :: b :: rest) pos) (ph tA uP):=by
 intro wh pins s σ H Q I h
 refine isTrue_or (C9 (ha pins s σ H _ I h) fun c s1 aV=>?_)
 obtain ⟨H1,I1,N,q0,q1,q2⟩ := aV
 cases c with
 | true=>exact ⟨H1,I1,q2 _ _ (q0 rfl)⟩
 | false=>exact C9 (hb wh pins s1 σ H1 _ I1 (q1 rfl)) fun d s2 ⟨H2,I2,n⟩=>⟨H2,I2,q2 d H2 n⟩
end
section
variable {P:Program} {w:World} {A:Around} {E:Value -> Shared -> Prop} {s:Shared}
end
section
variable {X:Cx}
def ms (K:PySem.W.Frag) (ta:TA):TE:=fun σ H Q=>ta σ H fun vs H1=>∃ l xs,vs = [.ref l] /\ Bg K H1 l xs /\ ∀ d,H1 d = none -> Q (.ref d) (upd H1 d (.lst xs.reverse))
end
section
variable {X:Cx}
def uq (i j:Int):Prop:=0 < j /\ intBits j <= 8999
end
section
variable {X:Cx} {tg:Expr}
def tm (lo c:Int) (n:Nat):It:=⟨fun i _=>i < n,fun i H x H'=>H' = H /\ x = .int (lo + i * c),fun i _=>n <= i⟩
def nl (a b c:Int):Nat:=if a < b then ((b - a - 1) / c + 1).toNat else 0
def tf (ta:TA):TI:=fun σ H R=>ta σ H fun vs H1=>∃ i j c:Int,vs = [.int i,.int j,.int c] /\ (-(2 ^ 60) <= i /\ i < 2 ^ 60 /\ -(2 ^ 60) <= j /\ j < 2 ^ 60) /\ (0 < c /\ c < 2 ^ 30) /\ R (tm i c (nl i j c)) H1
end
theorem Bo.here {P:Program} {w:World} {H:Hp} {h:Heap} {a:Addr} {o:HO} (x:Bo P w H h a o):∃ ob,h.get? a = some ob:=by
 cases o with
 | lst xs=>obtain ⟨_,_,_,_,e⟩ := x; exact ⟨_,e⟩
 | tup xs=>obtain ⟨_,_,_,o,e,_⟩ := x; exact ⟨_,e⟩
 | dK kvs=>obtain ⟨_,_,_,_,o,_,_,e,_⟩ := x; exact ⟨_,e⟩
 | dT kvs=>obtain ⟨_,_,_,_,o,_,_,e,_⟩ := x; exact ⟨_,e⟩
 | set S n=>obtain ⟨o,_,_,_,e,_⟩ := x; exact ⟨_,e⟩
 | ins C dx fs=>obtain ⟨_,_,_,e,_⟩ := x; exact ⟨_,e⟩
 | own y=>exact x
 | xd fs=>obtain ⟨mA,⟨od,es,ep,e,c⟩,r⟩ := x; exact ⟨_,e⟩
 | OZ lo hi=>obtain ⟨t,u,v,e⟩ := x; exact ⟨_,e⟩
 | bE ob u=>exact ⟨_,x.1⟩
 | sA ps=>exact ⟨_,(show h.get? a = some _ from x)⟩
 | met f y=>exact ⟨_,(show h.get? a = some _ from x)⟩
 | ext φ=>exact x.2.1
theorem G7.off {P:Program} {w:World} {H:Hp} {h:Heap} {a:Addr} (ok:G7 P w H h) (e:h.get? a = none):H a = none:=by
 cases q:H a with
 | none=>rfl
 | some u =>
  obtain ⟨ob,z⟩ := (ok a u q).here
  rw [e] at z
  cases z
def G6 (a:Addr) (cls:Value) (h:Heap):Prop := ∃ o vs,h.get? a = some o /\ o.cls = cls /\ o.data = .fields vs
def kx (a:Addr) (h:Heap):Prop := ∃ o vs,h.get? a = some o /\ o.data = .fields vs
theorem au {P:Program} {w:World} {H:Hp} {h:Heap} {a:Addr} {cls:Value} (x:G6 a cls h):Bo P w H h a (.ext (G6 a cls)):=by
 refine ⟨x,?_,?_⟩
 ·obtain ⟨o,_,e,_⟩ := x
  exact ⟨o,e⟩
 ·rintro h1 h2 ⟨o,vs,e,c⟩ k
  exact ⟨o,vs,k o e,c⟩
def pq (h:Heap) (a T:Addr):Prop := ∃ oe vs oT ts a0,h.get? a = some oe /\ oe.data = .fields vs /\ vs[0]? = some a0 /\ vs[1]? = some (.ref T) /\ T ≠ a /\ h.get? T = some oT /\ oT.data = .fields ts /\ ts[3]? = some .none
structure dw (P:Program) (w:World) (fr:List Addr) (H:Hp) (h:Heap) (H':Hp) (h':Heap) (a T:Addr) (cls:Value):Prop where
 un:Un fr [] H H' h h'
 ok:G7 P w H' h'
 exc:H' a = some (.ext (G6 a cls))
 off:H' T = none
 new:h.get? T = none
 tr:pq h' a T
def vg (P:Program) (w:World):Xl:=fun outer H s E e s'=>∃ (a T:Addr) (cls:Value) (H':Hp),e = .ref a /\ s'.os = s.os /\ AllBare s'.gens /\ dw P w (jU outer) H s.heap H' s'.heap a T cls /\ E cls none H'
theorem ng {P : Program} {w : World} {fr old : List Addr} {H H' : Hp} {h h' h2 : Heap} {a T : Addr} {cls : Value} (u : Un fr [] H H' h h') (ok : G7 P w H' h') (jI : ∀ b ∈ fr, H' b = none)
  (FT:∀ b ∈ fr,∃ o,h'.get? b = some o /\ ∀ vs,o.data ≠ .fields vs) (ha:H' a = some (.ext (G6 a cls))) (hold:∀ b ∈ old,H' b = none /\ h.get? b = none)
  (st:(PySem.W.hideAll h' (fr ++ a :: old)).StaysIn h2) (sl:h'.UpToSlots h2) (xa:G6 a cls h2) (xT:kx T h2) (nT:(PySem.W.hideAll h' (fr ++ a :: old)).get? T = none) (na:T ≠ a) :
  Un fr [] H H' h h2 /\ G7 P w H' h2 /\ H' T = none /\ h.get? T = none:=by
 have hT:H' T = none /\ h.get? T = none:=by
  cases q:h'.get? T with
  | none =>
   refine ⟨ok.off q,?_⟩
   cases z:h.get? T with
   | none=>rfl
   | some o =>
    obtain ⟨o',e⟩ := u.there T o z (by simp)
    rw [q] at e
    cases e
  | some o =>
   by_cases hm:T ∈ fr ++ a :: old
   ·rcases List.mem_append.mp hm with z | z
    ·obtain ⟨o1,e1,d1⟩ := FT T z
     obtain ⟨GO,e2⟩ := sl T o1 e1 d1
     obtain ⟨o3,vs,e3,d3⟩ := xT
     rw [e2] at e3
     cases e3
     exact absurd d3 (d1 vs)
    ·rcases List.mem_cons.mp z with z | z
     ·exact absurd z na
     ·exact hold T z
   ·have:=PySem.W.hideAll_get _ q hm
    rw [nT] at this
    cases this
 have nN:∀ b o u',h'.get? b = some o -> H' b = some u' -> b ≠ a -> h2.get? b = some o:=fun b o u' e q n1=>by
  refine st b o (PySem.W.hideAll_get _ e fun hm=>?_)
  rcases List.mem_append.mp hm with z | z
  ·rw [jI b z] at q
   cases q
  ·rcases List.mem_cons.mp z with z | z
   ·exact n1 z
   ·rw [(hold b z).1] at q
    cases q
 have uQ:∀ b o o',h.get? b = some o -> h'.get? b = some o' -> H' b = none -> b ∉ fr -> h2.get? b = some o':=fun b o o' e e' q n=>by
  refine st b o' (PySem.W.hideAll_get _ e' fun hm=>?_)
  rcases List.mem_append.mp hm with z | z
  ·exact n z
  ·rcases List.mem_cons.mp z with z | z
   ·rw [z,ha] at q
    cases q
   ·rw [(hold b z).2] at e
    cases e
 refine ⟨⟨fun b o e q n _=>uQ b o o e (u.keep b o e q n (by simp)) (u.free b o e q (by simp)) n,fun b o e q n _=>?_,fun b o e q _=>u.free b o e q (by simp),fun b o e _=>?_,u.aX,u.dM,u.eO⟩,fun b v q=>?_,hT⟩
 ·obtain ⟨sl1,e1⟩ := u.slot b o e q n (by simp)
  obtain ⟨o2,e2,d2⟩ := FT b n
  rw [e1] at e2
  cases e2
  obtain ⟨sl3,e3⟩ := sl b _ e1 d2
  exact ⟨sl3,e3⟩
 ·obtain ⟨o',e'⟩ := u.there b o e (by simp)
  cases q:H' b with
  | none =>
   by_cases n:b ∈ fr
   ·obtain ⟨o1,e1,d1⟩ := FT b n
    obtain ⟨GO,e2⟩ := sl b o1 e1 d1
    exact ⟨_,e2⟩
   ·exact ⟨_,uQ b o o' e e' q n⟩
  | some v =>
   by_cases n1:b = a
   ·obtain ⟨o2,_,e2,_⟩ := xa
    rw [n1]
    exact ⟨_,e2⟩
   ·exact ⟨_,nN b o' v e' q n1⟩
 ·by_cases n1:b = a
  ·subst n1
   rw [ha] at q
   cases q
   exact au xa
  ·refine (ok b v q).fM (fun c x hc e=>?_) (fun c e=>e) fun c xs e=>e
   rcases hc with z | z
   ·subst z
    exact nN c x v e q n1
   ·refine nN c x _ e z fun e2=>?_
    rw [e2,ha] at z
    cases z
section
variable {X:Cx} {pins:List (Addr × Obj)} {σ:St} {H:Hp} {s:Shared}
theorem Ai.FT (I:Ai X pins σ H s):∀ b ∈ jU X.stack,∃ o,s.heap.get? b = some o /\ ∀ vs,o.data ≠ .fields vs:=fun b hb=>(I.stack.mem hb).2
theorem dw.cls {P:Program} {w:World} {fr:List Addr} {H H':Hp} {h h':Heap} {a T:Addr} {cls:Value} (F:dw P w fr H h H' h' a T cls):G6 a cls h':=(F.ok a _ F.exc).1
theorem dw.on {P : Program} {w : World} {fr old : List Addr} {H H' : Hp} {h h' h2 : Heap} {a : Addr} {cls a0 : Value} (un : Un fr [] H H' h h') (ok : G7 P w H' h') (exc : H' a = some (.ext (G6 a cls))) (jI : ∀ b ∈ fr, H' b = none)
  (FT:∀ b ∈ fr,∃ o,h'.get? b = some o /\ ∀ vs,o.data ≠ .fields vs) (hold:∀ b ∈ old,H' b = none /\ h.get? b = none)
  (st:(PySem.W.hideAll h' (fr ++ a :: old)).StaysIn h2) (sl:h'.UpToSlots h2) (tr:h2.TracedW (PySem.W.hideAll h' (fr ++ a :: old)) a cls a0):∃ T,dw P w fr H h H' h2 a T cls:=by
 obtain ⟨oe,vs,T,oT,ts,q1,⟨q2,q3⟩,q4,q5,q6,q7,q8,q9,SG⟩ := tr
 obtain ⟨u,k,n1,n2⟩ := ng (T:=T) un ok jI FT exc hold st sl ⟨oe,vs,q1,q2,q4⟩ ⟨oT,ts,q8,q9⟩ q6 q7
 exact ⟨T,u,k,exc,n1,n2,oe,vs,oT,ts,a0,q1,q4,q3,q5,q7,q8,q9,SG⟩
end
section
variable {P:Program} {w:World} {K:PySem.W.Frag} {mg:Str -> Option Value} {base:Heap} {N:List Str} {qual:Str} {scope:Scope} {f:Addr} {cd:Value} {A:Around} {outer:List Env} {s₀:Shared} {H₀:Hp} {E:XK}
def sr (X:Cx) (R:St -> XK -> Prop):Prop := ∀ (pins:List (Addr × Obj)) (σ:St) (H:Hp) (s:Shared) (e:Value) (s':Shared) (E:XK),R σ E -> Ai X pins σ H s -> vg X.prog X.w X.stack H s E e s' -> X.xe e s'
def RD (E:XK):St -> XK -> Prop:=fun _ E1=>∀ c d H,E1 c d H -> E c d H
def qi (X:Cx) (E:XK):Prop := ∀ (pins:List (Addr × Obj)) (σ:St) (H:Hp) (s:Shared) (h':Heap) (e:Addr) (cls:Value) (vs:List Value),Ai X pins σ H s -> Heap.MadeExcOf s.heap h' e cls vs ->
 (∀ H2,A9 H H2 -> E cls none H2) -> X.xe (.ref e) { s with heap:=h' }
end
def rj (K:PySem.W.Frag) (C:Addr):Prop:=PySem.W.excIn K C [.type "ValueError",.type "Exception",.type "BaseException",.type "object"] "ValueError.__new__" = true
section
variable {X:Cx} {x:Str} {C:Addr} {p np bA pos:Pos} {e:Expr} {es:List Expr} {t:TA} {E:XK}
def rk (C:Addr) (t:TA) (E:XK):TS:=fun _ σ H=>t σ H fun vs H1=>vs.length <= sizeLine /\ ∀ H2,A9 H1 H2 -> E (.ref C) none H2
variable {k:Nat} {f:Addr} {fd:FuncData} {ps:List Str} {sp:Sp} {gJ:List V} {ds:List Value} {R:St -> XK -> Prop}
def rm (sp:Sp) (gJ:List V) (R:St -> XK -> Prop) (t:TA):TE:=fun σ H Q=>t σ H fun vs H1=>∃ E,R σ E /\ sp (vs ++ gJ) H1 Q E
end
section
variable {P:Program} {w:World} {K:PySem.W.Frag} {mg:Str -> Option Value} {base:Heap} {x qual:Str} {st:Stmt} {f:Addr} {fd:FuncData} {N ps:List Str} {k:Nat} {sp:Sp}
end
open PySem.W (Looks)
inductive Hr (X:Cx) (C:Addr):List Expr -> List Addr -> Prop
 | nil:Hr X C [] []
 | cons {x : Str} {p : Pos} {c : Addr} {es : List Expr} {cs : List Addr} (hg : Gl X x) (hm : X.mg x = some (.ref c)) (hd : (x == ("__debug__" : Str)) = false)
   (hb:PySem.W.subIn X.K (.ref c) (.type "BaseException") = some true) (hn:PySem.W.subIn X.K (.ref C) (.ref c) = some false) (he:∀ env:Env,starEach (.Name x p :: es) env = (false,eval (.Name x p) env) :: starEach es env) (r:Hr X C es cs):Hr X C (.Name x p :: es) (c :: cs)
section
variable {X:Cx} {pins:List (Addr × Obj)} {σ:St} {H:Hp} {s:Shared} {C:Addr}
theorem Hr.len {es:List Expr} {cs:List Addr} (r:Hr X C es cs):cs.length = es.length:=by
 induction r with
 | nil=>rfl
 | cons _ _ _ _ _ _ _ ih=>simp [ih]
def uh (K:PySem.W.Frag):List V -> Hp -> VK -> Prop:=fun xs H Q=>∃ (a:Addr) (t c:Value) (v:V),xs = [.ref a,v] /\ H a = some (.ext (G6 a t)) /\ (∀ u,Av v u -> u = c) /\ PySem.W.kitOne K t c = some true /\ Q (.bl true) H
end
abbrev Cx.at (X:Cx) (A:Around):Cx:={ X with A:=A,calm:=false,xe:=fun _ _=>False }
abbrev Cx.PN (X:Cx) (pn:List (Addr × Obj)) (W:Value -> Shared -> Prop):Cx:={ X with pn:=pn,xe:=W }
section
variable {X:Cx} {pins:List (Addr × Obj)} {σ:St} {H:Hp} {s:Shared}
theorem Ai.at (I:Ai X pins σ H s) {A:Around} (hA:A.frames = X.A.frames):Ai (X.at A) pins σ H s :=
 ⟨⟨I.ok.mod,I.ok.kind,I.ok.glob,I.ok.blt,I.ok.above,I.ok.inj,I.ok.has,I.ok.xj,fun z=>(nomatch z),hA.trans I.ok.frames,I.ok.FK,I.ok.GQ,I.ok.bs,I.ok.nF,I.ok.kB,I.ok.kC,I.ok.dU,I.ok.sS⟩,I.os,I.bare,I.base,I.loc,I.cell,I.free,I.bD,I.pin,I.aF,I.len⟩
theorem Ai.back {A:Around} (ok:X.Ok) (I:Ai (X.at A) pins σ H s):Ai X pins σ H s:=⟨ok,I.os,I.bare,I.base,I.loc,I.cell,I.free,I.bD,I.pin,I.aF,I.len⟩
theorem Ai.PN {W:Value -> Shared -> Prop} (I:Ai X pins σ H s):Ai (X.PN (X.pn ++ pins) W) [] σ H s :=
 ⟨⟨I.ok.mod,I.ok.kind,I.ok.glob,I.ok.blt,I.ok.above,I.ok.inj,I.ok.has,I.ok.xj,I.ok.hd,I.ok.frames,I.ok.FK,I.ok.GQ,I.ok.bs,I.ok.nF,I.ok.kB,I.ok.kC,I.ok.dU,I.ok.sS⟩,I.os,I.bare,I.base,I.loc,I.cell,I.free,I.bD,
  fun p hp=>I.pin p (by rwa [List.append_nil] at hp),I.aF,I.len⟩
theorem Ai.out {W:Value -> Shared -> Prop} {lJ:List (Addr × Obj)} (ok:X.Ok) (I:Ai (X.PN (X.pn ++ pins) W) lJ σ H s):Ai X pins σ H s :=
 ⟨ok,I.os,I.bare,I.base,I.loc,I.cell,I.free,I.bD,fun p hp=>I.pin p (List.mem_append_left _ hp),I.aF,I.len⟩
theorem SP.out {W:Value -> Shared -> Prop} {D:Hq} {f:Flow} {s':Shared} (ok:X.Ok) (h:SP (X.PN (X.pn ++ pins) W) [] D f s'):SP X pins D f s':=by
 cases f with
 | next=>obtain ⟨σ',H',I,q⟩ := h; exact ⟨σ',H',I.out ok,q⟩
 | brk=>obtain ⟨σ',H',I,q⟩ := h; exact ⟨σ',H',I.out ok,q⟩
 | cont=>obtain ⟨σ',H',I,q⟩ := h; exact ⟨σ',H',I.out ok,q⟩
 | ret u=>obtain ⟨v,σ',H',I,r,q⟩ := h; exact ⟨v,σ',H',I.out ok,r,q⟩
theorem dw.kept {P:Program} {w:World} {fr:List Addr} {H H':Hp} {h h' h2:Heap} {a T:Addr} {cls:Value} (F:dw P w fr H h H' h' a T cls) (k:∀ b o,h'.get? b = some o -> h2.get? b = some o):dw P w fr H h H' h2 a T cls:=by
 obtain ⟨oe,vs,oT,ts,a0,e1,d1,h0,h1,nT,e2,d2,h3⟩ := F.tr
 exact ⟨F.un.trans (Un.kept k),F.ok.kept k,F.exc,F.off,F.new,oe,vs,oT,ts,a0,k _ _ e1,d1,h0,h1,nT,k _ _ e2,d2,h3⟩
def RT (tu:TS) (C:Addr) (i:Nat) (D:Hq):St -> XK -> Prop:=fun σ1 E=>∀ cls H',E cls none H' -> cls = .ref C /\ ∀ a,H' a = some (.ext (G6 a (.ref C))) ->
 tu { nx:=fun σ' H4=>D.nx (σ'.set i none) H4,rt:=fun _ _=>False } (σ1.set i (some (.ref a))) H'
def vh (tb:(St -> XK -> Prop) -> TS) (tu:TS) (C:Addr) (i:Nat):TS:=fun D σ H=>tb (RT tu C i D) D σ H
theorem Hr.all {C:Addr} {es:List Expr} {cs:List Addr} (r:Hr X C es cs):∀ c ∈ cs,PySem.W.subIn X.K (.ref c) (.type "BaseException") = some true /\ PySem.W.subIn X.K (.ref C) (.ref c) = some false:=by
 induction r with
 | nil=>exact fun _ z=>nomatch z
 | cons _ _ _ hb hn _ _ ih =>
  intro c hc
  rcases List.mem_cons.mp hc with e | hc
  ·rw [e]
   exact ⟨hb,hn⟩
  ·exact ih c hc
end
section
variable {X:Cx}
end
def N4 (val:Nat -> Int) (j:Nat) (m:Int):Prop:=(∃ i,i <= j /\ m = val i) /\ ∀ i,i <= j -> val i <= m
theorem N4.up {val:Nat -> Int} {j:Nat} {m:Int} (h:N4 val j m) (b:m < val (j + 1)):N4 val (j + 1) (val (j + 1)):=by
 refine ⟨⟨j + 1,Nat.le_refl _,rfl⟩,fun i hi=>?_⟩
 rcases Nat.lt_or_ge j i with z | z
 ·have e:i = j + 1:=by omega
  rw [e]
  omega
 ·have:=h.2 i z
  omega
theorem N4.same {val:Nat -> Int} {j:Nat} {m:Int} (h:N4 val j m) (b:¬ m < val (j + 1)):N4 val (j + 1) m:=by
 obtain ⟨⟨i0,z0,e0⟩,h2⟩ := h
 refine ⟨⟨i0,by omega,e0⟩,fun i hi=>?_⟩
 rcases Nat.lt_or_ge j i with z | z
 ·have e:i = j + 1:=by omega
  rw [e]
  omega
 ·exact h2 i z
section
variable {prog:Program} {w:World} {A:Around} {R:Result -> Shared -> Prop} {I S:Addr} {fp wr:List Addr} {n:Nat} {P:Nat -> Value -> Prop} {St:Nat -> Heap -> Prop} {val:Nat -> Int}
end
section
variable {prog:Program} {w:World} {A:Around} {E:Value -> Shared -> Prop} {s:Shared} {l:Addr}
theorem Nd {id : String} {b : Builtin} {args : Args} {Q : Value -> Shared -> Prop} (hk : builtinKind id = none) (hp : plainId id = true) (hb : entryFor table id = some b) (ha : argsOk id args)
  (hc:wpAny (model prog w) A.in1 (b args) (fun fin s'=>match fin with
   | .done f=>(match (Except.ok f:Result) with | .ok (.ret v)=>Q v s' | .ok _=>False | .error e=>E e s')
   | .again c'=>c'.quiet = true /\ codeAny (model prog w) A c' (fun r s'=>match r with | .ok (.ret v)=>Q v s' | .ok _=>False | .error e=>E e s') s') E s) :
  wpAny (model prog w) A (call (.builtin id) args.pos args.kw) Q E s:=by
 refine wpAny_call (codeAny_call_builtin hp hb ?_)
 simp only [checkBuiltinCall,hk]
 cases hs:Manifest.signature? id with
 | none=>exact wpAny_pure hc
 | some sg =>
  have h2:Bind.checkArgs id sg args = pure ():=by simpa only [argsOk,hs] using ha
  have h3:(⟨args.pos,args.kw⟩ : Args) = args:=rfl
  simp only [h3,h2]
  exact wpAny_pure hc
end
section
variable {X:Cx} {p pos RQ:Pos} {e d:Expr} {t:TA} {td:TE} {x:Str}
def uf (K:PySem.W.Frag) (t:TA) (td:TE):TE:=fun σ H Q=>t σ H fun vs H1=>de td mf σ H1 fun ys H2=>∃ (a:Addr) (ns:List Int) (dv:Int),vs = [.ref a] /\ ys = [.int dv] /\ Bg K H2 a (ns.map V.int) /\
 ∀ m:Int,(ns = [] -> m = dv) -> (ns ≠ [] -> m ∈ ns /\ ∀ b ∈ ns,b <= m) -> Q (.int m) H2
end
open PySem PySem.Spec PyProof.Rows PySem.SeqAt
def ge (A:Around) (s:Shared) (x y:Value) (b:Bool):Prop := ∀ (prog:Program) (w:World) (E:Value -> Shared -> Prop) (Q:Value -> Shared -> Prop),Q (.bool b) s -> wpAny (model prog w) A (richCompare .Lt x y) Q E s
theorem gn (l b : Addr) (xs ys : Array Value) (n n2 : Nat) (dd FN : Option Addr) (sl FO : Array (Option Value)) (e : Nat -> Bool) (r : Bool) :
  Meets (Builtin.«tuple.__lt__» ⟨[.ref l,.ref b],[]⟩)
   (fun A R s=>s.heap.get? l = some { cls := .type "tuple",dict:=dd,data := .seq xs n,slots:=sl } /\ s.heap.get? b = some { cls := .type "tuple",dict:=FN,data := .seq ys n2,slots:=FO } /\
    (∀ j (h1:j < xs.size) (h2:j < ys.size),EqAt A.in1 s xs[j] ys[j] (e j)) /\ (∀ j (h1:j < xs.size) (h2:j < ys.size),(∀ i,i < j -> e i = true) -> e j = false -> ge A.in1 s xs[j] ys[j] r) /\
    ((∀ j,j < min xs.size ys.size -> e j = true) -> r = decide (xs.size < ys.size)) /\ R (.ok (.ret (.bool r))) s) :=
 .of_wp fun prog w A R s h=>by
  obtain ⟨hp,g,d,tk,os⟩ := s
  obtain ⟨hl,hb,he,hf,hz,h⟩ := h
  have f2:=AutoSeq1.sub_tuple_tuple
  have hZ:(xs.toList.zip ys.toList).length = min xs.size ys.size:=by simp
  wp_walk using wpAny_loadPart' hl,wpAny_loadPart' hb,wpAny_forIn_list _ (fun rest b s'=>b.1 = none /\ s' = ⟨hp,g,d,tk,os⟩ /\ ∃ i,rest = (xs.toList.zip ys.toList).drop i /\ ∀ k,k < i -> k < min xs.size ys.size -> e k = true) _
  case turn =>
   rintro ⟨y,x⟩ rest b s' ⟨gM,rfl,i,hq,hR⟩
   have aN:i < (xs.toList.zip ys.toList).length:=by
    apply Classical.byContradiction
    intro z
    rw [List.drop_of_length_le (by omega)] at hq
    cases hq
   have h1:i < xs.size:=by omega
   have h2:i < ys.size:=by omega
   rw [List.drop_eq_getElem_cons aN] at hq
   injection hq with HN nO
   have hy:y = xs[i]:=by simpa using congrArg Prod.fst HN
   have hx:x = ys[i]:=by simpa using congrArg Prod.snd HN
   subst hy hx
   refine wpAny_bind (he i h1 h2 prog w _ _ ?_)
   cases hy:e i with
   | true =>
    wp_walk
    refine ⟨rfl,rfl,i + 1,nO,fun k hk tH=>?_⟩
    by_cases z:k = i
    ·rw [z]
     exact hy
    ·exact hR k (by omega) tH
   | false =>
    have sF:=hf i h1 h2 (fun k hk=>hR k hk (by omega)) hy prog w
    wp_walk using sF _ _
    exact ⟨_,rfl,h⟩
  case fin =>
   rintro ⟨b1,b2⟩ s' ⟨gM,rfl,i,hq,hR⟩
   simp only at gM
   subst gM
   have PQ:min xs.size ys.size <= i:=by
    apply Classical.byContradiction
    intro z
    rw [List.drop_eq_getElem_cons (by omega)] at hq
    cases hq
   have hr:=hz fun j hj=>hR j (by omega) hj
   wp_walk
   refine ⟨_,rfl,?_⟩
   rw [hr] at h
   simpa [Builtin.Tuple.tupleCompareSizes] using h
  case h =>
   exact ⟨rfl,rfl,0,rfl,fun k hk=>absurd hk (Nat.not_lt_zero k)⟩
mutual
def Jl:PyData -> PyData -> Bool
 | .int a,.int b=>decide (a < b)
 | .tuple xs,.tuple ys=>aH xs ys
 | _,_=>false
def aH:List PyData -> List PyData -> Bool
 | [],[]=>false
 | [],_ :: _=>true
 | _ :: _,[]=>false
 | x :: xs,y :: ys=>if PyData.eqv x y then aH xs ys else Jl x y
end
mutual
def Gg:PyData -> PyData -> Prop
 | .int _,.int _=>True
 | .tuple xs,.tuple ys=>bL xs ys
 | _,_=>False
def bL:List PyData -> List PyData -> Prop
 | x :: xs,y :: ys=>Gg x y /\ bL xs ys
 | _,_=>True
end
theorem N7:∀ (xs ys:List PyData),(∀ j,j < min xs.length ys.length -> pairEq xs ys j = true) -> aH xs ys = decide (xs.length < ys.length)
 | [],[],_=>rfl
 | [],y :: ys,_=>by simp [aH]
 | x :: xs,[],_=>by simp [aH]
 | x :: xs,y :: ys,h=>by
  have h0:PyData.eqv x y = true:=h 0 (by simp only [List.length_cons]; omega)
  have ih:=N7 xs ys fun j hj=>h (j + 1) (by simp only [List.length_cons]; omega)
  rw [aH,if_pos h0,ih]
  simp
mutual
theorem Im : ∀ (da db : PyData) (A : Around) (s : Shared) (a b : Value) (as bs : List Addr), Reads s.heap a da as -> Reads s.heap b db bs -> da.canLay0 = true -> db.canLay0 = true -> Gg da db ->
  A.units + min da.depth db.depth < cLine -> ge A s a b (Jl da db)
 | .int x,db,A,s,_,_,_,_,ra,rb,_,_,hc,hu=>by
  cases db with
  | int y =>
   cases ra with
   | int _ t =>
    cases rb with
    | int _ u =>
     intro prog w E Q h
     exact richCompare_gives (op := .Lt) (typeIs_int s _ t) (typeIs_int s _ u) F.slot_int_lt F.entry_int_lt (F.args_int_lt_2 _ _) (gives_int_lt _ _ t u) (fun z=>nomatch z) h
  | none=>exact hc.elim
  | bool _=>exact hc.elim
  | str _=>exact hc.elim
  | list _=>exact hc.elim
  | tuple _=>exact hc.elim
  | dict _=>exact hc.elim
 | .tuple xs,db,A,s,_,_,_,_,ra,rb,ha,hb,hc,hu=>by
  cases db with
  | tuple ys =>
   cases ra with
   | @tuple l o vs n _ as₁ h1 h2 h3 h4 =>
    cases rb with
    | @tuple l' o' tI n' _ bs₁ k1 k2 k3 k4 =>
     obtain ⟨oc,od,PU,gZ⟩ := o
     obtain ⟨oc',SW,SX,xA⟩ := o'
     simp only at h2 h3 k2 k3
     subst h2 h3 k2 k3
     have n1:vs.size = xs.length:=by simpa using ReadsAll.length _ _ _ h4
     have n2:tI.size = ys.length:=by simpa using ReadsAll.length _ _ _ k4
     intro prog w E Q h
     refine richCompare_meets_room (op := .Lt) ⟨_,h1,rfl⟩ ⟨_,k1,rfl⟩ F.slot_tuple_lt F.entry_tuple_lt (F.args_tuple_lt_2 _ _) (gn l l' vs tI n n' od SW gZ xA (pairEq xs ys) (aH xs ys)) ⟨h1,k1,fun j j1 j2=>?_,fun j j1 j2 f1 f2=>?_,fun f=>?_,(fun z=>nomatch z),h⟩ (room_here hu)
     ·have:=eqAt_readsAll xs ys A.in1 s vs.toList tI.toList _ _ h4 k4 ha hb (room_in hu) j (by simpa using j1) (by simpa using j2)
      simpa using this
     ·have:=eV xs ys A.in1 s vs.toList tI.toList _ _ h4 k4 ha hb hc (room_in hu) j (by simpa using j1) (by simpa using j2) f1 f2
      simpa using this
     ·rw [n1,n2] at f ⊢
      exact N7 xs ys f
  | none=>exact hc.elim
  | bool _=>exact hc.elim
  | str _=>exact hc.elim
  | list _=>exact hc.elim
  | int _=>exact hc.elim
  | dict _=>exact hc.elim
 | .none,_,_,_,_,_,_,_,_,_,_,_,hc,_=>hc.elim
 | .bool _,_,_,_,_,_,_,_,_,_,_,_,hc,_=>hc.elim
 | .str _,_,_,_,_,_,_,_,_,_,_,_,hc,_=>hc.elim
 | .list _,_,_,_,_,_,_,_,_,_,_,_,hc,_=>hc.elim
 | .dict _,_,_,_,_,_,_,_,_,_,_,_,hc,_=>hc.elim
theorem eV : ∀ (xs ys : List PyData) (A : Around) (s : Shared) (vs ws : List Value) (as bs : List Addr), ReadsAll s.heap vs xs as -> ReadsAll s.heap ws ys bs -> PyData.canLayAll0 xs = true -> PyData.canLayAll0 ys = true -> bL xs ys ->
  A.units + min (PyData.depthAll xs) (PyData.depthAll ys) < cLine -> ∀ j (h1:j < vs.length) (h2:j < ws.length),(∀ i,i < j -> pairEq xs ys i = true) -> pairEq xs ys j = false -> ge A s vs[j] ws[j] (aH xs ys)
 | [],_,_,_,_,_,_,_,ra,_,_,_,_,_,j,h1,_,_,_=>by cases ra; exact absurd h1 (Nat.not_lt_zero _)
 | _ :: _,[],_,_,_,_,_,_,_,rb,_,_,_,_,j,_,h2,_,_=>by cases rb; exact absurd h2 (Nat.not_lt_zero _)
 | x :: xs,y :: ys,A,s,_,_,_,_,ra,rb,ca,cb,hc,hu,j,h1,h2,f1,f2=>by
  cases ra with
  | cons r1 r2 =>
   cases rb with
   | cons q1 q2 =>
    have uR:x.canLay0 = true /\ PyData.canLayAll0 xs = true:=by simpa [PyData.canLayAll0] using ca
    have uS:y.canLay0 = true /\ PyData.canLayAll0 ys = true:=by simpa [PyData.canLayAll0] using cb
    have hd:A.units + min x.depth y.depth < cLine /\ A.units + min (PyData.depthAll xs) (PyData.depthAll ys) < cLine:=by
     simp only [PyData.depthAll] at hu
     omega
    cases j with
    | zero =>
     have e:aH (x :: xs) (y :: ys) = Jl x y:=by
      have f3:PyData.eqv x y = false:=f2
      rw [aH,f3]
      rfl
     rw [e]
     exact Im x y A s _ _ _ _ r1 q1 uR.1 uS.1 hc.1 hd.1
    | succ j =>
     have e:aH (x :: xs) (y :: ys) = aH xs ys:=by
      have f3:PyData.eqv x y = true:=f1 0 (Nat.succ_pos _)
      rw [aH,f3]
      rfl
     rw [e]
     exact eV xs ys A s _ _ _ _ r2 q2 uR.2 uS.2 hc.2 hd.2 j (Nat.lt_of_succ_lt_succ h1) (Nat.lt_of_succ_lt_succ h2) (fun i hi=>f1 (i + 1) (Nat.succ_lt_succ hi)) f2
end
section
variable {X:Cx} {k:Nat}
def r8:R2:=fun x y H Q=>∃ d e:PyData,Rp H d x /\ Rp H e y /\ Gg d e /\ d.depth <= 60 /\ Q (.bl (Jl d e)) H
theorem fw (hr:Cq k X.A):K6 X (compareOp .Lt) r8:=by
 intro pins s σ H x y v u Q I rx ry h
 obtain ⟨d,e,h1,h2,hc,hd,q⟩ := h
 obtain ⟨as,q1⟩ := Cr I d x v h1 rx
 obtain ⟨bs,q2⟩ := Cr I e y u h2 ry
 have hu:=hr.units
 exact Im d e X.A s v u as bs q1 q2 (Cs d x h1) (Cs e y h2) hc (by omega) _ _ _ _ ⟨.bl (Jl d e),H,I,rfl,q⟩
end
section
variable {X:Cx}
def l8 (K:PySem.W.Frag):R2:=fun x y H Q=>∃ a b xs ys,x = .ref a /\ y = .ref b /\ Bw K H a xs /\ H b = some (.tup ys) /\ ys ≠ [] /\ xs.length + ys.length <= sizeLine /\
 ∀ p H',A9 H H' -> H' p = some (.tup (xs ++ ys)) -> Q (.ref p) H'
theorem al (K:PySem.W.Frag) (hK:X.K = K:=by rfl):K6 X (binaryOp .Add) (l8 K):=by
 subst hK
 intro pins s σ H x y v u Q I rx ry h
 obtain ⟨a,b,xs,ys,rfl,rfl,ha,hb,hy,hz,q⟩ := h
 by_cases hx:xs = []
 ·subst hx
  cases rx
  cases ry
  obtain ⟨aD,r1,p1,_⟩ := I.tuple ha
  obtain ⟨iO,r2,p2,_⟩ := I.tuple (Bw.of hb)
  cases r1
  obtain ⟨⟨c1,d1,t1,l1⟩,ho,hc,n,hd⟩ := p1
  obtain ⟨⟨c2,d2,t2,l2⟩,iL,gL,n2,hd2⟩ := p2
  simp only at hc hd gL hd2
  subst hc hd gL hd2
  exact concat_meets ⟨_,ho,rfl⟩ ⟨_,iL,rfl⟩ noFill_tuple_add seq_tuple_add PySem.F.slot_tuple_add PySem.F.entry_tuple_add (PySem.F.args_tuple_add_2 _ _) (tuple_addW0 a b _ _ n n2 d1 d2 l1 l2 rfl) ⟨ho,iL,.ref b,H,I,rfl,q b H (A9.refl H) hb⟩
 ·exact ae pins s σ H _ _ v u Q I rx ry ⟨a,b,xs,ys,rfl,rfl,ha,Bw.of hb,hx,hz,fun e=>absurd e hy,fun _ p hp=>q p _ (A9.upd hp) A5⟩
end
def Zf (h:Heap) (a t:Addr) (i:Int):Prop := ∃ o,h.get? a = some o /\ o.cls = .type "reversed" /\ o.data = .fields #[.ref t,rawInt i]
section
variable {prog:Program} {w:World} {A:Around} {E:Value -> Shared -> Prop} {s:Shared}
theorem Zf.ty {a t:Addr} {i:Int} (x:Zf s.heap a t i):s.TypeIs (.ref a) "reversed" := let ⟨o,ho,hc,_⟩ := x; ⟨o,ho,hc⟩
theorem Zf.at {h h':Heap} {a t:Addr} {i:Int} (x:Zf h a t i) (e:∀ o,h.get? a = some o -> h'.get? a = some o):Zf h' a t i:=let ⟨o,ho,r⟩ := x; ⟨o,e _ ho,r⟩
end
def rq (t:Addr) (i:Int):Obj:={ cls := .type "reversed",data := .fields #[.ref t,rawInt i] }
section
variable {prog:Program} {w:World} {A:Around} {E:Value -> Shared -> Prop} {s:Shared}
end
def vy (K:PySem.W.Frag) (a:Addr) (xs:List V):It :=
 ⟨fun i H=>Bw K H a xs /\ i < xs.length,fun i H x H'=>H' = H /\ xs.reverse[i]? = some x,fun i H=>Bw K H a xs /\ xs.length <= i⟩
def uu (K:PySem.W.Frag) (ta:TA):TI:=fun σ H R=>ta σ H fun vs H1=>∃ t xs,vs = [.ref t] /\ Bw K H1 t xs /\ R (vy K t xs) H1
section
variable {X:Cx} {tg:Expr}
end
section
variable {P:Program} {w:World} {A:Around} {E:Value -> Shared -> Prop} {s:Shared}
end
section
variable {X:Cx}
def oq (K:PySem.W.Frag) (ta:TA):TE:=fun σ H Q=>ta σ H fun vs H1=>∃ l xs,vs = [.ref l] /\ Bg K H1 l xs /\ ∀ d,H1 d = none -> Q (.ref d) (upd H1 d (.tup xs.reverse))
end
section
variable {X:Cx}
end
section
variable {prog:Program} {w:World} {A:Around} {E:Value -> Shared -> Prop} {I:Addr} {fp wr:List Addr} {St:Nat -> Heap -> Prop} {items:Array Value}
end
section
variable {X:Cx} {pos:Pos}
def vw (K:PySem.W.Frag) (n:Nat) (t:b9):TG:=fun v σ H Q=>∃ a xs,v = .ref a /\ Bg K H a xs /\ xs.length = n /\ t xs σ H Q
end
open PySem.W (Looks)
section
variable {prog:Program} {w:World} {A:Around} {E:Value -> Shared -> Prop} {K:PySem.W.Frag} {x C:Addr} {h:Heap} {g:Array GenState} {d:Drawn} {t:Nat} {os:OsState}
structure mq (K:PySem.W.Frag) (C:Addr):Prop where
 ga:PySem.W.findIn K (.ref C) "__getattribute__" = some (some (.builtin "BaseException.__getattribute__"))
 gt:PySem.W.findIn K (.ref C) "__getattr__" = some none
 cl:PySem.W.findIn K (.ref C) "__class__" = some (some (.builtin "object.__class__"))
 gs:PySem.W.specialIn K (.builtin "object.__class__") "__get__" = some (some (.builtin "getset_descriptor.__get__"))
 tk:PySem.W.takesIn K (.builtin "object.__class__") = some true
 ob:PySem.W.mroIn K C (.type "object") = some true
 be:PySem.W.subIn K (.ref C) (.type "BaseException") = some true
end
section
variable {X:Cx}
def uj (K:PySem.W.Frag):List V -> Hp -> VK -> Prop:=fun xs H Q=>∃ (a C:Addr) (c:Value) (v:V) (b:Bool),xs = [.ref a,v] /\ H a = some (.ext (G6 a (.ref C))) /\ (∀ u,Av v u -> u = c) /\ mq K C /\ PySem.W.kitOne K (.ref C) c = some b /\ Q (.bl b) H
end
open PySem.W (Looks)
section
variable {X:Cx}
def vp (K:PySem.W.Frag) (tu:TS) (Y:Addr) (i:Nat) (D:Hq):St -> XK -> Prop:=fun σ1 E=>∀ cls H',E cls none H' -> ∃ C,cls = .ref C /\ PySem.W.subIn K (.ref C) (.ref Y) = some true /\ ∀ a,H' a = some (.ext (G6 a (.ref C))) ->
 tu { nx:=fun σ' H4=>D.nx (σ'.set i none) H4,rt:=fun _ _=>False } (σ1.set i (some (.ref a))) H'
def ug (K:PySem.W.Frag) (tb:(St -> XK -> Prop) -> TS) (tu:TS) (Y:Addr) (i:Nat):TS:=fun D σ H=>tb (vp K tu Y i D) D σ H
end
section
variable {X:Cx}
def w4 (i j:Int):Prop:=0 <= j /\ ((intBits i:Nat):Int) + j <= 2 ^ 27
end
theorem Sr {K : PySem.W.Frag} {a : Addr} {xs : List V} {fr : List Nat} {tt : TT} {te : TE} {σ : St} {D : Addr} {H1 : Hp} {Q : Hp -> Prop} (Pv : Nat -> List V -> Hp -> Prop) (h0 : Pv 0 [] (upd H1 D (.lst [])))
  (hl:∀ i ys H,i <= xs.length -> Pv i ys H -> Bg K H a xs)
  (hs:∀ i x ys H,xs[i]? = some x -> Pv i ys H -> tt (some x :: Cn fr σ) H fun b H4 =>
   if b = true then te (some x :: Cn fr σ) H4 fun v H5=>H5 D = some (.lst ys) /\ ys.length < sizeLine /\ Pv (i + 1) (ys ++ [v]) (upd H5 D (.lst (ys ++ [v]))) else Pv (i + 1) ys H4)
  (mt:∀ σ H Q Q',(∀ b H',Q b H' -> Q' b H') -> tt σ H Q -> tt σ H Q') (me:∀ σ H Q Q',(∀ v H',Q v H' -> Q' v H') -> te σ H Q -> te σ H Q')
  (hd:∀ ys H,Pv xs.length ys H -> Q H):Dd 1 fr (dr K a) (F5 0) tt te σ D H1 Q:=by
 refine ⟨fun i m ys H=>m = xs.length - i /\ i <= xs.length /\ Pv i ys H,⟨xs.length,by simp,Nat.zero_le _,h0⟩,?_⟩
 rintro i m ys H' ⟨rfl,hi,p⟩
 have q1:=hl i ys H' hi p
 by_cases aN:i < xs.length
 ·refine .inr ⟨⟨xs,xs[i],q1,by simp [aN]⟩,fun x H2 y=>?_⟩
  obtain ⟨e,y⟩ := y
  subst e
  refine ⟨⟨[some x],rfl,rfl⟩,?_⟩
  refine mt _ _ _ _ ?_ (hs i x ys _ (y xs q1) p)
  intro b H4 q
  cases b with
  | false=>exact ⟨xs.length - (i + 1),by omega,rfl,aN,q⟩
  | true=>exact me _ _ _ _ (fun v H5 ⟨r1,r2,r3⟩=>⟨r1,r2,xs.length - (i + 1),by omega,rfl,aN,r3⟩) q
 ·have e:i = xs.length:=by omega
  subst e
  exact .inl ⟨⟨xs,q1,Nat.le_refl _⟩,hd ys H' p⟩
section
variable {prog:Program} {w:World} {A:Around} {E:Value -> Shared -> Prop} {s:Shared} {l:Addr} {xs:Array (Int × Tok)}
theorem Rl {Q : Value -> Shared -> Prop} (hl : s.heap.IsTuple l (intItems xs))
  (h:∀ s₂:Shared,s₂ = { s with heap:=s.heap.push { cls := .type "tuple_iterator",data := .fields #[.ref l,.int 0 0] } } ->
   (s₂.heap.IsTupleIter s.heap.objs.size l 0 /\ s₂.heap.IsTuple l (intItems xs)) -> (∀ b ∈ [s.heap.objs.size,l],b < s₂.heap.objs.size) -> l ≠ s.heap.objs.size -> Q (.ref s.heap.objs.size) s₂) :
  wpAny (model prog w) A (pyIter (.ref l)) Q E s:=by
 have aN:l < s.heap.objs.size:=by obtain ⟨_,e,_⟩ := hl; exact Heap.lt_size e
 refine wpAny_pyIter_tuple hl (h _ rfl ⟨⟨_,Heap.get?_push_size _ rfl,rfl,rfl⟩,?_⟩ (fun b hb=>?_) (Nat.ne_of_lt aN))
 ·exact hl.at fun o e=>Heap.get?_push_of_some _ e
 show b < (s.heap.push _).objs.size
 rw [Heap.size_push]
 rcases List.mem_cons.mp hb with rfl | hb
 ·exact Nat.lt_succ_self _
 ·rcases List.mem_cons.mp hb with rfl | hb
  ·exact Nat.lt_succ_of_lt aN
  ·cases hb
theorem X2 {h' : Heap} (hk : ∀ b o, b ∉ [s.heap.objs.size] -> (s.heap.push { cls := .type "tuple_iterator", data := .fields #[.ref l, .int 0 0] }).get? b = some o -> h'.get? b = some o) :
  ∀ b o,s.heap.get? b = some o -> h'.get? b = some o:=fun b o e=>by
 refine hk b o (fun hm=>?_) (Heap.get?_push_of_some _ e)
 rcases List.mem_cons.mp hm with e1 | hm
 ·exact absurd (e1 ▸ Heap.lt_size e) (Nat.lt_irrefl _)
 ·cases hm
theorem Ty {Q : Value -> Shared -> Prop} (hh : A.handled = none) (hl : s.heap.IsTuple l (intItems xs)) (bP : 0 < xs.size)
  (h:∀ v h' tk,(intItems xs)[argBest (fun i j=>decide (numAt xs i < numAt xs j)) (xs.size - 1)]? = some v -> (∀ b o,s.heap.get? b = some o -> h'.get? b = some o) -> Q v { s with heap:=h',toks:=tk }) :
  wpAny (model prog w) A (call (.builtin "min") [.ref l]) Q E s:=by
 refine call_min_walk (Rl hl fun s₂ e st FR SY=>?_)
 subst e
 refine ⟨_,_,_,_,_,_,_,rfl,Walks.tuple (A:=A.in1) hh _ l SY (intItems xs),st,FR,by simpa [intItems] using bP,CmpOf.ints_lt (numAt xs) (fun _ _=>intItems_at),fun v h' tk hP hk=>?_⟩
 exact h v h' tk (by simpa [intItems] using hP) (X2 hk)
end
section
variable {X:Cx}
theorem Vq (hc:X.calm = true):Dy X (.builtin "min") (fun xs H Q=>∃ (p:Addr) (ns:List Int),xs = [.ref p] /\ Bw X.K H p (ns.map V.int) /\ 0 < ns.length /\ ∀ m:Int,m ∈ ns -> (∀ a ∈ ns,m <= a) -> Q (.int m) H):=by
 intro pins s σ H vs us Q I r q
 obtain ⟨p,ns,rfl,hq,bP,q⟩ := q
 obtain ⟨u,rfl,rx⟩ := Jy r
 cases rx
 obtain ⟨aD,rv,pl,hz⟩ := I.tuple hq
 have hi:=Lp rv
 obtain ⟨ys,ey⟩ := hi.allInts.items
 have sH:ns = ys.toList.map (·.1):=by
  have e1:=hi.numsOf
  have e2:=nums_intItems ys
  rw [<- ey] at e2
  exact e1.symm.trans e2
 have hsz:0 < ys.size:=by
  rw [sH,List.length_map,Array.length_toList] at bP
  exact bP
 have hl:s.heap.IsTuple p aD.toArray:=pl
 rw [ey] at hl
 refine Ty (I.ok.hd hc) hl hsz fun v g' tk hv hk=>?_
 obtain ⟨t,rfl⟩ := intItems_at hv
 obtain ⟨b1,b2⟩ := argBest_lt (numAt ys) (ys.size - 1)
 refine ⟨.int _,H,I.kept hk,⟨t,rfl⟩,q _ ?_ fun a ha=>?_⟩
 ·rw [sH,numAt_eq]
  exact getD_mem (by rw [List.length_map,Array.length_toList]; omega)
 ·rw [sH] at ha
  obtain ⟨j,hj,rfl⟩ := mem_getD ha
  rw [List.length_map,Array.length_toList] at hj
  rw [<- numAt_eq]
  exact b2 j (by omega)
theorem Vu (K:PySem.W.Frag) (hc:X.calm = true) (hK:X.K = K:=by rfl):Dy X (.builtin "min") (fun xs H Q=>∃ (p:Addr) (ns:List Int),xs = [.ref p] /\ (Bg K H p (ns.map V.int) \/ Bw K H p (ns.map V.int)) /\ 0 < ns.length /\ ∀ m:Int,m ∈ ns -> (∀ a ∈ ns,m <= a) -> Q (.int m) H):=by
 subst hK
 intro pins s σ H vs us Q I r q
 obtain ⟨p,ns,rfl,hq | hq,bP,q⟩ := q
 ·exact X9 hc pins s σ H _ us Q I r ⟨p,ns,rfl,hq,bP,q⟩
 ·exact Vq hc pins s σ H _ us Q I r ⟨p,ns,rfl,hq,bP,q⟩
end
section
variable {X:Cx}
def so (K:PySem.W.Frag):R2:=fun x y H Q=>∃ a b xs ys,x = .ref a /\ y = .ref b /\ H a = some (.tup xs) /\ H b = some (.tup ys) /\ xs.length + ys.length <= sizeLine /\
 ∀ p H',A9 H H' -> H' p = some (.tup (xs ++ ys)) -> Q (.ref p) H'
end
structure pz (K:PySem.W.Frag) (C:Addr):Prop where
 makes:PySem.W.makesIn K C = true
 init:PySem.W.findIn K (.ref C) "__init__" = some (some (.builtin "object.__init__"))
 kp:PySem.W.keepIn K (.ref C) = true
def gc (C:Addr):TE:=fun σ H Q=>∀ x dx,H x = none -> H dx = none -> dx ≠ x -> Q (.ref x) (upd (upd H dx (.own x)) x (.ins C dx []))
section
variable {X:Cx} {C:Addr} {x:Str} {p pos:Pos}
theorem Vz {pins : List (Addr × Obj)} {σ : St} {H : Hp} {s : Shared} {Q : VK} (M : pz X.K C) (I : Ai X pins σ H s)
  (h:∀ x dx,H x = none -> H dx = none -> dx ≠ x -> Q (.ref x) (upd (upd H dx (.own x)) x (.ins C dx []))) :
  wpAny (model X.prog X.w) X.A (call (.ref C) []) (EP X pins σ Q) X.xe s:=by
 have hq:=h (s.heap.objs.size + 1) s.heap.objs.size (I.aF.fresh (Nat.le_succ _)) (I.aF.fresh (Nat.le_refl _)) (Nat.ne_of_lt (Nat.lt_succ_self _))
 have I2:=Ai.made (C:=C) I
 have Y:=PySem.W.makes_of (M:=model X.prog X.w) I.eP M.makes
 have e2:((s.heap.push PySem.W.emptyDict).push (PySem.W.instObj C s.heap.objs.size)).get? (s.heap.objs.size + 1) = some (PySem.W.instObj C s.heap.objs.size):=by
  have:=Heap.get?_push_size (s.heap.push PySem.W.emptyDict) (o:=PySem.W.instObj C s.heap.objs.size) rfl
  rwa [Heap.size_push] at this
 refine wpAny_call (Vx I.eP M.makes M.init (fun self=>PySem.W.Looks.of_pure (PySem.W.oi_bind self)) ?_)
 have t1:PySem.W.Looks (model X.prog X.w) ((s.heap.push PySem.W.emptyDict).push (PySem.W.instObj C s.heap.objs.size)) (typeOf (.ref (s.heap.objs.size + 1))) (.ref C):=(PySem.W.Looks.ld e2).andThen .now
 have t2:PySem.W.Looks (model X.prog X.w) ((s.heap.push PySem.W.emptyDict).push (PySem.W.instObj C s.heap.objs.size)) (isInstance (.ref (s.heap.objs.size + 1)) (.type "object")) true:=t1.andThen (Y.top.keeps fun b o e=>Heap.get?_push_of_some _ (Heap.get?_push_of_some _ e))
 refine codeAny_call_builtin PySem.W.oi_plain PySem.W.entry_oi (@PySem.W.check_slot (model X.prog X.w) _ _ _ "object.__init__" "object" "__init__" (.ref (s.heap.objs.size + 1)) [] [] _ PySem.W.oi_kind PySem.W.oi_split t2 (PySem.W.oi_args (.ref (s.heap.objs.size + 1))) ?_)
 rw [PySem.W.oi_run]
 exact wpAny_pure (And.intro rfl ⟨V.ref (s.heap.objs.size + 1),_,I2,rfl,hq⟩)
theorem Yy (M:pz X.K C) (hg:Gl X x) (hm:X.mg x = some (.ref C)) (nD:(x == ("__debug__" : Str)) = false:=by decide):PE X (.Call (.Name x p) [] [] pos) (gc C):=by
 intro pins s σ H Q I h
 refine wpAny_Call_Name_kw (Kl I hg hm ?_ nD)
 exact PySem.W.callWith_K0 I.eP M.kp (Vz M I h)
end
theorem Qt {fr : List Nat} {tt : TT} {te : TE} {σ : St} {D : Addr} {H1 : Hp} {Q : Hp -> Prop} {lo : Int} {cnt : Nat} (Pv : Nat -> List V -> Hp -> Prop) (h0 : Pv 0 [] (upd H1 D (.lst [])))
  (hs:∀ i ys H,i < cnt -> Pv i ys H -> tt (some (.int (lo + i)) :: Cn fr σ) H fun b H4 =>
   if b = true then te (some (.int (lo + i)) :: Cn fr σ) H4 fun v H5=>H5 D = some (.lst ys) /\ ys.length < sizeLine /\ Pv (i + 1) (ys ++ [v]) (upd H5 D (.lst (ys ++ [v]))) else Pv (i + 1) ys H4)
  (mt:∀ σ H Q Q',(∀ b H',Q b H' -> Q' b H') -> tt σ H Q -> tt σ H Q') (me:∀ σ H Q Q',(∀ v H',Q v H' -> Q' v H') -> te σ H Q -> te σ H Q')
  (hd:∀ ys H,Pv cnt ys H -> Q H):Dd 1 fr (cj lo cnt) (F5 0) tt te σ D H1 Q:=by
 refine ⟨fun i m ys H=>m = cnt - i /\ i <= cnt /\ Pv i ys H,⟨cnt,by simp,Nat.zero_le _,h0⟩,?_⟩
 rintro i m ys H' ⟨rfl,hi,p⟩
 by_cases aN:i < cnt
 ·refine .inr ⟨aN,fun x H2 y=>?_⟩
  obtain ⟨e,y⟩ := y
  subst e y
  refine ⟨⟨[some (.int (lo + i))],rfl,rfl⟩,?_⟩
  refine mt _ _ _ _ ?_ (hs i ys _ aN p)
  intro b H4 q
  cases b with
  | false=>exact ⟨cnt - (i + 1),by omega,rfl,aN,q⟩
  | true=>exact me _ _ _ _ (fun v H5 ⟨r1,r2,r3⟩=>⟨r1,r2,cnt - (i + 1),by omega,rfl,aN,r3⟩) q
 ·have e:i = cnt:=by omega
  subst e
  exact .inl ⟨Nat.le_refl _,hd ys H' p⟩
section
variable {K:PySem.W.Frag} {x C:Addr}
theorem Nb:∀ (as:List Addr) (us:List Value),Aw (as.map V.ref) us -> us = as.map Value.ref
 | [],us,r=>by
  cases r
  rfl
 | a :: as,us,r=>by
  cases r with
  | cons h t =>
   cases (show _ = Value.ref a from h)
   rw [Nb as _ t]
   rfl
end
section
variable {X:Cx}
def u4 (K:PySem.W.Frag):List V -> Hp -> VK -> Prop:=fun xs H Q=>∃ (a C tp:Addr) (as:List Addr) (b:Bool),xs = [.ref a,.ref tp] /\ H a = some (.ext (G6 a (.ref C))) /\ H tp = some (.tup (as.map V.ref)) /\ mq K C /\ rj K C /\
 PySem.W.kitAny K (.ref C) (as.map Value.ref) = some b /\ Q (.bl b) H
end
theorem Mx (l : Addr) (items : Array Value) (n : Nat) (dd : Option Addr) (sl : Array (Option Value)) (x : Value) (e : Value -> Bool) (j : Nat) (hj : j < items.size)
  (hit:e items[j] = true) (mY:∀ m (hm:m < items.size),m < j -> e items[m] = false) :
  Meets (Builtin.«tuple.index» ⟨[.ref l,x],[]⟩)
   (fun A R s=>s.heap.get? l = some { cls := .type "tuple",dict:=dd,data := .seq items n,slots:=sl } /\ (∀ y,y ∈ items -> PySem.SeqAt.EqAt A.in1 s y x (e y)) /\ R (.ok (.ret (.int j s.toks))) { s with toks:=s.toks + 1 }):=by
 intro prog w A R s h
 obtain ⟨hl,he,h⟩ := h
 unfold Builtin.«tuple.index»
 refine wpAny_bind (wpAny_of_eq (show selfAndSome "tuple.index" "index" 1 3 { pos:=[Value.ref l,x] } = pure (Value.ref l,[x]) from rfl) ?_)
 refine wpAny_bind (wpAny_tupleItemsOf hl rfl ?_)
 refine wpAny_bind (wpAny_pure (wpAny_bind (wpAny_pure (wpAny_bind ?_))))
 rw [Nat.min_self,Std.Legacy.Range.forIn_eq_forIn_range']
 refine wpAny_forIn_list _ (fun rest b s'=>b = (none,()) /\ s' = s /\ ∃ i,rest = List.range' i (items.size - i) /\ i <= j) _ ?_ ?_ _ _ ⟨rfl,rfl,0,by simp [Std.Legacy.Range.size],Nat.zero_le _⟩
 ·rintro k rest b s' ⟨rfl,rfl,i,hr,xB⟩
  have hi:i < items.size:=by omega
  rw [show items.size - i = (items.size - i - 1) + 1 by omega,List.range'_succ] at hr
  obtain ⟨rfl,rfl⟩ := List.cons.inj hr
  rw [Array.getElem?_eq_getElem hi]
  refine wpAny_bind (he _ (Array.getElem_mem hi) prog w _ _ ?_)
  by_cases e1:k = j
  ·subst e1
   rw [hit]
   refine wpAny_bind (wpAny_bind (wpAny_mkInt ?_))
   exact wpAny_pure (wpAny_pure (wpAny_pure h))
  ·rw [mY k hi (by omega)]
   refine wpAny_pure ⟨rfl,rfl,k + 1,?_,by omega⟩
   rw [show items.size - (k + 1) = items.size - k - 1 by omega]
 ·rintro b s' ⟨rfl,rfl,i,hr,xB⟩
  have:items.size - i = 0:=by
   have:=congrArg List.length hr
   simpa using this.symm
  omega
section
variable {X:Cx}
def av (K:PySem.W.Frag):V -> List V -> Hp -> VK -> Prop:=fun x vs H Q=>∃ (l:Addr) (ns:List Int) (y:Int) (j:Nat),x = .ref l /\ vs = [.int y] /\ Bw K H l (ns.map V.int) /\ ns[j]? = some y /\ (∀ m,m < j -> ns[m]? ≠ some y) /\ Q (.int (j:Nat)) H
theorem Wo:kc X "tuple.index" (av X.K):=by
 intro pins s σ H x vs v us Q I rx rv h
 obtain ⟨l,ns,y,j,rfl,rfl,hq,hj,mY,q⟩ := h
 cases rx
 obtain ⟨u,rfl,ru⟩ := rv.one
 obtain ⟨aD,r,⟨⟨oc,od,PU,gZ⟩,e,hc,n,hd⟩,hz⟩ := I.tuple hq
 simp only at hc hd
 subst hc hd
 have hlen:=r.length
 rw [List.length_map] at hlen
 have hjn:j < ns.length:=(List.getElem?_eq_some_iff.mp hj).1
 have lM:∀ m (hm:m < aD.toArray.size),Zl (.int y) aD.toArray[m] = decide (ns[m]? = some y):=by
  intro m hm
  have dX:m < ns.length:=by
   rw [List.size_toArray] at hm
   omega
  have e1:(ns.map V.int)[m]? = some (V.int ns[m]):=by rw [List.getElem?_map,List.getElem?_eq_getElem dX]; rfl
  obtain ⟨w,ew,fJ⟩ := r.get e1
  have e2:aD.toArray[m] = w:=by
   have:=(List.getElem?_eq_some_iff.mp ew).2
   simpa using this
  rw [e2,Ua fJ rfl,List.getElem?_eq_getElem dX]
  show (ns[m] == y) = _
  by_cases z:ns[m] = y <;> simp [z]
 refine call_meets F.slot_tuple_index ⟨_,e,rfl⟩ F.entry_tuple_index (F.args_tuple_index_2 _ _) (Mx l aD.toArray n od gZ u (Zl (.int y)) j (by rw [List.size_toArray]; omega) ?_ ?_) ⟨e,fun z TC=>?_,?_⟩
 ·rw [lM j (by rw [List.size_toArray]; omega),hj]
  simp
 ·intro m hm TF
  rw [lM m hm]
  exact decide_eq_false (mY m TF)
 ·exact Lv ru rfl r (Hg ns) z (by simpa using TC)
 ·exact ⟨.int (j:Nat),H,I.tok _,⟨_,rfl⟩,q⟩
end
section
variable {X:Cx}
end
section
variable {X:Cx} {tg:Expr}
def u6 (ta:TA):TI:=fun σ H R=>ta σ H fun vs H1=>∃ i j:Int,vs = [.int i,.int j,.int (-1)] /\ (-(2 ^ 60) <= i /\ i < 2 ^ 60 /\ -(2 ^ 60) <= j /\ j < 2 ^ 60) /\ R (tm i (-1) (i - j).toNat) H1
end
section
variable {κ:Type} [DecidableEq κ]
def Ae (kvs:List (κ × V)) (k:κ):Option V:=(kvs.find? fun kv=>decide (kv.1 = k)).map (·.2)
def Bl (kvs:List (κ × V)) (k:κ) (v:V):List (κ × V) :=
 if (kvs.any fun kv=>decide (kv.1 = k)) = true then kvs.map (fun kv=>if kv.1 = k then (kv.1,v) else kv) else kvs ++ [(k,v)]
def Bx (kvs:List (κ × V)) (k:κ):List (κ × V):=kvs.filter fun kv=>decide (kv.1 ≠ k)
theorem C7 {p:κ × V} {r:List (κ × V)} {k:κ} (e:p.1 = k):Ae (p :: r) k = some p.2:=by simp [Ae,List.find?_cons,e]
theorem C6 {p:κ × V} {r:List (κ × V)} {k:κ} (e:¬ p.1 = k):Ae (p :: r) k = Ae r k:=by simp [Ae,List.find?_cons,e]
theorem Dx (k:κ):∀ kvs:List (κ × V),(kvs.any fun kv=>decide (kv.1 = k)) = (Ae kvs k).isSome
 | []=>rfl
 | p :: r=>by
  rw [List.any_cons]
  by_cases e:p.1 = k
  ·simp only [C7 e,decide_eq_true e,Bool.true_or,Option.isSome_some]
  ·rw [C6 e,decide_eq_false e,Bool.false_or]; exact Dx k r
theorem S7 (k j:κ) (y:V):∀ kvs:List (κ × V),Ae (kvs.map fun kv=>if kv.1 = k then (kv.1,y) else kv) j = (Ae kvs j).map fun x=>if j = k then y else x
 | []=>rfl
 | p :: r=>by
  have ih:=S7 k j y r
  rw [List.map_cons]
  by_cases h:p.1 = k
  ·rw [if_pos h]
   by_cases e:p.1 = j
   ·rw [C7 (p:=(p.1,y)) e,C7 e,Option.map_some,if_pos (e.symm.trans h)]
   ·rw [C6 (p:=(p.1,y)) e,C6 e,ih]
  ·rw [if_neg h]
   by_cases e:p.1 = j
   ·rw [C7 (p:=p) e,C7 e,Option.map_some,if_neg (fun z=>h (e.trans z))]
   ·rw [C6 (p:=p) e,C6 e,ih]
theorem Ni (k j:κ) (y:V):∀ kvs:List (κ × V),Ae kvs k = none -> Ae (kvs ++ [(k,y)]) j = if j = k then some y else Ae kvs j
 | [],_=>by
  by_cases e:k = j
  ·rw [if_pos e.symm]; exact C7 (p:=(k,y)) e
  ·rw [if_neg (fun z=>e z.symm)]; exact C6 (p:=(k,y)) e
 | p :: r,hn=>by
  rw [List.cons_append]
  have hk:¬ p.1 = k:=fun z=>by rw [C7 z] at hn; cases hn
  rw [C6 hk] at hn
  have ih:=Ni k j y r hn
  by_cases e:p.1 = j
  ·rw [C7 e,C7 e,if_neg (fun z=>hk (e.trans z))]
  ·rw [C6 e,C6 e,ih]
theorem Ec (kvs:List (κ × V)) (k j:κ) (y:V):Ae (Bl kvs k y) j = if j = k then some y else Ae kvs j:=by
 unfold Bl
 by_cases a:(kvs.any fun kv=>decide (kv.1 = k)) = true
 ·rw [if_pos a,S7]
  rw [Dx] at a
  by_cases e:j = k
  ·obtain ⟨x,hx⟩ := Option.isSome_iff_exists.mp a
   rw [if_pos e,e,hx,Option.map_some,if_pos rfl]
  ·rw [if_neg e]
   cases Ae kvs j with
   | none=>rfl
   | some x=>rw [Option.map_some,if_neg e]
 ·rw [if_neg a]
  refine Ni k j y kvs ?_
  rw [Dx] at a
  cases q:Ae kvs k with
  | none=>rfl
  | some x=>rw [q] at a; exact (a rfl).elim
theorem Cp (kvs:List (κ × V)) (k:κ) (v:V):(Bl kvs k v).length <= kvs.length + 1:=by
 unfold Bl
 split
 ·rw [List.length_map]; omega
 ·rw [List.length_append,List.length_cons,List.length_nil]; omega
theorem Dc {kvs:List (κ × V)} {k:κ} (v:V) (h:Ae kvs k = none):Bl kvs k v = kvs ++ [(k,v)]:=by
 unfold Bl
 rw [Dx,h]
 exact if_neg (by decide)
theorem Fq.bR {o:Option V} {u:Option Value} (r:Fq o u):o.isSome = u.isSome:=by
 cases o with
 | none=>cases u with
  | none=>rfl
  | some _=>exact (show False from r).elim
 | some _=>cases u with
  | none=>exact (show False from r).elim
  | some _=>rfl
theorem Fq.getD {o:Option V} {u:Option Value} {d:V} {d':Value} (r:Fq o u) (rd:Av d d'):Av (o.getD d) (u.getD d'):=by
 cases o with
 | none=>cases u with
  | none=>exact rd
  | some _=>exact (show False from r).elim
 | some _=>cases u with
  | none=>exact (show False from r).elim
  | some _=>exact r
theorem KV.val {kvs:List (κ × V)} {vs:List (κ × Value)} (r:KV kvs vs) (k:κ):Fq (Ae kvs k) (valueAt vs k):=by
 unfold KV at r
 induction r with
 | nil=>exact True.intro
 | @cons p q ps qs h t ih =>
  obtain ⟨h1,h2⟩ := h
  by_cases e:p.1 = k
  ·have e':q.1 = k:=h1.symm.trans e
   have b:valueAt (q :: qs) k = some q.2:=by simp [valueAt,List.find?_cons,e']
   rw [C7 e,b]; exact h2
  ·have e':¬ q.1 = k:=fun z=>e (h1.trans z)
   have b:valueAt (q :: qs) k = valueAt qs k:=by simp [valueAt,List.find?_cons,e']
   rw [C6 e,b]; exact ih
theorem KV.any {kvs:List (κ × V)} {vs:List (κ × Value)} (r:KV kvs vs) (k:κ):(kvs.any fun kv=>decide (kv.1 = k)) = vs.any fun kv=>decide (kv.1 = k):=by
 unfold KV at r
 induction r with
 | nil=>rfl
 | cons h t ih=>rw [List.any_cons,List.any_cons,ih,h.1]
theorem KV.xC {kvs : List (κ × V)} {vs : List (κ × Value)} (r : KV kvs vs) (k : κ) {y : V} {u : Value} (ry : Av y u) :
  KV (kvs.map fun kv=>if kv.1 = k then (kv.1,y) else kv) (vs.map fun kv=>if kv.1 = k then (kv.1,u) else kv):=by
 unfold KV at r ⊢
 induction r with
 | nil=>exact .nil
 | @cons p q ps qs h t ih =>
  rw [List.map_cons,List.map_cons]
  refine .cons ?_ ih
  obtain ⟨h1,h2⟩ := h
  by_cases e:p.1 = k
  ·rw [if_pos e,if_pos (h1.symm.trans e)]; exact ⟨h1,ry⟩
  ·rw [if_neg e,if_neg (fun z=>e (h1.trans z))]; exact ⟨h1,h2⟩
theorem KV.put {kvs:List (κ × V)} {vs:List (κ × Value)} (r:KV kvs vs) (k:κ) {y:V} {u:Value} (ry:Av y u):KV (Bl kvs k y) (stored vs k u):=by
 unfold Bl stored
 rw [r.any k]
 by_cases e:(vs.any fun kv=>decide (kv.1 = k)) = true
 ·rw [if_pos e,if_pos e]; exact r.xC k ry
 ·rw [if_neg e,if_neg e]; exact Paired.snoc r ⟨rfl,ry⟩
theorem KV.drop {kvs:List (κ × V)} {vs:List (κ × Value)} (r:KV kvs vs) (k:κ):KV (Bx kvs k) (without vs k):=by
 unfold KV at r ⊢
 unfold Bx without
 induction r with
 | nil=>exact .nil
 | @cons p q ps qs h t ih =>
  obtain ⟨h1,h2⟩ := h
  rw [List.filter_cons,List.filter_cons]
  by_cases e:p.1 = k
  ·have a:¬ decide (p.1 ≠ k) = true:=by simp [e]
   have b:¬ decide (q.1 ≠ k) = true:=by simp [h1.symm.trans e]
   rw [if_neg a,if_neg b]; exact ih
  ·have e':¬ q.1 = k:=fun z=>e (h1.trans z)
   have a:decide (p.1 ≠ k) = true:=by simp [e]
   have b:decide (q.1 ≠ k) = true:=by simp [e']
   rw [if_pos a,if_pos b]; exact .cons ⟨h1,h2⟩ ih
theorem KV.keys {kvs:List (κ × V)} {vs:List (κ × Value)} (r:KV kvs vs):kvs.map (·.1) = vs.map (·.1):=by
 unfold KV at r
 induction r with
 | nil=>rfl
 | cons h t ih=>rw [List.map_cons,List.map_cons,ih,h.1]
theorem KV.length {kvs:List (κ × V)} {vs:List (κ × Value)} (r:KV kvs vs):kvs.length = vs.length:=Paired.length r
theorem S2 (kvs:List (κ × V)) (k:κ):(Bx kvs k).length <= kvs.length:=List.length_filter_le _ _
end
theorem N2 {P:Program} {w:World} {k:Dt} {u:Value} (r:Av (kV k) u):(Db P w).is k u = true:=by
 cases k with
 | inl i=>obtain ⟨t,e⟩ := (show ∃ t,u = Value.int i t from r); subst e; exact Rh P w i t
 | inr x=>obtain ⟨t,e⟩ := (show ∃ t,u = Value.str x t from r); subst e; exact Ro P w x t
abbrev KT (H:Hp):List ((List Int × Int) × V) -> List ((List Int × Int) × Addr × Value) -> Prop:=Paired fun p q=>p.1 = q.1 /\ Ds H q.2.1 p.1 /\ Av p.2 q.2.2
theorem KT.val {H:Hp} {kvs:List ((List Int × Int) × V)} {xs:List ((List Int × Int) × Addr × Value)} (r:KT H kvs xs) (k:(List Int × Int)):Fq (Ae kvs k) ((atKey xs k).map (·.2)):=by
 induction r with
 | nil=>exact True.intro
 | @cons p q ps qs h t ih =>
  obtain ⟨h1,_,h2⟩ := h
  by_cases e:p.1 = k
  ·have e':q.1 = k:=h1.symm.trans e
   have b:atKey (q :: qs) k = some q.2:=by simp [atKey,List.find?_cons,e']
   rw [C7 e,b]; exact h2
  ·have e':¬ q.1 = k:=fun z=>e (h1.trans z)
   have b:atKey (q :: qs) k = atKey qs k:=by simp [atKey,List.find?_cons,e']
   rw [C6 e,b]; exact ih
theorem KT.xC {H : Hp} {kvs : List ((List Int × Int) × V)} {xs : List ((List Int × Int) × Addr × Value)} (r : KT H kvs xs) (k : (List Int × Int)) {y : V} {u : Value} (ry : Av y u) :
  KT H (kvs.map fun kv=>if kv.1 = k then (kv.1,y) else kv) (xs.map (putAt k u)):=by
 induction r with
 | nil=>exact .nil
 | @cons p q ps qs h t ih =>
  rw [List.map_cons,List.map_cons]
  refine .cons ?_ ih
  obtain ⟨h1,h2,h3⟩ := h
  unfold putAt
  by_cases e:p.1 = k
  ·rw [if_pos e,if_pos (h1.symm.trans e)]; exact ⟨h1,h2,ry⟩
  ·rw [if_neg e,if_neg (fun z=>e (h1.trans z))]; exact ⟨h1,h2,h3⟩
theorem KT.put {H : Hp} {kvs : List ((List Int × Int) × V)} {xs : List ((List Int × Int) × Addr × Value)} (r : KT H kvs xs) (k : (List Int × Int)) {b : Addr} {y : V} {u : Value} (hb : Ds H b k) (ry : Av y u) :
  KT H (Bl kvs k y) (storedH xs k b u):=by
 have e:(kvs.any fun kv=>decide (kv.1 = k)) = (atKey xs k).isSome:=by
  rw [Dx,(r.val k).bR,Option.isSome_map]
 unfold Bl storedH
 rw [e]
 by_cases q:(atKey xs k).isSome = true
 ·rw [if_pos q,if_pos q]; exact r.xC k ry
 ·rw [if_neg q,if_neg q]; exact Paired.snoc r ⟨rfl,hb,ry⟩
theorem KT.keeps {H H':Hp} {kvs:List ((List Int × Int) × V)} {xs:List ((List Int × Int) × Addr × Value)} (r:KT H kvs xs) (ht:∀ b ys,H b = some (.tup ys) -> H' b = some (.tup ys)):KT H' kvs xs :=
 Paired.GL r fun _ _ z=>⟨z.1,z.2.1.up ht,z.2.2⟩
section
variable {P:Program} {w:World} {H:Hp} {h:Heap} {a:Addr}
theorem d0 {u:HO} (ok:G7 P w H h) (e:Rd H a u):Bo P w H h a u:=e.ok ok
theorem K2 {kvs:List (Dt × V)} (ok:G7 P w H h) (e:Rd H a (.dK kvs)):kvs.length <= sizeLine /\ (a == sysModules) = false /\ ∃ vs,KV kvs vs /\ h.DictOf (Db P w) a vs :=
 show Bo P w H h a (.dK kvs) from d0 ok e
theorem dj {kvs:List (Dt × V)} (ok:G7 P w H h) (e:H a = some (.dK kvs)):kvs.length <= sizeLine /\ (a == sysModules) = false /\ ∃ vs,KV kvs vs /\ h.DictOf (Db P w) a vs:=K2 ok (.inl e)
theorem Rb {P:Program} {w:World}:∀ {ks:List Int} {us:List Value},Aw (ks.map V.int) us -> ItemsAre (intKind P w) ks us
 | [],us,r=>by
  cases r
  exact .nil
 | k :: ks,us,r=>by
  cases r with
  | cons h t =>
   obtain ⟨tk,rfl⟩ := h
   exact .cons (by simp [intKind,Value.isInt]) (Rb t)
theorem D7 {P:Program} {w:World} {A:Around} (hu:A.units + 20 < cLine):(Cb P w).room A.in1:=by
 first | (show A.units + 1 + 8 < cLine; omega) | (show A.units + 8 < cLine; omega)
theorem Gd {ks:List Int × Int} (ok:G7 P w H h) (e:Ds H a ks):(Cb P w).is h ks a:=by
 obtain ⟨u,e1,e2⟩ := e
 obtain ⟨_,aD,r,o,h1,h2,n,h3⟩ := (show Bo P w H h a (.tup [.ref u,.int ks.2]) from ok a _ e1)
 obtain ⟨_,iO,r2,o2,g1,g2,m,g3⟩ := (show Bo P w H h u (.tup (ks.1.map V.int)) from ok u _ e2)
 cases r with
 | cons r1 rr =>
  cases rr with
  | cons r3 rr =>
   cases rr
   cases (show _ = Value.ref u from r1)
   obtain ⟨t,rfl⟩ := r3
   exact ⟨o,n,u,t,h1,h2,h3,o2,iO.toArray,m,g1,g2,g3,by simpa using Rb r2⟩
theorem Ln {kvs : List ((List Int × Int) × V)} (ok : G7 P w H h) (e : Rd H a (.dT kvs)) : kvs.length <= sizeLine /\ (a == sysModules) = false /\
  ∃ xs,KT H kvs xs /\ h.DictOfH (Cb P w) a xs:=by
 obtain ⟨z,y,xs,r,o,es,ep,h1,h2,h3,h4,h5⟩ := (show Bo P w H h a (.dT kvs) from d0 ok e)
 refine ⟨z,y,xs,r,o,es,ep,h1,h2,h3,h4,fun x hx=>?_,h5⟩
 have all:∀ {l:List ((List Int × Int) × V)} {m:List ((List Int × Int) × Addr × Value)},KT H l m -> ∀ x ∈ m,(Cb P w).is h x.1 x.2.1:=by
  intro l m q
  induction q with
  | nil=>intro x hx; exact nomatch hx
  | @cons p q ps qs hq t ih =>
   intro x hx
   rcases List.mem_cons.mp hx with e | hx
   ·subst e
    exact Gd ok (by rw [<- hq.1]; exact hq.2.1)
   ·exact ih x hx
 exact all r x hx
theorem di {kvs : List ((List Int × Int) × V)} (ok : G7 P w H h) (e : H a = some (.dT kvs)) : kvs.length <= sizeLine /\ (a == sysModules) = false /\
  ∃ xs,KT H kvs xs /\ h.DictOfH (Cb P w) a xs:=Ln ok (.inl e)
end
def Cv (H:Hp) (a:Addr) (y:V) (r:Option V):Prop :=
 (∃ kvs k,Rd H a (.dK kvs) /\ y = kV k /\ r = Ae kvs k) \/ ∃ kvs k b,Rd H a (.dT kvs) /\ y = .ref b /\ Ds H b k /\ r = Ae kvs k
def Lk (H:Hp) (a:Addr) (y v:V) (H':Hp):Prop :=
 (∃ kvs k,H a = some (.dK kvs) /\ y = kV k /\ kvs.length < sizeLine /\ H' = upd H a (.dK (Bl kvs k v))) \/
 ∃ kvs k b,H a = some (.dT kvs) /\ y = .ref b /\ Ds H b k /\ kvs.length < sizeLine /\ H' = upd H a (.dT (Bl kvs k v))
theorem Cv.k {H:Hp} {a:Addr} {kvs:List (Dt × V)} {k:Dt} (e:H a = some (.dK kvs)):Cv H a (kV k) (Ae kvs k) := .inl ⟨kvs,k,.inl e,rfl,rfl⟩
theorem Cv.t {H:Hp} {a b:Addr} {kvs:List ((List Int × Int) × V)} {k:(List Int × Int)} (e:H a = some (.dT kvs)) (eb:Ds H b k):Cv H a (.ref b) (Ae kvs k) := .inr ⟨kvs,k,b,.inl e,rfl,eb,rfl⟩
theorem Lk.k {H:Hp} {a:Addr} {kvs:List (Dt × V)} {k:Dt} {v:V} (e:H a = some (.dK kvs)) (hl:kvs.length < sizeLine):Lk H a (kV k) v (upd H a (.dK (Bl kvs k v))) := .inl ⟨kvs,k,e,rfl,hl,rfl⟩
theorem Lk.t {H : Hp} {a b : Addr} {kvs : List ((List Int × Int) × V)} {k : (List Int × Int)} {v : V} (e : H a = some (.dT kvs)) (eb : Ds H b k) (hl : kvs.length < sizeLine) :
  Lk H a (.ref b) v (upd H a (.dT (Bl kvs k v))) := .inr ⟨kvs,k,b,e,rfl,eb,hl,rfl⟩
section
variable {X:Cx} {pins:List (Addr × Obj)} {σ:St} {H:Hp} {s:Shared} {a:Addr} {y v:V} {u r:Value} {o:Option V} {A:Around} {E:Value -> Shared -> Prop}
theorem Ai.big (I:Ai X pins σ H s):sysModules < s.heap.objs.size:=by
 have h:mainGlobals < s.heap.objs.size:=(I.mod.glob.keeps I.bk).lt
 exact Nat.lt_trans (by decide) h
theorem Wb {Q : Value -> Shared -> Prop} (hu : A.units + 20 < cLine) (I : Ai X pins σ H s) (g : Cv H a y (some v)) (ry : Av y u) (h : ∀ w' s', Ai X pins σ H s' -> Av v w' -> Q w' s') :
  wpAny (model X.prog X.w) A (getItem (.ref a) u) Q E s:=by
 rcases g with ⟨kvs,k,e,ey,l⟩ | ⟨kvs,k,b,e,ey,eb,l⟩
 ·subst ey
  obtain ⟨z,hd,vs,rel,dd⟩ := K2 I.aF e
  obtain ⟨w',hw,fJ⟩ := Fq.some_of (v:=v) (o:=valueAt vs k) (by rw [l]; exact rel.val k)
  exact wpAny_getItem_of (N2 ry) dd.mapOf hw (h w' _ (I.tok _) fJ)
 ·subst ey
  cases (show u = Value.ref b from ry)
  obtain ⟨z,hd,xs,rel,dd⟩ := Ln I.aF e
  obtain ⟨w',hw,fJ⟩ := Fq.some_of (v:=v) (o:=(atKey xs k).map (·.2)) (by rw [l]; exact rel.val k)
  obtain ⟨p,hp,xD⟩ := Option.map_eq_some_iff.mp hw
  refine wpAny_getItem_heap (D7 hu) (Gd I.aF eb) dd hp ?_
  rw [xD]
  exact h w' _ (I.tok _) fJ
theorem qa {Q : Value -> Shared -> Prop} (hu : A.units + 20 < cLine) (I : Ai X pins σ H s) (g : Cv H a y o) (ry : Av y u) (h : ∀ s', Ai X pins σ H s' -> Q (.bool o.isSome) s') :
  wpAny (model X.prog X.w) A (compareOp .In u (.ref a)) Q E s:=by
 rcases g with ⟨kvs,k,e,ey,l⟩ | ⟨kvs,k,b,e,ey,eb,l⟩
 ·subst ey
  obtain ⟨z,hd,vs,rel,dd⟩ := K2 I.aF e
  refine wpAny_in_of (N2 ry) hd dd.mapOf ?_
  rw [<- (rel.val k).bR,<- l]
  exact h _ (I.tok _)
 ·subst ey
  cases (show u = Value.ref b from ry)
  obtain ⟨z,hd,xs,rel,dd⟩ := Ln I.aF e
  refine wpAny_in_heap (D7 hu) (Gd I.aF eb) hd dd ?_
  have q:=(rel.val k).bR
  rw [Option.isSome_map] at q
  rw [<- q,<- l]
  exact h _ (I.tok _)
theorem cy {Q : Value -> Shared -> Prop} (hu : A.units + 20 < cLine) (I : Ai X pins σ H s) (g : Cv H a y o) (ry : Av y u) (h : ∀ s', Ai X pins σ H s' -> Q (.bool (!o.isSome)) s') :
  wpAny (model X.prog X.w) A (compareOp .NotIn u (.ref a)) Q E s:=by
 rcases g with ⟨kvs,k,e,ey,l⟩ | ⟨kvs,k,b,e,ey,eb,l⟩
 ·subst ey
  obtain ⟨z,hd,vs,rel,dd⟩ := K2 I.aF e
  refine wpAny_notIn_of (N2 ry) hd dd.mapOf ?_
  rw [<- (rel.val k).bR,<- l]
  exact h _ (I.tok _)
 ·subst ey
  cases (show u = Value.ref b from ry)
  obtain ⟨z,hd,xs,rel,dd⟩ := Ln I.aF e
  refine wpAny_notIn_heap (D7 hu) (Gd I.aF eb) hd dd ?_
  have q:=(rel.val k).bR
  rw [Option.isSome_map] at q
  rw [<- q,<- l]
  exact h _ (I.tok _)
theorem Ks {h' : Heap} {t' : Nat} {ob : HO} (I : Ai X pins σ H s) (mu : nh (H a)) (hs : Heap.SameBut a s.heap h') (he : ∃ q, h'.get? a = some q) (new : Bo X.prog X.w (upd H a ob) h' a ob) :
  Ai X pins σ (upd H a ob) { s with heap:=h',toks:=t' } :=
 I.write (x:=a) (e:=a) mu (.inl rfl) (fun b q hb z=>(hs.2 b hb).trans z) he new
theorem Xw {P : Program} {w : World} {H' : Hp} {h' : Heap} {kvs : List (Dt × V)} {vs : List (Dt × Value)} (z : kvs.length <= sizeLine) (hd : (a == sysModules) = false) (rel : KV kvs vs) (dd : h'.DictOf (Db P w) a vs) :
  Bo P w H' h' a (.dK kvs):=⟨z,hd,vs,rel,dd⟩
theorem Wm {H' : Hp} {Q : Unit -> Shared -> Prop} (hu : A.units + 20 < cLine) (I : Ai X pins σ H s) (g : Lk H a y v H') (ry : Av y u) (rv : Av v r) (h : ∀ s', Ai X pins σ H' s' -> Q () s') :
  wpAny (model X.prog X.w) A (setItem (.ref a) u r) Q E s:=by
 rcases g with ⟨kvs,k,e,ey,l,eH⟩ | ⟨kvs,k,b,e,ey,eb,l,eH⟩
 ·subst ey eH
  obtain ⟨z,hd,vs,rel,dd⟩ := dj I.aF e
  have hz:vs.length <= sizeLine:=by rw [<- rel.length]; exact z
  have hl:(Bl kvs k v).length <= sizeLine:=by have:=Cp kvs k v; omega
  refine wpAny_setItem_pairs (hsz:=hz) (N2 ry) dd fun h' tJ hs=>h _ ?_
  have he:∃ q,h'.get? a = some q:=let ⟨q,_,_,hq,_⟩ := tJ; ⟨q,hq⟩
  exact Ks I (by rw [e]; exact True.intro) hs he (Xw hl hd (rel.put k rv) tJ)
 ·subst ey eH
  cases (show u = Value.ref b from ry)
  obtain ⟨z,hd,xs,rel,dd⟩ := di I.aF e
  have hz:xs.length <= sizeLine:=by rw [<- Paired.length rel]; exact z
  have hl:(Bl kvs k v).length <= sizeLine:=by have:=Cp kvs k v; omega
  refine wpAny_setItem_heap (hsz:=hz) (D7 hu) (Gd I.aF eb) dd fun h' tJ hs=>h _ ?_
  obtain ⟨q,es,ep,hq,h2,h3,h4,_,h5⟩ := tJ
  refine Ks I (by rw [e]; exact True.intro) hs ⟨q,hq⟩ ⟨hl,hd,_,(rel.put k eb rv).keeps fun c ys ec=>?_,q,es,ep,hq,h2,h3,h4,h5⟩
  rw [Aa (Bn ec e (fun z=>nomatch z))]
  exact ec
end
section
variable {X:Cx} {pins:List (Addr × Obj)} {σ:St} {H:Hp} {s:Shared} {a:Addr} {kvs:List (Dt × V)} {k:Dt} {u:Value} {A:Around} {E:Value -> Shared -> Prop}
theorem lw {v : V} {more : List Value} {Q : Value -> Shared -> Prop} (I : Ai X pins σ H s) (e : H a = some (.dK kvs)) (ry : Av (kV k) u) (l : Ae kvs k = some v) (hm : more = [] \/ ∃ x, more = [x])
  (h:∀ w' s',Ai X pins σ (upd H a (.dK (Bx kvs k))) s' -> Av v w' -> Q w' s'):wpAny (model X.prog X.w) A (call (.builtin "dict.pop") (.ref a :: u :: more)) Q E s:=by
 obtain ⟨z,hd,vs,rel,dd⟩ := dj I.aF e
 obtain ⟨w',hw,fJ⟩ := Fq.some_of (v:=v) (o:=valueAt vs k) (by rw [<- l]; exact rel.val k)
 have hp:(keyPart u).isSome = true:=by
  cases k with
  | inl i=>obtain ⟨t,q⟩ := (show ∃ t,u = Value.int i t from ry); subst q; rfl
  | inr x=>obtain ⟨t,q⟩ := (show ∃ t,u = Value.str x t from ry); subst q; rfl
 have ha:argsOk "dict.pop" ⟨.ref a :: u :: more,[]⟩ := by
  rcases hm with q | ⟨x,q⟩
  ·subst q; exact PySem.F.args_dict_pop_2 _ _
  ·subst q; exact PySem.F.args_dict_pop_3 _ _ _
 refine call_meetsIn PySem.F.slot_dict_pop dd.typeIs PySem.F.entry_dict_pop ha (meets_dict_pop_there (Db X.prog X.w) a (N2 ry) more hm hp)
  ⟨vs,w',dd,by rw [<- rel.length]; exact z,hw,fun h' tJ hs=>h w' _ ?_ fJ⟩
 have he:∃ q,h'.get? a = some q:=let ⟨q,_,_,hq,_⟩ := tJ; ⟨q,hq⟩
 exact Ks I (by rw [e]; exact True.intro) hs he (Xw (Nat.le_trans (S2 kvs k) z) hd (rel.drop k) tJ)
end
def lz (i:Expr):Prop := ∀ ov iv,subscripted i false ov iv = operate [ov,iv] (getItem ov iv)
theorem cu {prog : Program} {w : World} {A : Around} {E : Value -> Shared -> Prop} {s : Shared} {env : Env} {value slice : Expr} {pos : Pos} {T id : String} {Q : Value -> Shared -> Prop}
  (hl:typeLookup (.type T) "__getitem__" = pure (some (.builtin id))) (hs:lz slice)
  (h:wpAny (model prog w) A (eval value env) (fun o s₁=>wpAny (model prog w) A (eval slice env) (fun i s₂=>s₂.TypeIs o T /\ wpAny (model prog w) A (getItem o i) Q E s₂) E s₁) E s) :
  wpAny (model prog w) A (eval (.Subscript value slice pos) env) Q E s:=by
 refine Subscript_ (wpAny_mono h (fun o s₁ h₁=>wpAny_mono h₁ (fun i s₂ h₂=>?_) fun _ _ x=>x) fun _ _ x=>x)
 obtain ⟨hT,h₂⟩ := h₂
 unfold subscriptTail
 refine wpAny_bind ?_
 rw [getitemInPython_of_ne hT.not_modules]
 refine wpAny_bind (wpAny_specialOf hT hl ?_)
 have fin:wpAny (model prog w) A (subscripted slice false o i) (fun r s₃=>wpAny (model prog w) A (letTemporaryGo value o r >>= fun _=>pure r) Q E s₃) E s₂:=by
  rw [hs o i]
  exact wpAny_operating (wpAny_mono h₂ (fun r s₃ h₃=>wpAny_bind (wpAny_letTemporaryGo (wpAny_pure h₃))) fun _ _ x=>x)
 first
  | exact wpAny_pure (wpAny_bind fin)
  | exact wpAny_bind (wpAny_pure (wpAny_bind fin))
  | exact wpAny_bind fin
theorem Qj {X:Cx} {pins:List (Addr × Obj)} {σ:St} {H:Hp} {s:Shared} {a:Addr} {y:V} {o:Option V} (I:Ai X pins σ H s) (g:Cv H a y o):s.TypeIs (.ref a) "dict" := by
 rcases g with ⟨kvs,k,e,_,_⟩ | ⟨kvs,k,b,e,_,_,_⟩
 ·obtain ⟨_,_,vs,_,dd⟩ := K2 I.aF e
  exact dd.typeIs
 ·obtain ⟨_,_,xs,_,dd⟩ := Ln I.aF e
  exact dd.typeIs
def o8 (td ty:TE):TE:=fun σ H Q=>td σ H fun x H1=>ty σ H1 fun y H2=>∃ a v,x = .ref a /\ Cv H2 a y (some v) /\ Q v H2
def re (ty td:TE):TE:=fun σ H Q=>ty σ H fun y H1=>td σ H1 fun x H2=>∃ a o,x = .ref a /\ Cv H2 a y o /\ Q (.bl o.isSome) H2
def cz (ty td:TE):TE:=fun σ H Q=>ty σ H fun y H1=>td σ H1 fun x H2=>∃ a o,x = .ref a /\ Cv H2 a y o /\ Q (.bl (!o.isSome)) H2
def km (td ty tv:TE):TS:=fun D σ H=>tv σ H fun v H1=>td σ H1 fun x H2=>ty σ H2 fun y H3=>∃ a H4,x = .ref a /\ Lk H3 a y v H4 /\ D.nx σ H4
def ut (td ty tv:TE) (rd:V -> V -> Hp -> VK -> Prop):TS:=fun D σ H=>td σ H fun x H1=>ty σ H1 fun y H2=>∃ a v,x = .ref a /\ Cv H2 a y (some v) /\
 tv σ H2 fun y2 H3=>rd v y2 H3 fun z H4=>∃ H5,Lk H4 a y z H5 /\ D.nx σ H5
def uc (td ty:TE):TS:=fun D σ H=>td σ H fun x H1=>ty σ H1 fun y H2=>∃ a kvs k,x = .ref a /\ H2 a = some (.dK kvs) /\ y = kV k /\ (Ae kvs k).isSome = true /\ D.nx σ (upd H2 a (.dK (Bx kvs k)))
section
variable {X:Cx} {o i e value:Expr} {pos pos' lV:Pos} {td ty tv:TE}
theorem Dq (hu:X.A.units + 20 < cLine) (ho:PE X o td) (hi:PE X i ty) (hs:lz i):PE X (.Subscript o i pos) (o8 td ty):=by
 intro pins s σ H Q I h
 refine cu PySem.F.slot_dict_getitem.lookup hs (C9 (ho pins s σ H _ I h) fun u s1 ⟨x,H1,I1,rx,q1⟩=>C9 (hi pins s1 σ H1 _ I1 q1) fun iv s2 aV=>?_)
 obtain ⟨y,H2,I2,ry,a,v,ex,g,q2⟩ := aV
 subst ex
 obtain rfl:u = Value.ref a:=rx
 exact ⟨Qj I2 g,Wb hu I2 g ry fun w' s3 I3 fJ=>⟨v,H2,I3,fJ,q2⟩⟩
theorem Su (hu:X.A.units + 20 < cLine) (hi:PE X i ty) (ho:PE X o td):PC X .In i o (re ty td):=by
 intro pins s σ H Q I h
 refine C9 (hi pins s σ H _ I h) fun iv s1 ⟨y,H1,I1,ry,q1⟩=>C9 (ho pins s1 σ H1 _ I1 q1) fun u s2 aV=>?_
 obtain ⟨x,H2,I2,rx,a,ov,ex,g,q2⟩ := aV
 subst ex
 obtain rfl:u = Value.ref a:=rx
 exact qa hu I2 g ry fun s3 I3=>⟨.bl ov.isSome,H2,I3,rfl,q2⟩
theorem Gy (hu:X.A.units + 20 < cLine) (hi:PE X i ty) (ho:PE X o td):PC X .NotIn i o (cz ty td):=by
 intro pins s σ H Q I h
 refine C9 (hi pins s σ H _ I h) fun iv s1 ⟨y,H1,I1,ry,q1⟩=>C9 (ho pins s1 σ H1 _ I1 q1) fun u s2 aV=>?_
 obtain ⟨x,H2,I2,rx,a,ov,ex,g,q2⟩ := aV
 subst ex
 obtain rfl:u = Value.ref a:=rx
 exact cy hu I2 g ry fun s3 I3=>⟨.bl (!ov.isSome),H2,I3,rfl,q2⟩
theorem Ie (hu : X.A.units + 20 < cLine) (ho : PE X o td) (hi : PE X i ty) (hv : PE X value tv) (hs : swapsWith value (some (.Subscript o i pos')) pos.line X.env = pure false) :
  PS X (.Assign [.Subscript o i pos'] value pos) (km td ty tv):=by
 intro pins s σ H D I h
 refine wpAny_Assign_Subscript (C9 (hv pins s σ H _ I h) fun r s1 ⟨v,H1,I1,rv,q1⟩=>C9 (ho pins s1 σ H1 _ I1 q1) fun u s2 ⟨x,H2,I2,rx,q2⟩=>C9 (hi pins s2 σ H2 _ I2 q2) fun iv s3 ⟨y,H3,I3,ry,a,H4,ex,g,q3⟩=>?_) hs
 subst ex
 obtain rfl:u = Value.ref a:=rx
 exact Wm hu I3 g ry rv fun s4 I4=>⟨σ,H4,I4,q3⟩
end
theorem Z6 {P:Program} {w:World} {H:Hp} (h:Heap) (hb:sysModules < h.objs.size):Bo P w H (h.push { cls := .type "dict",data := .dict #[] }) h.objs.size (.dK []) :=
 ⟨Nat.zero_le _,beq_eq_false_iff_ne.mpr (Ne.symm (Nat.ne_of_lt hb)),[],.nil,Heap.DictOf.new h⟩
theorem Y6 {P:Program} {w:World} {H:Hp} (h:Heap) (hb:sysModules < h.objs.size):Bo P w H (h.push { cls := .type "dict",data := .dict #[] }) h.objs.size (.dT []) :=
 ⟨Nat.zero_le _,beq_eq_false_iff_ne.mpr (Ne.symm (Nat.ne_of_lt hb)),[],.nil,_,#[],0,Heap.get?_push_size _ rfl,⟨rfl,rfl,rfl⟩,rfl,rfl,List.nodup_nil⟩
def i7:TE:=fun _ H Q=>∀ p,H p = none -> Q (.ref p) (upd H p (.dK []))
def j8:TE:=fun _ H Q=>∀ p,H p = none -> Q (.ref p) (upd H p (.dT []))
section
variable {X:Cx} {pos:Pos}
theorem Z9:PE X (.Dict [] [] pos) i7:=fun pins s σ H Q I h =>
 wpAny_Dict_empty ⟨.ref s.heap.objs.size,_,I.laid (a:=s.heap.objs.size) (o := .dK []) (t':=s.toks) (fun _ _ q=>Heap.get?_push_of_some _ q) (Nat.le_refl _) (Z6 s.heap I.big),rfl,h _ (I.aF.fresh (Nat.le_refl _))⟩
theorem Gp:PE X (.Dict [] [] pos) j8:=fun pins s σ H Q I h =>
 wpAny_Dict_empty ⟨.ref s.heap.objs.size,_,I.laid (a:=s.heap.objs.size) (o := .dT []) (t':=s.toks) (fun _ _ q=>Heap.get?_push_of_some _ q) (Nat.le_refl _) (Y6 s.heap I.big),rfl,h _ (I.aF.fresh (Nat.le_refl _))⟩
end
def P3:List (TE × TE) -> St -> Hp -> (List (V × V) -> Hp -> Prop) -> Prop
 | [],_,H,Q=>Q [] H
 | (tk,tv) :: r,σ,H,Q=>tk σ H fun x H1=>tv σ H1 fun y H2=>P3 r σ H2 fun ps H3=>Q ((x,y) :: ps) H3
abbrev VV:List (V × V) -> List (Value × Value) -> Prop:=Paired fun p q=>Av p.1 q.1 /\ Av p.2 q.2
def wa (X:Cx) (pos:Pos) (keys:List (Option Expr)) (values:List Expr) (TH:List (TE × TE)):Prop :=
 ∀ (pins:List (Addr × Obj)) (s:Shared) (σ:St) (H:Hp) (Q:List (V × V) -> Hp -> Prop),Ai X pins σ H s -> P3 TH σ H Q ->
  wpAny (model X.prog X.w) X.A (evalPairs (pairTrees keys values X.env pos)) (fun vs s'=>∃ ps H',Ai X pins σ H' s' /\ VV ps vs /\ Q ps H') X.xe s
def i9 (kvs more:List (Dt × V)):List (Dt × V):=more.foldl (fun acc kv=>Bl acc kv.1 kv.2) kvs
def u5 (TH:List (TE × TE)):TE:=fun σ H Q=>∀ p,H p = none -> P3 TH σ (upd H p (.dK [])) fun ps H2=>H2 p = some (.dK []) /\ ∃ kvs:List (Dt × V),ps = kvs.map (fun kv=>(kV kv.1,kv.2)) /\ kvs.length <= 15 /\ Q (.ref p) (upd H2 p (.dK (i9 [] kvs)))
structure M1 (X:Cx) (o:Expr) (m:Str) (apos:Pos) (e:Expr) (bA:Pos):Prop where
 base:attributeBase o m X.env (eval o X.env) = eval o X.env
 PV:((backTo bA (starEach [e] X.env)).all (fun x=>!x.1) && (backToKw bA (keywordEach [] X.env)).all (fun x=>x.1.isSome)
  && decide (([e]:List Expr).length + ([]:List Keyword).length + (if ([]:List Keyword).isEmpty then 0 else 1) < 30)) = true
 line:(apos.endLine == bA.line) = true
 trees:backTo bA (starEach [e] X.env) = [(false,eval e X.env)]
structure M2 (X:Cx) (o:Expr) (m:Str) (apos:Pos) (e f:Expr) (bA:Pos):Prop where
 base:attributeBase o m X.env (eval o X.env) = eval o X.env
 PV:((backTo bA (starEach [e,f] X.env)).all (fun x=>!x.1) && (backToKw bA (keywordEach [] X.env)).all (fun x=>x.1.isSome)
  && decide (([e,f]:List Expr).length + ([]:List Keyword).length + (if ([]:List Keyword).isEmpty then 0 else 1) < 30)) = true
 line:(apos.endLine == bA.line) = true
 trees:backTo bA (starEach [e,f] X.env) = [(false,eval e X.env),(false,eval f X.env)]
def kf (H:Hp) (a:Addr):Prop:=(∃ kvs,Rd H a (.dK kvs)) \/ ∃ kvs,Rd H a (.dT kvs)
theorem To {X : Cx} {pins : List (Addr × Obj)} {σ : St} {H : Hp} {s : Shared} {a : Addr} (I : Ai X pins σ H s) (d : kf H a) :
  s.TypeIs (.ref a) "dict" /\ (∀ b,Value.ref a = .ref b -> ∃ ob,s.heap.get? b = some ob /\ ob.dict = none) /\ (a == sysModules) = false:=by
 rcases d with ⟨kvs,e⟩ | ⟨kvs,e⟩
 ·obtain ⟨_,hd,vs,_,dd⟩ := K2 I.aF e
  refine ⟨dd.typeIs,fun b q=>?_,hd⟩
  cases q
  obtain ⟨ob,_,_,h1,h2,_⟩ := dd
  exact ⟨ob,h1,h2.2.1⟩
 ·obtain ⟨_,hd,xs,_,dd⟩ := Ln I.aF e
  refine ⟨dd.typeIs,fun b q=>?_,hd⟩
  cases q
  obtain ⟨ob,_,_,h1,h2,_⟩ := dd
  exact ⟨ob,h1,h2.2.1⟩
section
variable {X:Cx} {pins:List (Addr × Obj)} {σ:St} {H:Hp} {s:Shared} {a:Addr} {y d:V} {u r:Value} {o:Option V} {A:Around} {E:Value -> Shared -> Prop}
theorem gz {Q : Value -> Shared -> Prop} (hu : A.units + 20 < cLine) (I : Ai X pins σ H s) (g : Cv H a y o) (ry : Av y u) (rd : Av d r) (h : ∀ w' s', Ai X pins σ H s' -> Av (o.getD d) w' -> Q w' s') :
  wpAny (model X.prog X.w) A (call (.builtin "dict.get") [.ref a,u,r]) Q E s:=by
 rcases g with ⟨kvs,k,e,ey,l⟩ | ⟨kvs,k,b,e,ey,eb,l⟩
 ·subst ey
  obtain ⟨z,hd,vs,rel,dd⟩ := K2 I.aF e
  refine call_meetsIn PySem.F.slot_dict_get dd.typeIs PySem.F.entry_dict_get (PySem.F.args_dict_get_3 _ _ _) (meets_dict_get_default (Db X.prog X.w) a (N2 ry) hd r) ⟨_,dd.mapOf,h _ _ (I.tok _) ?_⟩
  rw [l]
  exact (rel.val k).getD rd
 ·subst ey
  cases (show u = Value.ref b from ry)
  obtain ⟨z,hd,xs,rel,dd⟩ := Ln I.aF e
  refine call_meetsIn PySem.F.slot_dict_get dd.typeIs PySem.F.entry_dict_get (PySem.F.args_dict_get_3 _ _ _) (meetsH_dict_get_default (Cb X.prog X.w) a b hd r) ⟨D7 hu,k,xs,Gd I.aF eb,dd,h _ _ (I.tok _) ?_⟩
  rw [l]
  exact (rel.val k).getD rd
end
def ql (td ty:TE):TE:=fun σ H Q=>td σ H fun x H1=>∃ a,x = .ref a /\ kf H1 a /\ ty σ H1 fun y H2=>∃ o,Cv H2 a y o /\ Q (o.getD .aR) H2
def gq (td ty tx:TE):TE:=fun σ H Q=>td σ H fun x H1=>∃ a,x = .ref a /\ kf H1 a /\ ty σ H1 fun y H2=>tx σ H2 fun z H3=>∃ o,Cv H3 a y o /\ Q (o.getD z) H3
def ft (td ty:TE):TE:=fun σ H Q=>td σ H fun x H1=>∃ a,x = .ref a /\ kf H1 a /\ ty σ H1 fun y H2=>∃ kvs k v,H2 a = some (.dK kvs) /\ y = kV k /\ Ae kvs k = some v /\ Q v (upd H2 a (.dK (Bx kvs k)))
def qp (td ty tx:TE):TE:=fun σ H Q=>td σ H fun x H1=>∃ a,x = .ref a /\ kf H1 a /\ ty σ H1 fun y H2=>tx σ H2 fun z H3=>∃ kvs k,H3 a = some (.dK kvs) /\ y = kV k /\
 (∀ v,Ae kvs k = some v -> Q v (upd H3 a (.dK (Bx kvs k)))) /\ (Ae kvs k = none -> Q z H3)
section
variable {X:Cx} {o e f:Expr} {apos bA:Pos} {td ty tx:TE}
theorem Yf (hu:X.A.units + 20 < cLine) (ho:PE X o td) (he:PE X e ty) (hf:PE X f tx) (m:M2 X o "get" apos e f bA):PE X (.Call (.Attribute o "get" apos) [e,f] [] bA) (gq td ty tx):=by
 intro pins s σ H Q I h
 refine wpAny_Call_method m.base m.PV m.line PySem.F.plainAttrs_dict PySem.F.slot_dict_get PySem.F.type_dict_get (C9 (ho pins s σ H _ I h) fun u s1 aV=>?_)
 obtain ⟨x,H1,I1,rx,a,ex,d,q1⟩ := aV
 subst ex
 obtain rfl:u = Value.ref a:=rx
 obtain ⟨t1,t2,_⟩ := To I1 d
 refine ⟨t1,t2,?_⟩
 rw [m.trees]
 refine Calls.callWith_builtin rfl (Calls.evalArgs_plain (Calls.spliced_cons (C9 (he pins s1 σ H1 _ I1 q1) fun iv s2 ⟨y,H2,I2,ry,q2⟩ =>
  Calls.spliced_cons (C9 (hf pins s2 σ H2 _ I2 q2) fun fv s3 ⟨z,H3,I3,rz,ov,g,q3⟩=>Calls.spliced_nil ?_))))
 exact gz hu I3 g ry rz fun w' s4 I4 fJ=>⟨_,H3,I4,fJ,q3⟩
theorem Zg (ho:PE X o td) (he:PE X e ty) (m:M1 X o "pop" apos e bA):PE X (.Call (.Attribute o "pop" apos) [e] [] bA) (ft td ty):=by
 intro pins s σ H Q I h
 refine wpAny_Call_method m.base m.PV m.line PySem.F.plainAttrs_dict PySem.F.slot_dict_pop PySem.F.type_dict_pop (C9 (ho pins s σ H _ I h) fun u s1 aV=>?_)
 obtain ⟨x,H1,I1,rx,a,ex,d,q1⟩ := aV
 subst ex
 obtain rfl:u = Value.ref a:=rx
 obtain ⟨t1,t2,_⟩ := To I1 d
 refine ⟨t1,t2,?_⟩
 rw [m.trees]
 refine Calls.callWith_builtin rfl (Calls.evalArgs_plain (Calls.spliced_cons (C9 (he pins s1 σ H1 _ I1 q1) fun iv s2 ⟨y,H2,I2,ry,kvs,k,v,ea,ey,l,q2⟩=>Calls.spliced_nil ?_)))
 subst ey
 exact lw I2 ea ry l (.inl rfl) fun w' s3 I3 fJ=>⟨v,_,I3,fJ,q2⟩
end
section
variable {X:Cx} {pins:List (Addr × Obj)} {σ:St} {H:Hp} {s:Shared} {a:Addr} {kvs:List (Dt × V)} {A:Around} {E:Value -> Shared -> Prop}
end
section
variable {X:Cx} {pins:List (Addr × Obj)} {σ:St} {H:Hp} {s:Shared} {a:Addr} {y:V} {u:Value} {A:Around} {E:Value -> Shared -> Prop}
end
section
variable {κ:Type} [DecidableEq κ]
theorem Lg {kvs:List (κ × V)} {k:κ} (h:Ae kvs k = none):¬ k ∈ kvs.map (·.1):=by
 intro m
 obtain ⟨p,hp,e⟩ := List.mem_map.mp m
 have q:(kvs.any fun kv=>decide (kv.1 = k)) = true:=List.any_eq_true.mpr ⟨p,hp,decide_eq_true e⟩
 rw [Dx,h] at q
 exact absurd q (by simp)
theorem bm {kvs:List (κ × V)} {k:κ} {v:V} (h:Ae kvs k = some v):k ∈ kvs.map (·.1):=by
 have q:(kvs.any fun kv=>decide (kv.1 = k)) = true:=by
  rw [Dx,h]
  all_goals rfl
 obtain ⟨p,hp,e⟩ := List.any_eq_true.mp q
 exact List.mem_map.mpr ⟨p,hp,of_decide_eq_true e⟩
theorem Uy:∀ {l:List κ} {k:κ},l.Nodup -> ¬ k ∈ l -> (l ++ [k]).Nodup
 | [],k,_,_=>by simp
 | a :: r,k,h,hk=>by
  obtain ⟨h1,h2⟩ := List.nodup_cons.mp h
  show (a :: (r ++ [k])).Nodup
  refine List.nodup_cons.mpr ⟨fun m=>?_,Uy h2 fun m=>hk (List.mem_cons.mpr (Or.inr m))⟩
  rcases List.mem_append.mp m with q | q
  ·exact h1 q
  ·exact hk (List.mem_cons.mpr (Or.inl (List.mem_singleton.mp q).symm))
theorem cq {kvs:List (κ × V)} {k:κ} (v:V) (hn:(kvs.map (·.1)).Nodup) (h:Ae kvs k = none):((Bl kvs k v).map (·.1)).Nodup:=by
 rw [Dc v h,List.map_append]
 exact Uy hn (Lg h)
theorem X5 {p:κ × V} {r:List (κ × V)} {k:κ} (e:p.1 = k):Bx (p :: r) k = Bx r k:=by
 unfold Bx
 rw [List.filter_cons,if_neg (by simp [e])]
end
section
variable {P:Program} {w:World} {A:Around} {E:Value -> Shared -> Prop} {s:Shared}
theorem Yh {it d : Addr} {i n ep : Nat} {ok ov key val : Value} {Q : Value -> Shared -> Prop} (hit : IsItemIter s.heap it d i n ep ok ov)
  (hQ:∀ h',IsItemIterOut h' it d i n ep key val s.heap.objs.size -> h'.get? s.heap.objs.size = some { cls := .type "tuple",data := .seq #[key,val] } -> (∀ b o,b ≠ it -> s.heap.get? b = some o -> h'.get? b = some o) -> Q (.ref s.heap.objs.size) { s with heap:=h' }) :
  wpAny (model P w) A (Builtin.Dict_items.pairFromOwner (.ref it) 6 key val) Q E s:=by
 unfold Builtin.Dict_items.pairFromOwner; refine wpAny_bind (wpAny_newTuple ?_)
 have aN:it < s.heap.objs.size:=Heap.lt_size hit
 have a1:IsItemIter (s.heap.push { cls := .type "tuple",data := .seq #[key,val] }) it d i n ep ok ov:=Heap.get?_push_of_some _ hit
 have a2:(s.heap.push { cls := .type "tuple",data := .seq #[key,val] }).get? s.heap.objs.size = some { cls := .type "tuple",data := .seq #[key,val] }:=Heap.get?_push_size _ rfl
 have a3:∀ b o,s.heap.get? b = some o -> (s.heap.push { cls := .type "tuple",data := .seq #[key,val] }).get? b = some o:=fun b o z=>Heap.get?_push_of_some _ z
 show wpAny (model P w) A (Builtin.Dict_items.ownedTupleIsFree (.ref it) >>= _) Q E { s with heap:=s.heap.push { cls := .type "tuple",data := .seq #[key,val] } }
 generalize s.heap.push { cls := .type "tuple",data := .seq #[key,val] } = h1 at a1 a2 a3 ⊢
 unfold Builtin.Dict_items.ownedTupleIsFree; refine wpAny_bind (wpAny_bind (wpAny_field a1 rfl (x := .none) rfl (wpAny_pure ?_))); simp only [if_true]
 refine wpAny_bind (wpAny_field a1 rfl (x:=ok) rfl (wpAny_bind (wpAny_field a1 rfl (x:=ov) rfl ?_)))
 refine wpAny_bind (wpAny_setField_rec a1 (by simp) fun h2 b2 c2=>wpAny_bind ?_)
 have b2':IsItemIter h2 it d i n ep key ov:=b2
 refine wpAny_setField_rec b2' (by simp) fun h3 b3 c3=>wpAny_bind ?_
 have b3':IsItemIter h3 it d i n ep key val:=b3
 refine wpAny_setField_rec b3' (by simp) fun h4 b4 c4=>wpAny_bind ?_
 have b4':IsItemIterOut h4 it d i n ep key val s.heap.objs.size:=b4
 refine wpAny_setField_rec b4' (by simp) fun h5 b5 c5=>wpAny_bind (wpAny_letGo (wpAny_pure ?_))
 have up:∀ b o,b ≠ it -> h1.get? b = some o -> h5.get? b = some o:=fun b o hb z=>c5.extBut b o hb (c4.extBut b o hb (c3.extBut b o hb (c2.extBut b o hb z)))
 exact hQ h5 b5 (up _ _ (Nat.ne_of_gt aN) a2) fun b o hb z=>up b o hb (a3 b o z)
theorem Zn {it d : Addr} {i ep : Nat} {es : Array DictEntry} {ok ov : Value} {o : Obj} {Q : Option Value -> Shared -> Prop} (hit : IsItemIter s.heap it d i es.size ep ok ov) (HP : s.heap.get? d = some o) (nP : o.data = .dict es ep)
  {en:DictEntry} (he:es[i]? = some en)
  (hQ:∀ h',IsItemIterOut h' it d (i + 1) es.size ep en.key en.val s.heap.objs.size -> h'.get? s.heap.objs.size = some { cls := .type "tuple",data := .seq #[en.key,en.val] } -> (∀ b o,b ≠ it -> s.heap.get? b = some o -> h'.get? b = some o) -> Q (some (.ref s.heap.objs.size)) { s with heap:=h' }) :
  wpAny (model P w) A (pyNext (.ref it)) Q E s:=by
 have hT:s.TypeIs (.ref it) "dict_itemiterator" := ⟨_,hit,rfl⟩
 have own:Builtin.Dict_items.ownsTuple "dict_itemiterator" = true:=by decide
 unfold pyNext; refine wpAny_bind (wpAny_attempt (wpAny_callSpecial?_slot (name:=Str.ofString "__next__") hT F.slot_dict_itemiterator_next (wpAny_call_entry F.slot_dict_itemiterator_next hT F.entry_dict_itemiterator_next ?_ (F.args_dict_itemiterator_next_1 _))))
 refine wpAny_bind (wpAny_pure (wpAny_bind (wpAny_bind (wpAny_bind (wpAny_typeNameOfWhole_itemiter hT (wpAny_pure (wpAny_bind (wpAny_fieldsOf hit rfl ?_))))))))
 simp only [own,if_true]; show wpAny _ _ (if (Value.ref d == Value.none) = true then _ else _) _ _ s
 rw [if_neg (show ¬ (Value.ref d == Value.none) = true from Bool.false_ne_true)]; refine wpAny_bind (wpAny_pure (wpAny_bind (wpAny_dictEntries HP nP ?_)))
 rw [if_neg (show ¬ ((es.size:Int) != (es.size:Int)) = true by simp)]; refine wpAny_bind (wpAny_pure (wpAny_bind (wpAny_dictEpoch HP nP ?_)))
 rw [if_neg (show ¬ ((ep:Int) != (ep:Int)) = true by simp)]; refine wpAny_pure ?_
 simp only [show ¬ ((i:Int) < 0) by omega,if_false,Int.toNat_natCast,he]
 refine wpAny_bind (wpAny_bind (wpAny_typeNameOfWhole_itemiter hT (wpAny_pure (wpAny_bind (wpAny_isOneOf_itemiter hT ?_)))))
 show wpAny _ _ (setField (.ref it) 3 (rawInt ((i:Int) + 1)) >>= _) _ _ s; refine wpAny_bind (wpAny_setField_rec hit (by simp) fun h1 b1 c1=>?_)
 have b1':IsItemIter h1 it d (i + 1) es.size ep ok ov:=by
  have e:((i + 1:Nat):Int) = (i:Int) + 1:=by omega
  unfold IsItemIter; rw [e]; simpa [rawInt] using b1
 have hT1:Shared.TypeIs { s with heap:=h1 } (.ref it) "dict_itemiterator" := ⟨_,b1',rfl⟩
 refine wpAny_bind (wpAny_holding (wpAny_bind (wpAny_isOneOf_itemiter hT1 (wpAny_bind (wpAny_isOneOf_itemiter hT1 ?_)))))
 have z1:h1.objs.size = s.heap.objs.size:=c1.1
 refine Yh (s:={ s with heap:=h1 }) b1' fun h2 e1 e2 e3=>?_
 rw [show (Shared.heap { s with heap:=h1 }).objs.size = s.heap.objs.size from z1] at e1 e2 ⊢
 exact wpAny_pure ⟨_,rfl,wpAny_pure (hQ h2 e1 e2 fun b o hb z=>e3 b o hb (c1.extBut b o hb z))⟩
end
section
variable {X:Cx}
def tq (K:PySem.W.Frag):V -> List V -> Hp -> VK -> Prop:=fun x xs H Q=>∃ (sep:Str) (a:Addr) (zs:List Str),x = .str sep /\ xs = [.ref a] /\ Bg K H a (zs.map V.str) /\ zs.length <= 500 /\ (∀ z ∈ zs,z.length <= 30000) /\ sep.length <= 500 /\ Q (.str (Txt.join sep zs)) H
def u7 (K:PySem.W.Frag):List V -> Hp -> VK -> Prop:=fun xs H Q=>∃ (a C dx:Addr) (fs:List (Str × V)) (c:Value) (v:V),xs = [.ref a,v] /\ H a = some (.ins C dx fs) /\ (∀ u,Av v u -> u = c) /\ PySem.W.kitOne K (.ref C) c = some true /\ Q (.bl true) H
def ud (K:PySem.W.Frag):R2:=fun x y H Q=>∃ a b xs ys,x = .ref a /\ y = .ref b /\ Bg K H a xs /\ Bg K H b ys /\ xs.length + ys.length <= sizeLine /\ ∀ p,H p = none -> Q (.ref p) (upd H p (.lst (xs ++ ys)))
theorem Xd {e:Expr} {t u:TE} (h:PE X e t) (g:PE X e u):PE X e (fun σ H Q=>t σ H Q \/ u σ H Q):=by
 intro pins s σ H Q I z
 rcases z with z | z
 ·exact h pins s σ H Q I z
 ·exact g pins s σ H Q I z
end
theorem V0:entryFor table "dict.update.loop" = some Builtin.«dict.update.loop» := entryFor_of_tree (by kernel_rfl)
theorem P5:plainId "dict.update.loop" = true:=by decide +kernel
section
variable {P:Program} {w:World} {A:Around} {R:Result -> Shared -> Prop} {K:Type} [DecidableEq K] {knd:HeapKind P w K}
def Gb (ps:Nat -> K × Addr × Value) (xs:List (K × Addr × Value)) (i k:Nat):List (K × Addr × Value):=(List.range' i k).foldl (fun xs j=>storedH xs (ps j).1 (ps j).2.1 (ps j).2.2) xs
theorem Rs {xs:List (K × Addr × Value)} {k:K} {a:Addr} {v:Value}:(storedH xs k a v).length <= xs.length + 1:=by
 cases h:atKey xs k with
 | none =>
  rw [storedH_new h,List.length_append]
  exact Nat.le_refl _
 | some p =>
  unfold storedH
  simp [h]
theorem f9 {l I d : Addr} {items : Array Value} {ps : Nat -> K × Addr × Value} {h0 : Heap} (no : A.in1.handled = none) (hu : knd.room A.in1) (SY : l ≠ I) (hdI : d ≠ I) (PX : d ≠ l)
  (hit:∀ j v,items[j]? = some v -> ∃ t o n,v = .ref t /\ t ≠ I /\ t ≠ d /\ h0.get? t = some o /\ o.cls = .type "tuple" /\ o.data = .seq #[.ref (ps j).2.1,(ps j).2.2] n)
  (gN:∀ j,j < items.size -> ∀ h:Heap,(∀ b o,b ≠ I -> b ≠ d -> h0.get? b = some o -> h.get? b = some o) -> knd.is h (ps j).1 (ps j).2.1) (PY:∀ (h h':Heap) (j:Nat) xs,h.IsListIter I l j -> h.DictOfH knd d xs -> (∀ b o,b ≠ I -> h.get? b = some o -> h'.get? b = some o) -> h'.DictOfH knd d xs) :
  ∀ (k i:Nat) (s:Shared) (xs:List (K × Addr × Value)) (tk:Tok),items.size = i + k -> (s.heap.IsListIter I l i /\ s.heap.IsList l items) -> s.heap.DictOfH knd d xs -> (∀ b o,b ≠ I -> b ≠ d -> h0.get? b = some o -> s.heap.get? b = some o) -> xs.length + k <= sizeLine ->
   (∀ h' tK,h'.DictOfH knd d (Gb ps xs i k) -> (∀ b o,b ≠ I -> b ≠ d -> s.heap.get? b = some o -> h'.get? b = some o) -> R (.ok (.ret .none)) { s with heap:=h',toks:=tK }) ->
   codeAny (model P w) A (.builtin "dict.update.loop" ⟨[.ref d,.ref I,.int i tk,.none],[]⟩) R s:=by
 have W:=Walks.list (prog:=P) (w:=w) (A:=A.in1) no I l SY items
 intro k
 induction k with
 | zero =>
  intro i s xs tk hk bQ hm hf hz hR
  refine codeAny_builtin V0 ?_
  rw [Around.under_plainId P5 _]
  show wpAny (model P w) A.in1 (pyNext (.ref I) >>= _) _ _ s
  have ei:i = items.size:=by omega
  refine wpAny_bind (W.done s _ _ (ei ▸ bQ) fun h1 iP k1=>?_)
  show wpAny (model P w) A.in1 (Builtin.Dict.addKeywords d [] >>= _) _ _ _
  refine wpAny_bind ?_
  unfold Builtin.Dict.addKeywords
  refine wpAny_pure (wpAny_pure ?_)
  have jX:∀ b o,b ≠ I -> s.heap.get? b = some o -> h1.get? b = some o:=fun b o hb e=>k1 b o (by simpa using hb) e
  exact hR h1 iP (PY _ _ _ _ bQ.1 hm jX) fun b o hb _ e=>jX b o hb e
 | succ k ih =>
  intro i s xs tk hk bQ hm hf hz hR
  refine codeAny_builtin V0 ?_
  rw [Around.under_plainId P5 _]
  show wpAny (model P w) A.in1 (pyNext (.ref I) >>= _) _ _ s
  refine wpAny_bind (W.item i s _ _ (by omega) bQ fun v h1 iP hP bK k1=>?_)
  have jX:∀ b o,b ≠ I -> s.heap.get? b = some o -> h1.get? b = some o:=fun b o hb e=>k1 b o (by simpa using hb) e
  obtain ⟨t,o,n,rfl,htI,htd,ht,hc,hd⟩ := hit i _ hP
  have ht1:=jX _ _ htI (hf _ _ htI htd ht)
  have jY:=PY _ _ _ _ bQ.1 hm jX
  have hf1:∀ b o,b ≠ I -> b ≠ d -> h0.get? b = some o -> h1.get? b = some o:=fun b o hb gM e=>jX b o hb (hf b o hb gM e)
  refine wpAny_bind ?_
  refine wpAny_holding ?_
  refine wpAny_bind (wpAny_tryCatch ?_)
  unfold Builtin.Dict.pairItems
  refine wpAny_bind (wpAny_typeOf (T := "tuple") (s:={ s with heap:=h1,toks:=iP }) ⟨o,ht1,hc⟩ ?_)
  rw [if_pos (by decide)]
  refine wpAny_bind (wpAny_seqItems (s:={ s with heap:=h1,toks:=iP }) ht1 hd ?_)
  refine wpAny_pure ?_
  show wpAny (model P w) A.in1 (holding [.ref (ps i).2.1,(ps i).2.2] (dictSet d (.ref (ps i).2.1) (ps i).2.2)) _ _ _
  refine wpAny_holding ?_
  refine wpAny_dictSet_heap (s:={ s with heap:=h1,toks:=iP }) hu (gN i (by omega) h1 hf1) jY (fun h2 kH mW=>?_) (by omega)
  have k2:∀ b o,b ≠ d -> h1.get? b = some o -> h2.get? b = some o:=fun b o hb e=>(mW.2 b hb).trans e
  refine wpAny_pure ⟨plainId_quiet P5 _,?_⟩
  have sF:(storedH xs (ps i).1 (ps i).2.1 (ps i).2.2).length <= xs.length + 1:=Rs
  refine ih (i + 1) _ (storedH xs (ps i).1 (ps i).2.1 (ps i).2.2) _ (by omega) ⟨?_,?_⟩ kH (fun b o hb gM e=>k2 b o gM (hf1 b o hb gM e)) (by omega) fun h' tK dX eK=>?_
  ·exact bK.1.at fun o e=>k2 _ _ hdI.symm e
  ·exact bK.2.at fun o e=>k2 _ _ PX.symm e
  ·exact hR h' tK dX fun b o hb gM e=>eK b o hb gM (k2 b o gM (jX b o hb e))
end
theorem ig:mroOf (.type "dict") = pure [.type "dict",.type "object"]:=by rw [mroOf_type]; kernel_rfl
theorem Wz:typeLookup (.type "dict") "__new__" = pure (some (.builtin "dict.__new__")):=by rw [typeLookup_type,builtinLookup_eq_fast]; kernel_rfl
theorem Pe:TypeCalled "dict" "dict.__new__" "dict.__init__" :=
 ⟨by decide +kernel,by decide +kernel,⟨_,_,ig⟩,madeBy_type ig Wz (by decide +kernel),by decide +kernel,by rw [isSubtype_type]; kernel_rfl,PySem.F.slot_dict_init⟩
theorem Lq (a:Value):checkTypeCall "dict" ⟨[a],[]⟩ = pure ():=by kernel_rfl
theorem Ms (a:Value):checkBuiltinCall "dict.__new__" ⟨[.type "dict",a],[]⟩ = pure ():=by kernel_rfl
theorem Ke:entryFor table "dict.__new__" = some Builtin.«dict.__new__» := entryFor_of_tree (by kernel_rfl)
theorem G0:plainId "dict.__new__" = true:=by decide +kernel
theorem Lb:isSubtype (.type "dict") (.type "dict") = pure true:=by rw [isSubtype_type]; kernel_rfl
theorem Ka (a b:Value):argsOk "dict.__init__" ⟨[a,b],[]⟩ := by
 unfold argsOk
 kernel_rfl
theorem P9:typeLookup (.type "list") (Str.ofString "keys") = pure none:=by rw [typeLookup_type,builtinLookup_eq_fast]; kernel_rfl
section
variable {prog:Program} {w:World} {A:Around} {E:Value -> Shared -> Prop} {s:Shared}
theorem M6 (a : Value) {Q₁ : Value -> Shared -> Prop}
  (h:Q₁ (.ref s.heap.objs.size) { s with heap:=s.heap.push { cls := .type "dict",data := .dict #[] } }) :
  codeAny (model prog w) A (.call (.builtin "dict.__new__") ⟨[.type "dict",a],[]⟩) (wants Q₁ E) s:=by
 refine codeAny_of_tree ?_
 show wpAny _ A.in1 (do checkBuiltinCall "dict.__new__" ⟨[.type "dict",a],[]⟩; again (.builtin "dict.__new__" ⟨[.type "dict",a],[]⟩)) _ _ s
 refine wpAny_bind (wpAny_of_eq (Ms a) (wpAny_pure ⟨plainId_quiet G0 _,codeAny_builtin Ke ?_⟩))
 rw [Around.under_plainId G0 _]
 have tE:=Lb
 have hm:=ig
 obtain ⟨hp,g,d,tk,os⟩ := s
 unfold Builtin.«dict.__new__»
 dsimp only
 wp_walk
 exact h
theorem aq {l : Addr} {xs : Array Value} {k : Nat} {sl : Array (Option Value)} {Q : Option Value -> Shared -> Prop} (hx : s.heap.get? l = some { cls := .type "list", dict := none, data := .seq xs k, slots := sl })
  (hA:A.handled = none) (h:∀ h' tk,(∀ b o,s.heap.get? b = some o -> h'.get? b = some o) -> Q none { s with heap:=h',toks:=tk }):wpAny (model prog w) A (getAttr? (.ref l) (Str.ofString "keys")) Q E s:=by
 obtain ⟨hp,g,d,tk,os⟩ := s
 have hT:∀ tK,(⟨hp,g,d,tK,os⟩ : Shared).TypeIs (.ref l) "list" := fun _=>⟨_,hx,rfl⟩
 have f3:=PySem.F.slot_list_getattribute.lookup
 have f4:=PySem.F.slot_list_getattribute.bind (.ref l)
 have f5:=am_list_getattr_none
 have f6:=P9
 have f1:=sub_AttributeError
 unfold getAttr? getAttrBy?
 repeat (any_goals (first | assumption | exact hT _ | ((with_reducible show wpAny _ _ (call (Value.builtin "list.__getattribute__") _ _) _ _ _); refine call_meets PySem.F.slot_list_getattribute (hT _) am_entry_list_getattribute (PySem.F.args_list_getattribute_2 _ _) (meets_getattribute_miss_list _ _ _ _ _ _ f6 (by decide)) ⟨hx,hA,fun h' tK e mX=>?_⟩) | wp_step))
 obtain ⟨t',u',he⟩ := mX.there
 show wpAny _ _ (getattributeRaised _ _ _ _ _ _ _) _ _ _
 unfold getattributeRaised
 repeat (any_goals (first | assumption | wp_step))
 exact h h' tK mX.keeps
end
section
variable {P:Program} {w:World} {A:Around} {E:Value -> Shared -> Prop} {s:Shared} {R:Result -> Shared -> Prop}
theorem Qd {d l : Addr} {xs : Array Value} {k : Nat} {sl : Array (Option Value)} {Q : PySem.Fin -> Shared -> Prop} (hA : A.handled = none) (hd : s.TypeIs (.ref d) "dict") (hl : s.heap.get? l = some { cls := .type "list", dict := none, data := .seq xs k, slots := sl })
  (h:∀ (h':Heap) (tk:Nat),(∀ b o,s.heap.get? b = some o -> h'.get? b = some o) -> Q (.again (.builtin "dict.update.loop" ⟨[.ref d,.ref h'.objs.size,.int 0 0,.none],[]⟩)) { s with heap:=h'.push { cls := .type "list_iterator",data := .fields #[.ref l,.int 0 0] },toks:=tk }) :
  wpAny (model P w) A (Builtin.«dict.__init__» ⟨[.ref d,.ref l],[]⟩) Q E s:=by
 unfold Builtin.«dict.__init__» Builtin.Dict.selfAndRest
 refine wpAny_bind (wpAny_bind (wpAny_notOrdered_dict hd ?_))
 refine wpAny_bind ?_
 show wpAny _ _ (pure d) _ _ _
 refine wpAny_pure (wpAny_pure ?_)
 show wpAny _ _ (Builtin.Dict.updateFrom "dict.__init__" d (.ref l) [] .none) _ _ _
 unfold Builtin.Dict.updateFrom
 refine wpAny_bind (wpAny_typeOf (T := "list") ⟨_,hl,rfl⟩ ?_)
 rw [if_pos (by decide)]
 refine wpAny_bind (aq hl hA fun h1 iP k1=>?_)
 rw [if_pos (show (none:Option Value).isNone = true from rfl)]
 refine wpAny_bind (wpAny_rule ?_)
 refine wpAny_bind (wpAny_pyIter_list (s:={ s with heap:=h1,toks:=iP }) (items:=xs) ⟨_,k1 _ _ hl,rfl,k,rfl⟩ ?_)
 exact wpAny_pure (h h1 iP k1)
theorem Tp {K : Type} [DecidableEq K] {knd : HeapKind P w K} {l : Addr} {xs : Array Value} {k : Nat} {sl : Array (Option Value)} {ps : Nat -> K × Addr × Value} {Q : Value -> Shared -> Prop} (hA : A.handled = none) (hu : knd.room A.in1.in1) (hz : xs.size <= sizeLine)
  (hl:s.heap.get? l = some { cls := .type "list",dict:=none,data := .seq xs k,slots:=sl })
  (hit:∀ j v,xs[j]? = some v -> ∃ t o n,v = .ref t /\ s.heap.get? t = some o /\ o.cls = .type "tuple" /\ o.data = .seq #[.ref (ps j).2.1,(ps j).2.2] n)
  (gN:∀ j,j < xs.size -> ∀ h:Heap,(∀ b o,s.heap.get? b = some o -> h.get? b = some o) -> knd.is h (ps j).1 (ps j).2.1)
  (PY:∀ d I (h h':Heap) (j:Nat) xs,h.IsListIter I l j -> h.DictOfH knd d xs -> (∀ b o,b ≠ I -> h.get? b = some o -> h'.get? b = some o) -> h'.DictOfH knd d xs)
  (hem:∀ (h:Heap) d,h.get? d = some { cls := .type "dict",data := .dict #[] } -> h.DictOfH knd d [])
  (q:∀ h' tk,h'.DictOfH knd s.heap.objs.size (Gb ps [] 0 xs.size) -> (∀ b o,s.heap.get? b = some o -> h'.get? b = some o) -> Q (.ref s.heap.objs.size) { s with heap:=h',toks:=tk }) :
  wpAny (model P w) A (call (.type "dict") [.ref l]) Q E s:=by
 refine callType_codes (Q₁:=fun obj s₁=>obj = .ref s.heap.objs.size /\ s₁ = { s with heap:=s.heap.push { cls := .type "dict",data := .dict #[] } }) Pe (Lq _) PySem.F.entry_dict_init (M6 _ ⟨rfl,rfl⟩) fun obj s1 k1=>?_
 obtain ⟨rfl,rfl⟩ := k1
 have hD:(s.heap.push { cls := .type "dict",data := .dict #[] }).get? s.heap.objs.size = some { cls := .type "dict",data := .dict #[] }:=Heap.get?_push_size _ rfl
 refine ⟨⟨_,hD,rfl⟩,Ka _ _,?_⟩
 refine Qd (s:={ s with heap:=s.heap.push { cls := .type "dict",data := .dict #[] } }) hA ⟨_,hD,rfl⟩ (Heap.get?_push_of_some _ hl) fun h1 iP k1=>?_
 refine ⟨plainId_quiet P5 _,?_⟩
 have ks:∀ b o,s.heap.get? b = some o -> h1.get? b = some o:=fun b o e=>k1 b o (Heap.get?_push_of_some _ e)
 have hDl:s.heap.objs.size < h1.objs.size:=Heap.lt_size (k1 _ _ hD)
 have fO:∀ b o,s.heap.get? b = some o -> b ≠ s.heap.objs.size /\ b ≠ h1.objs.size:=fun b o e=>⟨Nat.ne_of_lt (Heap.lt_size e),Nat.ne_of_lt (Heap.lt_size (ks b o e))⟩
 have kp:∀ b o,h1.get? b = some o -> (h1.push { cls := .type "list_iterator",data := .fields #[.ref l,.int 0 0] }).get? b = some o:=fun b o e=>Heap.get?_push_of_some _ e
 have hI:(h1.push { cls := .type "list_iterator",data := .fields #[.ref l,.int 0 0] }).get? h1.objs.size = some { cls := .type "list_iterator",data := .fields #[.ref l,.int 0 0] }:=Heap.get?_push_size _ rfl
 obtain ⟨nl1,nl2⟩ := fO _ _ hl
 refine f9 (knd:=knd) (A:=A.in1) (l:=l) (I:=h1.objs.size) (d:=s.heap.objs.size) (items:=xs) (ps:=ps) (h0:=s.heap) hA hu nl2 (Nat.ne_of_lt hDl) nl1.symm ?_ ?_ (PY _ _) xs.size 0 _ [] 0 (by omega) ⟨⟨_,hI,rfl,rfl⟩,⟨_,kp _ _ (ks _ _ hl),rfl,k,rfl⟩⟩ (hem _ _ (kp _ _ (k1 _ _ hD))) (fun b o _ _ e=>kp _ _ (ks b o e)) (by simpa using hz) fun h' tK dX eK=>?_
 ·intro j v hv
  obtain ⟨t,o,n,rfl,ht,hc,hd⟩ := hit j v hv
  exact ⟨t,o,n,rfl,(fO _ _ ht).2,(fO _ _ ht).1,ht,hc,hd⟩
 ·intro j hj h2 hf
  exact gN j hj h2 fun b o e=>hf b o (fO _ _ e).2 (fO _ _ e).1 e
 ·exact ⟨rfl,q h' tK dX fun b o e=>eK b o (fO _ _ e).2 (fO _ _ e).1 (kp _ _ (ks b o e))⟩
end
theorem Bu.frame {prog:Program} {w:World} {h h':Heap} {k:List Int × Int} {a I l:Addr} {j:Nat} (x:Bu prog w h k a) (hI:h.IsListIter I l j) (hk:∀ b o,b ≠ I -> h.get? b = some o -> h'.get? b = some o):Bu prog w h' k a:=by
 obtain ⟨o,n,u,t,ho,hc,hd,o2,aD,n2,iL,gL,hd2,hi⟩ := x
 obtain ⟨oi,PZ,TJ,_⟩ := hI
 have n1:a ≠ I:=by
  rintro rfl
  rw [PZ] at ho
  cases ho
  rw [TJ] at hc
  exact absurd hc (by decide)
 have TK:u ≠ I:=by
  rintro rfl
  rw [PZ] at iL
  cases iL
  rw [TJ] at gL
  exact absurd gL (by decide)
 exact ⟨o,n,u,t,hk _ _ n1 ho,hc,hd,o2,aD,n2,hk _ _ TK iL,gL,hd2,hi⟩
theorem Bu.ext {prog:Program} {w:World} {h h':Heap} {k:List Int × Int} {a:Addr} (x:Bu prog w h k a) (hk:∀ b o,h.get? b = some o -> h'.get? b = some o):Bu prog w h' k a:=by
 obtain ⟨o,n,u,t,ho,hc,hd,o2,aD,n2,iL,gL,hd2,hi⟩ := x
 exact ⟨o,n,u,t,hk _ _ ho,hc,hd,o2,aD,n2,hk _ _ iL,gL,hd2,hi⟩
theorem U7 {prog:Program} {w:World} {d I l:Addr} {h h':Heap} {j:Nat} {xs:List ((List Int × Int) × Addr × Value)} (hI:h.IsListIter I l j) (hm:h.DictOfH (Cb prog w) d xs) (hk:∀ b o,b ≠ I -> h.get? b = some o -> h'.get? b = some o):h'.DictOfH (Cb prog w) d xs:=by
 obtain ⟨o,es,ep,ho,hc,hd,he,QA,hn⟩ := hm
 have n1:d ≠ I:=by
  rintro rfl
  obtain ⟨oi,PZ,TJ,hdi⟩ := hI
  rw [PZ] at ho
  cases ho
  rw [hdi] at hd
  exact nomatch hd
 exact ⟨o,es,ep,hk _ _ n1 ho,hc,hd,he,fun x hx=>Bu.frame (QA x hx) hI hk,hn⟩
def Df (kvs:List ((List Int × Int) × V)) (ps:List ((List Int × Int) × V)):List ((List Int × Int) × V):=ps.foldl (fun acc p=>Bl acc p.1 p.2) kvs
theorem Ku:∀ (ps kvs:List ((List Int × Int) × V)),(Df kvs ps).length <= kvs.length + ps.length
 | [],kvs=>Nat.le_refl _
 | p :: ps,kvs=>by
  have h1:=Ku ps (Bl kvs p.1 p.2)
  have h2:=Cp kvs p.1 p.2
  show (Df (Bl kvs p.1 p.2) ps).length <= _
  rw [List.length_cons]
  omega
theorem Yw {H : Hp} {ps : List ((List Int × Int) × V)} {f : Nat -> (List Int × Int) × Addr × Value} (hf : ∀ (j : Nat) q, ps[j]? = some q -> (f j).1 = q.1 /\ Ds H (f j).2.1 q.1 /\ Av q.2 (f j).2.2) :
  ∀ (k i:Nat) (kvs:List ((List Int × Int) × V)) (xs:List ((List Int × Int) × Addr × Value)),i + k = ps.length -> KT H kvs xs -> KT H (Df kvs (ps.drop i)) (Gb f xs i k)
 | 0,i,kvs,xs,e,r=>by
  rw [List.drop_of_length_le (by omega)]
  exact r
 | k + 1,i,kvs,xs,e,r=>by
  have hi:i < ps.length:=by omega
  obtain ⟨e1,e2,e3⟩ := hf i ps[i] (List.getElem?_eq_getElem hi)
  rw [List.drop_eq_getElem_cons hi]
  show KT H (Df (Bl kvs ps[i].1 ps[i].2) (ps.drop (i + 1))) (Gb f (storedH xs (f i).1 (f i).2.1 (f i).2.2) (i + 1) k)
  rw [e1]
  exact Yw hf k (i + 1) _ _ (by omega) (r.put _ e2 e3)
section
variable {X:Cx}
def jw (K:PySem.W.Frag):List V -> Hp -> VK -> Prop:=fun xs H Q=>∃ (p:Addr) (us:List V) (ps:List ((List Int × Int) × V)),xs = [.ref p] /\ Bg K H p us /\ us.length = ps.length /\
 (∀ (j:Nat) u q,us[j]? = some u -> ps[j]? = some q -> ∃ t b,u = .ref t /\ H t = some (.tup [.ref b,q.2]) /\ Ds H b q.1) /\ ∀ d,H d = none -> Q (.ref d) (upd H d (.dT (Df [] ps)))
theorem Sk (K:PySem.W.Frag) (hu:X.A.units + 24 < cLine) (hc:X.calm = true) (hK:X.K = K:=by rfl):Dy X (.type "dict") (jw K):=by
 subst hK
 intro pins s σ H xs TL Q I r h
 obtain ⟨p,us,ps,rfl,hq,hlen,fI,q⟩ := h
 obtain ⟨u0,rfl,ru⟩ := Aw.one r
 cases ru
 obtain ⟨aD,rv,pl,hz⟩ := I.list hq
 obtain ⟨⟨ocls,od,odata,gZ⟩,n,e,mB,uT,uU⟩ := pl
 simp only at mB uT uU
 subst mB uT uU
 have sF:=Aw.length rv
 have ex:∀ j:Nat,∃ x:(List Int × Int) × Addr × Value,∀ q,ps[j]? = some q -> (x.1 = q.1 /\ Ds H x.2.1 q.1 /\ Av q.2 x.2.2) /\ ∀ v,aD[j]? = some v -> ∃ t o n,v = .ref t /\ s.heap.get? t = some o /\ o.cls = .type "tuple" /\ o.data = .seq #[.ref x.2.1,x.2.2] n:=by
  intro j
  cases hj:ps[j]? with
  | none=>exact ⟨(([],0),0,.none),fun q z=>nomatch z⟩
  | some q =>
   have hjl:=(List.getElem?_eq_some_iff.mp hj).1
   have hju:us[j]? = some us[j]:=List.getElem?_eq_getElem (by omega)
   obtain ⟨t,b,eu,ht,hb⟩ := fI j _ q hju hj
   obtain ⟨_,iO,r2,o,h1,h2,m,h3⟩ := I.aF t _ ht
   obtain ⟨v1,v2,rfl,rv1,rv2⟩ := Aw.two r2
   cases rv1
   refine ⟨(q.1,b,v2),fun q' z=>?_⟩
   cases z
   refine ⟨⟨rfl,hb,rv2⟩,fun v hv=>?_⟩
   obtain ⟨w',ew,fJ⟩ := rv.get hju
   rw [ew] at hv
   cases hv
   rw [eu] at fJ
   cases fJ
   exact ⟨t,o,m,rfl,h1,h2,h3⟩
 obtain ⟨f,hf⟩ := Classical.axiomOfChoice ex
 have hA:=I.ok.hd hc
 refine Tp (knd:=Cb X.prog X.w) (ps:=f) hA (D7 (A:=X.A.in1) (by show X.A.units + 1 + 20 < cLine; omega)) (by rw [List.size_toArray]; omega) e ?_ ?_ (fun d I' h h' j xs hI hm hk=>U7 hI hm hk) ?_ fun h' tk hm hk=>?_
 ·intro j v hv
  rw [List.getElem?_toArray] at hv
  have hjl:=(List.getElem?_eq_some_iff.mp hv).1
  exact (hf j _ (List.getElem?_eq_getElem (show j < ps.length by omega))).2 v hv
 ·intro j hj h2 tH
  rw [List.size_toArray] at hj
  obtain ⟨⟨e1,e2,_⟩,_⟩ := hf j _ (List.getElem?_eq_getElem (show j < ps.length by omega))
  rw [e1]
  exact Bu.ext (Gd I.aF e2) tH
 ·intro h2 d hd
  exact ⟨_,#[],0,hd,⟨rfl,rfl,rfl⟩,rfl,rfl,(fun x hx=>nomatch hx),List.nodup_nil⟩
 ·have jI:H s.heap.objs.size = none:=I.aF.fresh (Nat.le_refl _)
  rw [List.size_toArray] at hm
  have kt:KT H (Df [] (ps.drop 0)) (Gb f [] 0 aD.length):=Yw (fun j q z=>(hf j q z).1) aD.length 0 [] [] (by omega) .nil
  rw [List.drop_zero] at kt
  obtain ⟨o,es,ep,ho,hex,hd,he,_,hn⟩ := hm
  have hlp:(Df [] ps).length <= sizeLine:=by
   have z1:=Ku ps []
   rw [List.length_nil] at z1
   omega
  have HQ:Bo X.prog X.w (upd H s.heap.objs.size (.dT (Df [] ps))) h' s.heap.objs.size (.dT (Df [] ps)) :=
   ⟨hlp,beq_eq_false_iff_ne.mpr (Ne.symm (Nat.ne_of_lt I.big)),_,kt.keeps (fun b ys eb=>by rw [Aa (Ad eb jI)]; exact eb),o,es,ep,ho,hex,hd,he,hn⟩
  exact ⟨.ref s.heap.objs.size,_,I.laid (t':=tk) hk (Nat.le_refl _) HQ,rfl,q _ jI⟩
end
section
variable {X:Cx} {pins:List (Addr × Obj)} {σ:St} {H:Hp} {s:Shared} {k:Nat}
theorem Hc (I:Ai X pins σ H s) {d:PyData} {v:V} {u:Value} (h:Rp H d v) (r:Av v u):∃ as,Reads s.heap u d as:=Cr I d v u h r
noncomputable def Id (h:Heap) (d:PyData) (w:Value):Bool:=open Classical in if z:∃ e as,Reads h w e as /\ e.canLay0 = true then PyData.eqv z.choose d else false
theorem L6 {h:Heap} {d e:PyData} {w:Value} {as:List Addr} (r:Reads h w e as) (hc:e.canLay0 = true):Id h d w = PyData.eqv e d:=by
 have z:∃ e as,Reads h w e as /\ e.canLay0 = true:=⟨e,as,r,hc⟩
 unfold Id
 rw [dif_pos z]
 obtain ⟨bs,r',fN⟩ := z.choose_spec
 rw [(PySem.SeqAt.Reads.unique e _ w as bs hc r r')]
theorem R6 (I:Ai X pins σ H s) {d:PyData}:∀ {ds:List PyData} {vs:List V} {us:List Value},aG H ds vs -> Aw vs us -> us.any (Id s.heap d) = ds.any fun e=>PyData.eqv e d
 | [],vs,us,h,r=>by
  unfold aG at h
  subst h
  cases r
  rfl
 | e :: ds,vs,us,h,r=>by
  unfold aG at h
  obtain ⟨x,xs,rfl,h1,h2⟩ := h
  cases r with
  | cons r1 r2 =>
   obtain ⟨as,q⟩ := Hc I h1 r1
   rw [List.any_cons,List.any_cons,L6 q (Cs e x h1),R6 I h2 r2]
theorem Ld (I:Ai X pins σ H s) {A:Around} {d:PyData} {x:V} {v:Value} (hx:Rp H d x) (rx:Av x v) (hu:A.units + d.depth < cLine):∀ {ds:List PyData} {vs:List V} {us:List Value},aG H ds vs -> Aw vs us -> ∀ w ∈ us,SeqAt.EqAt A s w v (Id s.heap d w)
 | [],vs,us,h,r,w,hw=>by
  unfold aG at h
  subst h
  cases r
  cases hw
 | e :: ds,vs,us,h,r,w,hw=>by
  unfold aG at h
  obtain ⟨y,ys,rfl,h1,h2⟩ := h
  cases r with
  | cons r1 r2 =>
   rcases List.mem_cons.mp hw with z | z
   ·subst z
    obtain ⟨as,q⟩ := Hc I h1 r1
    obtain ⟨bs,q2⟩ := Hc I hx rx
    rw [L6 q (Cs e y h1)]
    exact PySem.SeqAt.eqAt_reads e d A s _ _ _ _ q q2 (Cs e y h1) (Cs d x hx) (by omega)
   ·exact Ld I hx rx hu h2 r2 w z
end
section
variable {X:Cx} {k:Nat}
def r9 (K:PySem.W.Frag) (neg:Bool):R2:=fun x y H Q=>∃ (p:Addr) (us:List V) (d:PyData) (ds:List PyData),y = .ref p /\ Bg K H p us /\ Rp H d x /\ aG H ds us /\ d.depth <= 50 /\ Q (.bl (if neg then !(ds.any fun e=>PyData.eqv e d) else ds.any fun e=>PyData.eqv e d)) H
theorem Vw (K:PySem.W.Frag) (hr:Cq k X.A) (hK:X.K = K:=by rfl):K6 X (compareOp .NotIn) (r9 K true):=by
 subst hK
 intro pins s σ H x y v u Q I rx ry h
 obtain ⟨p,us,d,ds,rfl,hq,hx,hall,hd,q⟩ := h
 cases ry
 obtain ⟨aD,r,pl,hz⟩ := I.list hq
 have hu:=hr.units
 refine SeqAt.notIn_listAt (Id s.heap d) pl.isList (fun w hw=>Ld I hx rx (by show X.A.units + 1 + d.depth < cLine; omega) hall r w (by simpa using hw)) ⟨.bl _,H,I,rfl,?_⟩
 rw [show aD.toArray.any (Id s.heap d) = aD.any (Id s.heap d) by simp,R6 I hall r]
 exact q
end
abbrev j5 (K:PySem.W.Frag):TG:=ai K 3 (Nr (F5 0) (Nr (F5 1) (Nr (F5 2) iu)))
theorem U8 {K : PySem.W.Frag} {a : Addr} {xs : List V} {fr : List Nat} {tt : TT} {te : TE} {σ : St} {D : Addr} {H1 : Hp} {Q : Hp -> Prop} (Pv : Nat -> List V -> Hp -> Prop) (h0 : Pv 0 [] (upd H1 D (.lst [])))
  (hl:∀ i zs H,i <= xs.length -> Pv i zs H -> Bg K H a xs)
  (hs:∀ i x zs H,xs[i]? = some x -> Pv i zs H -> ∃ T y z z2,x = .ref T /\ Bw K H T [y,z,z2] /\ tt (some y :: some z :: some z2 :: Cn fr σ) H fun b H4 =>
   if b = true then te (some y :: some z :: some z2 :: Cn fr σ) H4 fun v H5=>H5 D = some (.lst zs) /\ zs.length < sizeLine /\ Pv (i + 1) (zs ++ [v]) (upd H5 D (.lst (zs ++ [v]))) else Pv (i + 1) zs H4)
  (mt:∀ σ H Q Q',(∀ b H',Q b H' -> Q' b H') -> tt σ H Q -> tt σ H Q') (me:∀ σ H Q Q',(∀ v H',Q v H' -> Q' v H') -> te σ H Q -> te σ H Q')
  (hd:∀ zs H,Pv xs.length zs H -> Q H):Dd 3 fr (dr K a) (j5 K) tt te σ D H1 Q:=by
 refine ⟨fun i m zs H=>m = xs.length - i /\ i <= xs.length /\ Pv i zs H,⟨xs.length,by simp,Nat.zero_le _,h0⟩,?_⟩
 rintro i m zs H' ⟨rfl,hi,p⟩
 have q1:=hl i zs H' hi p
 by_cases aN:i < xs.length
 ·refine .inr ⟨⟨xs,xs[i],q1,by simp [aN]⟩,fun v H2 y=>?_⟩
  obtain ⟨e,y⟩ := y
  subst e
  obtain ⟨T,y1,z1,w1,rfl,hT,ht⟩ := hs i v zs _ (y xs q1) p
  refine ⟨T,_,rfl,hT,rfl,_,_,rfl,z1,_,rfl,w1,_,rfl,rfl,⟨[some y1,some z1,some w1],rfl,rfl⟩,?_⟩
  refine mt _ _ _ _ ?_ ht
  intro b H4 q
  cases b with
  | false=>exact ⟨xs.length - (i + 1),by omega,rfl,aN,q⟩
  | true=>exact me _ _ _ _ (fun v H5 ⟨r1,r2,r3⟩=>⟨r1,r2,xs.length - (i + 1),by omega,rfl,aN,r3⟩) q
 ·have e:i = xs.length:=by omega
  subst e
  exact .inl ⟨⟨xs,q1,Nat.le_refl _⟩,hd zs H' p⟩
theorem E8 {k:Nat} {A:Around} (hr:Cq k A):A.units + 20 < cLine:=by have:=hr.units; omega
theorem qy {k:Nat} {A:Around} (hr:Cq k A):A.units + 24 < cLine:=by have:=hr.units; omega
section
variable {X:Cx}
theorem U1 {e:Expr} {t:TE} (h:PE X e t):PE X e (fun σ H Q=>∃ N:VK,t σ H N /\ ∀ v H',N v H' -> Q v H'):=by
 intro pins s σ H Q I z
 obtain ⟨N,z,m⟩ := z
 refine C9 (h pins s σ H N I z) fun v s1 z1=>?_
 obtain ⟨x,H1,I1,r1,q1⟩ := z1
 exact ⟨x,H1,I1,r1,m _ _ q1⟩
end
def Mj:HO -> Prop
 | .dK _=>True
 | .dT _=>True
 | _=>False
section
variable {X:Cx} {pins:List (Addr × Obj)} {σ:St} {H:Hp} {s:Shared} {d:Addr}
theorem Ai.swap {v u:HO} (I:Ai X pins σ H s) (e:H d = some v) (n1:∀ xs,v ≠ .tup xs) (n2:∀ ps,v ≠ .sA ps) (n3:∀ y,v ≠ .own y) (n4:∀ o u,X.H₀ d ≠ some (.bE o u)) (ok:Bo X.prog X.w (upd H d u) s.heap d u):Ai X pins σ (upd H d u) s:=by
 have ht:∀ b xs,H b = some (.tup xs) -> (upd H d u) b = some (.tup xs):=fun b xs z=>by
  rw [Aa (fun y=>by rw [y,e] at z; exact n1 _ (Option.some.inj z))]
  exact z
 have hn:∀ b,H b = none -> (upd H d u) b = none:=fun b z=>by
  rw [Aa (fun y=>by rw [y,e] at z; cases z)]
  exact z
 refine ⟨I.ok,I.os,I.bare,⟨I.base.keep,I.base.slot,fun b o q n hx=>hn b (I.base.free b o q n hx),I.base.there,fun b xs q=>ht b xs (I.base.aX b xs q),fun b o x q=>?_,fun b ps q=>?_⟩,I.loc,I.cell,hn _ I.free,fun x c z=>hn c (I.bD x c z),fun p hp=>?_,fun b o q=>?_,I.len⟩
 ·have hb : b ≠ d := fun y => by
   rw [y] at q
   exact n4 o x q
  rw [Aa hb]
  exact I.base.dM b o x q
 ·obtain ⟨m,z⟩ := I.base.eO b ps q
  refine ⟨m,?_⟩
  rw [Aa (fun y=>by rw [y,e] at z; exact n2 _ (Option.some.inj z))]
  exact z
 ·obtain ⟨a,b,c⟩ := I.pin p hp
  exact ⟨a,hn _ b,c⟩
 ·by_cases hb:b = d
  ·subst hb
   rw [A5] at q
   cases q
   exact ok
  ·rw [Aa hb] at q
   refine (I.aF b o q).fM (fun _ _ _ z=>z) (fun c z=>?_) ht
   rw [Aa (fun y=>by rw [y,e] at z; exact n3 _ (Option.some.inj z))]
   exact z
theorem Ai.xE {v:HO} (I:Ai X pins σ H s) (e:H d = some v) (hv:Mj v):∀ o u,X.H₀ d ≠ some (.bE o u):=fun o u z=>by
 have y:=I.base.dM d o u z
 rw [e] at y
 cases y
 exact hv
theorem Ai.bE {v:HO} (I:Ai X pins σ H s) (e:H d = some v) (hv:Mj v):∃ o,s.heap.get? d = some o /\ Ai X pins σ (upd H d (.bE o v)) s:=by
 have aF:=I.aF d v e
 obtain ⟨o,ho⟩ : ∃ o,s.heap.get? d = some o:=by
  cases v with
  | dK kvs=>obtain ⟨_,_,_,_,o,_,_,z,_⟩ := aF; exact ⟨o,z⟩
  | dT kvs=>obtain ⟨_,_,_,_,o,_,_,z,_⟩ := aF; exact ⟨o,z⟩
  | _=>exact hv.elim
 have n1:∀ xs,v ≠ .tup xs:=fun xs z=>by rw [z] at hv; exact hv
 have n2:∀ ps,v ≠ .sA ps:=fun ps z=>by rw [z] at hv; exact hv
 have n3:∀ y,v ≠ .own y:=fun y z=>by rw [z] at hv; exact hv
 refine ⟨o,ho,I.swap e n1 n2 n3 (I.xE e hv) ⟨ho,aF.fM (fun _ _ _ z=>z) (fun c z=>?_) (fun b xs z=>?_)⟩⟩
 ·rw [Aa (fun y=>by rw [y,e] at z; exact n3 _ (Option.some.inj z))]
  exact z
 ·rw [Aa (fun y=>by rw [y,e] at z; exact n1 _ (Option.some.inj z))]
  exact z
theorem Ai.HR {v:HO} {o:Obj} (I:Ai X pins σ H s) (e:H d = some (.bE o v)) (n4:∀ o u,X.H₀ d ≠ some (.bE o u)):Ai X pins σ (upd H d v) s:=by
 refine I.swap e (fun _ z=>nomatch z) (fun _ z=>nomatch z) (fun _ z=>nomatch z) n4 ((I.aF d _ e).2.fM (fun _ _ _ z=>z) (fun c z=>?_) (fun b xs z=>?_))
 ·rw [Aa (fun y=>by rw [y,e] at z; cases z)]
  exact z
 ·rw [Aa (fun y=>by rw [y,e] at z; cases z)]
  exact z
end
def lp (t:TS):TS:=fun D σ H=>∃ d u,Mj u /\ H d = some u /\ t { D with nx:=fun σ' H'=>∃ o,H' d = some (.bE o u) /\ D.nx σ' (upd H' d u) } σ H
def nu (t:TE):TE:=fun σ H Q=>∃ d u,Mj u /\ H d = some u /\ t σ H fun v H'=>∃ o,H' d = some (.bE o u) /\ Q v (upd H' d u)
section
variable {X:Cx}
theorem Ps {st:Stmt} {t:TS} (h:PS X st t):PS X st (lp t):=by
 intro pins s σ H D I z
 obtain ⟨d,u,hu,e,z⟩ := z
 have n4:=I.xE e hu
 refine C9 (h pins s σ H _ I z) fun f s1 q=>?_
 cases f with
 | next =>
  obtain ⟨σ',H',I',o,e',q'⟩ := q
  exact ⟨σ',_,I'.HR e' n4,q'⟩
 | brk=>exact q
 | cont=>exact q
 | ret v=>exact q
theorem c0 {e:Expr} {t:TE} (h:PE X e t):PE X e (nu t):=by
 intro pins s σ H Q I z
 obtain ⟨d,u,hu,e0,z⟩ := z
 have n4:=I.xE e0 hu
 refine C9 (h pins s σ H _ I z) fun v s1 q=>?_
 obtain ⟨x,H',I',r,o,e',q'⟩ := q
 exact ⟨x,_,I'.HR e' n4,r,q'⟩
end
section
variable {P:Program} {w:World} {A:Around} {E:Value -> Shared -> Prop} {s:Shared}
theorem Xr {d : Addr} {o : Obj} {Q : Value -> Shared -> Prop} (hs : (d == sysModules) = false) (ho : s.heap.get? d = some o) (hx : o.ExactDict)
  (h:Q (.ref s.heap.objs.size) { s with heap:=s.heap.push { cls := .type "dict_items",data := .fields #[.ref d] } }):wpAny (model P w) A (call (.builtin "dict.items") [.ref d]) Q E s:=by
 have hT:s.TypeIs (.ref d) "dict" := ⟨o,ho,hx.1⟩
 refine wpAny_call_entry F.slot_dict_items hT F.entry_dict_items ?_ (F.args_dict_items_1 _)
 unfold Builtin.«dict.items» Builtin.Dict.noArgs
 refine wpAny_bind (wpAny_bind (wpAny_notOrdered_dict hT ?_))
 refine wpAny_bind (wpAny_of_eq (a:=()) rfl ?_)
 refine wpAny_bind (wpAny_of_eq (a:=Value.ref d) rfl ?_)
 refine wpAny_of_eq (a:=d) rfl ?_
 refine wpAny_bind ?_
 unfold Builtin.Dict.showsAll
 rw [hs,if_neg Bool.false_ne_true]
 refine wpAny_pure ?_
 refine wpAny_bind ?_
 unfold newFields
 exact wpAny_newObj_type (wpAny_pure ⟨_,rfl,h⟩)
theorem c8 {v d : Addr} {o : Obj} {es : Array DictEntry} {ep : Nat} {Q : Value -> Shared -> Prop} (hv : s.heap.IsItemsView v d) (ho : s.heap.get? d = some o) (nP : o.data = .dict es ep)
  (h:Q (.ref s.heap.objs.size) { s with heap:=s.heap.push { cls := .type "dict_itemiterator",data := .fields #[.none,.bool false,.ref d,.int 0 0,.int es.size 0,.int ep 0,.none,.none] } }):wpAny (model P w) A (pyIter (.ref v)) Q E s:=by
 obtain ⟨ov,QB,hc,hd⟩ := hv
 have hT:s.TypeIs (.ref v) "dict_items" := ⟨ov,QB,hc⟩
 refine wpAny_pyIter_slot hT F.slot_dict_items_iter (wpAny_call_entry F.slot_dict_items_iter hT F.entry_dict_items_iter ?_ (F.args_dict_items_iter_1 _))
 unfold Builtin.«dict_items.__iter__» Builtin.Dict_items.slot0 Builtin.Dict_items.dictOf Builtin.Dict_items.newIterator
 refine wpAny_bind (wpAny_bind (wpAny_of_eq (a:=(Value.ref v,[])) rfl (wpAny_pure ?_)))
 refine wpAny_bind (wpAny_bind (wpAny_field QB hd (x := .ref d) rfl (wpAny_of_eq (a:=d) rfl ?_)))
 refine wpAny_bind (wpAny_bind (wpAny_dictEntries ho nP (wpAny_bind (wpAny_dictEpoch ho nP ?_))))
 show wpAny (model P w) _ (newObj (.type "dict_itemiterator") (.fields #[.none,.bool false,.ref d,.int 0 0,.int es.size 0,.int ep 0,.none,.none]) none) _ _ _
 refine wpAny_newObj_type (wpAny_pure ⟨_,rfl,"dict_itemiterator",_,⟨_,Heap.get?_push_size _ rfl,rfl⟩,F.slot_dict_itemiterator_next.lookup,h⟩)
theorem f7 {it d : Addr} {i ep : Nat} {es : Array DictEntry} {ok ov : Value} {o : Obj} {Q : Option Value -> Shared -> Prop} (hh : A.handled = none) (hit : IsItemIter s.heap it d i es.size ep ok ov) (HP : s.heap.get? d = some o) (nP : o.data = .dict es ep)
  (he:es[i]? = none) (hQ:∀ h',Heap.ExtBut it s.heap h' -> Q none { s with heap:=h' }):wpAny (model P w) A (pyNext (.ref it)) Q E s:=by
 have hT:s.TypeIs (.ref it) "dict_itemiterator" := ⟨_,hit,rfl⟩
 have own:Builtin.Dict_items.ownsTuple "dict_itemiterator" = true:=by decide
 unfold pyNext; refine wpAny_bind (wpAny_attempt (wpAny_callSpecial?_slot (name:=Str.ofString "__next__") hT F.slot_dict_itemiterator_next (wpAny_call_entry F.slot_dict_itemiterator_next hT F.entry_dict_itemiterator_next ?_ (F.args_dict_itemiterator_next_1 _))))
 refine wpAny_bind (wpAny_pure (wpAny_bind (wpAny_bind (wpAny_bind (wpAny_typeNameOfWhole_itemiter hT (wpAny_pure (wpAny_bind (wpAny_fieldsOf hit rfl ?_))))))))
 simp only [own,if_true]; show wpAny _ _ (if (Value.ref d == Value.none) = true then _ else _) _ _ s
 rw [if_neg (show ¬ (Value.ref d == Value.none) = true from Bool.false_ne_true)]; refine wpAny_bind (wpAny_pure (wpAny_bind (wpAny_dictEntries HP nP ?_)))
 rw [if_neg (show ¬ ((es.size:Int) != (es.size:Int)) = true by simp)]; refine wpAny_bind (wpAny_pure (wpAny_bind (wpAny_dictEpoch HP nP ?_)))
 rw [if_neg (show ¬ ((ep:Int) != (ep:Int)) = true by simp)]; refine wpAny_pure ?_
 simp only [show ¬ ((i:Int) < 0) by omega,if_false,Int.toNat_natCast,he]
 refine wpAny_bind (wpAny_bind (wpAny_typeNameOfWhole_itemiter hT (wpAny_pure ?_)))
 show wpAny _ _ (setField (.ref it) 2 Value.none >>= _) _ _ s
 refine wpAny_bind (wpAny_setField hit rfl (by simp) ?_)
 generalize hg:Heap.update s.heap it (Obj.mapFields (·.setIfInBounds 2 Value.none)) = h2
 have eb:Heap.ExtBut it s.heap h2:=by
  rw [<- hg]
  exact fun b ob hb e=>(Heap.get?_update_other _ _ (Ne.symm hb)).trans e
 show wpAny (model P w) _ (newExc (.type "StopIteration") [] >>= _) _ _ { s with heap:=h2 }
 refine wpAny_bind ?_; simp only [newExc,newTuple]
 refine wpAny_bind (wpAny_newObj_type (T := "tuple") ?_ (by size_fits))
 refine wpAny_bind (m:=firstArgMember _ _) (wpAny_of_eq (a:=Value.none) (by first | rfl | simp only [firstArgMember]) ?_)
 refine wpAny_newObj_type (T := "StopIteration") ?_ (by size_fits)
 simp only [raiseNew]; refine wpAny_bind (wpAny_handled ?_)
 first | rw [show A.in1.handled = Option.none from hh] | rw [hh]
 refine wpAny_bind (wpAny_pure (wpAny_throw ?_)); refine wpAny_bind (wpAny_isInstance (T := "StopIteration") (b:=true) ⟨_,Heap.get?_push_size _ rfl,rfl⟩ isSubtype_stop ?_)
 exact wpAny_pure (hQ _ ((eb.push _).push _))
end
theorem Wj:entryFor table "dict_itemiterator.__iter__" = some Builtin.«dict_keyiterator.__iter__» :=
 entryFor_alias (id' := "dict_keyiterator.__iter__") (by kernel_rfl) (by first | rfl | decide +kernel | (unfold String.splitOn; simp +decide [String.splitOnAux])) (by decide +kernel) (by kernel_rfl)
def ot:HO -> Hp -> Nat -> V -> V -> Prop
 | .dT kvs,H,i,x,y=>∃ k b,kvs[i]? = some (k,y) /\ x = .ref b /\ Ds H b k
 | .dK kvs,_,i,x,y=>∃ k,kvs[i]? = some (k,y) /\ x = kV k
 | _,_,_,_,_=>False
def Da:HO -> Nat
 | .dT kvs=>kvs.length
 | .dK kvs=>kvs.length
 | _=>0
def jj (d:Addr) (o:Obj) (u:HO):It :=
 ⟨fun i H=>H d = some (.bE o u) /\ i < Da u,fun i H v H'=>∃ T x y,v = .ref T /\ H T = none /\ H' = upd H T (.tup [x,y]) /\ ot u H i x y,fun i H=>H d = some (.bE o u) /\ Da u <= i⟩
theorem am {P:Program} {w:World} {k:Dt} {u:Value} (h:(Db P w).is k u = true):Av (kV k) u:=by
 have h':Iq k u = true:=h
 cases k with
 | inl i =>
  cases u <;> simp [Iq,Value.isInt] at h'
  subst h'
  exact ⟨_,rfl⟩
 | inr x =>
  cases u <;> simp [Iq,Value.isStrOf] at h'
  subst h'
  exact ⟨_,rfl⟩
theorem Hn {α β:Type} {F:α -> β -> Prop}:∀ {xs:List α} {ys:List β} {i:Nat},Paired F xs ys -> i < xs.length -> ∃ x y,xs[i]? = some x /\ ys[i]? = some y /\ F x y
 | _,_,i,.nil,h=>absurd h (by simp)
 | _,_,0,.cons r _,_=>⟨_,_,rfl,rfl,r⟩
 | _,_,i + 1,.cons _ t,h=>by
  obtain ⟨x,y,e1,e2,e3⟩ := Hn (i:=i) t (by simpa using h)
  exact ⟨x,y,by simpa using e1,by simpa using e2,e3⟩
theorem Up {α β:Type} {F:α -> β -> Prop} {xs:List α} {ys:List β} (h:Paired F xs ys):xs.length = ys.length:=by
 induction h with
 | nil=>rfl
 | cons r t ih=>rw [List.length_cons,List.length_cons,ih]
theorem O8 {P:Program} {w:World} {K:Type} [DecidableEq K] {knd:PySem.KeyKind P w K}:∀ {es:List DictEntry} {vs:List (K × Value)} {i:Nat} {kv:K × Value},Pairs knd es vs -> vs[i]? = some kv -> ∃ e,es[i]? = some e /\ knd.is kv.1 e.key = true /\ e.val = kv.2
 | _,_,i,kv,.nil,h=>by simp at h
 | _,_,0,kv,.cons h1 h2 _,h=>by
  cases (show some _ = some _ from h)
  exact ⟨_,rfl,h1,h2⟩
 | _,_,i + 1,kv,.cons _ _ t,h=>by
  obtain ⟨e,e1,e2⟩ := O8 t (i:=i) (by simpa using h)
  exact ⟨e,by simpa using e1,e2⟩
theorem Wn {P:Program} {w:World} {K:Type} [DecidableEq K] {knd:PySem.KeyKind P w K} {es:List DictEntry} {vs:List (K × Value)} (h:Pairs knd es vs):es.length = vs.length:=by
 induction h with
 | nil=>rfl
 | cons r q t ih=>rw [List.length_cons,List.length_cons,ih]
theorem Y8 {P : Program} {w : World} {H : Hp} {h : Heap} {d : Addr} {o : Obj} {u : HO} {es : Array DictEntry} {ep : Nat} (ok : Bo P w H h d u) (hu : Mj u) (ho : h.get? d = some o) (hd : o.data = .dict es ep) :
  es.size = Da u /\ ∀ i,i < Da u -> ∃ e x y,es[i]? = some e /\ Av x e.key /\ Av y e.val /\ ot u H i x y:=by
 cases u with
 | dT kvs =>
  obtain ⟨_,_,xs,r,o',sT,sU,h1,h2,h3,h4,h5⟩ := ok
  rw [ho] at h1
  cases h1
  rw [hd] at h3
  cases h3
  have hl:=Up r
  refine ⟨?_,fun i hi=>?_⟩
  ·show es.size = kvs.length
   rw [<- Array.length_toList,h4,List.length_map,hl]
  ·obtain ⟨p,q,e1,e2,e3,e4,e5⟩ := Hn r hi
   refine ⟨entryOfKey (Cb P w) q,.ref q.2.1,p.2,?_,rfl,e5,p.1,q.2.1,e1,rfl,e4⟩
   rw [<- Array.getElem?_toList,h4,List.getElem?_map,e2]
   rfl
 | dK kvs =>
  obtain ⟨_,_,vs,r,o',sT,sU,h1,h2,h3,h4,h5,h6⟩ := ok
  rw [ho] at h1
  cases h1
  rw [hd] at h3
  cases h3
  have hl:kvs.length = vs.length:=r.length
  refine ⟨?_,fun i hi=>?_⟩
  ·show es.size = kvs.length
   rw [<- Array.length_toList,Wn h5,hl]
  ·obtain ⟨p,q,e1,e2,e3⟩ := Hn r hi
   obtain ⟨e,f1,f2,f3⟩ := O8 h5 e2
   refine ⟨e,kV p.1,p.2,by rw [<- Array.getElem?_toList]; exact f1,?_,?_,p.1,e1,rfl⟩
   ·rw [e3.1]
    exact am f2
   ·rw [f3]
    exact e3.2
 | _=>exact hu.elim
theorem U2 {P : Program} {w : World} {K : PySem.W.Frag} {elts : List Expr} {kk : Nat} {pos : Pos} {it d : Addr} {o : Obj} {u : HO} {es : Array DictEntry} {ep : Nat} (hu : Mj u) (hd : o.data = .dict es ep) (bP : d ≠ it) :
  U6 P w K (.Tuple elts kk pos) (jj d o u) [it] it (fun i h=>∃ ok ov,IsItemIter h it d i es.size ep ok ov) where
 mem:=by simp
 obj:=fun i h ⟨ok,ov,st⟩ b hb=>by
  have e:b = it:=by simpa using hb
  subst e
  exact ⟨_,st,fun v z=>by cases z⟩
 keep:=fun i h h' ⟨ok,ov,st⟩ k=>⟨ok,ov,k it (by simp) _ st⟩
 item:=by
  intro X hP hw hK hc i pins s σ H E I hf ⟨ok,ov,st⟩ ⟨kI,QC⟩
  subst hP hw hK
  obtain ⟨ho,aF⟩ := I.aF d _ kI
  obtain ⟨hsz,lM⟩ := Y8 aF hu ho hd
  obtain ⟨e,x,y,e1,rx,ry,hi⟩ := lM i QC
  have aN:it < s.heap.objs.size:=Heap.lt_size st
  refine Zn st ho hd e1 fun h' a1 a2 a3=>⟨_,rfl,?_⟩
  refine wpAny_letOwnedTupleGo_items (s:={ s with heap:=h' }) a1 fun SR b1 b2=>?_
  have HM:SR.get? s.heap.objs.size = some { cls := .type "tuple",data := .seq #[e.key,e.val] }:=b2.extBut _ _ (Nat.ne_of_gt aN) a2
  refine ⟨.ref s.heap.objs.size,upd H s.heap.objs.size (.tup [x,y]),I.jJ (t':=s.toks) (ch:=[it]) hf (fun c ob hc e=>?_) (Nat.le_refl _) ?_,rfl,⟨_,x,y,rfl,I.fresh,rfl,hi⟩,⟨_,_,b1⟩,fun c hc=>?_⟩
  ·have fN:c ≠ it:=by simpa using hc
   exact b2.extBut _ _ fN (a3 c ob fN e)
  ·exact ⟨⟨Nat.le_trans (by decide:2 <= 1000) (Uw (Nat.le_refl _)),_,HM,rfl⟩,[e.key,e.val],.cons rx (.cons ry .nil),⟨_,HM,rfl,0,rfl⟩⟩
  ·have fN:c = it:=by simpa using hc
   subst fN
   rw [Aa (Nat.ne_of_lt aN)]
   exact (hf c hc).1
 done:=by
  intro X hP hw hK hc i pins s σ H E I hf ⟨ok,ov,st⟩ ⟨kI,QC⟩
  subst hP hw hK
  obtain ⟨ho,aF⟩ := I.aF d _ kI
  obtain ⟨hsz,lM⟩ := Y8 aF hu ho hd
  refine f7 (I.ok.hd hc) st ho hd (Array.getElem?_eq_none (by omega)) fun h' eb=>⟨rfl,I.jK (t':=s.toks) (ch:=[it]) hf fun c ob hc e=>?_⟩
  have fN:c ≠ it:=by simpa using hc
  exact eb c ob fN e
 self:=fun A i s Q E ⟨ok,ov,st⟩ hQ=>by
  have hT:s.TypeIs (.ref it) "dict_itemiterator" := ⟨_,st,rfl⟩
  refine wpAny_pyIter_slot hT F.slot_dict_itemiterator_iter (wpAny_call_entry F.slot_dict_itemiterator_iter hT Wj ?_ (F.args_dict_itemiterator_iter_1 _))
  exact wpAny_pure ⟨_,rfl,"dict_itemiterator",_,hT,F.slot_dict_itemiterator_next.lookup,hQ⟩
section
variable {X:Cx}
def fu (td:TE):TI:=fun σ H R=>td σ H fun x H1=>∃ d u,x = .ref d /\ Mj u /\ H1 d = some u /\ ∀ o,R (jj d o u) (upd H1 d (.bE o u))
theorem Hu {elts : List Expr} {kk : Nat} {lV apos pos : Pos} {e : Expr} {td : TE} (he : PE X e td) (jG : attributeBase e "items" X.env (eval e X.env) = eval e X.env := by rfl) (jH : (apos.endLine == pos.line) = true := by rfl) :
  PI X (.Tuple elts kk lV) (.Call (.Attribute e "items" apos) [] [] pos) (fu td):=by
 intro pins s σ H R I h
 refine wpAny_Call_method0_late jG jH (C9 (he pins s σ H _ I h) fun v s1 aV=>?_)
 obtain ⟨x,H1,I1,r1,d,u,ex,hu,hd,q⟩ := aV
 subst ex
 obtain rfl:v = Value.ref d:=r1
 obtain ⟨o,ho,I2⟩ := I1.bE hd hu
 obtain ⟨es,ep,hx,nP,TM⟩ : ∃ es ep,o.ExactDict /\ o.data = .dict es ep /\ (d == sysModules) = false:=by
  have aF:=I1.aF d u hd
  cases u with
  | dT kvs =>
   obtain ⟨_,y,xs,r,o',sT,sU,h1,h2,h3,_⟩ := aF
   rw [ho] at h1
   cases h1
   exact ⟨sT,sU,h2,h3,y⟩
  | dK kvs =>
   obtain ⟨_,y,vs,r,o',sT,sU,h1,h2,h3,_⟩ := aF
   rw [ho] at h1
   cases h1
   exact ⟨sT,sU,h2,h3,y⟩
  | _=>exact hu.elim
 have hT:s1.TypeIs (.ref d) "dict" := ⟨o,ho,hx.1⟩
 refine ⟨"dict","dict.items",PySem.F.plainAttrs_dict,PySem.F.slot_dict_items,PySem.F.type_dict_items,hT,?_,Calls.callWith_builtin rfl (PySem.evalArgs_none (Xr TM ho hx ?_))⟩
 ·intro a z
  cases z
  exact ⟨o,ho,hx.2.1⟩
 have QB:(s1.heap.push { cls := .type "dict_items",data := .fields #[.ref d] }).get? d = some o:=Heap.get?_push_of_some _ ho
 refine c8 (s:={ s1 with heap:=s1.heap.push { cls := .type "dict_items",data := .fields #[.ref d] } }) ⟨_,Heap.get?_push_size _ rfl,rfl,rfl⟩ QB nP ?_
 have hk:∀ b ob,s1.heap.get? b = some ob -> ((s1.heap.push { cls := .type "dict_items",data := .fields #[.ref d] }).push { cls := .type "dict_itemiterator",data := .fields #[.none,.bool false,.ref d,.int 0 0,.int es.size 0,.int ep 0,.none,.none] }).get? b = some ob:=fun b ob z=>Heap.get?_push_of_some _ (Heap.get?_push_of_some _ z)
 have hsz:(s1.heap.push { cls := .type "dict_items",data := .fields #[.ref d] }).objs.size = s1.heap.objs.size + 1:=by simp [Heap.push]
 have PX:d < s1.heap.objs.size:=Heap.lt_size ho
 refine ⟨_,[_],_,jj d o u,upd H1 d (.bE o u),rfl,I2.kept (t':=s1.toks) hk,U2 (es:=es) (ep:=ep) hu nP ?_,⟨.none,.none,Heap.get?_push_size _ rfl⟩,fun c hc=>?_,q o⟩
 ·rw [hsz]
  exact Nat.ne_of_lt (Nat.lt_succ_of_lt PX)
 ·have hle : s1.heap.objs.size <= c := by
   have:c = (s1.heap.push { cls := .type "dict_items",data := .fields #[.ref d] }).objs.size:=by simpa using hc
   rw [this,hsz]
   omega
  exact I2.lU hle (I2.aF.fresh hle)
end
theorem Nj {o : Obj} {u : HO} {d : Addr} {g : TG} {tb : TS} {D : Hq} {σ : St} {H : Hp} (Pv : Nat -> St -> Hp -> Prop) (h0 : Pv 0 σ H) (hl : ∀ i σ H, i <= Da u -> Pv i σ H -> H d = some (.bE o u))
  (hs:∀ i x y T σ H,i < Da u -> ot u H i x y -> Pv i σ H -> H T = none -> g (.ref T) σ (upd H T (.tup [x,y])) fun σ2 H2=>tb { D with nx:=Pv (i + 1),ct:=Pv (i + 1),bk:=D.nx } σ2 H2) (hd:∀ σ H,Pv (Da u) σ H -> D.nx σ H) :
  ∃ W:Nat -> Nat -> St -> Hp -> Prop,(∃ m,W 0 m σ H) /\ ∀ i m σ H,W i m σ H ->
   ((jj d o u).stop i H /\ D.nx σ H) \/ ((jj d o u).go i H /\ ∃ N:St -> Hp -> Prop,(∀ σ' H',N σ' H' -> ∃ m',m' < m /\ W (i + 1) m' σ' H') /\ ∀ x H',(jj d o u).xl i H x H' -> g x σ H' fun σ2 H2=>tb { D with nx:=N,ct:=N,bk:=D.nx } σ2 H2):=by
 refine ⟨fun i m σ H=>m = Da u - i /\ i <= Da u /\ Pv i σ H,⟨Da u,by simp,Nat.zero_le _,h0⟩,?_⟩
 rintro i m σ H ⟨rfl,hi,p⟩
 have q1:=hl i σ H hi p
 by_cases aN:i < Da u
 ·refine .inr ⟨⟨q1,aN⟩,Pv (i + 1),fun σ' H' p'=>⟨Da u - (i + 1),by omega,rfl,aN,p'⟩,fun v H' y=>?_⟩
  obtain ⟨T,x,z,rfl,hT,rfl,e1⟩ := y
  exact hs i x z T σ H aN e1 p hT
 ·have e:i = Da u:=by omega
  subst e
  exact .inl ⟨⟨q1,Nat.le_refl _⟩,hd σ H p⟩
theorem Ly {K : PySem.W.Frag} {o : Obj} {u : HO} {d : Addr} {fr : List Nat} {tt : TT} {te : TE} {σ : St} {D : Addr} {H1 : Hp} {Q : Hp -> Prop} (Pv : Nat -> List V -> Hp -> Prop) (h0 : Pv 0 [] (upd H1 D (.lst [])))
  (hl:∀ i zs H,i <= Da u -> Pv i zs H -> H d = some (.bE o u))
  (hs:∀ i x y T zs H,i < Da u -> ot u H i x y -> Pv i zs H -> H T = none -> tt (some x :: some y :: Cn fr σ) (upd H T (.tup [x,y])) fun b H4 =>
   if b = true then te (some x :: some y :: Cn fr σ) H4 fun v H5=>H5 D = some (.lst zs) /\ zs.length < sizeLine /\ Pv (i + 1) (zs ++ [v]) (upd H5 D (.lst (zs ++ [v]))) else Pv (i + 1) zs H4)
  (mt:∀ σ H Q Q',(∀ b H',Q b H' -> Q' b H') -> tt σ H Q -> tt σ H Q') (me:∀ σ H Q Q',(∀ v H',Q v H' -> Q' v H') -> te σ H Q -> te σ H Q')
  (hd:∀ zs H,Pv (Da u) zs H -> Q H):Dd 2 fr (jj d o u) (nw K) tt te σ D H1 Q:=by
 refine ⟨fun i m zs H=>m = Da u - i /\ i <= Da u /\ Pv i zs H,⟨Da u,by simp,Nat.zero_le _,h0⟩,?_⟩
 rintro i m zs H' ⟨rfl,hi,p⟩
 have q1:=hl i zs H' hi p
 by_cases aN:i < Da u
 ·refine .inr ⟨⟨q1,aN⟩,fun v H2 y=>?_⟩
  obtain ⟨T,x,z,rfl,hT,rfl,e1⟩ := y
  refine ⟨T,_,rfl,Bw.of A5,rfl,x,_,rfl,z,_,rfl,rfl,⟨[some x,some z],rfl,rfl⟩,?_⟩
  refine mt _ _ _ _ ?_ (hs i x z T zs H' aN e1 p hT)
  intro b H4 q
  cases b with
  | false=>exact ⟨Da u - (i + 1),by omega,rfl,aN,q⟩
  | true=>exact me _ _ _ _ (fun v H5 ⟨r1,r2,r3⟩=>⟨r1,r2,Da u - (i + 1),by omega,rfl,aN,r3⟩) q
 ·have e:i = Da u:=by omega
  subst e
  exact .inl ⟨⟨q1,Nat.le_refl _⟩,hd zs H' p⟩
section
variable {prog:Program} {w:World} {K:Type} [DecidableEq K] {knd:HeapKind prog w K} {A:Around} {E:Value -> Shared -> Prop} {s:Shared} {d a:Addr} {k:K} {xs:List (K × Addr × Value)}
theorem Wl {v:Value} (hn:(xs.map (·.1)).Nodup) (xF:k ∉ xs.map (·.1)):((xs ++ [(k,a,v)]).map (·.1)).Nodup:=by
 rw [List.map_append,List.nodup_append]
 refine ⟨hn,by simp,fun x hx y hy=>?_⟩
 have e:y = k:=by simpa using hy
 rw [e]
 exact fun e=>xF (e ▸ hx)
theorem Yl {dflt : Value} {Q : Value -> Shared -> Prop} (hu : knd.room A) (bU : knd.is s.heap k a) (hm : s.heap.DictOfH knd d xs) (hsz : xs.length <= sizeLine)
  (h1:∀ p,atKey xs k = some p -> Q p.2 { s with toks:=s.toks + knd.draws k })
  (h2:atKey xs k = none -> ∀ h',h'.DictOfH knd d (xs ++ [(k,a,dflt)]) -> Heap.SameBut d s.heap h' -> Q dflt { s with heap:=h',toks:=s.toks + knd.draws k }) :
  wpAny (model prog w) A (dictSetDefault d (.ref a) dflt) Q E s:=by
 obtain ⟨o,es,ep,ho,hc,hd,he,QA,hn⟩ := hm
 unfold dictSetDefault
 try with_reducible refine wpAny_holding ?_
 refine wpAny_bind (knd.pyHash hu bU ?_)
 refine wpAny_bind (wpAny_dictFind_heap (s:={ s with toks:=s.toks + knd.draws k }) hu bU ho hd he QA hn ?_ ?_)
 ·intro mY
  have xF:k ∉ xs.map (·.1):=not_mem_keys_of_get mY
  have lM:=atKey_none_of_get mY
  have hz:es.size <= sizeLine:=by
   have e:=size_of_entries he
   omega
  refine wpAny_bind (wpAny_rule (wpAny_bind (wpAny_updateDictKeys (hz:=hz) (s:={ s with toks:=s.toks + knd.draws k }) ho hd (wpAny_pure (h2 lM _
   ⟨_,_,ep + 1,Heap.get?_update_self _ ho (Obj.isFreed_of_dict (Obj.data_mapDictKeys hd _)),hc.mapDictKeys _,Obj.data_mapDictKeys hd _,?_,?_,Wl hn xF⟩ (Heap.SameBut.update ..))))))
  ·simp [he,entryOfKey]
  ·intro x hx
   rcases List.mem_append.mp hx with hx | hx
   ·exact knd.keeps (QA x hx) ho hd (Heap.SameBut.update ..)
   ·cases List.mem_singleton.mp hx
    exact knd.keeps bU ho hd (Heap.SameBut.update ..)
 ·intro j p hj
  have lM:=atKey_of_get hn hj
  refine wpAny_bind (wpAny_dictEntries (s:={ s with toks:=s.toks + knd.draws k }) ho hd ?_)
  rw [entry_at he j,hj]
  exact wpAny_bind (wpAny_rule (wpAny_pure (h1 p lM)))
theorem U3 (hd : (d == sysModules) = false) (dflt : Value) :
  MeetsIn prog w (Builtin.«dict.setdefault» ⟨[.ref d,.ref a,dflt],[]⟩) (fun A R s=>knd.room A.in1 /\ ∃ k xs,knd.is s.heap k a /\ s.heap.DictOfH knd d xs /\ xs.length <= sizeLine /\
   (∀ p,atKey xs k = some p -> R (.ok (.ret p.2)) { s with toks:=s.toks + knd.draws k }) /\
   (atKey xs k = none -> ∀ h',h'.DictOfH knd d (xs ++ [(k,a,dflt)]) -> Heap.SameBut d s.heap h' -> R (.ok (.ret dflt)) { s with heap:=h',toks:=s.toks + knd.draws k })) :=
 .of_wp fun A R s ⟨hu,k,xs,bU,hm,hz,h1,h2⟩=>by
  unfold Builtin.«dict.setdefault» Builtin.Dict.keyAndDefault
  refine wpAny_bind (wpAny_bind (wpAny_notOrdered_dict hm.typeIs ?_))
  show wpAny _ _ (pure (d,Value.ref a,some dflt)) _ _ s
  refine wpAny_pure ?_
  show wpAny _ _ (if (d == sysModules) = true then _ else (dictSetDefault d (.ref a) dflt >>= _)) _ _ s
  rw [if_neg (by rw [hd]; exact Bool.false_ne_true)]
  exact wpAny_bind (Yl hu bU hm hz (fun p hp=>wpAny_pure ⟨p.2,rfl,h1 p hp⟩) fun hn h' dX HJ=>wpAny_pure ⟨dflt,rfl,h2 hn h' dX HJ⟩)
end
section
variable {X:Cx} {pins:List (Addr × Obj)} {σ:St} {H:Hp} {s:Shared} {a b:Addr} {kvs:List ((List Int × Int) × V)} {k:List Int × Int} {z:V} {r:Value} {A:Around} {E:Value -> Shared -> Prop}
theorem nk {Q : Value -> Shared -> Prop} (hu : A.units + 20 < cLine) (I : Ai X pins σ H s) (e : H a = some (.dT kvs)) (eb : Ds H b k) (hl : kvs.length < sizeLine) (rz : Av z r)
  (h1:∀ v w' s',Ae kvs k = some v -> Ai X pins σ H s' -> Av v w' -> Q w' s') (h2:Ae kvs k = none -> ∀ s',Ai X pins σ (upd H a (.dT (Bl kvs k z))) s' -> Q r s') :
  wpAny (model X.prog X.w) A (call (.builtin "dict.setdefault") [.ref a,.ref b,r]) Q E s:=by
 obtain ⟨z0,hd,xs,rel,dd⟩ := di I.aF e
 have hz:xs.length <= sizeLine:=by rw [<- Paired.length rel]; exact z0
 have hv:=rel.val k
 refine call_meetsIn PySem.F.slot_dict_setdefault dd.typeIs PySem.F.entry_dict_setdefault (PySem.F.args_dict_setdefault_3 _ _ _) (U3 (knd:=Cb X.prog X.w) hd r) ⟨D7 hu,k,xs,Gd I.aF eb,dd,hz,fun p hp=>?_,fun hn h' tJ hs=>?_⟩
 ·rw [hp] at hv
  cases e2:Ae kvs k with
  | none=>rw [e2] at hv; exact hv.elim
  | some v =>
   rw [e2] at hv
   exact h1 v p.2 _ e2 (I.tok _) hv
 ·rw [hn] at hv
  cases e2:Ae kvs k with
  | some v=>rw [e2] at hv; exact hv.elim
  | none =>
   have hp:Bl kvs k z = kvs ++ [(k,z)]:=Dc z e2
   refine h2 e2 _ ?_
   rw [hp]
   obtain ⟨q,es,ep,hq,g2,g3,g4,_,g5⟩ := tJ
   refine Ks I (by rw [e]; exact True.intro) hs ⟨q,hq⟩ ⟨by rw [List.length_append,List.length_singleton]; omega,hd,_,KT.keeps (Paired.snoc rel ⟨rfl,eb,rz⟩) (fun c ys ec=>?_),q,es,ep,hq,g2,g3,g4,g5⟩
   rw [Aa (Bn ec e (fun z=>nomatch z))]
   exact ec
end
def kr (td ty tx:TE):TE:=fun σ H Q=>td σ H fun x H1=>∃ a,x = .ref a /\ kf H1 a /\ ty σ H1 fun y H2=>tx σ H2 fun z H3=>∃ kvs k b,y = .ref b /\ Ds H3 b k /\ H3 a = some (.dT kvs) /\ kvs.length < sizeLine /\
 (∀ v,Ae kvs k = some v -> Q v H3) /\ (Ae kvs k = none -> Q z (upd H3 a (.dT (Bl kvs k z))))
section
variable {X:Cx} {o e f:Expr} {apos bA:Pos} {td ty tx:TE}
theorem ao (hu:X.A.units + 20 < cLine) (ho:PE X o td) (he:PE X e ty) (hf:PE X f tx) (m:M2 X o "setdefault" apos e f bA):PE X (.Call (.Attribute o "setdefault" apos) [e,f] [] bA) (kr td ty tx):=by
 intro pins s σ H Q I h
 refine wpAny_Call_method m.base m.PV m.line PySem.F.plainAttrs_dict PySem.F.slot_dict_setdefault PySem.F.type_dict_setdefault (C9 (ho pins s σ H _ I h) fun u s1 aV=>?_)
 obtain ⟨x,H1,I1,rx,a,ex,d,q1⟩ := aV
 subst ex
 obtain rfl:u = Value.ref a:=rx
 obtain ⟨t1,t2,_⟩ := To I1 d
 refine ⟨t1,t2,?_⟩
 rw [m.trees]
 refine Calls.callWith_builtin rfl (Calls.evalArgs_plain (Calls.spliced_cons (C9 (he pins s1 σ H1 _ I1 q1) fun iv s2 ⟨y,H2,I2,ry,q2⟩ =>
  Calls.spliced_cons (C9 (hf pins s2 σ H2 _ I2 q2) fun fv s3 ⟨z,H3,I3,rz,kvs,k,b,ey,eb,ea,hl,q3,q4⟩=>Calls.spliced_nil ?_))))
 subst ey
 obtain rfl:iv = Value.ref b:=ry
 exact nk hu I3 ea eb hl rz (fun v w' s4 hv I4 fJ=>⟨v,H3,I4,fJ,q3 v hv⟩) fun hn s4 I4=>⟨z,_,I4,rz,q4 hn⟩
theorem Ur {a : Expr} {ta : TE} (ha : PE X a ta) (he : ∀ whole, isTrue a X.env whole = (do let v <- whole; standAt a.pos; holding [v] (truthy v)) := by intro _; rfl) :
  PT X a (fun σ H Q=>ta σ H fun x H'=>∃ d kvs,x = .ref d /\ Rd H' d (.dK kvs) /\ Q (!kvs.isEmpty) H'):=by
 intro pins s σ H Q I h
 refine isTrue_plain (C9 (ha pins s σ H _ I h) fun v s1 ⟨x,H1,I1,r1,d,kvs,ex,hd,q1⟩=>?_) (he _)
 subst ex
 obtain rfl:v = Value.ref d:=r1
 obtain ⟨z,hs,vs,rel,dd⟩ := K2 I1.aF hd
 have hl:kvs.length = vs.length:=rel.length
 have h24:sizeLine < 2 ^ 30:=by decide
 refine wpAny_truthy_dict hs dd (by omega) ⟨H1,I1.tok _,?_⟩
 have e:kvs.isEmpty = vs.isEmpty:=by
  cases kvs <;> cases vs <;> simp at hl <;> rfl
 rw [<- e]
 exact q1
end
open PySem PySem.Spec PyProof.Rows PySem.SeqAt
def ix (A:Around) (s:Shared) (x y:Value) (b:Bool):Prop := ∀ (prog:Program) (w:World) (E:Value -> Shared -> Prop) (Q:Value -> Shared -> Prop),Q (.bool b) s -> wpAny (model prog w) A (richCompare .Gt x y) Q E s
theorem jz (l b : Addr) (xs ys : Array Value) (n n2 : Nat) (dd FN : Option Addr) (sl FO : Array (Option Value)) (e : Nat -> Bool) (r : Bool) :
  Meets (Builtin.«tuple.__gt__» ⟨[.ref l,.ref b],[]⟩)
   (fun A R s=>s.heap.get? l = some { cls := .type "tuple",dict:=dd,data := .seq xs n,slots:=sl } /\ s.heap.get? b = some { cls := .type "tuple",dict:=FN,data := .seq ys n2,slots:=FO } /\
    (∀ j (h1:j < xs.size) (h2:j < ys.size),EqAt A.in1 s xs[j] ys[j] (e j)) /\ (∀ j (h1:j < xs.size) (h2:j < ys.size),(∀ i,i < j -> e i = true) -> e j = false -> ix A.in1 s xs[j] ys[j] r) /\
    ((∀ j,j < min xs.size ys.size -> e j = true) -> r = decide (xs.size > ys.size)) /\ R (.ok (.ret (.bool r))) s) :=
 .of_wp fun prog w A R s h=>by
  obtain ⟨hp,g,d,tk,os⟩ := s
  obtain ⟨hl,hb,he,hf,hz,h⟩ := h
  have f2:=AutoSeq1.sub_tuple_tuple
  have hZ:(xs.toList.zip ys.toList).length = min xs.size ys.size:=by simp
  wp_walk using wpAny_loadPart' hl,wpAny_loadPart' hb,wpAny_forIn_list _ (fun rest b s'=>b.1 = none /\ s' = ⟨hp,g,d,tk,os⟩ /\ ∃ i,rest = (xs.toList.zip ys.toList).drop i /\ ∀ k,k < i -> k < min xs.size ys.size -> e k = true) _
  case turn =>
   rintro ⟨y,x⟩ rest b s' ⟨gM,rfl,i,hq,hR⟩
   have aN:i < (xs.toList.zip ys.toList).length:=by
    apply Classical.byContradiction
    intro z
    rw [List.drop_of_length_le (by omega)] at hq
    cases hq
   have h1:i < xs.size:=by omega
   have h2:i < ys.size:=by omega
   rw [List.drop_eq_getElem_cons aN] at hq
   injection hq with HN nO
   have hy:y = xs[i]:=by simpa using congrArg Prod.fst HN
   have hx:x = ys[i]:=by simpa using congrArg Prod.snd HN
   subst hy hx
   refine wpAny_bind (he i h1 h2 prog w _ _ ?_)
   cases hy:e i with
   | true =>
    wp_walk
    refine ⟨rfl,rfl,i + 1,nO,fun k hk tH=>?_⟩
    by_cases z:k = i
    ·rw [z]
     exact hy
    ·exact hR k (by omega) tH
   | false =>
    have sF:=hf i h1 h2 (fun k hk=>hR k hk (by omega)) hy prog w
    wp_walk using sF _ _
    exact ⟨_,rfl,h⟩
  case fin =>
   rintro ⟨b1,b2⟩ s' ⟨gM,rfl,i,hq,hR⟩
   simp only at gM
   subst gM
   have PQ:min xs.size ys.size <= i:=by
    apply Classical.byContradiction
    intro z
    rw [List.drop_eq_getElem_cons (by omega)] at hq
    cases hq
   have hr:=hz fun j hj=>hR j (by omega) hj
   wp_walk
   refine ⟨_,rfl,?_⟩
   rw [hr] at h
   simpa [Builtin.Tuple.tupleCompareSizes] using h
  case h =>
   exact ⟨rfl,rfl,0,rfl,fun k hk=>absurd hk (Nat.not_lt_zero k)⟩
mutual
def Xg:PyData -> PyData -> Bool
 | .int a,.int b=>decide (a > b)
 | .tuple xs,.tuple ys=>aY xs ys
 | _,_=>false
def aY:List PyData -> List PyData -> Bool
 | [],[]=>false
 | [],_ :: _=>false
 | _ :: _,[]=>true
 | x :: xs,y :: ys=>if PyData.eqv x y then aY xs ys else Xg x y
end
theorem N3:∀ (xs ys:List PyData),(∀ j,j < min xs.length ys.length -> pairEq xs ys j = true) -> aY xs ys = decide (xs.length > ys.length)
 | [],[],_=>rfl
 | [],y :: ys,_=>by simp [aY]
 | x :: xs,[],_=>by simp [aY]
 | x :: xs,y :: ys,h=>by
  have h0:PyData.eqv x y = true:=h 0 (by simp only [List.length_cons]; omega)
  have ih:=N3 xs ys fun j hj=>h (j + 1) (by simp only [List.length_cons]; omega)
  rw [aY,if_pos h0,ih]
  simp
mutual
theorem Rg : ∀ (da db : PyData) (A : Around) (s : Shared) (a b : Value) (as bs : List Addr), Reads s.heap a da as -> Reads s.heap b db bs -> da.canLay0 = true -> db.canLay0 = true -> Gg da db ->
  A.units + min da.depth db.depth < cLine -> ix A s a b (Xg da db)
 | .int x,db,A,s,_,_,_,_,ra,rb,_,_,hc,hu=>by
  cases db with
  | int y =>
   cases ra with
   | int _ t =>
    cases rb with
    | int _ u =>
     intro prog w E Q h
     exact richCompare_gives (op := .Gt) (typeIs_int s _ t) (typeIs_int s _ u) F.slot_int_gt F.entry_int_gt (F.args_int_gt_2 _ _) (gives_int_gt _ _ t u) (fun z=>nomatch z) h
  | none=>exact hc.elim
  | bool _=>exact hc.elim
  | str _=>exact hc.elim
  | list _=>exact hc.elim
  | tuple _=>exact hc.elim
  | dict _=>exact hc.elim
 | .tuple xs,db,A,s,_,_,_,_,ra,rb,ha,hb,hc,hu=>by
  cases db with
  | tuple ys =>
   cases ra with
   | @tuple l o vs n _ as₁ h1 h2 h3 h4 =>
    cases rb with
    | @tuple l' o' tI n' _ bs₁ k1 k2 k3 k4 =>
     obtain ⟨oc,od,PU,gZ⟩ := o
     obtain ⟨oc',SW,SX,xA⟩ := o'
     simp only at h2 h3 k2 k3
     subst h2 h3 k2 k3
     have n1:vs.size = xs.length:=by simpa using ReadsAll.length _ _ _ h4
     have n2:tI.size = ys.length:=by simpa using ReadsAll.length _ _ _ k4
     intro prog w E Q h
     refine richCompare_meets_room (op := .Gt) ⟨_,h1,rfl⟩ ⟨_,k1,rfl⟩ F.slot_tuple_gt F.entry_tuple_gt (F.args_tuple_gt_2 _ _) (jz l l' vs tI n n' od SW gZ xA (pairEq xs ys) (aY xs ys)) ⟨h1,k1,fun j j1 j2=>?_,fun j j1 j2 f1 f2=>?_,fun f=>?_,(fun z=>nomatch z),h⟩ (room_here hu)
     ·have:=eqAt_readsAll xs ys A.in1 s vs.toList tI.toList _ _ h4 k4 ha hb (room_in hu) j (by simpa using j1) (by simpa using j2)
      simpa using this
     ·have:=eX xs ys A.in1 s vs.toList tI.toList _ _ h4 k4 ha hb hc (room_in hu) j (by simpa using j1) (by simpa using j2) f1 f2
      simpa using this
     ·rw [n1,n2] at f ⊢
      exact N3 xs ys f
  | none=>exact hc.elim
  | bool _=>exact hc.elim
  | str _=>exact hc.elim
  | list _=>exact hc.elim
  | int _=>exact hc.elim
  | dict _=>exact hc.elim
 | .none,_,_,_,_,_,_,_,_,_,_,_,hc,_=>hc.elim
 | .bool _,_,_,_,_,_,_,_,_,_,_,_,hc,_=>hc.elim
 | .str _,_,_,_,_,_,_,_,_,_,_,_,hc,_=>hc.elim
 | .list _,_,_,_,_,_,_,_,_,_,_,_,hc,_=>hc.elim
 | .dict _,_,_,_,_,_,_,_,_,_,_,_,hc,_=>hc.elim
theorem eX : ∀ (xs ys : List PyData) (A : Around) (s : Shared) (vs ws : List Value) (as bs : List Addr), ReadsAll s.heap vs xs as -> ReadsAll s.heap ws ys bs -> PyData.canLayAll0 xs = true -> PyData.canLayAll0 ys = true -> bL xs ys ->
  A.units + min (PyData.depthAll xs) (PyData.depthAll ys) < cLine -> ∀ j (h1:j < vs.length) (h2:j < ws.length),(∀ i,i < j -> pairEq xs ys i = true) -> pairEq xs ys j = false -> ix A s vs[j] ws[j] (aY xs ys)
 | [],_,_,_,_,_,_,_,ra,_,_,_,_,_,j,h1,_,_,_=>by cases ra; exact absurd h1 (Nat.not_lt_zero _)
 | _ :: _,[],_,_,_,_,_,_,_,rb,_,_,_,_,j,_,h2,_,_=>by cases rb; exact absurd h2 (Nat.not_lt_zero _)
 | x :: xs,y :: ys,A,s,_,_,_,_,ra,rb,ca,cb,hc,hu,j,h1,h2,f1,f2=>by
  cases ra with
  | cons r1 r2 =>
   cases rb with
   | cons q1 q2 =>
    have uR:x.canLay0 = true /\ PyData.canLayAll0 xs = true:=by simpa [PyData.canLayAll0] using ca
    have uS:y.canLay0 = true /\ PyData.canLayAll0 ys = true:=by simpa [PyData.canLayAll0] using cb
    have hd:A.units + min x.depth y.depth < cLine /\ A.units + min (PyData.depthAll xs) (PyData.depthAll ys) < cLine:=by
     simp only [PyData.depthAll] at hu
     omega
    cases j with
    | zero =>
     have e:aY (x :: xs) (y :: ys) = Xg x y:=by
      have f3:PyData.eqv x y = false:=f2
      rw [aY,f3]
      rfl
     rw [e]
     exact Rg x y A s _ _ _ _ r1 q1 uR.1 uS.1 hc.1 hd.1
    | succ j =>
     have e:aY (x :: xs) (y :: ys) = aY xs ys:=by
      have f3:PyData.eqv x y = true:=f1 0 (Nat.succ_pos _)
      rw [aY,f3]
      rfl
     rw [e]
     exact eX xs ys A s _ _ _ _ r2 q2 uR.2 uS.2 hc.2 hd.2 j (Nat.lt_of_succ_lt_succ h1) (Nat.lt_of_succ_lt_succ h2) (fun i hi=>f1 (i + 1) (Nat.succ_lt_succ hi)) f2
end
section
variable {X:Cx} {k:Nat}
def vk:R2:=fun x y H Q=>∃ d e:PyData,Rp H d x /\ Rp H e y /\ Gg d e /\ d.depth <= 60 /\ Q (.bl (Xg d e)) H
end
open PySem PySem.Spec PyProof.Rows PySem.SeqAt
theorem E9 (bt:Nat -> Nat -> Bool) (j:Nat):argBest bt (j + 1) = if bt (j + 1) (argBest bt j) = true then j + 1 else argBest bt j:=by
 first
  | rfl
  | (show (if bt (j + 1) (argBest bt j) then j + 1 else argBest bt j) = _; rfl)
section
variable {prog:Program} {w:World} {A:Around} {R:Result -> Shared -> Prop} {I S:Addr} {fp wr:List Addr} {St:Nat -> Heap -> Prop} {aD:Array Value} {bt:Nat -> Nat -> Bool} {Good:Heap -> Prop}
theorem Pb {a : Args} {s : Shared} (h : wpAny (model prog w) A.in1 (Builtin.«min.loop» a) (fun fin s' => match fin with
   | .done f=>R (.ok f) s'
   | .again c'=>c'.quiet = true /\ codeAny (model prog w) A c' R s') (fun e s'=>R (.error e) s') s):codeAny (model prog w) A (.builtin "min.loop" a) R s:=by
 refine codeAny_builtin F.entry_min_loop ?_; rw [Around.under_plainId F.plain_min_loop _]
 exact h
theorem bp (W : Walks prog w A.in1 I fp wr aD.size (fun i v => aD[i]? = some v) St) (hG : ∀ h h', Good h -> (∀ b o, b ∉ wr -> b ≠ S -> h.get? b = some o -> h'.get? b = some o) -> Good h')
  (hc:∀ i j vi vj (s:Shared),Good s.heap -> aD[i]? = some vi -> aD[j]? = some vj -> ∀ E Q,Q (.bool (bt i j)) s -> wpAny (model prog w) A.in1 (richCompare .Lt vi vj) Q E s) (mC:S ∉ fp) :
  ∀ (k j:Nat) (s:Shared) (vb:Value) (c:Nat),aD.size = j + 1 + k -> St (j + 1) s.heap -> Good s.heap -> aD[argBest bt j]? = some vb ->
  s.heap.get? S = some { cls := .type "list",dict:=none,data := .seq #[vb,vb] c,slots := #[] } ->
  (∀ v h' tk,aD[argBest bt (aD.size - 1)]? = some v -> (∀ b o,b ∉ wr -> b ≠ S -> s.heap.get? b = some o -> h'.get? b = some o) -> R (.ok (.ret v)) { s with heap:=h',toks:=tk }) ->
  codeAny (model prog w) A (.builtin "min.loop" ⟨[.ref I,.none,.ref S],[]⟩) R s:=by
 have tL:S ∉ wr:=fun z=>mC (W.sub _ z)
 have nm:(toString "min" ++ toString ".loop" : String) = "min.loop" := by decide
 intro k
 induction k with
 | zero =>
  intro j s vb c hk bQ hg nQ hS hR
  refine Pb ?_
  refine wpAny_bind ( wpAny_seqItems hS rfl ?_)
  show wpAny (model prog w) A.in1 (tryCatch (pyNext (.ref I)) _ >>= _) _ _ s
  have ej:j + 1 = aD.size:=by omega
  refine wpAny_bind (wpAny_tryCatch (W.done s _ _ (ej ▸ bQ) fun h1 iP k1=>?_))
  have jL:=k1 S _ tL hS
  show wpAny (model prog w) A.in1 (updateSeq S (fun _=>#[]) >>= _) _ _ _
  refine wpAny_bind ?_
  refine wpAny_updateSeq jL rfl (wpAny_bind (wpAny_letGo (wpAny_pure ?_)))
  have e2:aD.size - 1 = j:=by omega
  exact hR vb _ iP (by rw [e2]; exact nQ) fun b o z1 z2 e=>(Heap.get?_update_other _ _ (Ne.symm z2)).trans (k1 b o z1 e)
 | succ k ih =>
  intro j s vb c hk bQ hg nQ hS hR
  refine Pb ?_
  refine wpAny_bind ( wpAny_seqItems hS rfl ?_)
  show wpAny (model prog w) A.in1 (tryCatch (pyNext (.ref I)) _ >>= _) _ _ s
  refine wpAny_bind (wpAny_tryCatch (W.item (j + 1) s _ _ (by omega) bQ fun v h1 iP hP bK k1=>?_))
  have jL:=k1 S _ tL hS
  have kI:Good h1:=hG _ _ hg fun b o z1 _ e=>k1 b o z1 e
  refine wpAny_bind (wpAny_pure ?_)
  refine wpAny_bind (wpAny_tryCatch (wpAny_holding (wpAny_bind ?_)))
  refine hc (j + 1) (argBest bt j) v vb { s with heap:=h1,toks:=iP } kI hP nQ _ _ ?_
  refine wpAny_bind (wpAny_holding (wpAny_truthy_bool ?_))
  refine wpAny_bind (wpAny_letGo (wpAny_pure ?_))
  have eb:=E9 bt j
  cases hb:bt (j + 1) (argBest bt j) with
  | true =>
   rw [hb,if_pos rfl] at eb
   simp only [if_true]
   refine wpAny_bind ?_
   refine wpAny_updateSeq jL rfl (wpAny_bind (wpAny_letGo ?_))
   rw [nm]
   refine wpAny_pure ⟨plainId_quiet F.plain_min_loop _,ih (j + 1) _ v _ (by omega) (W.frame _ _ _ bK fun b z o e=>?_) (hG _ _ kI fun b o z1 z2 e=>(Heap.get?_update_other _ _ (Ne.symm z2)).trans e) (by rw [eb]; exact hP) (Heap.get?_update_self _ jL rfl) fun v2 h2 nR top2 k2=>?_⟩
   ·exact (Heap.get?_update_other _ _ (fun y:S = b=>mC (by rw [y]; exact z))).trans e
   ·exact hR v2 h2 nR top2 fun b o z1 z2 e=>k2 b o z1 z2 ((Heap.get?_update_other _ _ (Ne.symm z2)).trans (k1 b o z1 e))
  | false =>
   rw [hb,if_neg Bool.false_ne_true] at eb
   simp only [Bool.false_eq_true,if_false]
   refine wpAny_bind (wpAny_letGo ?_)
   rw [nm]
   refine wpAny_pure ⟨plainId_quiet F.plain_min_loop _,ih (j + 1) _ vb c (by omega) bK kI (by rw [eb]; exact nQ) jL fun v2 h2 nR top2 k2=>?_⟩
   exact hR v2 h2 nR top2 fun b o z1 z2 e=>k2 b o z1 z2 (k1 b o z1 e)
theorem Sw (W : Walks prog w A.in1 I fp wr aD.size (fun i v => aD[i]? = some v) St) (hG : ∀ h h', Good h -> (∀ b o, b ∉ wr -> b ≠ S -> h.get? b = some o -> h'.get? b = some o) -> Good h')
  (hc:∀ i j vi vj (s:Shared),Good s.heap -> aD[i]? = some vi -> aD[j]? = some vj -> ∀ E Q,Q (.bool (bt i j)) s -> wpAny (model prog w) A.in1 (richCompare .Lt vi vj) Q E s) (mC:S ∉ fp) {s:Shared} {c:Nat} (bQ:St 0 s.heap) (hg:Good s.heap)
  (hS:s.heap.get? S = some { cls := .type "list",dict:=none,data := .seq #[] c,slots := #[] }) (hn:0 < aD.size)
  (hR:∀ v h' tk,aD[argBest bt (aD.size - 1)]? = some v -> (∀ b o,b ∉ wr -> b ≠ S -> s.heap.get? b = some o -> h'.get? b = some o) -> R (.ok (.ret v)) { s with heap:=h',toks:=tk }) :
  codeAny (model prog w) A (.builtin "min.loop" ⟨[.ref I,.none,.ref S],[]⟩) R s:=by
 have tL:S ∉ wr:=fun z=>mC (W.sub _ z)
 have nm:(toString "min" ++ toString ".loop" : String) = "min.loop" := by decide
 refine Pb ?_
 refine wpAny_bind ( wpAny_seqItems hS rfl ?_)
 show wpAny (model prog w) A.in1 (tryCatch (pyNext (.ref I)) _ >>= _) _ _ s
 refine wpAny_bind (wpAny_tryCatch (W.item 0 s _ _ hn bQ fun v h1 iP hP bK k1=>?_))
 have jL:=k1 S _ tL hS
 have kI:Good h1:=hG _ _ hg fun b o z1 _ e=>k1 b o z1 e
 show wpAny (model prog w) A.in1 (updateSeq S (fun _=>#[v,v]) >>= _) _ _ _
 refine wpAny_bind ?_
 refine wpAny_updateSeq jL rfl ?_
 rw [nm]
 refine wpAny_pure ⟨plainId_quiet F.plain_min_loop _,bp W hG hc mC (aD.size - 1) 0 _ v _ (by omega) (W.frame _ _ _ bK fun b z o e=>?_) (hG _ _ kI fun b o z1 z2 e=>(Heap.get?_update_other _ _ (Ne.symm z2)).trans e) hP (Heap.get?_update_self _ jL rfl) fun v2 h2 nR top2 k2=>?_⟩
 ·exact (Heap.get?_update_other _ _ (fun y:S = b=>mC (by rw [y]; exact z))).trans e
 ·exact hR v2 h2 nR top2 fun b o z1 z2 e=>k2 b o z1 z2 ((Heap.get?_update_other _ _ (Ne.symm z2)).trans (k1 b o z1 e))
end
section
variable {prog:Program} {w:World} {A:Around} {R:Result -> Shared -> Prop} {I S:Addr} {fp wr:List Addr} {St:Nat -> Heap -> Prop} {aD:Array Value} {bt:Nat -> Nat -> Bool} {Good:Heap -> Prop}
theorem Q4 {a : Args} {s : Shared} (h : wpAny (model prog w) A.in1 (Builtin.«max.loop» a) (fun fin s' => match fin with
   | .done f=>R (.ok f) s'
   | .again c'=>c'.quiet = true /\ codeAny (model prog w) A c' R s') (fun e s'=>R (.error e) s') s):codeAny (model prog w) A (.builtin "max.loop" a) R s:=by
 refine codeAny_builtin F.entry_max_loop ?_; rw [Around.under_plainId F.plain_max_loop _]
 exact h
theorem ba (W : Walks prog w A.in1 I fp wr aD.size (fun i v => aD[i]? = some v) St) (hG : ∀ h h', Good h -> (∀ b o, b ∉ wr -> b ≠ S -> h.get? b = some o -> h'.get? b = some o) -> Good h')
  (hc:∀ i j vi vj (s:Shared),Good s.heap -> aD[i]? = some vi -> aD[j]? = some vj -> ∀ E Q,Q (.bool (bt i j)) s -> wpAny (model prog w) A.in1 (richCompare .Gt vi vj) Q E s) (mC:S ∉ fp) :
  ∀ (k j:Nat) (s:Shared) (vb:Value) (c:Nat),aD.size = j + 1 + k -> St (j + 1) s.heap -> Good s.heap -> aD[argBest bt j]? = some vb ->
  s.heap.get? S = some { cls := .type "list",dict:=none,data := .seq #[vb,vb] c,slots := #[] } ->
  (∀ v h' tk,aD[argBest bt (aD.size - 1)]? = some v -> (∀ b o,b ∉ wr -> b ≠ S -> s.heap.get? b = some o -> h'.get? b = some o) -> R (.ok (.ret v)) { s with heap:=h',toks:=tk }) ->
  codeAny (model prog w) A (.builtin "max.loop" ⟨[.ref I,.none,.ref S],[]⟩) R s:=by
 have tL:S ∉ wr:=fun z=>mC (W.sub _ z)
 have nm:(toString "max" ++ toString ".loop" : String) = "max.loop" := by decide
 intro k
 induction k with
 | zero =>
  intro j s vb c hk bQ hg nQ hS hR
  refine Q4 ?_
  refine wpAny_bind ( wpAny_seqItems hS rfl ?_)
  show wpAny (model prog w) A.in1 (tryCatch (pyNext (.ref I)) _ >>= _) _ _ s
  have ej:j + 1 = aD.size:=by omega
  refine wpAny_bind (wpAny_tryCatch (W.done s _ _ (ej ▸ bQ) fun h1 iP k1=>?_))
  have jL:=k1 S _ tL hS
  show wpAny (model prog w) A.in1 (updateSeq S (fun _=>#[]) >>= _) _ _ _
  refine wpAny_bind ?_
  refine wpAny_updateSeq jL rfl (wpAny_bind (wpAny_letGo (wpAny_pure ?_)))
  have e2:aD.size - 1 = j:=by omega
  exact hR vb _ iP (by rw [e2]; exact nQ) fun b o z1 z2 e=>(Heap.get?_update_other _ _ (Ne.symm z2)).trans (k1 b o z1 e)
 | succ k ih =>
  intro j s vb c hk bQ hg nQ hS hR
  refine Q4 ?_
  refine wpAny_bind ( wpAny_seqItems hS rfl ?_)
  show wpAny (model prog w) A.in1 (tryCatch (pyNext (.ref I)) _ >>= _) _ _ s
  refine wpAny_bind (wpAny_tryCatch (W.item (j + 1) s _ _ (by omega) bQ fun v h1 iP hP bK k1=>?_))
  have jL:=k1 S _ tL hS
  have kI:Good h1:=hG _ _ hg fun b o z1 _ e=>k1 b o z1 e
  refine wpAny_bind (wpAny_pure ?_)
  refine wpAny_bind (wpAny_tryCatch (wpAny_holding (wpAny_bind ?_)))
  refine hc (j + 1) (argBest bt j) v vb { s with heap:=h1,toks:=iP } kI hP nQ _ _ ?_
  refine wpAny_bind (wpAny_holding (wpAny_truthy_bool ?_))
  refine wpAny_bind (wpAny_letGo (wpAny_pure ?_))
  have eb:=E9 bt j
  cases hb:bt (j + 1) (argBest bt j) with
  | true =>
   rw [hb,if_pos rfl] at eb
   simp only [if_true]
   refine wpAny_bind ?_
   refine wpAny_updateSeq jL rfl (wpAny_bind (wpAny_letGo ?_))
   rw [nm]
   refine wpAny_pure ⟨plainId_quiet F.plain_max_loop _,ih (j + 1) _ v _ (by omega) (W.frame _ _ _ bK fun b z o e=>?_) (hG _ _ kI fun b o z1 z2 e=>(Heap.get?_update_other _ _ (Ne.symm z2)).trans e) (by rw [eb]; exact hP) (Heap.get?_update_self _ jL rfl) fun v2 h2 nR top2 k2=>?_⟩
   ·exact (Heap.get?_update_other _ _ (fun y:S = b=>mC (by rw [y]; exact z))).trans e
   ·exact hR v2 h2 nR top2 fun b o z1 z2 e=>k2 b o z1 z2 ((Heap.get?_update_other _ _ (Ne.symm z2)).trans (k1 b o z1 e))
  | false =>
   rw [hb,if_neg Bool.false_ne_true] at eb
   simp only [Bool.false_eq_true,if_false]
   refine wpAny_bind (wpAny_letGo ?_)
   rw [nm]
   refine wpAny_pure ⟨plainId_quiet F.plain_max_loop _,ih (j + 1) _ vb c (by omega) bK kI (by rw [eb]; exact nQ) jL fun v2 h2 nR top2 k2=>?_⟩
   exact hR v2 h2 nR top2 fun b o z1 z2 e=>k2 b o z1 z2 (k1 b o z1 e)
theorem Uq (W : Walks prog w A.in1 I fp wr aD.size (fun i v => aD[i]? = some v) St) (hG : ∀ h h', Good h -> (∀ b o, b ∉ wr -> b ≠ S -> h.get? b = some o -> h'.get? b = some o) -> Good h')
  (hc:∀ i j vi vj (s:Shared),Good s.heap -> aD[i]? = some vi -> aD[j]? = some vj -> ∀ E Q,Q (.bool (bt i j)) s -> wpAny (model prog w) A.in1 (richCompare .Gt vi vj) Q E s) (mC:S ∉ fp) {s:Shared} {c:Nat} (bQ:St 0 s.heap) (hg:Good s.heap)
  (hS:s.heap.get? S = some { cls := .type "list",dict:=none,data := .seq #[] c,slots := #[] }) (hn:0 < aD.size)
  (hR:∀ v h' tk,aD[argBest bt (aD.size - 1)]? = some v -> (∀ b o,b ∉ wr -> b ≠ S -> s.heap.get? b = some o -> h'.get? b = some o) -> R (.ok (.ret v)) { s with heap:=h',toks:=tk }) :
  codeAny (model prog w) A (.builtin "max.loop" ⟨[.ref I,.none,.ref S],[]⟩) R s:=by
 have tL:S ∉ wr:=fun z=>mC (W.sub _ z)
 have nm:(toString "max" ++ toString ".loop" : String) = "max.loop" := by decide
 refine Q4 ?_
 refine wpAny_bind ( wpAny_seqItems hS rfl ?_)
 show wpAny (model prog w) A.in1 (tryCatch (pyNext (.ref I)) _ >>= _) _ _ s
 refine wpAny_bind (wpAny_tryCatch (W.item 0 s _ _ hn bQ fun v h1 iP hP bK k1=>?_))
 have jL:=k1 S _ tL hS
 have kI:Good h1:=hG _ _ hg fun b o z1 _ e=>k1 b o z1 e
 show wpAny (model prog w) A.in1 (updateSeq S (fun _=>#[v,v]) >>= _) _ _ _
 refine wpAny_bind ?_
 refine wpAny_updateSeq jL rfl ?_
 rw [nm]
 refine wpAny_pure ⟨plainId_quiet F.plain_max_loop _,ba W hG hc mC (aD.size - 1) 0 _ v _ (by omega) (W.frame _ _ _ bK fun b z o e=>?_) (hG _ _ kI fun b o z1 z2 e=>(Heap.get?_update_other _ _ (Ne.symm z2)).trans e) hP (Heap.get?_update_self _ jL rfl) fun v2 h2 nR top2 k2=>?_⟩
 ·exact (Heap.get?_update_other _ _ (fun y:S = b=>mC (by rw [y]; exact z))).trans e
 ·exact hR v2 h2 nR top2 fun b o z1 z2 e=>k2 b o z1 z2 ((Heap.get?_update_other _ _ (Ne.symm z2)).trans (k1 b o z1 e))
end
open PySem PySem.Spec PyProof.Rows PySem.SeqAt
theorem Ji {H:Hp}:∀ {ds:List PyData} {us:List V} {i:Nat} {d:PyData},aG H ds us -> ds[i]? = some d -> ∃ u,us[i]? = some u /\ Rp H d u
 | [],_,i,d,_,e=>by simp at e
 | x :: ds,us,0,d,h,e=>by
  unfold aG at h
  obtain ⟨u,jC,rfl,h1,_⟩ := h
  cases e
  exact ⟨u,rfl,h1⟩
 | x :: ds,us,i + 1,d,h,e=>by
  unfold aG at h
  obtain ⟨u,jC,rfl,_,h2⟩ := h
  obtain ⟨u2,e1,e2⟩ := Ji (i:=i) h2 (by simpa using e)
  exact ⟨u2,by simpa using e1,e2⟩
theorem Fi {H:Hp}:∀ {ds:List PyData} {us:List V},aG H ds us -> us.length = ds.length
 | [],us,h=>by
  unfold aG at h
  rw [h]
  rfl
 | x :: ds,us,h=>by
  unfold aG at h
  obtain ⟨u,jC,rfl,_,h2⟩ := h
  rw [List.length_cons,List.length_cons,Fi h2]
theorem Hz {xs:List V} {us:List Value} {i:Nat} {u:Value} (r:Aw xs us) (h:us[i]? = some u):∃ x,xs[i]? = some x /\ Av x u:=by
 have hi:=(List.getElem?_eq_some_iff.mp h).1
 have hl:=r.length
 obtain ⟨u2,e1,e2⟩ := r.get (List.getElem?_eq_getElem (show i < xs.length by omega))
 rw [h] at e1
 cases e1
 exact ⟨_,List.getElem?_eq_getElem (by omega),e2⟩
section
variable {X:Cx} {k:Nat}
theorem Vp (a:Value):argsOk "min" ⟨[a],[]⟩ := by
 unfold argsOk
 kernel_rfl
def Km (ds:List PyData):Nat:=argBest (fun i j=>Jl (ds.getD i .none) (ds.getD j .none)) (ds.length - 1)
theorem ja {pins : List (Addr × Obj)} {s : Shared} {σ : St} {H : Hp} {us : List V} {aD : List Value} {ds : List PyData} (hr : Cq k X.A) (I : Ai X pins σ H s) (rv : Aw us aD) (hd : aG H ds us) (sI : ∀ d ∈ ds, ∀ e ∈ ds, Gg d e) (xG : ∀ d ∈ ds, d.depth <= 50) (i j : Nat) (vi vj : Value) (s' : Shared)
  (hk:∀ b o,s.heap.get? b = some o -> s'.heap.get? b = some o) (h1:aD.toArray[i]? = some vi) (h2:aD.toArray[j]? = some vj) (E Q:Value -> Shared -> Prop) (q:Q (.bool (Jl (ds.getD i .none) (ds.getD j .none))) s'):wpAny (model X.prog X.w) X.A.in1 (richCompare .Lt vi vj) Q E s':=by
 have hl:=Fi hd
 have get:∀ (m:Nat) (vm:Value),aD.toArray[m]? = some vm -> ∃ x,Av x vm /\ Rp H (ds.getD m .none) x /\ ds.getD m .none ∈ ds:=fun m vm h=>by
  obtain ⟨x,e1,e2⟩ := Hz rv (by simpa using h)
  have hm:m < ds.length:=by
   have:=(List.getElem?_eq_some_iff.mp e1).1
   omega
  have e3:ds[m]? = some (ds.getD m .none):=by
   rw [List.getD_eq_getElem?_getD,List.getElem?_eq_getElem hm]
   rfl
  obtain ⟨x2,f1,f2⟩ := Ji hd e3
  rw [e1] at f1
  cases f1
  exact ⟨x,e2,f2,List.mem_of_getElem? e3⟩
 obtain ⟨x,rx,px,mx⟩ := get i vi h1
 obtain ⟨y,ry,py,my⟩ := get j vj h2
 have I':Ai X pins σ H { s with heap:=s'.heap,toks:=s'.toks }:=I.kept (t':=s'.toks) hk
 obtain ⟨as,q1⟩ := Cr I' _ x vi px rx
 obtain ⟨bs,q2⟩ := Cr I' _ y vj py ry
 have hu:=hr.units
 have d1:=xG _ mx
 exact Im _ _ X.A.in1 s' vi vj as bs q1 q2 (Cs _ x px) (Cs _ y py) (sI _ mx _ my) (by show X.A.units + 1 + _ < _; omega) _ _ _ _ q
def lh (K:PySem.W.Frag):List V -> Hp -> VK -> Prop:=fun xs H Q=>∃ (p:Addr) (us:List V) (ds:List PyData),xs = [.ref p] /\ Bg K H p us /\ aG H ds us /\ 0 < us.length /\ (∀ d ∈ ds,∀ e ∈ ds,Gg d e) /\ (∀ d ∈ ds,d.depth <= 50) /\ ∀ v,us[Km ds]? = some v -> Q v H
theorem Ws (K:PySem.W.Frag) (hr:Cq k X.A) (hc:X.calm = true) (hK:X.K = K:=by rfl):Dy X (.builtin "min") (lh K):=by
 subst hK
 intro pins s σ H xs TL Q I r h
 obtain ⟨p,us,ds,rfl,hq,hd,bP,sI,xG,q⟩ := h
 obtain ⟨u,rfl,rx⟩ := Jy r
 cases rx
 obtain ⟨aD,rv,pl,hz⟩ := I.list hq
 have hl:=Fi hd
 have hil:=rv.length
 have nm:(toString "min" ++ toString ".loop" : String) = "min.loop" := by decide
 refine Nd (args:=⟨[.ref p],[]⟩) F.kind_min F.plain_min F.entry_min (Vp _) ?_
 show wpAny (model X.prog X.w) X.A.in1 (Builtin.Builtins.bindParams "min" ["key","default"] 0 ⟨[],[]⟩ >>= _) _ _ s
 refine wpAny_bind (wpAny_of_eq (show Builtin.Builtins.bindParams "min" ["key","default"] 0 ⟨[],[]⟩ = pure [none,none] from ?_) ?_)
 ·kernel_rfl
 refine wpAny_bind (wpAny_pure ?_)
 refine wpAny_bind (wpAny_pyIter_list pl.isList ?_)
 refine wpAny_bind (wpAny_newObj_type ?_)
 rw [nm]
 refine wpAny_pure ⟨plainId_quiet F.plain_min_loop _,?_⟩
 have nS:p < s.heap.objs.size:=pl.lt
 have W:=Walks.list (prog:=X.prog) (w:=X.w) (A:=X.A.in1) (I.ok.hd hc) s.heap.objs.size p (Nat.ne_of_lt nS) aD.toArray
 have hsz:(s.heap.push { cls := .type "list_iterator",data := .fields #[.ref p,.int 0 0] }).objs.size = s.heap.objs.size + 1:=by simp [Heap.push]
 refine Sw (S:=(s.heap.push { cls := .type "list_iterator",data := .fields #[.ref p,.int 0 0] }).objs.size) (bt:=fun i j=>Jl (ds.getD i .none) (ds.getD j .none)) (Good:=fun h=>∀ b o,s.heap.get? b = some o -> h.get? b = some o) W (fun h h' g kk b o e=>kk b o ?_ ?_ (g b o e)) (fun i j vi vj s' g h1 h2 E Q' q'=>ja hr I rv hd sI xG i j vi vj s' g h1 h2 E Q' q') ?_ ⟨⟨_,Heap.get?_push_of_some _ (Heap.get?_push_size _ rfl),rfl,rfl⟩,?_⟩ (fun b o e=>Heap.get?_push_of_some _ (Heap.get?_push_of_some _ e)) (Heap.get?_push_size _ rfl) (by simp; omega) (fun v h' tk e kk=>?_)
 ·exact fun z=>Nat.ne_of_lt (Heap.lt_size e) (by simpa using z)
 ·rw [hsz]
  exact Nat.ne_of_lt (Nat.lt_succ_of_lt (Heap.lt_size e))
 ·rw [hsz]
  intro z
  have z':s.heap.objs.size + 1 = s.heap.objs.size \/ s.heap.objs.size + 1 = p:=by simpa using z
  rcases z' with z' | z'
  ·exact Nat.succ_ne_self _ z'
  ·exact Nat.lt_irrefl _ (Nat.lt_trans (Nat.lt_succ_self _) (z'.symm ▸ nS:s.heap.objs.size + 1 < s.heap.objs.size))
 ·obtain ⟨o,ho,r1⟩ := pl.isList
  exact ⟨o,Heap.get?_push_of_some _ (Heap.get?_push_of_some _ ho),r1⟩
 ·have TN : aD.toArray.size - 1 = ds.length - 1 := by
   simp
   omega
  rw [TN] at e
  obtain ⟨x,e1,e2⟩ := Hz rv (by simpa using e)
  refine ⟨x,H,I.kept (t':=tk) (fun b o z=>kk b o ?_ ?_ (Heap.get?_push_of_some _ (Heap.get?_push_of_some _ z))),e2,q x e1⟩
  ·exact fun y=>Nat.ne_of_lt (Heap.lt_size z) (by simpa using y)
  ·rw [hsz]
   exact Nat.ne_of_lt (Nat.lt_succ_of_lt (Heap.lt_size z))
def sw:List V -> Hp -> VK -> Prop:=fun xs H Q=>∃ (x y:V) (d e:PyData),xs = [x,y] /\ Rp H d x /\ Rp H e y /\ (∀ a ∈ [d,e],∀ b ∈ [d,e],Gg a b) /\ d.depth <= 50 /\ e.depth <= 50 /\ Q (if Jl e d = true then y else x) H
end
section
variable {X:Cx} {k:Nat}
theorem W3 (a:Value):argsOk "max" ⟨[a],[]⟩ := by
 unfold argsOk
 kernel_rfl
def Dr (ds:List PyData):Nat:=argBest (fun i j=>Xg (ds.getD i .none) (ds.getD j .none)) (ds.length - 1)
theorem gp {pins : List (Addr × Obj)} {s : Shared} {σ : St} {H : Hp} {us : List V} {aD : List Value} {ds : List PyData} (hr : Cq k X.A) (I : Ai X pins σ H s) (rv : Aw us aD) (hd : aG H ds us) (sI : ∀ d ∈ ds, ∀ e ∈ ds, Gg d e) (xG : ∀ d ∈ ds, d.depth <= 50) (i j : Nat) (vi vj : Value) (s' : Shared)
  (hk:∀ b o,s.heap.get? b = some o -> s'.heap.get? b = some o) (h1:aD.toArray[i]? = some vi) (h2:aD.toArray[j]? = some vj) (E Q:Value -> Shared -> Prop) (q:Q (.bool (Xg (ds.getD i .none) (ds.getD j .none))) s'):wpAny (model X.prog X.w) X.A.in1 (richCompare .Gt vi vj) Q E s':=by
 have hl:=Fi hd
 have get:∀ (m:Nat) (vm:Value),aD.toArray[m]? = some vm -> ∃ x,Av x vm /\ Rp H (ds.getD m .none) x /\ ds.getD m .none ∈ ds:=fun m vm h=>by
  obtain ⟨x,e1,e2⟩ := Hz rv (by simpa using h)
  have hm:m < ds.length:=by
   have:=(List.getElem?_eq_some_iff.mp e1).1
   omega
  have e3:ds[m]? = some (ds.getD m .none):=by
   rw [List.getD_eq_getElem?_getD,List.getElem?_eq_getElem hm]
   rfl
  obtain ⟨x2,f1,f2⟩ := Ji hd e3
  rw [e1] at f1
  cases f1
  exact ⟨x,e2,f2,List.mem_of_getElem? e3⟩
 obtain ⟨x,rx,px,mx⟩ := get i vi h1
 obtain ⟨y,ry,py,my⟩ := get j vj h2
 have I':Ai X pins σ H { s with heap:=s'.heap,toks:=s'.toks }:=I.kept (t':=s'.toks) hk
 obtain ⟨as,q1⟩ := Cr I' _ x vi px rx
 obtain ⟨bs,q2⟩ := Cr I' _ y vj py ry
 have hu:=hr.units
 have d1:=xG _ mx
 exact Rg _ _ X.A.in1 s' vi vj as bs q1 q2 (Cs _ x px) (Cs _ y py) (sI _ mx _ my) (by show X.A.units + 1 + _ < _; omega) _ _ _ _ q
def o6 (K:PySem.W.Frag):List V -> Hp -> VK -> Prop:=fun xs H Q=>∃ (p:Addr) (us:List V) (ds:List PyData),xs = [.ref p] /\ Bg K H p us /\ aG H ds us /\ 0 < us.length /\ (∀ d ∈ ds,∀ e ∈ ds,Gg d e) /\ (∀ d ∈ ds,d.depth <= 50) /\ ∀ v,us[Dr ds]? = some v -> Q v H
theorem W7 (K:PySem.W.Frag) (hr:Cq k X.A) (hc:X.calm = true) (hK:X.K = K:=by rfl):Dy X (.builtin "max") (o6 K):=by
 subst hK
 intro pins s σ H xs TL Q I r h
 obtain ⟨p,us,ds,rfl,hq,hd,bP,sI,xG,q⟩ := h
 obtain ⟨u,rfl,rx⟩ := Jy r
 cases rx
 obtain ⟨aD,rv,pl,hz⟩ := I.list hq
 have hl:=Fi hd
 have hil:=rv.length
 have nm:(toString "max" ++ toString ".loop" : String) = "max.loop" := by decide
 refine Nd (args:=⟨[.ref p],[]⟩) F.kind_max F.plain_max F.entry_max (W3 _) ?_
 show wpAny (model X.prog X.w) X.A.in1 (Builtin.Builtins.bindParams "max" ["key","default"] 0 ⟨[],[]⟩ >>= _) _ _ s
 refine wpAny_bind (wpAny_of_eq (show Builtin.Builtins.bindParams "max" ["key","default"] 0 ⟨[],[]⟩ = pure [none,none] from ?_) ?_)
 ·kernel_rfl
 refine wpAny_bind (wpAny_pure ?_)
 refine wpAny_bind (wpAny_pyIter_list pl.isList ?_)
 refine wpAny_bind (wpAny_newObj_type ?_)
 rw [nm]
 refine wpAny_pure ⟨plainId_quiet F.plain_max_loop _,?_⟩
 have nS:p < s.heap.objs.size:=pl.lt
 have W:=Walks.list (prog:=X.prog) (w:=X.w) (A:=X.A.in1) (I.ok.hd hc) s.heap.objs.size p (Nat.ne_of_lt nS) aD.toArray
 have hsz:(s.heap.push { cls := .type "list_iterator",data := .fields #[.ref p,.int 0 0] }).objs.size = s.heap.objs.size + 1:=by simp [Heap.push]
 refine Uq (S:=(s.heap.push { cls := .type "list_iterator",data := .fields #[.ref p,.int 0 0] }).objs.size) (bt:=fun i j=>Xg (ds.getD i .none) (ds.getD j .none)) (Good:=fun h=>∀ b o,s.heap.get? b = some o -> h.get? b = some o) W (fun h h' g kk b o e=>kk b o ?_ ?_ (g b o e)) (fun i j vi vj s' g h1 h2 E Q' q'=>gp hr I rv hd sI xG i j vi vj s' g h1 h2 E Q' q') ?_ ⟨⟨_,Heap.get?_push_of_some _ (Heap.get?_push_size _ rfl),rfl,rfl⟩,?_⟩ (fun b o e=>Heap.get?_push_of_some _ (Heap.get?_push_of_some _ e)) (Heap.get?_push_size _ rfl) (by simp; omega) (fun v h' tk e kk=>?_)
 ·exact fun z=>Nat.ne_of_lt (Heap.lt_size e) (by simpa using z)
 ·rw [hsz]
  exact Nat.ne_of_lt (Nat.lt_succ_of_lt (Heap.lt_size e))
 ·rw [hsz]
  intro z
  have z':s.heap.objs.size + 1 = s.heap.objs.size \/ s.heap.objs.size + 1 = p:=by simpa using z
  rcases z' with z' | z'
  ·exact Nat.succ_ne_self _ z'
  ·exact Nat.lt_irrefl _ (Nat.lt_trans (Nat.lt_succ_self _) (z'.symm ▸ nS:s.heap.objs.size + 1 < s.heap.objs.size))
 ·obtain ⟨o,ho,r1⟩ := pl.isList
  exact ⟨o,Heap.get?_push_of_some _ (Heap.get?_push_of_some _ ho),r1⟩
 ·have TN : aD.toArray.size - 1 = ds.length - 1 := by
   simp
   omega
  rw [TN] at e
  obtain ⟨x,e1,e2⟩ := Hz rv (by simpa using e)
  refine ⟨x,H,I.kept (t':=tk) (fun b o z=>kk b o ?_ ?_ (Heap.get?_push_of_some _ (Heap.get?_push_of_some _ z))),e2,q x e1⟩
  ·exact fun y=>Nat.ne_of_lt (Heap.lt_size z) (by simpa using y)
  ·rw [hsz]
   exact Nat.ne_of_lt (Nat.lt_succ_of_lt (Heap.lt_size z))
def t9:List V -> Hp -> VK -> Prop:=fun xs H Q=>∃ (x y:V) (d e:PyData),xs = [x,y] /\ Rp H d x /\ Rp H e y /\ (∀ a ∈ [d,e],∀ b ∈ [d,e],Gg a b) /\ d.depth <= 50 /\ e.depth <= 50 /\ Q (if Xg e d = true then y else x) H
end
section
variable {prog:Program} {w:World} {K:Type} [DecidableEq K] {knd:HeapKind prog w K} {A:Around} {E:Value -> Shared -> Prop} {s:Shared} {d:Addr} {xs:List (K × Addr × Value)}
end
section
variable {X:Cx}
end
section
variable {X:Cx} {pos:Pos} {ke ve:Expr} {tk tv:TE}
def qe (tk tv:TE):TE:=fun σ H Q=>∀ p,H p = none -> P3 [(tk,tv)] σ (upd H p (.dT [])) fun ps H2=>H2 p = some (.dT []) /\ ∃ b k y,ps = [(.ref b,y)] /\ Ds H2 b k /\ Q (.ref p) (upd H2 p (.dT [(k,y)]))
end
section
variable {P:Program} {w:World} {A:Around} {E:Value -> Shared -> Prop} {s:Shared}
end
section
variable {X:Cx}
def sh (P:Program) (w:World):List V -> Hp -> VK -> Prop:=fun xs H Q=>∃ (D:Addr) (kvs:List ((List Int × Int) × V)),xs = [.ref D] /\ H D = some (.dT kvs) /\ (kvs.map fun kv=>Gw P w kv.1).Nodup /\ ∀ d,H d = none -> Q (.ref d) (upd H d (.dT kvs))
end
section
variable {X:Cx} {pins:List (Addr × Obj)} {σ:St} {H:Hp} {s:Shared} {k:Nat}
theorem Qu (I:Ai X pins σ H s) {d:PyData}:∀ {ds:List PyData} {vs:List V} {us:List Value},aG H ds vs -> Aw vs us -> ds.length = us.length /\ ∀ (m:Nat) (w:Value) (e:PyData),us[m]? = some w -> ds[m]? = some e -> Id s.heap d w = PyData.eqv e d
 | [],vs,us,h,r=>by
  unfold aG at h
  subst h
  cases r
  exact ⟨rfl,fun m w e z=>by simp at z⟩
 | e :: ds,vs,us,h,r=>by
  unfold aG at h
  obtain ⟨x,xs,rfl,h1,h2⟩ := h
  cases r with
  | cons r1 r2 =>
   obtain ⟨as,q⟩ := Hc I h1 r1
   obtain ⟨l,ih⟩ := Qu I h2 r2
   refine ⟨by rw [List.length_cons,List.length_cons,l],fun m w e' z1 z2=>?_⟩
   cases m with
   | zero =>
    rw [List.getElem?_cons_zero] at z1 z2
    cases z1
    cases z2
    exact L6 q (Cs e x h1)
   | succ m =>
    rw [List.getElem?_cons_succ] at z1 z2
    exact ih m w e' z1 z2
def bj (K:PySem.W.Frag):V -> List V -> Hp -> VK -> Prop:=fun x vs H Q=>∃ (l:Addr) (us:List V) (y:V) (d:PyData) (ds:List PyData) (j:Nat),x = .ref l /\ vs = [y] /\ Bg K H l us /\ Rp H d y /\ aG H ds us /\ d.depth <= 50 /\ (∃ e,ds[j]? = some e /\ PyData.eqv e d = true) /\ (∀ m e,m < j -> ds[m]? = some e -> PyData.eqv e d = false) /\ Q (.int (j:Nat)) H
theorem W5 (hr:Cq k X.A):kc X "list.index" (bj X.K):=by
 intro pins s σ H x vs v us Q I rx rv h
 obtain ⟨l,ys,y,d,ds,j,rfl,rfl,hq,hy,hall,hdep,⟨e0,hj,TQ⟩,mY,q⟩ := h
 cases rx
 obtain ⟨u,rfl,ru⟩ := rv.one
 obtain ⟨aD,r,pl,hz⟩ := I.list hq
 obtain ⟨⟨oc,od,PU,gZ⟩,n,e,hc,hd,hs⟩ := pl
 obtain rfl:oc = .type "list" := hc
 obtain rfl:PU = .seq aD.toArray n:=hs
 have hlen:=r.length
 have hu:=hr.units
 obtain ⟨sF,lM⟩ := Qu (d:=d) I hall r
 have hjn:j < ds.length:=(List.getElem?_eq_some_iff.mp hj).1
 have h63:=G8
 refine call_meets F.slot_list_index ⟨_,e,rfl⟩ F.entry_list_index (F.args_list_index_2 _ _) (PySem.SeqAt.list_indexAt l aD.toArray n od gZ u (Id s.heap d) j (by rw [List.size_toArray]; omega) ?_ ?_ ?_) ⟨e,fun z TC=>?_,?_⟩
 ·omega
 ·have hj2:j < aD.length:=by omega
  have e1:aD.toArray[j]'(by rw [List.size_toArray]; omega) = aD[j]:=by simp
  rw [e1,lM j aD[j] e0 (List.getElem?_eq_getElem hj2) hj]
  exact TQ
 ·intro m hm TF
  rw [List.size_toArray] at hm
  have e1:aD.toArray[m]'(by rw [List.size_toArray]; omega) = aD[m]:=by simp
  rw [e1,lM m aD[m] ds[m] (List.getElem?_eq_getElem hm) (List.getElem?_eq_getElem (by omega))]
  exact mY m _ TF (List.getElem?_eq_getElem (by omega))
 ·exact Ld I hy ru (by show X.A.units + 1 + d.depth < cLine; omega) hall r z (by simpa using TC)
 ·exact ⟨.int (j:Nat),H,I.tok _,⟨_,rfl⟩,q⟩
end
def oy:Expr -> Bool
 | .Starred _ _=>false
 | _=>true
section
variable {X:Cx} {e:Expr} {es:List Expr} {te:TE} {t:TA}
theorem F7 {u u':TE} (h:PE X e u) (hu:u = u':=by rfl):PE X e u':=hu ▸ h
theorem E2 {tg:Expr} {w w':TI} (h:PI X tg e w) (hw:w = w':=by rfl):PI X tg e w':=hw ▸ h
def mn (K:PySem.W.Frag):List V -> Hp -> VK -> Prop:=fun xs H Q=>∃ p ys,xs = [.ref p] /\ ((Bg K H p ys /\ ∀ l,H l = none -> Q (.ref l) (upd H l (.tup ys))) \/ (Bw K H p ys /\ Q (.ref p) H))
theorem Hb (K:PySem.W.Frag) (hK:X.K = K:=by rfl):Dy X (.type "tuple") (mn K):=by
 subst hK
 exact Mq
end
def I8:Bool -> Keyed -> Array Keyed -> Nat -> Nat -> Nat -> StateT SortSt Sem (Option Nat):=sortPriv% PySem.Builtin.gallop
def Z3:Array Keyed -> Array Keyed -> StateT SortSt Sem (Array Keyed):=sortPriv% PySem.Builtin.mergeLo
def Xq:Array Keyed -> Array Keyed -> StateT SortSt Sem (Array Keyed):=sortPriv% PySem.Builtin.mergeHi
def fa (f:Keyed -> Nat) (a:Array Keyed) (i:Nat):Nat:=match a[i]? with
 | some p=>f p
 | none=>0
theorem Au {f:Keyed -> Nat} {a:Array Keyed} {i:Nat} {p:Keyed} (h:a[i]? = some p):fa f a i = f p:=by unfold fa; rw [h]
theorem Eg {f:Keyed -> Nat} {a b:Array Keyed} {i j:Nat} (h:a[i]? = b[j]?):fa f a i = fa f b j:=by unfold fa; rw [h]
def Ht (f:Keyed -> Nat) (a:Array Keyed) (lo hi:Nat):Prop := ∀ i j,lo <= i -> i <= j -> j < hi -> fa f a i <= fa f a j
section
variable {prog:Program} {w:World} {A:Around} {E:Value -> Shared -> Prop} {s:Shared} {κ:SortKind} {f:Keyed -> Nat} {a₀:Array Keyed} {st:SortSt}
def I0 (prog:Program) (w:World) (A:Around) (s:Shared) (κ:SortKind) (f:Keyed -> Nat) (a₀:Array Keyed):Prop := ∀ x y,x ∈ a₀ -> y ∈ a₀ -> ∀ (Q:Bool -> Shared -> Prop) (E:Value -> Shared -> Prop),Q (decide (f x < f y)) s -> wpAny (model prog w) A (keyLt' κ x.1 y.1) Q E s
structure Bs (κ:SortKind) (a₀:Array Keyed) (st:SortSt):Prop where
 perm:(arrOf st).Perm a₀
 kind:kindOf st = κ
 failed:failedOf st = none
theorem Bs.size (h:Bs κ a₀ st):(arrOf st).size = a₀.size:=h.perm.size_eq
theorem Bs.mem (h:Bs κ a₀ st) {i:Nat} {p:Keyed} (e:(arrOf st)[i]? = some p):p ∈ a₀:=h.perm.mem_iff.mp (Array.mem_of_getElem? e)
theorem Mg (hA:I0 prog w A s κ f a₀) (hk:kindOf st = κ) {x y:Keyed} (hx:x ∈ a₀) (hy:y ∈ a₀) {Q:Option Bool -> SortSt -> Prop} (h:Q (some (decide (f x < f y))) st):wpS (model prog w) A E s (lt' x y) Q st:=by
 rw [lt'_eq]
 refine wpS_bind (wpS_get ?_)
 rw [hk]
 refine wpS_bind (wpS_lift (wpAny_attempt (hA x y hx hy _ _ ⟨rfl,?_⟩)))
 exact wpS_pure h
theorem B7 {a:Array Keyed} {i:Nat} {p:Keyed} (e:a[i]? = some p) {Q:Keyed -> SortSt -> Prop} (h:Q p st):wpS (model prog w) A E s (elem' a i) Q st:=by
 rw [elem'_eq,e]
 exact wpS_pure h
theorem C0 {a:Array Keyed} {i:Nat} (h:i < a.size):∃ p,a[i]? = some p:=⟨a[i],getElem?_pos a i h⟩
theorem Gx (hA:I0 prog w A s κ f a₀) (hB:Bs κ a₀ st) {i j:Nat} (hi:i < a₀.size) (hj:j < a₀.size) {Q:Option Bool -> SortSt -> Prop} (h:Q (some (decide (fa f (arrOf st) i < fa f (arrOf st) j))) st):wpS (model prog w) A E s (ltAt' i j) Q st:=by
 obtain ⟨p,ep⟩ := C0 (a:=arrOf st) (i:=i) (by rw [hB.size]; exact hi)
 obtain ⟨q,eq⟩ := C0 (a:=arrOf st) (i:=j) (by rw [hB.size]; exact hj)
 rw [Au ep,Au eq] at h
 rw [ltAt'_eq]
 refine wpS_bind (wpS_get ?_)
 exact wpS_bind (B7 ep (wpS_bind (B7 eq (Mg hA hB.kind (hB.mem ep) (hB.mem eq) h))))
theorem Sf (hA : I0 prog w A s κ f a₀) (hk : kindOf st = κ) {left : Bool} {key : Keyed} {arr : Array Keyed} {i : Nat} (bU : key ∈ a₀) (mD : ∀ p, p ∈ arr -> p ∈ a₀) (hi : i < arr.size) {Q : Option Bool -> SortSt -> Prop}
  (h:Q (some (if left = true then decide (fa f arr i < f key) else !decide (f key < fa f arr i))) st):wpS (model prog w) A E s (elem' arr i >>= fun x=>if left = true then lt' x key else lt' key x >>= fun r=>pure (r.map fun b=>!b)) Q st:=by
 obtain ⟨p,ep⟩ := C0 hi
 rw [Au ep] at h
 refine wpS_bind (B7 ep ?_)
 have hp:=mD p (Array.mem_of_getElem? ep)
 cases left with
 | true=>exact Mg hA hk hp bU h
 | false=>exact wpS_bind (Mg hA hk bU hp (wpS_pure h))
theorem Dm (hA : I0 prog w A s κ f a₀) (hk : kindOf st = κ) {left : Bool} {key : Keyed} {arr : Array Keyed} {base n hint : Nat} (bU : key ∈ a₀) (mD : ∀ p, p ∈ arr -> p ∈ a₀) (hn : base + n <= arr.size) (hh : hint < n) (hs : Ht f arr base (base + n)) {Q : Option Nat -> SortSt -> Prop}
  (h:∀ k,k <= n -> (∀ i,i < k -> if left = true then fa f arr (base + i) < f key else fa f arr (base + i) <= f key) -> (∀ i,k <= i -> i < n -> if left = true then f key <= fa f arr (base + i) else f key < fa f arr (base + i)) -> Q (some k) st):wpS (model prog w) A E s (I8 left key arr base n hint) Q st:=by
 obtain ⟨P,hP⟩ : ∃ P:Nat -> Bool,∀ i,P i = if left = true then decide (fa f arr (base + i) < f key) else !decide (f key < fa f arr (base + i)):=⟨_,fun _=>rfl⟩
 have mono:∀ i j,i <= j -> j < n -> P j = true -> P i = true:=fun i j h1 h2 h3=>by
  have h4:=hs (base + i) (base + j) (by omega) (by omega) (by omega)
  rw [hP] at h3 ⊢
  cases left <;> simp at h3 ⊢ <;> omega
 have tM:∀ i j,i <= j -> j < n -> P i = false -> P j = false:=fun i j h1 h2 h3=>by
  cases e:P j with
  | false=>rfl
  | true=>rw [mono i j h1 h2 e] at h3; cases h3
 have ask:∀ i,i < n -> ∀ {Q':Option Bool -> SortSt -> Prop},Q' (some (P i)) st -> wpS (model prog w) A E s (elem' arr (base + i) >>= fun x=>if left = true then lt' x key else lt' key x >>= fun r=>pure (r.map fun b=>!b)) Q' st:=fun i hi Q' hq=>by
  rw [hP] at hq
  exact Sf hA hk bU mD (by omega) hq
 have out:∀ k,k <= n -> (∀ i,i < k -> P i = true) -> (∀ i,k <= i -> i < n -> P i = false) -> Q (some k) st:=fun k h1 h2 h3=>by
  refine h k h1 (fun i hi=>?_) (fun i hi mZ=>?_)
  ·have:=h2 i hi
   rw [hP] at this
   cases left <;> simp at this ⊢ <;> omega
  ·have:=h3 i hi mZ
   rw [hP] at this
   cases left <;> simp at this ⊢ <;> omega
 refine wpS_bind (ask hint hh ?_)
 dsimp only
 cases hr:P hint with
 | true =>
  rw [if_pos rfl]
  refine wpS_bind (wpS_mono (wpS_forRange (I:=fun x c aE=>aE = st /\ ∃ l o,c = (none,l,o) /\ l < o /\ P (hint + l) = true /\ hint + l < n /\ x + 1 <= o) (Q:=fun c aE=>aE = st /\ ∃ l o,c = (none,l,o) /\ l < o /\ P (hint + l) = true /\ hint + l < n /\ (n - hint <= o \/ P (hint + o) = false)) ?_ ?_ ⟨rfl,0,1,rfl,by omega,hr,hh,by omega⟩) ?_)
  ·rintro x c aE _ hx ⟨rfl,l,o,rfl,h1,h2,h3,h4⟩
   dsimp only
   by_cases ho:o >= n - hint
   ·rw [if_pos ho]
    exact wpS_pure ⟨rfl,l,o,rfl,h1,h2,h3,.inl ho⟩
   ·rw [if_neg ho]
    refine wpS_bind (ask (hint + o) (by omega) ?_)
    dsimp only
    cases e:P (hint + o) with
    | false=>exact wpS_pure ⟨rfl,l,o,rfl,h1,h2,h3,.inr e⟩
    | true=>exact wpS_pure ⟨rfl,o,2 * o + 1,rfl,by omega,e,by omega,by omega⟩
  ·rintro c aE ⟨rfl,l,o,rfl,h1,h2,h3,h4⟩
   exact ⟨rfl,l,o,rfl,h1,h2,h3,.inl (by omega)⟩
  rintro c aE ⟨rfl,l,o,rfl,h1,h2,h3,h4⟩
  dsimp only
  refine wpS_bind (wpS_mono (wpS_forRange (I:=fun x c aL=>aL = aE /\ ∃ lo hi,c = (none,lo,hi) /\ lo <= hi /\ hi <= n /\ (∀ i,i < lo -> P i = true) /\ (∀ i,hi <= i -> i < n -> P i = false) /\ hi + x <= lo + n) (Q:=fun c aL=>aL = aE /\ ∃ k,c = (none,k,k) /\ k <= n /\ (∀ i,i < k -> P i = true) /\ (∀ i,k <= i -> i < n -> P i = false)) ?_ ?_ ⟨rfl,_,_,rfl,by omega,by omega,fun i hi=>?_,fun i hi mZ=>?_,by omega⟩) ?_)
  ·rintro x c aL _ hx ⟨rfl,lo,hi,rfl,g1,g2,g3,g4,g5⟩
   dsimp only
   by_cases ho:lo >= hi
   ·rw [if_pos ho]
    obtain rfl:lo = hi:=by omega
    exact wpS_pure ⟨rfl,lo,rfl,g2,g3,g4⟩
   ·rw [if_neg ho]
    refine wpS_bind (ask (lo + (hi - lo) / 2) (by omega) ?_)
    dsimp only
    cases e:P (lo + (hi - lo) / 2) with
    | false =>
     refine wpS_pure ⟨rfl,lo,_,rfl,by omega,by omega,g3,fun i HS mZ=>tM _ i HS mZ e,by omega⟩
    | true =>
     refine wpS_pure ⟨rfl,_,hi,rfl,by omega,g2,fun i HS=>mono i _ (by omega) (by omega) e,g4,by omega⟩
  ·rintro c aL ⟨rfl,lo,hi,rfl,g1,g2,g3,g4,g5⟩
   obtain rfl:lo = hi:=by omega
   exact ⟨rfl,lo,rfl,g2,g3,g4⟩
  ·exact mono i (hint + l) (by omega) h3 h2
  ·rcases h4 with h4 | h4
   ·omega
   ·by_cases z:n - hint <= o
    ·omega
    ·exact tM (hint + o) i (by omega) mZ h4
  rintro c aL ⟨rfl,k,rfl,g1,g2,g3⟩
  dsimp only
  exact wpS_pure (out k g1 g2 g3)
 | false =>
  rw [if_neg (by decide)]
  refine wpS_bind (wpS_mono (wpS_forRange (I:=fun x c aE=>aE = st /\ ∃ l o,c = (none,l,o) /\ l < o /\ P (hint - l) = false /\ l <= hint /\ x + 1 <= o) (Q:=fun c aE=>aE = st /\ ∃ l o,c = (none,l,o) /\ l < o /\ P (hint - l) = false /\ l <= hint /\ (hint + 1 <= o \/ P (hint - o) = true)) ?_ ?_ ⟨rfl,0,1,rfl,by omega,hr,by omega,by omega⟩) ?_)
  ·rintro x c aE _ hx ⟨rfl,l,o,rfl,h1,h2,h3,h4⟩
   dsimp only
   by_cases ho:o >= hint + 1
   ·rw [if_pos ho]
    exact wpS_pure ⟨rfl,l,o,rfl,h1,h2,h3,.inl ho⟩
   ·rw [if_neg ho]
    refine wpS_bind (ask (hint - o) (by omega) ?_)
    dsimp only
    cases e:P (hint - o) with
    | true=>exact wpS_pure ⟨rfl,l,o,rfl,h1,h2,h3,.inr e⟩
    | false=>exact wpS_pure ⟨rfl,o,2 * o + 1,rfl,by omega,e,by omega,by omega⟩
  ·rintro c aE ⟨rfl,l,o,rfl,h1,h2,h3,h4⟩
   exact ⟨rfl,l,o,rfl,h1,h2,h3,.inl (by omega)⟩
  rintro c aE ⟨rfl,l,o,rfl,h1,h2,h3,h4⟩
  dsimp only
  refine wpS_bind (wpS_mono (wpS_forRange (I:=fun x c aL=>aL = aE /\ ∃ lo hi,c = (none,lo,hi) /\ lo <= hi /\ hi <= n /\ (∀ i,i < lo -> P i = true) /\ (∀ i,hi <= i -> i < n -> P i = false) /\ hi + x <= lo + n) (Q:=fun c aL=>aL = aE /\ ∃ k,c = (none,k,k) /\ k <= n /\ (∀ i,i < k -> P i = true) /\ (∀ i,k <= i -> i < n -> P i = false)) ?_ ?_ ⟨rfl,_,_,rfl,by omega,by omega,fun i hi=>?_,fun i hi mZ=>?_,by omega⟩) ?_)
  ·rintro x c aL _ hx ⟨rfl,lo,hi,rfl,g1,g2,g3,g4,g5⟩
   dsimp only
   by_cases ho:lo >= hi
   ·rw [if_pos ho]
    obtain rfl:lo = hi:=by omega
    exact wpS_pure ⟨rfl,lo,rfl,g2,g3,g4⟩
   ·rw [if_neg ho]
    refine wpS_bind (ask (lo + (hi - lo) / 2) (by omega) ?_)
    dsimp only
    cases e:P (lo + (hi - lo) / 2) with
    | false =>
     refine wpS_pure ⟨rfl,lo,_,rfl,by omega,by omega,g3,fun i HS mZ=>tM _ i HS mZ e,by omega⟩
    | true =>
     refine wpS_pure ⟨rfl,_,hi,rfl,by omega,g2,fun i HS=>mono i _ (by omega) (by omega) e,g4,by omega⟩
  ·rintro c aL ⟨rfl,lo,hi,rfl,g1,g2,g3,g4,g5⟩
   obtain rfl:lo = hi:=by omega
   exact ⟨rfl,lo,rfl,g2,g3,g4⟩
  ·rcases h4 with h4 | h4
   ·omega
   ·by_cases z:hint + 1 <= o
    ·omega
    ·exact mono i (hint - o) (by omega) (by omega) h4
  ·exact tM (hint - l) i (by omega) mZ h2
  rintro c aL ⟨rfl,k,rfl,g1,g2,g3⟩
  dsimp only
  exact wpS_pure (out k g1 g2 g3)
end
section
variable {f:Keyed -> Nat}
def Dh (f:Keyed -> Nat) (l:List Keyed):Prop:=l.Pairwise fun p q=>f p <= f q
def Hf (f:Keyed -> Nat) (l m:List Keyed):Prop := ∀ p ∈ l,∀ q ∈ m,f p <= f q
theorem He {l m:List Keyed} (h1:Dh f l) (h2:Dh f m) (h3:Hf f l m):Dh f (l ++ m):=List.pairwise_append.mpr ⟨h1,h2,h3⟩
theorem Gn {l:List Keyed} (h:Dh f l) (n:Nat):Dh f (l.drop n):=h.sublist (List.drop_sublist n l)
theorem Gq {l:List Keyed} (h:Dh f l) (n:Nat):Dh f (l.take n):=h.sublist (List.take_sublist n l)
theorem Lj {l:List Keyed} (h:Dh f l) {i j:Nat} {p q:Keyed} (hi:l[i]? = some p) (hj:l[j]? = some q) (xB:i <= j):f p <= f q:=by
 obtain ⟨h1,e1⟩ := List.getElem?_eq_some_iff.mp hi
 obtain ⟨h2,e2⟩ := List.getElem?_eq_some_iff.mp hj
 rcases Nat.lt_or_ge i j with z | z
 ·have:=List.pairwise_iff_getElem.mp h i j h1 h2 z
  rw [e1,e2] at this
  exact this
 ·obtain rfl:i = j:=by omega
  rw [e1] at e2
  rw [e2]
  exact Nat.le_refl _
theorem Ep {l:List Keyed} {i:Nat} {p:Keyed} (h:p ∈ l.drop i):∃ j,l[i + j]? = some p:=by
 obtain ⟨j,hj⟩ := List.mem_iff_getElem?.mp h
 rw [List.getElem?_drop] at hj
 exact ⟨j,hj⟩
theorem Eb {l:List Keyed} {i k:Nat} {p:Keyed} (h:p ∈ (l.drop i).take k):∃ j,j < k /\ l[i + j]? = some p:=by
 obtain ⟨j,hj⟩ := List.mem_iff_getElem?.mp h
 have hjk:j < k:=by
  have:=(List.getElem?_eq_some_iff.mp hj).1
  rw [List.length_take] at this
  omega
 rw [List.getElem?_take_of_lt hjk,List.getElem?_drop] at hj
 exact ⟨j,hjk,hj⟩
def MI (f:Keyed -> Nat) (x y:List Keyed) (i j:Nat) (o:List Keyed):Prop:=o.Perm (x.take i ++ y.take j) /\ Dh f o /\ Hf f o (x.drop i ++ y.drop j)
theorem Oc (l:List Keyed) (i k:Nat):l.take (i + k) = l.take i ++ (l.drop i).take k:=by rw [List.take_add]
theorem Hk (l:List Keyed) (i k:Nat):l.drop i = (l.drop i).take k ++ l.drop (i + k):=by
 have:=(List.take_append_drop k (l.drop i)).symm
 rw [List.drop_drop] at this
 exact this
theorem MI.jM {x y o:List Keyed} {i j k:Nat} (h:MI f x y i j o) (hx:Dh f x) (hle:Hf f ((x.drop i).take k) (y.drop j)):MI f x y (i + k) j (o ++ (x.drop i).take k):=by
 obtain ⟨h1,h2,h3⟩ := h
 have hd:=Hk x i k
 refine ⟨?_,?_,?_⟩
 ·rw [Oc]
  refine (h1.append_right _).trans ?_
  rw [List.append_assoc,List.append_assoc]
  exact List.Perm.append_left _ List.perm_append_comm
 ·refine He h2 (Gq (Gn hx i) k) fun p hp q hq=>h3 p hp q (List.mem_append_left _ (List.mem_of_mem_take hq))
 ·intro p hp q hq
  rcases List.mem_append.mp hp with z | z
  ·rcases List.mem_append.mp hq with y' | y'
   ·refine h3 p z q (List.mem_append_left _ ?_)
    rw [hd]
    exact List.mem_append_right _ y'
   ·exact h3 p z q (List.mem_append_right _ y')
  ·rcases List.mem_append.mp hq with y' | y'
   ·have hs:=Gn hx i
    rw [hd] at hs
    exact (List.pairwise_append.mp hs).2.2 p z q y'
   ·exact hle p z q y'
theorem MI.swap {x y o:List Keyed} {i j:Nat} (h:MI f x y i j o):MI f y x j i o:=⟨h.1.trans List.perm_append_comm,h.2.1,fun p hp q hq=>h.2.2 p hp q (List.perm_append_comm.mem_iff.mp hq)⟩
theorem MI.HU {x y o:List Keyed} {i j k:Nat} (h:MI f x y i j o) (hy:Dh f y) (hle:Hf f ((y.drop j).take k) (x.drop i)):MI f x y i (j + k) (o ++ (y.drop j).take k):=(h.swap.jM hy hle).swap
def Co (f:Keyed -> Nat) (x y r:List Keyed):Prop:=r.Perm (x ++ y) /\ Dh f r
theorem MI.done {x y o:List Keyed} {i j:Nat} (h:MI f x y i j o) (hx:Dh f x) (hy:Dh f y) (hle:Hf f (x.drop i) (y.drop j)):Co f x y (o ++ x.drop i ++ y.drop j):=by
 obtain ⟨h1,h2,h3⟩ := h
 refine ⟨?_,?_⟩
 ·rw [List.append_assoc]
  refine (h1.append_right _).trans ?_
  have e:x ++ y = (x.take i ++ x.drop i) ++ (y.take j ++ y.drop j):=by rw [List.take_append_drop,List.take_append_drop]
  rw [e,List.append_assoc,List.append_assoc]
  refine List.Perm.append_left _ ?_
  rw [<- List.append_assoc,<- List.append_assoc]
  exact List.Perm.append_right _ List.perm_append_comm
 ·rw [List.append_assoc]
  exact He h2 (He (Gn hx i) (Gn hy j) hle) h3
theorem MI.nU {x y o:List Keyed} {i j:Nat} (h:MI f x y i j o) (hx:Dh f x) (hy:Dh f y) (hle:Hf f (y.drop j) (x.drop i)):Co f x y (o ++ y.drop j ++ x.drop i):=by
 obtain ⟨g1,g2⟩ := h.swap.done hy hx hle
 exact ⟨g1.trans List.perm_append_comm,g2⟩
theorem Px {l:List Keyed} {i:Nat} {p:Keyed} (h:l[i]? = some p):(l.drop i).take 1 = [p]:=by
 obtain ⟨h1,e⟩ := List.getElem?_eq_some_iff.mp h
 rw [List.drop_eq_getElem_cons h1,e]
 rfl
theorem MI.uV {x y o:List Keyed} {i j:Nat} {p q:Keyed} (h:MI f x y i j o) (hx:Dh f x) (hy:Dh f y) (hp:x[i]? = some p) (hq:y[j]? = some q) (hle:f p <= f q):MI f x y (i + 1) j (o ++ [p]):=by
 rw [<- Px hp]
 refine h.jM hx fun a ha b hb=>?_
 rw [Px hp] at ha
 cases List.mem_singleton.mp ha
 obtain ⟨k,hk⟩ := Ep hb
 exact Nat.le_trans hle (Lj hy hq hk (by omega))
theorem MI.HV {x y o:List Keyed} {i j:Nat} {p q:Keyed} (h:MI f x y i j o) (hx:Dh f x) (hy:Dh f y) (hp:x[i]? = some p) (hq:y[j]? = some q) (hle:f q <= f p):MI f x y i (j + 1) (o ++ [q]):=(h.swap.uV hy hx hq hp hle).swap
end
section
variable {f:Keyed -> Nat} {a b o:Array Keyed} {i j k:Nat}
theorem Kr (a:Array Keyed) (i:Nat):(a.extract i).toList = a.toList.drop i:=by
 rw [Array.toList_extract]
 show (a.toList.drop i).take (a.size - i) = _
 rw [List.take_of_length_le (by rw [List.length_drop,Array.length_toList]; omega)]
theorem Gz (a:Array Keyed) (i k:Nat):(a.extract i (i + k)).toList = (a.toList.drop i).take k:=by
 simp [List.extract]
theorem Oq (a:Array Keyed) (k:Nat):(a.extract 0 k).toList = a.toList.take k:=by simp
theorem MI.aZ (h:MI f a.toList b.toList i j o.toList) (hx:Dh f a.toList) (hy:Dh f b.toList) (e:j = b.size \/ i = a.size):Co f a.toList b.toList (o ++ a.extract i ++ b.extract j).toList:=by
 rw [Array.toList_append,Array.toList_append,Kr,Kr]
 refine h.done hx hy ?_
 rcases e with e | e
 ·rw [List.drop_of_length_le (l:=b.toList) (by rw [Array.length_toList]; omega)]
  intro p _ q hq
  cases hq
 ·rw [List.drop_of_length_le (l:=a.toList) (by rw [Array.length_toList]; omega)]
  intro p hp
  cases hp
theorem MI.fK (h:MI f a.toList b.toList i j o.toList) (hx:Dh f a.toList) (hy:Dh f b.toList) (e:i + 1 = a.size) (hl:∀ q ∈ b.toList,f q <= fa f a i):Co f a.toList b.toList (o ++ b.extract j ++ a.extract i).toList:=by
 rw [Array.toList_append,Array.toList_append,Kr,Kr]
 refine h.nU hx hy fun p hp q hq=>?_
 obtain ⟨m,hm⟩ := Ep hq
 have aN:=(List.getElem?_eq_some_iff.mp hm).1
 rw [Array.length_toList] at aN
 obtain rfl:m = 0:=by omega
 have h1:=hl p (List.mem_of_mem_drop hp)
 rw [Nat.add_zero,Array.getElem?_toList] at hm
 rw [Au hm] at h1
 exact h1
theorem MI.fP (h:MI f a.toList b.toList i j o.toList) (hx:Dh f a.toList) (hy:Dh f b.toList) {p:Keyed} (hp:a[i]? = some p) (hj:j < b.size) (hle:f p <= fa f b j):MI f a.toList b.toList (i + 1) j (o.push p).toList:=by
 obtain ⟨q,hq⟩ := C0 hj
 rw [Au hq] at hle
 rw [Array.toList_push]
 exact h.uV hx hy (by rw [Array.getElem?_toList]; exact hp) (by rw [Array.getElem?_toList]; exact hq) hle
theorem MI.hJ (h:MI f a.toList b.toList i j o.toList) (hx:Dh f a.toList) (hy:Dh f b.toList) {q:Keyed} (hq:b[j]? = some q) (hi:i < a.size) (hle:f q <= fa f a i):MI f a.toList b.toList i (j + 1) (o.push q).toList:=by
 obtain ⟨p,hp⟩ := C0 hi
 rw [Au hp] at hle
 rw [Array.toList_push]
 exact h.HV hx hy (by rw [Array.getElem?_toList]; exact hp) (by rw [Array.getElem?_toList]; exact hq) hle
theorem MI.nV (h:MI f a.toList b.toList i j o.toList) (hx:Dh f a.toList) (hy:Dh f b.toList) {q:Keyed} (hq:b[j]? = some q) (hle:∀ m,m < k -> fa f a (i + m) <= f q):MI f a.toList b.toList (i + k) j (o ++ a.extract i (i + k)).toList:=by
 rw [Array.toList_append,Gz]
 refine h.jM hx fun x mX y nJ=>?_
 obtain ⟨m,hm,e⟩ := Eb mX
 obtain ⟨m2,e2⟩ := Ep nJ
 have h1:=hle m hm
 rw [Array.getElem?_toList] at e
 rw [Au e] at h1
 exact Nat.le_trans h1 (Lj hy (by rw [Array.getElem?_toList]; exact hq) e2 (by omega))
theorem MI.xH (h:MI f a.toList b.toList i j o.toList) (hx:Dh f a.toList) (hy:Dh f b.toList) {p:Keyed} (hp:a[i]? = some p) (hle:∀ m,m < k -> fa f b (j + m) <= f p):MI f a.toList b.toList i (j + k) (o ++ b.extract j (j + k)).toList:=by
 rw [Array.toList_append,Gz]
 refine h.HU hy fun x mX y nJ=>?_
 obtain ⟨m,hm,e⟩ := Eb mX
 obtain ⟨m2,e2⟩ := Ep nJ
 have h1:=hle m hm
 rw [Array.getElem?_toList] at e
 rw [Au e] at h1
 exact Nat.le_trans h1 (Lj hx (by rw [Array.getElem?_toList]; exact hp) e2 (by omega))
theorem Kn (h:Dh f a.toList) {lo hi:Nat} (hh:hi <= a.size):Ht f a lo hi:=fun i j h1 h2 h3=>by
 obtain ⟨p,hp⟩ := C0 (a:=a) (i:=i) (by omega)
 obtain ⟨q,hq⟩ := C0 (a:=a) (i:=j) (by omega)
 rw [Au hp,Au hq]
 exact Lj h (by rw [Array.getElem?_toList]; exact hp) (by rw [Array.getElem?_toList]; exact hq) h2
theorem Eu {m n:Nat} (h:m = n):(m == n) = true:=by simp [h]
theorem Et {m n:Nat} (h:¬ m = n):¬ (m == n) = true:=by simp [h]
end
section
variable {prog:Program} {w:World} {A:Around} {E:Value -> Shared -> Prop} {s:Shared} {κ:SortKind} {f:Keyed -> Nat} {a₀:Array Keyed} {st:SortSt}
def Gs (st aE:SortSt):Prop := ∃ g,aE = SortSt.mk' (kindOf st) (arrOf st) (pendingOf st) g (failedOf st)
theorem Gs.refl:Gs st st:=⟨gallopOf st,rfl⟩
theorem Zv {σ β:Type} {M:Model} {c:Prop} [Decidable c] {Q:β -> σ -> Prop} {st:σ} {g:Nat -> StateT σ Sem β} {X Y:StateT σ Sem β} (y x:Nat) (ey:Y = g y) (ex:X = g x) (h:∀ z,wpS M A E s (g z) Q st):wpS M A E s (if c then X else Y) Q st:=by
 subst ey ex
 split
 ·exact h x
 ·exact h y
theorem Ko {σ β:Type} {M:Model} {c:Prop} [Decidable c] {Q:β -> σ -> Prop} {st:σ} {g:Array Keyed -> Nat -> StateT σ Sem β} {X Y:StateT σ Sem β} (P:Array Keyed -> Nat -> Prop) (o:Array Keyed) (i:Nat) (ey:Y = g o i) (hy:¬ c -> P o i) (hx:c -> (∀ o i,P o i -> wpS M A E s (g o i) Q st) -> wpS M A E s X Q st) (h:∀ o i,P o i -> wpS M A E s (g o i) Q st):wpS M A E s (if c then X else Y) Q st:=by
 subst ey
 split
 ·rename_i z
  exact hx z h
 ·rename_i z
  exact h o i (hy z)
theorem Rf (hA : I0 prog w A s κ f a₀) (hk : kindOf st = κ) {a b : Array Keyed} (ha : ∀ p, p ∈ a -> p ∈ a₀) (hb : ∀ p, p ∈ b -> p ∈ a₀) (hx : Dh f a.toList) (hy : Dh f b.toList) (ha0 : 0 < a.size) (sJ : 0 < b.size)
  (dN:fa f b 0 <= fa f a 0) (hU:∀ q ∈ b.toList,f q <= fa f a (a.size - 1)) {Q:Array Keyed -> SortSt -> Prop} (h:∀ r aE,Gs st aE -> Co f a.toList b.toList r.toList -> Q r aE):wpS (model prog w) A E s (Z3 a b) Q st:=by
 have last:∀ i,i + 1 = a.size -> ∀ q ∈ b.toList,f q <= fa f a i:=fun i hi q hq=>by
  have:=hU q hq
  rwa [show a.size - 1 = i by omega] at this
 have eK:∀ g,kindOf (SortSt.mk' (kindOf st) (arrOf st) (pendingOf st) g (failedOf st)) = κ:=fun g=>hk
 obtain ⟨q0,TR⟩ := C0 sJ
 refine wpS_bind (wpS_lift (wpAny_rule ⟨rfl,?_⟩))
 refine wpS_bind (B7 TR ?_)
 have M0:MI f a.toList b.toList 0 0 (#[]:Array Keyed).toList:=⟨by simp,List.Pairwise.nil,fun p hp=>by cases hp⟩
 have M1:=M0.hJ hx hy TR ha0 (by rw [Au TR] at dN; exact dN)
 rw [show (#[]:Array Keyed).push q0 = #[q0] from rfl] at M1
 dsimp -zeta only
 by_cases e1:0 + 1 = b.size
 ·rw [if_pos (Eu e1)]
  exact wpS_pure (h _ _ Gs.refl (M1.aZ hx hy (.inl e1)))
 rw [if_neg (Et e1)]
 by_cases e2:0 + 1 = a.size
 ·rw [if_pos (Eu e2)]
  exact wpS_pure (h _ _ Gs.refl (M1.fK hx hy e2 (last 0 e2)))
 rw [if_neg (Et e2)]
 refine wpS_bind (wpS_get ?_)
 refine wpS_bind (wpS_mono (wpS_forRange (I:=fun x c aE=>Gs st aE /\ ∃ o ia ib g,c = (none,o,ia,ib,g) /\ MI f a.toList b.toList ia ib o.toList /\ ia + 1 < a.size /\ ib < b.size /\ x + 1 <= ia + ib)
  (Q:=fun c aE=>Gs st aE /\ ∃ r z,c = (some r,z) /\ Co f a.toList b.toList r.toList) ?_ ?_ ⟨Gs.refl,_,_,_,_,rfl,M1,by omega,by omega,by omega⟩) ?_)
 ·rintro x c bK _ mX ⟨G1,o,ia,ib,g,rfl,M,h1,h2,h3⟩
  dsimp -zeta only
  refine wpS_bind (wpS_mono (wpS_forRange (I:=fun y c aE=>Gs st aE /\ ∃ o ia ib ac bc,c = (none,o,ia,ib,ac,bc) /\ MI f a.toList b.toList ia ib o.toList /\ ia + 1 < a.size /\ ib < b.size /\ x + 1 + y <= ia + ib)
   (Q:=fun c aE=>Gs st aE /\ ((∃ r z,c = (some r,z) /\ Co f a.toList b.toList r.toList) \/ ∃ o ia ib ac bc,c = (none,o,ia,ib,ac,bc) /\ MI f a.toList b.toList ia ib o.toList /\ ia + 1 < a.size /\ ib < b.size /\ x + 2 <= ia + ib)) ?_ ?_ ⟨G1,_,_,_,_,_,rfl,M,h1,h2,by omega⟩) ?_)
  ·clear M h1 h2 h3 G1
   rintro y c bK _ nJ ⟨G1,o,ia,ib,ac,bc,rfl,M,h1,h2,h3⟩
   obtain ⟨gx,rfl⟩ := G1
   obtain ⟨q,hq⟩ := C0 h2
   obtain ⟨p,hp⟩ := C0 (a:=a) (i:=ia) (by omega)
   dsimp -zeta only
   refine wpS_bind (B7 hq (wpS_bind (B7 hp (wpS_bind (Mg hA (eK gx) (hb q (Array.mem_of_getElem? hq)) (ha p (Array.mem_of_getElem? hp)) ?_)))))
   dsimp -zeta only
   by_cases z:f q < f p
   ·rw [if_pos (decide_eq_true z)]
    have M2:=M.hJ hx hy hq (by omega) (by rw [Au hp]; omega)
    refine wpS_bind (B7 hq ?_)
    by_cases e:ib + 1 = b.size
    ·rw [if_pos (Eu e)]
     exact wpS_pure ⟨⟨_,rfl⟩,.inl ⟨_,_,rfl,M2.aZ hx hy (.inl e)⟩⟩
    rw [if_neg (Et e)]
    split
    ·exact wpS_pure ⟨⟨_,rfl⟩,.inr ⟨_,_,_,_,_,rfl,M2,h1,by omega,by omega⟩⟩
    ·exact wpS_pure ⟨⟨_,rfl⟩,_,_,_,_,_,rfl,M2,h1,by omega,by omega⟩
   ·rw [if_neg (by rw [decide_eq_true_eq]; exact z)]
    have M2:=M.fP hx hy hp h2 (by rw [Au hq]; omega)
    refine wpS_bind (B7 hp ?_)
    by_cases e:ia + 1 + 1 = a.size
    ·rw [if_pos (Eu e)]
     exact wpS_pure ⟨⟨_,rfl⟩,.inl ⟨_,_,rfl,M2.fK hx hy e (last _ e)⟩⟩
    rw [if_neg (Et e)]
    split
    ·exact wpS_pure ⟨⟨_,rfl⟩,.inr ⟨_,_,_,_,_,rfl,M2,by omega,h2,by omega⟩⟩
    ·exact wpS_pure ⟨⟨_,rfl⟩,_,_,_,_,_,rfl,M2,by omega,h2,by omega⟩
  ·rintro c aE ⟨G1,o,ia,ib,ac,bc,rfl,M,h1,h2,h3⟩
   exact ⟨G1,.inr ⟨o,ia,ib,ac,bc,rfl,M,h1,h2,by omega⟩⟩
  clear M h1 h2 h3 G1
  rintro c aL ⟨G2,⟨r,z,rfl,J⟩ | ⟨o,ia,ib,ac,bc,rfl,M,h1,h2,h3⟩⟩
  ·dsimp -zeta only
   exact wpS_pure ⟨G2,r,_,rfl,J⟩
  dsimp -zeta only
  refine wpS_bind (wpS_lift (wpAny_rule ⟨rfl,?_⟩))
  refine wpS_bind (wpS_mono (wpS_forRange (I:=fun y c aE=>Gs st aE /\ ∃ o ia ib mg ac bc,c = (none,o,ia,ib,mg,ac,bc) /\ MI f a.toList b.toList ia ib o.toList /\ ia + 1 < a.size /\ ib < b.size /\ x + 2 <= ia + ib)
   (Q:=fun c aE=>Gs st aE /\ ((∃ r z,c = (some r,z) /\ Co f a.toList b.toList r.toList) \/ ∃ o ia ib mg ac bc,c = (none,o,ia,ib,mg,ac,bc) /\ MI f a.toList b.toList ia ib o.toList /\ ia + 1 < a.size /\ ib < b.size /\ x + 2 <= ia + ib)) ?_ ?_ ⟨G2,_,_,_,_,_,_,rfl,M,h1,h2,h3⟩) ?_)
  ·clear M h1 h2 h3 G2
   rintro y c bK _ nJ ⟨G1,o,ia,ib,mg,ac,bc,rfl,M,h1,h2,h3⟩
   obtain ⟨gx,rfl⟩ := G1
   obtain ⟨q,hq⟩ := C0 h2
   dsimp -zeta only
   have ga : ∀ {Q' : Option Nat -> SortSt -> Prop} {mg}, (∀ k, ia + k <= a.size -> (∀ m, m < k -> fa f a (ia + m) <= f q) -> (∀ m, k <= m -> ia + m < a.size -> f q < fa f a (ia + m)) -> Q' (some k) (SortSt.mk' (kindOf st) (arrOf st) (pendingOf st) mg (failedOf st))) ->
     wpS (model prog w) A E s (I8 false q a ia (a.size - ia) 0) Q' (SortSt.mk' (kindOf st) (arrOf st) (pendingOf st) mg (failedOf st)):=fun {Q'} {mg} lW=>by
    refine Dm hA (eK mg) (hb q (Array.mem_of_getElem? hq)) ha (by omega) (by omega) (Kn hx (by omega)) fun k g1 g2 g3=>lW k (by omega) (fun m hm=>?_) (fun m jY kH=>?_)
    ·have:=g2 m hm
     simpa using this
    ·have:=g3 m jY (by omega)
     simpa using this
   have gb : ∀ {Q' : Option Nat -> SortSt -> Prop} {mg i j p}, a[i]? = some p -> j < b.size -> (∀ k, j + k <= b.size -> (∀ m, m < k -> fa f b (j + m) <= f p) -> (∀ m, k <= m -> j + m < b.size -> f p <= fa f b (j + m)) -> Q' (some k) (SortSt.mk' (kindOf st) (arrOf st) (pendingOf st) mg (failedOf st))) ->
     wpS (model prog w) A E s (I8 true p b j (b.size - j) 0) Q' (SortSt.mk' (kindOf st) (arrOf st) (pendingOf st) mg (failedOf st)):=fun {Q'} {mg i j p} hp hj lW=>by
    refine Dm hA (eK mg) (ha p (Array.mem_of_getElem? hp)) hb (by omega) (by omega) (Kn hy (by omega)) fun k g1 g2 g3=>lW k (by omega) (fun m hm=>?_) (fun m jY kH=>?_)
    ·have:=g2 m hm
     simp at this
     omega
    ·have:=g3 m jY (by omega)
     simpa using this
   dsimp only
   apply Zv mg (mg - 1) (Eq.refl _) (Eq.refl _)
   intro mg
   refine wpS_bind (wpS_modify ?_)
   refine wpS_bind (B7 hq (wpS_bind (ga fun k g1 g2 g3=>?_)))
   dsimp only
   apply Ko (fun o2 i2=>MI f a.toList b.toList i2 ib o2.toList /\ i2 + 1 < a.size /\ f q < fa f a i2 /\ ia <= i2) o ia (Eq.refl _) (fun z=>⟨M,h1,g3 0 (by omega) (by omega),Nat.le_refl _⟩)
   ·intro z K
    have M2:=M.nV hx hy hq g2
    by_cases e:ia + k + 1 = a.size
    ·rw [if_pos (Eu e)]
     exact wpS_pure ⟨⟨_,rfl⟩,.inl ⟨_,_,rfl,M2.fK hx hy e (last _ e)⟩⟩
    rw [if_neg (Et e)]
    by_cases e':ia + k = a.size
    ·rw [if_pos (Eu e')]
     exact wpS_pure ⟨⟨_,rfl⟩,.inl ⟨_,_,rfl,M2.aZ hx hy (.inr e')⟩⟩
    rw [if_neg (Et e')]
    exact K _ _ ⟨M2,by omega,g3 k (Nat.le_refl _) (by omega),by omega⟩
   rintro o2 i2 ⟨M2,mZ,g3',hle⟩
   clear g1 g2 g3 M h1
   refine wpS_bind (B7 hq ?_)
   have M3:=M2.hJ hx hy hq (by omega) (Nat.le_of_lt g3')
   generalize hib:ib + 1 = TU at M3 ⊢
   generalize o2.push q = o3 at M3 ⊢
   by_cases e:TU = b.size
   ·rw [if_pos (Eu e)]
    exact wpS_pure ⟨⟨_,rfl⟩,.inl ⟨_,_,rfl,M3.aZ hx hy (.inl e)⟩⟩
   rw [if_neg (Et e)]
   obtain ⟨p,hp⟩ := C0 (a:=a) (i:=i2) (by omega)
   refine wpS_bind (B7 hp (wpS_bind (gb hp (by omega) fun k2 c1 c2 c3=>?_)))
   dsimp only
   apply Ko (fun o3 j3=>MI f a.toList b.toList i2 j3 o3.toList /\ j3 < b.size /\ f p <= fa f b j3 /\ ib < j3) o3 TU (Eq.refl _) (fun z=>⟨M3,by omega,c3 0 (by omega) (by omega),by omega⟩)
   ·intro z K
    have M4:=M3.xH hx hy hp c2
    by_cases e4:TU + k2 = b.size
    ·rw [if_pos (Eu e4)]
     exact wpS_pure ⟨⟨_,rfl⟩,.inl ⟨_,_,rfl,M4.aZ hx hy (.inl e4)⟩⟩
    rw [if_neg (Et e4)]
    exact K _ _ ⟨M4,by omega,c3 k2 (Nat.le_refl _) (by omega),by omega⟩
   rintro o4 j3 ⟨M4,hj,c4,aN⟩
   clear c1 c2 c3 M3 M2
   refine wpS_bind (B7 hp ?_)
   have M5:=M4.fP hx hy hp hj c4
   by_cases e5:i2 + 1 + 1 = a.size
   ·rw [if_pos (Eu e5)]
    exact wpS_pure ⟨⟨_,rfl⟩,.inl ⟨_,_,rfl,M5.fK hx hy e5 (last _ e5)⟩⟩
   rw [if_neg (Et e5)]
   split
   ·exact wpS_pure ⟨⟨_,rfl⟩,.inr ⟨_,_,_,_,_,_,rfl,M5,by omega,hj,by omega⟩⟩
   ·exact wpS_pure ⟨⟨_,rfl⟩,_,_,_,_,_,_,rfl,M5,by omega,hj,by omega⟩
  ·rintro c aE ⟨G1,o,ia,ib,mg,ac,bc,rfl,M,h1,h2,h3⟩
   exact ⟨G1,.inr ⟨o,ia,ib,mg,ac,bc,rfl,M,h1,h2,h3⟩⟩
  clear M h1 h2 h3 G2
  rintro c aL ⟨G2,⟨r,z,rfl,J⟩ | ⟨o,ia,ib,mg,ac,bc,rfl,M,h1,h2,h3⟩⟩
  ·dsimp -zeta only
   exact wpS_pure ⟨G2,r,_,rfl,J⟩
  dsimp -zeta only
  obtain ⟨gx,rfl⟩ := G2
  refine wpS_bind (wpS_modify ?_)
  exact wpS_pure ⟨⟨_,rfl⟩,_,_,_,_,rfl,M,h1,h2,by omega⟩
 ·rintro c aE ⟨G1,o,ia,ib,g,rfl,M,h1,h2,h3⟩
  exfalso
  omega
 rintro c aE ⟨G1,r,z,rfl,J⟩
 dsimp -zeta only
 exact wpS_pure (h _ _ G1 J)
end
section
variable {f:Keyed -> Nat}
def MH (f:Keyed -> Nat) (x y:List Keyed) (i j:Nat) (o:List Keyed):Prop:=o.reverse.Perm (x.drop i ++ y.drop j) /\ Dh f o.reverse /\ Hf f (x.take i ++ y.take j) o.reverse
theorem MH.swap {x y o:List Keyed} {i j:Nat} (h:MH f x y i j o):MH f y x j i o:=⟨h.1.trans List.perm_append_comm,h.2.1,fun p hp=>h.2.2 p (List.perm_append_comm.mem_iff.mp hp)⟩
theorem MH.jM {x y o:List Keyed} {i j k:Nat} (h:MH f x y (i + k) j o) (hx:Dh f x) (hle:Hf f (y.take j) ((x.drop i).take k)):MH f x y i j (o ++ ((x.drop i).take k).reverse):=by
 obtain ⟨h1,h2,h3⟩ := h
 have hd:=Hk x i k
 have ht:=Oc x i k
 have e:(o ++ ((x.drop i).take k).reverse).reverse = (x.drop i).take k ++ o.reverse:=by rw [List.reverse_append,List.reverse_reverse]
 have hsx:Dh f (x.take (i + k)):=Gq hx _
 rw [ht] at hsx
 unfold MH
 rw [e]
 refine ⟨?_,?_,?_⟩
 ·refine (List.Perm.append_left _ h1).trans ?_
  rw [<- List.append_assoc,<- hd]
 ·refine He (Gq (Gn hx i) k) h2 fun p hp q hq=>h3 p (List.mem_append_left _ ?_) q hq
  rw [ht]
  exact List.mem_append_right _ hp
 ·intro p hp q hq
  rcases List.mem_append.mp hp with z | z
  ·rcases List.mem_append.mp hq with y' | y'
   ·exact (List.pairwise_append.mp hsx).2.2 p z q y'
   ·refine h3 p (List.mem_append_left _ ?_) q y'
    rw [ht]
    exact List.mem_append_left _ z
  ·rcases List.mem_append.mp hq with y' | y'
   ·exact hle p z q y'
   ·exact h3 p (List.mem_append_right _ z) q y'
theorem MH.done {x y o:List Keyed} {i j:Nat} (h:MH f x y i j o) (hx:Dh f x) (hy:Dh f y) (hle:Hf f (x.take i) (y.take j)):Co f x y (x.take i ++ y.take j ++ o.reverse):=by
 obtain ⟨h1,h2,h3⟩ := h
 refine ⟨?_,He (He (Gq hx i) (Gq hy j) hle) h2 h3⟩
 refine (List.Perm.append_left _ h1).trans ?_
 have e:x ++ y = (x.take i ++ x.drop i) ++ (y.take j ++ y.drop j):=by rw [List.take_append_drop,List.take_append_drop]
 rw [e,List.append_assoc,List.append_assoc]
 refine List.Perm.append_left _ ?_
 rw [<- List.append_assoc,<- List.append_assoc]
 exact List.Perm.append_right _ List.perm_append_comm
theorem MH.nU {x y o:List Keyed} {i j:Nat} (h:MH f x y i j o) (hx:Dh f x) (hy:Dh f y) (hle:Hf f (y.take j) (x.take i)):Co f x y (y.take j ++ x.take i ++ o.reverse):=by
 obtain ⟨g1,g2⟩ := h.swap.done hy hx hle
 exact ⟨g1.trans List.perm_append_comm,g2⟩
variable {a b o:Array Keyed} {i j k:Nat}
theorem Jv {l:List Keyed} {i:Nat} {p:Keyed} (h:p ∈ l.take i):∃ m,m < i /\ l[m]? = some p:=by
 have h':p ∈ (l.drop 0).take i:=h
 obtain ⟨m,h1,h2⟩ := Eb h'
 exact ⟨m,h1,by rw [Nat.zero_add] at h2; exact h2⟩
theorem MH.aZ (h:MH f a.toList b.toList i j o.toList) (hx:Dh f a.toList) (hy:Dh f b.toList) (e:i = 0 \/ j = 0):Co f a.toList b.toList (a.extract 0 i ++ b.extract 0 j ++ o.reverse).toList:=by
 rw [Array.toList_append,Array.toList_append,Oq,Oq,Array.toList_reverse]
 refine h.done hx hy ?_
 rcases e with e | e <;> subst e
 ·intro p hp
  simp at hp
 ·intro p _ q hq
  simp at hq
theorem MH.dY (h:MH f a.toList b.toList i j o.toList) (hx:Dh f a.toList) (hy:Dh f b.toList) (e:j = 1) (hf:∀ p ∈ a.toList,fa f b 0 <= f p):Co f a.toList b.toList (b.extract 0 j ++ a.extract 0 i ++ o.reverse).toList:=by
 rw [Array.toList_append,Array.toList_append,Oq,Oq,Array.toList_reverse]
 refine h.nU hx hy fun p hp q hq=>?_
 obtain ⟨m,hm,e2⟩ := Jv hp
 obtain rfl:m = 0:=by omega
 rw [Array.getElem?_toList] at e2
 have:=hf q (List.mem_of_mem_take hq)
 rw [Au e2] at this
 exact this
theorem MH.nV (h:MH f a.toList b.toList i j o.toList) (hx:Dh f a.toList) (hy:Dh f b.toList) {m:Nat} (hm:m <= i) (hle:∀ n,m <= n -> n < i -> ∀ l,l < j -> fa f b l <= fa f a n):MH f a.toList b.toList m j (o ++ (a.extract m i).reverse).toList:=by
 obtain ⟨k,rfl⟩ : ∃ k,i = m + k:=⟨i - m,by omega⟩
 rw [Array.toList_append,Array.toList_reverse,Gz]
 refine h.jM hx fun x mX y nJ=>?_
 obtain ⟨l,hl,e⟩ := Jv mX
 obtain ⟨n,hn,e2⟩ := Eb nJ
 rw [Array.getElem?_toList] at e e2
 have:=hle (m + n) (by omega) (by omega) l hl
 rw [Au e,Au e2] at this
 exact this
theorem MH.xH (h:MH f a.toList b.toList i j o.toList) (hx:Dh f a.toList) (hy:Dh f b.toList) {m:Nat} (hm:m <= j) (hle:∀ n,m <= n -> n < j -> ∀ l,l < i -> fa f a l <= fa f b n):MH f a.toList b.toList i m (o ++ (b.extract m j).reverse).toList:=(h.swap.nV hy hx hm hle).swap
theorem ci {a:Array Keyed} {i:Nat} {p:Keyed} (hp:a[i]? = some p):(a.extract i (i + 1)).toList = [p]:=by
 rw [Gz]
 exact Px (by rw [Array.getElem?_toList]; exact hp)
theorem MH.fP (h:MH f a.toList b.toList (i + 1) j o.toList) (hx:Dh f a.toList) (hy:Dh f b.toList) {p:Keyed} (hp:a[i]? = some p) (hle:∀ l,l < j -> fa f b l <= f p):MH f a.toList b.toList i j (o.push p).toList:=by
 have:=h.nV hx hy (m:=i) (by omega) fun n h1 h2 l hl=>by
  obtain rfl:n = i:=by omega
  rw [Au hp]
  exact hle l hl
 rw [Array.toList_append,Array.toList_reverse,ci hp] at this
 rw [Array.toList_push]
 exact this
theorem MH.hJ (h:MH f a.toList b.toList i (j + 1) o.toList) (hx:Dh f a.toList) (hy:Dh f b.toList) {q:Keyed} (hq:b[j]? = some q) (hle:∀ l,l < i -> fa f a l <= f q):MH f a.toList b.toList i j (o.push q).toList:=(h.swap.fP hy hx hq hle).swap
end
section
variable {prog:Program} {w:World} {A:Around} {E:Value -> Shared -> Prop} {s:Shared} {κ:SortKind} {f:Keyed -> Nat} {a₀:Array Keyed} {st:SortSt}
theorem R0 (hA : I0 prog w A s κ f a₀) (hk : kindOf st = κ) {a b : Array Keyed} (ha : ∀ p, p ∈ a -> p ∈ a₀) (hb : ∀ p, p ∈ b -> p ∈ a₀) (hx : Dh f a.toList) (hy : Dh f b.toList) (ha0 : 0 < a.size) (sJ : 0 < b.size)
  (dN:∀ p ∈ a.toList,fa f b 0 <= f p) (hU:∀ j,j < b.size -> fa f b j <= fa f a (a.size - 1)) {Q:Array Keyed -> SortSt -> Prop} (h:∀ r aE,Gs st aE -> Co f a.toList b.toList r.toList -> Q r aE):wpS (model prog w) A E s (Xq a b) Q st:=by
 have eK:∀ g,kindOf (SortSt.mk' (kindOf st) (arrOf st) (pendingOf st) g (failedOf st)) = κ:=fun g=>hk
 have TV:∀ {lo hi},hi <= a.size -> Ht f a lo hi:=fun h=>Kn hx h
 have TX:∀ {lo hi},hi <= b.size -> Ht f b lo hi:=fun h=>Kn hy h
 obtain ⟨p0,TY⟩ := C0 (a:=a) (i:=a.size - 1) (by omega)
 refine wpS_bind (wpS_lift (wpAny_rule ⟨rfl,?_⟩))
 refine wpS_bind (B7 TY ?_)
 have M0:MH f a.toList b.toList (a.size - 1 + 1) b.size (#[]:Array Keyed).toList:=by
  refine ⟨?_,List.Pairwise.nil,fun p _ q hq=>by cases hq⟩
  rw [List.drop_of_length_le (l:=a.toList) (by rw [Array.length_toList]; omega),List.drop_of_length_le (l:=b.toList) (by rw [Array.length_toList]; omega)]
  exact List.Perm.refl _
 have M1:=M0.fP hx hy TY (fun l hl=>by have:=hU l hl; rw [Au TY] at this; exact this)
 rw [show (#[]:Array Keyed).push p0 = #[p0] from rfl] at M1
 dsimp -zeta only
 by_cases e1:a.size - 1 = 0
 ·rw [if_pos (Eu e1)]
  exact wpS_pure (h _ _ Gs.refl (M1.aZ hx hy (.inl e1)))
 rw [if_neg (Et e1)]
 by_cases e2:b.size = 1
 ·rw [if_pos (Eu e2)]
  exact wpS_pure (h _ _ Gs.refl (M1.dY hx hy e2 dN))
 rw [if_neg (Et e2)]
 refine wpS_bind (wpS_get ?_)
 refine wpS_bind (wpS_mono (wpS_forRange (I:=fun x c aE=>Gs st aE /\ ∃ o na nb g,c = (none,na,nb,o,g) /\ MH f a.toList b.toList na nb o.toList /\ 0 < na /\ na <= a.size /\ 1 < nb /\ nb <= b.size /\ na + nb + x + 1 <= a.size + b.size)
  (Q:=fun c aE=>Gs st aE /\ ∃ r z,c = (some r,z) /\ Co f a.toList b.toList r.toList) ?_ ?_ ⟨Gs.refl,_,_,_,_,rfl,M1,by omega,by omega,by omega,by omega,by omega⟩) ?_)
 ·rintro x c bK _ mX ⟨G1,o,na,nb,g,rfl,M,h1,eR,h2,jD,h3⟩
  dsimp -zeta only
  refine wpS_bind (wpS_mono (wpS_forRange (I:=fun y c aE=>Gs st aE /\ ∃ o na nb ac bc,c = (none,na,nb,o,ac,bc) /\ MH f a.toList b.toList na nb o.toList /\ 0 < na /\ na <= a.size /\ 1 < nb /\ nb <= b.size /\ na + nb + x + 1 + y <= a.size + b.size)
   (Q:=fun c aE=>Gs st aE /\ ((∃ r z,c = (some r,z) /\ Co f a.toList b.toList r.toList) \/ ∃ o na nb ac bc,c = (none,na,nb,o,ac,bc) /\ MH f a.toList b.toList na nb o.toList /\ 0 < na /\ na <= a.size /\ 1 < nb /\ nb <= b.size /\ na + nb + x + 2 <= a.size + b.size)) ?_ ?_ ⟨G1,_,_,_,_,_,rfl,M,h1,eR,h2,jD,by omega⟩) ?_)
  ·clear M h1 h2 h3 G1 eR jD
   rintro y c bK _ nJ ⟨G1,o,na,nb,ac,bc,rfl,M,h1,eR,h2,jD,h3⟩
   obtain ⟨gx,rfl⟩ := G1
   obtain ⟨q,hq⟩ := C0 (a:=b) (i:=nb - 1) (by omega)
   obtain ⟨p,hp⟩ := C0 (a:=a) (i:=na - 1) (by omega)
   dsimp -zeta only
   refine wpS_bind (B7 hq (wpS_bind (B7 hp (wpS_bind (Mg hA (eK gx) (hb q (Array.mem_of_getElem? hq)) (ha p (Array.mem_of_getElem? hp)) ?_)))))
   dsimp -zeta only
   by_cases z:f q < f p
   ·rw [if_pos (decide_eq_true z)]
    have M2:=MH.fP (i:=na - 1) (by rw [show na - 1 + 1 = na by omega]; exact M) hx hy hp (fun l hl=>by have:=TX (lo:=0) (hi:=b.size) (Nat.le_refl _) l (nb - 1) (by omega) (by omega) (by omega); rw [Au hq] at this; omega)
    refine wpS_bind (B7 hp ?_)
    by_cases e:na - 1 = 0
    ·rw [if_pos (Eu e)]
     exact wpS_pure ⟨⟨_,rfl⟩,.inl ⟨_,_,rfl,M2.aZ hx hy (.inl e)⟩⟩
    rw [if_neg (Et e)]
    split
    ·exact wpS_pure ⟨⟨_,rfl⟩,.inr ⟨_,_,_,_,_,rfl,M2,by omega,by omega,h2,jD,by omega⟩⟩
    ·exact wpS_pure ⟨⟨_,rfl⟩,_,_,_,_,_,rfl,M2,by omega,by omega,h2,jD,by omega⟩
   ·rw [if_neg (by rw [decide_eq_true_eq]; exact z)]
    have M2:=MH.hJ (j:=nb - 1) (by rw [show nb - 1 + 1 = nb by omega]; exact M) hx hy hq (fun l hl=>by have:=TV (lo:=0) (hi:=a.size) (Nat.le_refl _) l (na - 1) (by omega) (by omega) (by omega); rw [Au hp] at this; omega)
    refine wpS_bind (B7 hq ?_)
    by_cases e:nb - 1 = 1
    ·rw [if_pos (Eu e)]
     exact wpS_pure ⟨⟨_,rfl⟩,.inl ⟨_,_,rfl,M2.dY hx hy e dN⟩⟩
    rw [if_neg (Et e)]
    split
    ·exact wpS_pure ⟨⟨_,rfl⟩,.inr ⟨_,_,_,_,_,rfl,M2,h1,eR,by omega,by omega,by omega⟩⟩
    ·exact wpS_pure ⟨⟨_,rfl⟩,_,_,_,_,_,rfl,M2,h1,eR,by omega,by omega,by omega⟩
  ·rintro c aE ⟨G1,o,na,nb,ac,bc,rfl,M,h1,eR,h2,jD,h3⟩
   exact ⟨G1,.inr ⟨o,na,nb,ac,bc,rfl,M,h1,eR,h2,jD,by omega⟩⟩
  clear M h1 h2 h3 G1 eR jD
  rintro c aL ⟨G2,⟨r,z,rfl,J⟩ | ⟨o,na,nb,ac,bc,rfl,M,h1,eR,h2,jD,h3⟩⟩
  ·dsimp -zeta only
   exact wpS_pure ⟨G2,r,_,rfl,J⟩
  dsimp -zeta only
  refine wpS_bind (wpS_lift (wpAny_rule ⟨rfl,?_⟩))
  refine wpS_bind (wpS_mono (wpS_forRange (I:=fun y c aE=>Gs st aE /\ ∃ o na nb mg ac bc,c = (none,na,nb,o,mg,ac,bc) /\ MH f a.toList b.toList na nb o.toList /\ 0 < na /\ na <= a.size /\ 1 < nb /\ nb <= b.size /\ na + nb + x + 2 <= a.size + b.size)
   (Q:=fun c aE=>Gs st aE /\ ((∃ r z,c = (some r,z) /\ Co f a.toList b.toList r.toList) \/ ∃ o na nb mg ac bc,c = (none,na,nb,o,mg,ac,bc) /\ MH f a.toList b.toList na nb o.toList /\ 0 < na /\ na <= a.size /\ 1 < nb /\ nb <= b.size /\ na + nb + x + 2 <= a.size + b.size)) ?_ ?_ ⟨G2,_,_,_,_,_,_,rfl,M,h1,eR,h2,jD,h3⟩) ?_)
  ·clear M h1 h2 h3 G2 eR jD
   rintro y c bK _ nJ ⟨G1,o,na,nb,mg,ac,bc,rfl,M,h1,eR,h2,jD,h3⟩
   obtain ⟨gx,rfl⟩ := G1
   obtain ⟨q,hq⟩ := C0 (a:=b) (i:=nb - 1) (by omega)
   dsimp -zeta only
   have ga : ∀ {Q' : Option Nat -> SortSt -> Prop} {mg}, (∀ k, k <= na -> (∀ m, m < k -> fa f a m <= f q) -> (∀ m, k <= m -> m < na -> f q <= fa f a m) -> Q' (some k) (SortSt.mk' (kindOf st) (arrOf st) (pendingOf st) mg (failedOf st))) ->
     wpS (model prog w) A E s (I8 false q a 0 na (na - 1)) Q' (SortSt.mk' (kindOf st) (arrOf st) (pendingOf st) mg (failedOf st)):=fun {Q'} {mg} lW=>by
    refine Dm hA (eK mg) (hb q (Array.mem_of_getElem? hq)) ha (by omega) (by omega) (TV (by omega)) fun k g1 g2 g3=>lW k (by omega) (fun m hm=>?_) (fun m jY kH=>?_)
    ·have:=g2 m hm
     simpa using this
    ·have:=g3 m jY (by omega)
     simp at this
     omega
   have gb : ∀ {Q' : Option Nat -> SortSt -> Prop} {mg i j p}, a[i]? = some p -> 0 < j -> j <= b.size -> (∀ k, k <= j -> (∀ m, m < k -> fa f b m <= f p) -> (∀ m, k <= m -> m < j -> f p <= fa f b m) -> Q' (some k) (SortSt.mk' (kindOf st) (arrOf st) (pendingOf st) mg (failedOf st))) ->
     wpS (model prog w) A E s (I8 true p b 0 j (j - 1)) Q' (SortSt.mk' (kindOf st) (arrOf st) (pendingOf st) mg (failedOf st)):=fun {Q'} {mg i j p} hp hj hj2 lW=>by
    refine Dm hA (eK mg) (ha p (Array.mem_of_getElem? hp)) hb (by omega) (by omega) (TX (by omega)) fun k g1 g2 g3=>lW k (by omega) (fun m hm=>?_) (fun m jY kH=>?_)
    ·have:=g2 m hm
     simp at this
     omega
    ·have:=g3 m jY (by omega)
     simpa using this
   dsimp only
   apply Zv mg (mg - 1) (Eq.refl _) (Eq.refl _)
   intro mg
   refine wpS_bind (wpS_modify ?_)
   refine wpS_bind (B7 hq (wpS_bind (ga fun k g1 g2 g3=>?_)))
   dsimp only
   have uW:∀ l,l < nb -> fa f b l <= f q:=fun l hl=>by
    have:=TX (lo:=0) (hi:=b.size) (Nat.le_refl _) l (nb - 1) (by omega) (by omega) (by omega)
    rw [Au hq] at this
    exact this
   generalize hac:na - k = ac2
   apply Ko (fun o2 n2=>MH f a.toList b.toList n2 nb o2.toList /\ 0 < n2 /\ n2 <= na /\ ∀ l,l < n2 -> fa f a l <= f q) o na (Eq.refl _) (fun z=>⟨M,h1,Nat.le_refl _,fun l hl=>g2 l (by omega)⟩)
   ·intro z K
    have M2:=M.nV hx hy g1 (fun n uX sV l hl=>Nat.le_trans (uW l hl) (g3 n uX sV))
    by_cases e:k = 0
    ·rw [if_pos (Eu e)]
     exact wpS_pure ⟨⟨_,rfl⟩,.inl ⟨_,_,rfl,M2.aZ hx hy (.inl e)⟩⟩
    rw [if_neg (Et e)]
    exact K _ _ ⟨M2,by omega,g1,g2⟩
   rintro o2 n2 ⟨M2,sV,hn2',TZ⟩
   clear g2 g3 M uW
   refine wpS_bind (B7 hq ?_)
   have M3:=MH.hJ (j:=nb - 1) (by rw [show nb - 1 + 1 = nb by omega]; exact M2) hx hy hq TZ
   generalize hnb:nb - 1 = QD at M3 hq ⊢
   generalize o2.push q = o3 at M3 ⊢
   by_cases e':QD = 1
   ·rw [if_pos (Eu e')]
    exact wpS_pure ⟨⟨_,rfl⟩,.inl ⟨_,_,rfl,M3.dY hx hy e' dN⟩⟩
   rw [if_neg (Et e')]
   obtain ⟨p,hp⟩ := C0 (a:=a) (i:=n2 - 1) (by omega)
   refine wpS_bind (B7 hp (wpS_bind (gb hp (by omega) (by omega) fun k2 c1 c2 c3=>?_)))
   dsimp only
   generalize hbc:QD - k2 = bc2
   apply Ko (fun o4 j4=>MH f a.toList b.toList n2 j4 o4.toList /\ 1 < j4 /\ j4 <= QD /\ ∀ l,l < j4 -> fa f b l <= f p) o3 QD (Eq.refl _) (fun z=>⟨M3,by omega,Nat.le_refl _,fun l hl=>c2 l (by omega)⟩)
   ·intro z K
    have M4:=M3.xH hx hy c1 (fun n uX sV l hl=>Nat.le_trans (by
     have:=TV (lo:=0) (hi:=a.size) (Nat.le_refl _) l (n2 - 1) (by omega) (by omega) (by omega)
     rw [Au hp] at this
     exact this) (c3 n uX sV))
    by_cases e4:k2 = 1
    ·rw [if_pos (Eu e4)]
     exact wpS_pure ⟨⟨_,rfl⟩,.inl ⟨_,_,rfl,M4.dY hx hy e4 dN⟩⟩
    rw [if_neg (Et e4)]
    by_cases e5:k2 = 0
    ·rw [if_pos (Eu e5)]
     exact wpS_pure ⟨⟨_,rfl⟩,.inl ⟨_,_,rfl,M4.aZ hx hy (.inr e5)⟩⟩
    rw [if_neg (Et e5)]
    exact K _ _ ⟨M4,by omega,c1,c2⟩
   rintro o4 j4 ⟨M4,hj4,hj4',c2'⟩
   clear c1 c2 c3 M3 M2
   refine wpS_bind (B7 hp ?_)
   have M5:=MH.fP (i:=n2 - 1) (by rw [show n2 - 1 + 1 = n2 by omega]; exact M4) hx hy hp c2'
   by_cases e6:n2 - 1 = 0
   ·rw [if_pos (Eu e6)]
    exact wpS_pure ⟨⟨_,rfl⟩,.inl ⟨_,_,rfl,M5.aZ hx hy (.inl e6)⟩⟩
   rw [if_neg (Et e6)]
   split
   ·exact wpS_pure ⟨⟨_,rfl⟩,.inr ⟨_,_,_,_,_,_,rfl,M5,by omega,by omega,hj4,by omega,by omega⟩⟩
   ·exact wpS_pure ⟨⟨_,rfl⟩,_,_,_,_,_,_,rfl,M5,by omega,by omega,hj4,by omega,by omega⟩
  ·rintro c aE ⟨G1,o,na,nb,mg,ac,bc,rfl,M,h1,eR,h2,jD,h3⟩
   exact ⟨G1,.inr ⟨o,na,nb,mg,ac,bc,rfl,M,h1,eR,h2,jD,h3⟩⟩
  clear M h1 h2 h3 G2 eR jD
  rintro c aL ⟨G2,⟨r,z,rfl,J⟩ | ⟨o,na,nb,mg,ac,bc,rfl,M,h1,eR,h2,jD,h3⟩⟩
  ·dsimp -zeta only
   exact wpS_pure ⟨G2,r,_,rfl,J⟩
  dsimp -zeta only
  obtain ⟨gx,rfl⟩ := G2
  refine wpS_bind (wpS_modify ?_)
  exact wpS_pure ⟨⟨_,rfl⟩,_,_,_,_,rfl,M,h1,eR,h2,jD,by omega⟩
 ·rintro c aE ⟨G1,o,na,nb,g,rfl,M,h1,eR,h2,jD,h3⟩
  exfalso
  omega
 rintro c aE ⟨G1,r,z,rfl,J⟩
 dsimp -zeta only
 exact wpS_pure (h _ _ G1 J)
end
section
variable {f:Keyed -> Nat}
theorem Ff {xs:Array Keyed} {i j:Nat} (hj:j <= xs.size) (k:Nat):fa f (mirror xs i j ((j - i) / 2)) k = if i <= k /\ k < j then fa f xs (i + j - 1 - k) else fa f xs k:=by
 have e:=getElem?_mirror_all (i:=i) hj k
 by_cases h:i <= k /\ k < j
 ·rw [if_pos h] at e ⊢
  exact Eg e
 ·rw [if_neg h] at e ⊢
  exact Eg e
theorem Ig {xs:Array Keyed} {i j:Nat} (hj:j <= xs.size) (h:∀ k l,i <= k -> k < j -> i <= l -> l < j -> fa f xs k = fa f xs l) (k:Nat):fa f (mirror xs i j ((j - i) / 2)) k = fa f xs k:=by
 rw [Ff hj]
 split
 ·exact h _ _ (by omega) (by omega) (by omega) (by omega)
 ·rfl
theorem Wv {xs:Array Keyed} {src d:Nat} (hs:src < xs.size) (hd:d <= src) (k:Nat):fa f (bubble xs src d) k = if k = src - d then fa f xs src else if src - d < k /\ k <= src then fa f xs (k - 1) else fa f xs k:=by
 have e:=getElem?_bubble hs d hd k
 by_cases h1:k = src - d
 ·rw [if_pos h1] at e ⊢
  exact Eg e
 ·rw [if_neg h1] at e ⊢
  by_cases h2:src - d < k /\ k <= src
  ·rw [if_pos h2] at e ⊢
   exact Eg e
  ·rw [if_neg h2] at e ⊢
   exact Eg e
theorem Yz:∀ (m:List Keyed) (n base:Nat) (a:Array Keyed),base + n + m.length <= a.size -> ∀ k:Nat,(List.foldl (fun (a:Array Keyed) (x:Keyed × Nat)=>a.setIfInBounds (base + x.snd) x.fst) a (m.zipIdx n))[k]? = if base + n <= k /\ k < base + n + m.length then m[k - (base + n)]? else a[k]?
 | [],n,base,a,h,k=>by
  rw [if_neg (by rw [List.length_nil]; omega)]
  rfl
 | p :: m,n,base,a,h,k=>by
  rw [List.length_cons] at h
  rw [List.zipIdx_cons,List.foldl_cons,Yz m (n + 1) base _ (by rw [Array.size_setIfInBounds]; omega) k,List.length_cons]
  by_cases z:k = base + n
  ·subst z
   rw [if_neg (by omega),if_pos (by omega),Nat.sub_self,List.getElem?_cons_zero]
   show (a.setIfInBounds (base + n) p)[base + n]? = some p
   rw [Array.getElem?_setIfInBounds_self_of_lt (by omega)]
  ·by_cases y:base + n <= k /\ k < base + n + (m.length + 1)
   ·rw [if_pos (by omega),if_pos y,show k - (base + n) = (k - (base + (n + 1))) + 1 by omega,List.getElem?_cons_succ]
   ·rw [if_neg (by omega),if_neg y]
    show (a.setIfInBounds (base + n) p)[k]? = _
    rw [Array.getElem?_setIfInBounds_ne (by omega)]
theorem ap {a:Array Keyed} {m:List Keyed} {base:Nat} (h:base + m.length <= a.size) (hp:m.Perm ((a.toList.drop base).take m.length)):(List.foldl (fun (a:Array Keyed) (x:Keyed × Nat)=>a.setIfInBounds (base + x.snd) x.fst) a m.zipIdx).Perm a:=by
 generalize hr:List.foldl (fun (a:Array Keyed) (x:Keyed × Nat)=>a.setIfInBounds (base + x.snd) x.fst) a m.zipIdx = r
 have e:∀ k:Nat,r[k]? = if base <= k /\ k < base + m.length then m[k - base]? else a[k]?:=fun k=>by
  rw [<- hr]
  exact Yz m 0 base a (by omega) k
 have el:r.toList = a.toList.take base ++ (m ++ a.toList.drop (base + m.length)):=by
  apply List.ext_getElem?
  intro k
  rw [Array.getElem?_toList,e k]
  have aN:(a.toList.take base).length = base:=by rw [List.length_take,Array.length_toList]; omega
  by_cases z:k < base
  ·rw [if_neg (by omega),List.getElem?_append_left (by omega),List.getElem?_take_of_lt z,Array.getElem?_toList]
  ·rw [List.getElem?_append_right (by omega),aN]
   by_cases y:k < base + m.length
   ·rw [if_pos (by omega),List.getElem?_append_left (by omega)]
   ·rw [if_neg (by omega),List.getElem?_append_right (by omega),List.getElem?_drop,Array.getElem?_toList]
    congr 1
    omega
 have ea:a.toList = a.toList.take base ++ ((a.toList.drop base).take m.length ++ a.toList.drop (base + m.length)):=by
  rw [<- Hk,List.take_append_drop]
 refine Array.perm_iff_toList_perm.mpr ?_
 rw [el]
 refine (List.Perm.append_left _ (hp.append_right _)).trans ?_
 rw [<- ea]
end
section
variable {prog:Program} {w:World} {A:Around} {E:Value -> Shared -> Prop} {s:Shared} {κ:SortKind} {f:Keyed -> Nat} {a₀:Array Keyed} {st:SortSt}
theorem Rm (a:Array Keyed) {i j:Nat} (h:i <= j):(a.extract i j).toList = (a.toList.drop i).take (j - i):=by
 obtain ⟨k,rfl⟩ : ∃ k,j = i + k:=⟨j - i,by omega⟩
 rw [Gz]
 congr 1
 omega
theorem Gu {a:Array Keyed} {i j:Nat} {p:Keyed} (h:p ∈ (a.extract i j).toList) (xB:i <= j):∃ k,i <= k /\ k < j /\ a[k]? = some p:=by
 rw [Rm a xB] at h
 obtain ⟨m,h1,h2⟩ := Eb h
 rw [Array.getElem?_toList] at h2
 exact ⟨i + m,by omega,by omega,h2⟩
theorem V9 {a:Array Keyed} {i j k:Nat} (hj:j <= a.size) (h:i + k < j):(a.extract i j)[k]? = a[i + k]?:=by
 rw [Array.getElem?_extract]
 split
 ·rfl
 ·omega
theorem Vj {a:Array Keyed} {i j:Nat} (h:Ht f a i j) (hj:j <= a.size) (xB:i <= j):Dh f (a.extract i j).toList:=by
 refine List.pairwise_iff_getElem.mpr fun m n hm hn hmn=>?_
 have hl:(a.extract i j).toList.length = j - i:=by rw [Array.length_toList,Array.size_extract]; omega
 rw [hl] at hm hn
 have e1:(a.extract i j)[m]? = some (a.extract i j).toList[m]:=by rw [<- Array.getElem?_toList]; exact List.getElem?_eq_getElem _
 have e2:(a.extract i j)[n]? = some (a.extract i j).toList[n]:=by rw [<- Array.getElem?_toList]; exact List.getElem?_eq_getElem _
 rw [V9 hj (by omega)] at e1 e2
 have:=h (i + m) (i + n) (by omega) (by omega) (by omega)
 rw [Au e1,Au e2] at this
 exact this
theorem Xz {a:Array Keyed} {i j k:Nat} (hj:j <= a.size) (h:i + k < j):fa f (a.extract i j) k = fa f a (i + k):=Eg (V9 hj h)
theorem aw {σ:Type} {s' st:σ} {Q:PUnit -> σ -> Prop} {M:Model} (h:Q ⟨⟩ s'):wpS M A E s (set s':StateT σ Sem PUnit) Q st:=by
 unfold wpS
 rw [StateT.run_set]
 exact wpAny_pure ⟨rfl,h⟩
theorem Sa (hA : I0 prog w A s κ f a₀) (hB : Bs κ a₀ st) {i sa na pw sb nb pb : Nat} (hi : (pendingOf st)[i]? = some (sa, na, pw)) (hj : (pendingOf st)[i + 1]? = some (sb, nb, pb)) (hs : sb = sa + na) (hna : 0 < na) (hnb : 0 < nb) (hsz : sb + nb <= a₀.size)
  (uY:Ht f (arrOf st) sa sb) (uZ:Ht f (arrOf st) sb (sb + nb)) {Q:Bool -> SortSt -> Prop}
  (h:∀ aE,Bs κ a₀ aE -> pendingOf aE = ((pendingOf st).setIfInBounds i (sa,na + nb,pw)).eraseIdxIfInBounds (i + 1) -> Ht f (arrOf aE) sa (sb + nb) -> (∀ k,k < sa \/ sb + nb <= k -> fa f (arrOf aE) k = fa f (arrOf st) k) -> Q true aE):wpS (model prog w) A E s (mergeAt' i) Q st:=by
 have hsize:=hB.size
 have mD:∀ p,p ∈ arrOf st -> p ∈ a₀:=fun p hp=>hB.perm.mem_iff.mp hp
 refine wpS_bind (wpS_get ?_)
 dsimp only
 rw [hi,hj]
 dsimp only
 obtain ⟨q,hq⟩ := C0 (a:=arrOf st) (i:=sb) (by omega)
 have tO:∀ P g,kindOf (SortSt.mk' (kindOf st) (arrOf st) P g (failedOf st)) = κ:=fun _ _=>hB.kind
 refine wpS_bind (aw ?_)
 refine wpS_bind (B7 hq (wpS_bind (Dm hA (tO _ _) (hB.mem hq) mD (base:=sa) (n:=na) (by omega) (by omega) (by rw [<- hs]; exact uY) fun k k1 k2 k3=>?_)))
 dsimp only
 have k2':∀ m,sa <= m -> m < sa + k -> fa f (arrOf st) m <= fa f (arrOf st) sb:=fun m m1 m2=>by
  have:=k2 (m - sa) (by omega)
  rw [show sa + (m - sa) = m by omega] at this
  rw [Au hq]
  simpa using this
 have k3':∀ m,sa + k <= m -> m < sb -> fa f (arrOf st) sb <= fa f (arrOf st) m:=fun m m1 m2=>by
  have:=k3 (m - sa) (by omega) (by omega)
  rw [show sa + (m - sa) = m by omega] at this
  rw [Au hq]
  simp at this
  omega
 by_cases e1:na - k = 0
 ·rw [if_pos (Eu e1)]
  refine wpS_pure (h _ ⟨hB.perm,hB.kind,hB.failed⟩ rfl (fun m n h1 h2 h3=>?_) fun _ _=>rfl)
  by_cases z:n < sb
  ·exact uY m n h1 h2 z
  ·by_cases y:m < sb
   ·exact Nat.le_trans (k2' m h1 (by omega)) (uZ sb n (Nat.le_refl _) (by omega) h3)
   ·exact uZ m n (by omega) h2 h3
 rw [if_neg (Et e1)]
 obtain ⟨p,hp⟩ := C0 (a:=arrOf st) (i:=sa + k + (na - k) - 1) (by omega)
 have hp':(arrOf st)[sb - 1]? = some p:=by rw [<- hp]; congr 1; omega
 refine wpS_bind (B7 hp (wpS_bind (Dm hA (tO _ _) (hB.mem hp) mD (base:=sb) (n:=nb) (by omega) (by omega) uZ fun l l1 l2 l3=>?_)))
 dsimp only
 have l2':∀ m,sb <= m -> m < sb + l -> fa f (arrOf st) m <= fa f (arrOf st) (sb - 1):=fun m m1 m2=>by
  have:=l2 (m - sb) (by omega)
  rw [show sb + (m - sb) = m by omega] at this
  rw [Au hp']
  simp at this
  omega
 have UA:∀ m,sb + l <= m -> m < sb + nb -> fa f (arrOf st) (sb - 1) <= fa f (arrOf st) m:=fun m m1 m2=>by
  have:=l3 (m - sb) (by omega) (by omega)
  rw [show sb + (m - sb) = m by omega] at this
  rw [Au hp']
  simpa using this
 by_cases e2:l = 0
 ·rw [if_pos (Eu e2)]
  refine wpS_pure (h _ ⟨hB.perm,hB.kind,hB.failed⟩ rfl (fun m n h1 h2 h3=>?_) fun _ _=>rfl)
  by_cases z:n < sb
  ·exact uY m n h1 h2 z
  ·by_cases y:m < sb
   ·exact Nat.le_trans (uY m (sb - 1) h1 (by omega) (by omega)) (UA n (by omega) h3)
   ·exact uZ m n (by omega) h2 h3
 rw [if_neg (Et e2)]
 have hx:Dh f ((arrOf st).extract (sa + k) sb).toList:=Vj (fun m n h1 h2 h3=>uY m n (by omega) h2 h3) (by omega) (by omega)
 have hy:Dh f ((arrOf st).extract sb (sb + l)).toList:=Vj (fun m n h1 h2 h3=>uZ m n h1 h2 (by omega)) (by omega) (by omega)
 have ax:∀ p,p ∈ (arrOf st).extract (sa + k) sb -> p ∈ a₀:=fun p hp=>by
  obtain ⟨m,_,_,e⟩ := Gu (Array.mem_toList_iff.mpr hp) (by omega)
  exact hB.mem e
 have ay:∀ p,p ∈ (arrOf st).extract sb (sb + l) -> p ∈ a₀:=fun p hp=>by
  obtain ⟨m,_,_,e⟩ := Gu (Array.mem_toList_iff.mpr hp) (by omega)
  exact hB.mem e
 have sx:((arrOf st).extract (sa + k) sb).size = na - k:=by rw [Array.size_extract]; omega
 have sy:((arrOf st).extract sb (sb + l)).size = l:=by rw [Array.size_extract]; omega
 have fx:∀ m,m < na - k -> fa f ((arrOf st).extract (sa + k) sb) m = fa f (arrOf st) (sa + k + m):=fun m hm=>Xz (by omega) (by omega)
 have fy:∀ m,m < l -> fa f ((arrOf st).extract sb (sb + l)) m = fa f (arrOf st) (sb + m):=fun m hm=>Xz (by omega) (by omega)
 have fin : ∀ (r : Array Keyed) (bK : SortSt), Co f ((arrOf st).extract (sa + k) sb).toList ((arrOf st).extract sb (sb + l)).toList r.toList -> kindOf bK = κ -> failedOf bK = none -> arrOf bK = arrOf st -> pendingOf bK = ((pendingOf st).setIfInBounds i (sa, na + nb, pw)).eraseIdxIfInBounds (i + 1) ->
   Q true (setArr bK (List.foldl (fun (a:Array Keyed) (x:Keyed × Nat)=>a.setIfInBounds (sa + k + x.snd) x.fst) (arrOf bK) r.toList.zipIdx)):=fun r bK J g1 g2 g3 g4=>by
  have hlen:r.toList.length = na - k + l:=by
   rw [J.1.length_eq,List.length_append,Array.length_toList,Array.length_toList,sx,sy]
  have UB:((arrOf st).extract (sa + k) sb).toList ++ ((arrOf st).extract sb (sb + l)).toList = ((arrOf st).toList.drop (sa + k)).take r.toList.length:=by
   rw [hlen,Rm _ (by omega),Gz,show sb - (sa + k) = na - k by omega,List.take_add,List.drop_drop,show sa + k + (na - k) = sb by omega]
  have UC:∀ m:Nat,(List.foldl (fun (a:Array Keyed) (x:Keyed × Nat)=>a.setIfInBounds (sa + k + x.snd) x.fst) (arrOf bK) r.toList.zipIdx)[m]? = if sa + k <= m /\ m < sa + k + r.toList.length then r.toList[m - (sa + k)]? else (arrOf st)[m]?:=fun m=>by
   rw [g3]
   exact Yz r.toList 0 (sa + k) (arrOf st) (by omega) m
  have eY:(List.foldl (fun (a:Array Keyed) (x:Keyed × Nat)=>a.setIfInBounds (sa + k + x.snd) x.fst) (arrOf bK) r.toList.zipIdx).Perm (arrOf st):=by
   rw [g3]
   refine ap (by omega) ?_
   rw [<- UB]
   exact J.1
  generalize List.foldl (fun (a:Array Keyed) (x:Keyed × Nat)=>a.setIfInBounds (sa + k + x.snd) x.fst) (arrOf bK) r.toList.zipIdx = a' at UC eY ⊢
  have mE:∀ m,m < sa + k \/ sb + l <= m -> fa f a' m = fa f (arrOf st) m:=fun m hm=>by
   refine Eg ?_
   rw [UC m,if_neg (by omega)]
  have fin2:∀ m,sa + k <= m -> m < sb + l -> ∃ p,r.toList[m - (sa + k)]? = some p /\ fa f a' m = f p /\ ∃ n,sa + k <= n /\ n < sb + l /\ (arrOf st)[n]? = some p:=fun m h1 h2=>by
   have hm:m - (sa + k) < r.toList.length:=by omega
   refine ⟨r.toList[m - (sa + k)],List.getElem?_eq_getElem hm,?_,?_⟩
   ·refine Au ?_
    rw [UC m,if_pos (by omega)]
    exact List.getElem?_eq_getElem hm
   ·have bW:=J.1.mem_iff.mp (List.getElem_mem hm)
    rcases List.mem_append.mp bW with z | z
    ·obtain ⟨n,n1,n2,n3⟩ := Gu z (by omega)
     exact ⟨n,n1,by omega,n3⟩
    ·obtain ⟨n,n1,n2,n3⟩ := Gu z (by omega)
     exact ⟨n,by omega,n2,n3⟩
  have lowP:∀ m,sa <= m -> m < sa + k -> ∀ n,sa + k <= n -> n < sb + l -> fa f (arrOf st) m <= fa f (arrOf st) n:=fun m m1 m2 n n1 n2=>by
   by_cases z:n < sb
   ·exact uY m n m1 (by omega) z
   ·exact Nat.le_trans (k2' m m1 m2) (uZ sb n (Nat.le_refl _) (by omega) (by omega))
  have HW:∀ m,sb + l <= m -> m < sb + nb -> ∀ n,sa + k <= n -> n < sb + l -> fa f (arrOf st) n <= fa f (arrOf st) m:=fun m m1 m2 n n1 n2=>by
   by_cases z:n < sb
   ·exact Nat.le_trans (uY n (sb - 1) (by omega) (by omega) (by omega)) (UA m m1 m2)
   ·exact uZ n m (by omega) (by omega) m2
  refine h _ ⟨eY.trans hB.perm,g1,g2⟩ g4 (fun m n h1 h2 h3=>?_) (fun m hm=>mE m (by omega))
  by_cases c1:m < sa + k
  ·rw [mE m (.inl c1)]
   by_cases c2:n < sa + k
   ·rw [mE n (.inl c2)]
    exact uY m n h1 h2 (by omega)
   ·by_cases c3:n < sb + l
    ·obtain ⟨p,_,e,n',n1,n2,n3⟩ := fin2 n (by omega) c3
     rw [e,<- Au (f:=f) n3]
     exact lowP m h1 c1 n' n1 n2
    ·rw [mE n (.inr (by omega))]
     exact Nat.le_trans (lowP m h1 c1 (sb - 1) (by omega) (by omega)) (UA n (by omega) h3)
  ·by_cases c3:n < sb + l
   ·obtain ⟨p,e1,e2,_⟩ := fin2 m (by omega) (by omega)
    obtain ⟨q,e3,e4,_⟩ := fin2 n (by omega) c3
    rw [e2,e4]
    exact Lj J.2 e1 e3 (by omega)
   ·rw [mE n (.inr (by omega))]
    by_cases c4:m < sb + l
    ·obtain ⟨p,_,e,n',n1,n2,n3⟩ := fin2 m (by omega) c4
     rw [e,<- Au (f:=f) n3]
     exact HW n (by omega) h3 n' n1 n2
    ·rw [mE m (.inr (by omega))]
     exact uZ m n (by omega) h2 h3
 by_cases e3:na - k <= l
 ·rw [if_pos e3]
  refine wpS_bind (Rf hA (tO _ _) ax ay hx hy (by omega) (by omega) ?_ ?_ fun r bK G J=>?_)
  ·rw [fx 0 (by omega),fy 0 (by omega)]
   exact k3' _ (by omega) (by omega)
  ·intro q hq
   obtain ⟨m,m1,m2,m3⟩ := Gu hq (by omega)
   rw [sx,fx _ (by omega),show sa + k + (na - k - 1) = sb - 1 by omega,<- Au (f:=f) m3]
   exact l2' m m1 m2
  ·obtain ⟨g,rfl⟩ := G
   refine wpS_bind (wpS_modify ?_)
   refine wpS_bind (wpS_get (wpS_pure ?_))
   have e:(failedOf st).isNone = true:=by rw [hB.failed]; rfl
   have:=fin r (SortSt.mk' (kindOf st) (arrOf st) (((pendingOf st).setIfInBounds i (sa,na + nb,pw)).eraseIdxIfInBounds (i + 1)) g (failedOf st)) J hB.kind hB.failed rfl rfl
   rw [<- e] at this
   exact this
 ·rw [if_neg e3]
  refine wpS_bind (R0 hA (tO _ _) ax ay hx hy (by omega) (by omega) ?_ ?_ fun r bK G J=>?_)
  ·intro p hp
   obtain ⟨m,m1,m2,m3⟩ := Gu hp (by omega)
   rw [fy 0 (by omega),<- Au (f:=f) m3]
   exact k3' m m1 m2
  ·intro j hj
   rw [sx,fx _ (by omega),fy j (by omega),show sa + k + (na - k - 1) = sb - 1 by omega]
   exact l2' _ (by omega) (by omega)
  ·obtain ⟨g,rfl⟩ := G
   refine wpS_bind (wpS_modify ?_)
   refine wpS_bind (wpS_get (wpS_pure ?_))
   have e:(failedOf st).isNone = true:=by rw [hB.failed]; rfl
   have:=fin r (SortSt.mk' (kindOf st) (arrOf st) (((pendingOf st).setIfInBounds i (sa,na + nb,pw)).eraseIdxIfInBounds (i + 1)) g (failedOf st)) J hB.kind hB.failed rfl rfl
   rw [<- e] at this
   exact this
end
section
variable {prog:Program} {w:World} {A:Around} {E:Value -> Shared -> Prop} {s:Shared} {κ:SortKind} {f:Keyed -> Nat} {a₀:Array Keyed} {st:SortSt}
def Ch (f:Keyed -> Nat) (lo:Nat) (st aE:SortSt):Prop:=pendingOf aE = pendingOf st /\ ∀ k,k < lo -> fa f (arrOf aE) k = fa f (arrOf st) k
theorem Ch.refl {lo:Nat}:Ch f lo st st:=⟨rfl,fun _ _=>rfl⟩
theorem Ch.trans {lo:Nat} {bK aL bX:SortSt} (h:Ch f lo bK aL) (g:Ch f lo aL bX):Ch f lo bK bX:=⟨g.1.trans h.1,fun k hk=>(g.2 k hk).trans (h.2 k hk)⟩
theorem I9 {i j:Nat} {Q:Unit -> SortSt -> Prop} (h:Q () (setArr st (mirror (arrOf st) i j ((j - i) / 2)))):wpS (model prog w) A E s (reverseSlice' i j) Q st:=by
 rw [reverseSlice'_eq]
 exact wpS_modify h
theorem Bs.rev (hB:Bs κ a₀ st) (i j:Nat):Bs κ a₀ (setArr st (mirror (arrOf st) i j ((j - i) / 2))):=⟨(mirror_perm _ _ _ _).trans hB.perm,hB.kind,hB.failed⟩
theorem bv {a:Array Keyed} {lo:Nat}:Ht f a lo (lo + 1):=fun i j h1 h2 h3=>by
 obtain rfl:i = j:=by omega
 exact Nat.le_refl _
theorem R8 {a:Array Keyed} {lo n:Nat} (h:Ht f a lo (lo + n)) (hn:0 < n) (e:fa f a (lo + n - 1) <= fa f a (lo + n)):Ht f a lo (lo + (n + 1)):=fun i j h1 h2 h3=>by
 by_cases z:j < lo + n
 ·exact h i j h1 h2 z
 ·obtain rfl:j = lo + n:=by omega
  by_cases y:i < lo + n
  ·exact Nat.le_trans (h i (lo + n - 1) h1 (by omega) (by omega)) e
  ·obtain rfl:i = lo + n:=by omega
   exact Nat.le_refl _
def dm (f:Keyed -> Nat) (a:Array Keyed) (lo n q:Nat):Prop:=(∀ i j,lo <= i -> i <= j -> j < lo + n -> fa f a j <= fa f a i) /\ q < n /\ ∀ i,lo + n - (q + 1) <= i -> i < lo + n -> fa f a i = fa f a (lo + n - 1)
theorem dm.flat {a:Array Keyed} {lo n q:Nat} (h:dm f a lo n q) (hs:lo + n <= a.size) (k:Nat):fa f (mirror a (lo + n - (q + 1)) (lo + n) ((lo + n - (lo + n - (q + 1))) / 2)) k = fa f a k:=Ig hs (fun k l h1 h2 h3 h4=>(h.2.2 k h1 h2).trans (h.2.2 l h3 h4).symm) k
theorem dm.asc {a b:Array Keyed} {lo n q:Nat} (h:dm f a lo n q) (hs:lo + n <= b.size) (e:∀ k,fa f b k = fa f a k):Ht f (mirror b lo (lo + n) ((lo + n - lo) / 2)) lo (lo + n):=fun i j h1 h2 h3=>by
 rw [Ff hs,Ff hs,if_pos (by omega),if_pos (by omega),e,e]
 exact h.1 _ _ (by omega) (by omega) (by omega)
theorem U0 (hA : I0 prog w A s κ f a₀) (hB : Bs κ a₀ st) {lo nr : Nat} (FU : 0 < nr) (hsz : lo + nr <= a₀.size) {Q : Option Nat -> SortSt -> Prop}
  (h:∀ m aE,0 < m -> m <= nr -> Bs κ a₀ aE -> Ch f lo st aE -> Ht f (arrOf aE) lo (lo + m) -> Q (some m) aE):wpS (model prog w) A E s (countRun' lo nr) Q st:=by
 refine wpS_bind (wpS_mono (wpS_forRange (I:=fun x c aE=>aE = st /\ c = (none,x) /\ Ht f (arrOf st) lo (lo + x)) (Q:=fun c aE=>aE = st /\ ∃ n,c = (none,n) /\ 0 < n /\ n <= nr /\ Ht f (arrOf st) lo (lo + n) /\ (n < nr -> fa f (arrOf st) (lo + n) < fa f (arrOf st) (lo + n - 1))) ?_ ?_ ⟨rfl,rfl,bv⟩) ?_)
 ·rintro x c aE h1 h2 ⟨rfl,rfl,h3⟩
  dsimp only
  refine wpS_bind (Gx hA hB (by omega) (by omega) ?_)
  dsimp only
  by_cases z:fa f (arrOf aE) (lo + x) < fa f (arrOf aE) (lo + x - 1)
  ·rw [if_pos (decide_eq_true z)]
   exact wpS_pure ⟨rfl,x,rfl,by omega,by omega,h3,fun _=>z⟩
  ·rw [if_neg (by rw [decide_eq_true_eq]; exact z)]
   exact wpS_pure ⟨rfl,rfl,R8 h3 (by omega) (by omega)⟩
 ·rintro c aE ⟨rfl,rfl,h3⟩
  have e:max 1 nr = nr:=by omega
  rw [e] at h3 ⊢
  exact ⟨rfl,nr,rfl,FU,Nat.le_refl _,h3,fun z=>absurd z (Nat.lt_irrefl _)⟩
 rintro c aE ⟨rfl,n,rfl,h1,h2,h3,h4⟩
 dsimp only
 by_cases e1:n = nr
 ·rw [if_pos (Eu e1)]
  exact wpS_pure (h _ _ h1 h2 hB Ch.refl h3)
 rw [if_neg (Et e1)]
 have h4':=h4 (by omega)
 have part:∀ bK,Bs κ a₀ bK -> pendingOf bK = pendingOf aE -> (∀ k,fa f (arrOf bK) k = fa f (arrOf aE) k) -> (∀ i,lo <= i -> i < lo + n -> fa f (arrOf aE) i = fa f (arrOf aE) (lo + n - 1)) -> dm f (arrOf bK) lo (n + 1) 0:=fun bK B1 p1 f1 eq=>by
  refine ⟨fun i j i1 i2 i3=>?_,by omega,fun i i1 i2=>?_⟩
  ·rw [f1,f1]
   by_cases z:j < lo + n
   ·rw [eq i i1 (by omega),eq j (by omega) z]
    exact Nat.le_refl _
   ·obtain rfl:j = lo + n:=by omega
    by_cases y:i < lo + n
    ·rw [eq i i1 y]
     omega
    ·obtain rfl:i = lo + n:=by omega
     exact Nat.le_refl _
  ·obtain rfl:i = lo + n:=by omega
   rfl
 by_cases e2:n > 1
 case' pos =>
  rw [if_pos e2]
  refine wpS_bind (Gx hA hB (by omega) (by omega) ?_)
  dsimp only
  by_cases z:fa f (arrOf aE) lo < fa f (arrOf aE) (lo + n - 1)
  ·rw [if_pos (decide_eq_true z)]
   exact wpS_pure (h _ _ h1 h2 hB Ch.refl h3)
  rw [if_neg (by rw [decide_eq_true_eq]; exact z)]
  have eq:∀ i,lo <= i -> i < lo + n -> fa f (arrOf aE) i = fa f (arrOf aE) (lo + n - 1):=fun i i1 i2=>by
   have a1:=h3 lo i (Nat.le_refl _) i1 i2
   have a2:=h3 i (lo + n - 1) i1 (by omega) (by omega)
   omega
  refine wpS_bind (I9 ?_)
  have B1:=hB.rev lo (lo + n)
  have f1:∀ k,fa f (arrOf (setArr aE (mirror (arrOf aE) lo (lo + n) ((lo + n - lo) / 2)))) k = fa f (arrOf aE) k:=Ig (by rw [hB.size]; omega) fun k l k1 k2 l1 l2=>(eq k k1 k2).trans (eq l l1 l2).symm
  have F1:=part _ B1 rfl f1 eq
  have C1:Ch f lo aE (setArr aE (mirror (arrOf aE) lo (lo + n) ((lo + n - lo) / 2))):=⟨rfl,fun k _=>f1 k⟩
  generalize setArr aE (mirror (arrOf aE) lo (lo + n) ((lo + n - lo) / 2)) = bK at B1 F1 C1 ⊢
 case' neg =>
  rw [if_neg e2]
  obtain rfl:n = 1:=by omega
  have F1:=part aE hB rfl (fun _=>rfl) fun i i1 i2=>by
   obtain rfl:i = lo:=by omega
   rfl
  have C1:Ch f lo aE aE:=Ch.refl
  have B1:=hB
 all_goals
  refine wpS_bind (wpS_lift (wpAny_rule ⟨rfl,?_⟩))
  refine wpS_bind (wpS_mono (wpS_forRange (I:=fun x c aL=>∃ q,c = (none,x,q) /\ x <= nr /\ Bs κ a₀ aL /\ Ch f lo aE aL /\ dm f (arrOf aL) lo x q) (Q:=fun c aL=>∃ n q,c = (none,n,q) /\ n <= nr /\ Bs κ a₀ aL /\ Ch f lo aE aL /\ dm f (arrOf aL) lo n q) ?_ ?_ ⟨0,rfl,by omega,B1,C1,F1⟩) ?_)
  ·rintro x c aL x1 x2 ⟨q,rfl,_,B2,C2,F2⟩
   dsimp only
   have sz:=B2.size
   refine wpS_bind (Gx hA B2 (by omega) (by omega) ?_)
   dsimp only
   by_cases z:fa f (arrOf aL) (lo + x) < fa f (arrOf aL) (lo + x - 1)
   ·rw [if_pos (decide_eq_true z)]
    have F3:∀ bX,(∀ k,fa f (arrOf bX) k = fa f (arrOf aL) k) -> dm f (arrOf bX) lo (x + 1) 0:=fun bX e3=>by
     have q1:=F2.2.1
     refine ⟨fun i j i1 i2 i3=>?_,by omega,fun i i1 i2=>?_⟩
     ·rw [e3,e3]
      by_cases y:j < lo + x
      ·exact F2.1 i j i1 i2 y
      ·obtain rfl:j = lo + x:=by omega
       by_cases v:i < lo + x
       ·exact Nat.le_trans (Nat.le_of_lt z) (F2.1 i (lo + x - 1) i1 (by omega) (by omega))
       ·obtain rfl:i = lo + x:=by omega
        exact Nat.le_refl _
     ·obtain rfl:i = lo + x:=by omega
      rfl
    by_cases e:q > 0
    ·rw [if_pos e]
     exact wpS_bind (I9 (wpS_pure ⟨0,rfl,by omega,B2.rev _ _,C2.trans ⟨rfl,fun k _=>F2.flat (by omega) k⟩,F3 _ fun k=>F2.flat (by omega) k⟩))
    ·rw [if_neg e]
     exact wpS_pure ⟨0,rfl,by omega,B2,C2,F3 _ fun _=>rfl⟩
   ·rw [if_neg (by rw [decide_eq_true_eq]; exact z)]
    refine wpS_bind (Gx hA B2 (by omega) (by omega) ?_)
    dsimp only
    by_cases y:fa f (arrOf aL) (lo + x - 1) < fa f (arrOf aL) (lo + x)
    ·rw [if_pos (decide_eq_true y)]
     exact wpS_pure ⟨x,q,rfl,by omega,B2,C2,F2⟩
    ·rw [if_neg (by rw [decide_eq_true_eq]; exact y)]
     have q1:=F2.2.1
     refine wpS_pure ⟨q + 1,rfl,by omega,B2,C2,fun i j i1 i2 i3=>?_,by omega,fun i i1 i2=>?_⟩
     ·by_cases v:j < lo + x
      ·exact F2.1 i j i1 i2 v
      ·obtain rfl:j = lo + x:=by omega
       by_cases u:i < lo + x
       ·have:=F2.1 i (lo + x - 1) i1 (by omega) (by omega)
        omega
       ·obtain rfl:i = lo + x:=by omega
        exact Nat.le_refl _
     ·rw [show lo + (x + 1) - 1 = lo + x by omega]
      by_cases v:i < lo + x
      ·have:=F2.2.2 i (by omega) v
       omega
      ·obtain rfl:i = lo + x:=by omega
       rfl
  ·rintro c aL ⟨q,rfl,a1,B2,C2,F2⟩
   exact ⟨_,q,rfl,a1,B2,C2,F2⟩
  rintro c aL ⟨m,q,rfl,a1,B2,C2,F2⟩
  dsimp only
  have sz:=B2.size
  have q1:=F2.2.1
  by_cases e:q > 0
  case' pos =>
   rw [if_pos e]
   refine wpS_bind (I9 (wpS_bind (I9 ?_)))
   have B3:=(B2.rev (lo + m - (q + 1)) (lo + m)).rev lo (lo + m)
   have A3:Ht f (arrOf (setArr (setArr aL (mirror (arrOf aL) (lo + m - (q + 1)) (lo + m) ((lo + m - (lo + m - (q + 1))) / 2))) (mirror (mirror (arrOf aL) (lo + m - (q + 1)) (lo + m) ((lo + m - (lo + m - (q + 1))) / 2)) lo (lo + m) ((lo + m - lo) / 2)))) lo (lo + m):=F2.asc (b:=mirror (arrOf aL) (lo + m - (q + 1)) (lo + m) ((lo + m - (lo + m - (q + 1))) / 2)) (by rw [mirror_size]; omega) (fun k=>F2.flat (by omega) k)
   have C3:Ch f lo aE (setArr (setArr aL (mirror (arrOf aL) (lo + m - (q + 1)) (lo + m) ((lo + m - (lo + m - (q + 1))) / 2))) (mirror (mirror (arrOf aL) (lo + m - (q + 1)) (lo + m) ((lo + m - (lo + m - (q + 1))) / 2)) lo (lo + m) ((lo + m - lo) / 2))):=C2.trans ⟨rfl,fun k hk=>by
    show fa f (mirror (mirror (arrOf aL) (lo + m - (q + 1)) (lo + m) ((lo + m - (lo + m - (q + 1))) / 2)) lo (lo + m) ((lo + m - lo) / 2)) k = _
    rw [Ff (by rw [mirror_size]; omega),if_neg (by omega)]
    exact F2.flat (by omega) k⟩
   generalize setArr (setArr aL (mirror (arrOf aL) (lo + m - (q + 1)) (lo + m) ((lo + m - (lo + m - (q + 1))) / 2))) (mirror (mirror (arrOf aL) (lo + m - (q + 1)) (lo + m) ((lo + m - (lo + m - (q + 1))) / 2)) lo (lo + m) ((lo + m - lo) / 2)) = bX at B3 C3 A3 ⊢
  case' neg =>
   rw [if_neg e]
   refine wpS_bind (I9 ?_)
   have B3:=B2.rev lo (lo + m)
   have A3:Ht f (arrOf (setArr aL (mirror (arrOf aL) lo (lo + m) ((lo + m - lo) / 2)))) lo (lo + m):=F2.asc (b:=arrOf aL) (by omega) (fun k=>rfl)
   have C3:Ch f lo aE (setArr aL (mirror (arrOf aL) lo (lo + m) ((lo + m - lo) / 2))):=C2.trans ⟨rfl,fun k hk=>by
    show fa f (mirror (arrOf aL) lo (lo + m) ((lo + m - lo) / 2)) k = _
    rw [Ff (by omega),if_neg (by omega)]⟩
   generalize setArr aL (mirror (arrOf aL) lo (lo + m) ((lo + m - lo) / 2)) = bX at B3 C3 A3 ⊢
  all_goals
   refine wpS_bind (wpS_mono (wpS_forRange (I:=fun x c bM=>bM = bX /\ c = (none,x) /\ Ht f (arrOf bX) lo (lo + x)) (Q:=fun c bM=>bM = bX /\ ∃ n,c = (none,n) /\ 0 < n /\ n <= nr /\ Ht f (arrOf bX) lo (lo + n)) ?_ ?_ ⟨rfl,rfl,A3⟩) ?_)
   ·rintro x c bM y1 y2 ⟨rfl,rfl,y3⟩
    dsimp only
    refine wpS_bind (Gx hA B3 (by omega) (by omega) ?_)
    dsimp only
    by_cases z:fa f (arrOf bM) (lo + x) < fa f (arrOf bM) (lo + x - 1)
    ·rw [if_pos (decide_eq_true z)]
     exact wpS_pure ⟨rfl,x,rfl,by omega,by omega,y3⟩
    ·rw [if_neg (by rw [decide_eq_true_eq]; exact z)]
     exact wpS_pure ⟨rfl,rfl,R8 y3 (by omega) (by omega)⟩
   ·rintro c bM ⟨rfl,rfl,y3⟩
    have e:max m nr = nr:=by omega
    rw [e] at y3 ⊢
    exact ⟨rfl,nr,rfl,FU,Nat.le_refl _,y3⟩
   rintro c bM ⟨rfl,n,rfl,n1,n2,n3⟩
   dsimp only
   exact wpS_pure (h _ _ n1 n2 B3 C3 n3)
end
section
variable {f:Keyed -> Nat}
def Cu (f:Keyed -> Nat) (a:Array Keyed):Nat -> List (Nat × Nat × Nat) -> Nat -> Prop
 | s0,[],hi=>s0 = hi
 | s0,x :: r,hi=>x.1 = s0 /\ 0 < x.2.1 /\ Ht f a s0 (s0 + x.2.1) /\ Cu f a (s0 + x.2.1) r hi
theorem Cu.len {a:Array Keyed}:∀ {l:List (Nat × Nat × Nat)} {s0 hi:Nat},Cu f a s0 l hi -> s0 + l.length <= hi
 | [],s0,hi,h=>Nat.le_of_eq h
 | x :: r,s0,hi,h=>by
  have:=h.2.2.2.len
  have h2:=h.2.1
  rw [List.length_cons]
  omega
theorem Cu.congr {a a':Array Keyed}:∀ {l:List (Nat × Nat × Nat)} {s0 hi:Nat},Cu f a s0 l hi -> (∀ k,s0 <= k -> k < hi -> fa f a' k = fa f a k) -> Cu f a' s0 l hi
 | [],s0,hi,h,e=>h
 | x :: r,s0,hi,h,e=>by
  obtain ⟨h1,h2,h3,h4⟩ := h
  have hl:=h4.len
  refine ⟨h1,h2,fun i j i1 i2 i3=>?_,h4.congr fun k k1 k2=>e k (by omega) k2⟩
  rw [e i i1 (by omega),e j (by omega) (by omega)]
  exact h3 i j i1 i2 i3
theorem Cu.app {a:Array Keyed}:∀ {l m:List (Nat × Nat × Nat)} {s0 hi:Nat},Cu f a s0 (l ++ m) hi ↔ ∃ mid,Cu f a s0 l mid /\ Cu f a mid m hi
 | [],m,s0,hi=>⟨fun h=>⟨s0,rfl,h⟩,fun ⟨mid,h1,h2⟩=>by rw [show s0 = mid from h1]; exact h2⟩
 | x :: r,m,s0,hi=>by
  constructor
  ·rintro ⟨h1,h2,h3,h4⟩
   obtain ⟨mid,g1,g2⟩ := Cu.app.mp h4
   exact ⟨mid,⟨h1,h2,h3,g1⟩,g2⟩
  ·rintro ⟨mid,⟨h1,h2,h3,g1⟩,g2⟩
   exact ⟨h1,h2,h3,Cu.app.mpr ⟨mid,g1,g2⟩⟩
theorem Cu.mod {a:Array Keyed} {pw:Nat}:∀ {l:List (Nat × Nat × Nat)} {i s0 hi:Nat},Cu f a s0 l hi -> Cu f a s0 (l.modify i fun x=>(x.fst,x.2.fst,pw)) hi
 | [],i,s0,hi,h=>by rw [List.modify_nil]; exact h
 | x :: r,0,s0,hi,h=>by rw [List.modify_zero_cons]; exact h
 | x :: r,i + 1,s0,hi,h=>by
  rw [List.modify_succ_cons]
  exact ⟨h.1,h.2.1,h.2.2.1,Cu.mod h.2.2.2⟩
theorem V6 (p:Array (Nat × Nat × Nat)) (i:Nat) (x:Nat × Nat × Nat) (h:i + 1 < p.size):((p.setIfInBounds i x).eraseIdxIfInBounds (i + 1)).toList = p.toList.take i ++ x :: p.toList.drop (i + 2):=by
 have e:((p.setIfInBounds i x).eraseIdxIfInBounds (i + 1)).toList = (p.toList.set i x).eraseIdx (i + 1):=by
  unfold Array.eraseIdxIfInBounds
  rw [dif_pos (by rw [Array.size_setIfInBounds]; exact h),Array.toList_eraseIdx,Array.toList_setIfInBounds]
 rw [e,List.eraseIdx_eq_take_drop_succ]
 have hl:i < p.toList.length:=by rw [Array.length_toList]; omega
 rw [List.drop_set_of_lt (by omega),List.take_set,List.take_add_one,List.getElem?_eq_getElem hl]
 have ht:(p.toList.take i).length = i:=by rw [List.length_take]; omega
 rw [List.set_append_right _ _ (by omega),ht,Nat.sub_self,List.append_assoc]
 rfl
end
section
variable {prog:Program} {w:World} {A:Around} {E:Value -> Shared -> Prop} {s:Shared} {κ:SortKind} {f:Keyed -> Nat} {a₀:Array Keyed} {st:SortSt}
theorem Ym (hA : I0 prog w A s κ f a₀) (hB : Bs κ a₀ st) {lo n ok : Nat} (aF : 0 < ok) (hn : ok <= n) (hsz : lo + n <= a₀.size) (hs : Ht f (arrOf st) lo (lo + ok)) {Q : Bool -> SortSt -> Prop}
  (h:∀ aE,Bs κ a₀ aE -> Ch f lo st aE -> Ht f (arrOf aE) lo (lo + n) -> Q true aE):wpS (model prog w) A E s (binarySort' lo n ok) Q st:=by
 refine wpS_bind (wpS_mono (wpS_forRange (I:=fun k c aE=>c = (none,()) /\ Bs κ a₀ aE /\ Ch f lo st aE /\ Ht f (arrOf aE) lo (lo + k)) (Q:=fun c aE=>c = (none,()) /\ Bs κ a₀ aE /\ Ch f lo st aE /\ Ht f (arrOf aE) lo (lo + n)) ?_ ?_ ⟨rfl,hB,Ch.refl,by rw [show max ok 1 = ok by omega]; exact hs⟩) ?_)
 ·rintro k c aE k1 k2 ⟨rfl,B1,C1,A1⟩
  dsimp only
  have sz:=B1.size
  refine wpS_bind (wpS_mono (wpS_forRange (I:=fun x c aL=>aL = aE /\ ∃ l r,c = (none,l,r) /\ l <= r /\ r <= k /\ r + x <= l + k /\ (∀ i,i < l -> fa f (arrOf aE) (lo + i) <= fa f (arrOf aE) (lo + k)) /\ (∀ i,r <= i -> i < k -> fa f (arrOf aE) (lo + k) <= fa f (arrOf aE) (lo + i)))
   (Q:=fun c aL=>aL = aE /\ ∃ l,c = (none,l,l) /\ l <= k /\ (∀ i,i < l -> fa f (arrOf aE) (lo + i) <= fa f (arrOf aE) (lo + k)) /\ (∀ i,l <= i -> i < k -> fa f (arrOf aE) (lo + k) <= fa f (arrOf aE) (lo + i))) ?_ ?_ ⟨rfl,0,k,rfl,by omega,by omega,by omega,fun i hi=>by omega,fun i h1 h2=>by omega⟩) ?_)
  ·rintro x c aL _ hx ⟨rfl,l,r,rfl,g1,g2,g3,g4,g5⟩
   dsimp only
   by_cases e:l >= r
   ·rw [if_pos e]
    obtain rfl:l = r:=by omega
    exact wpS_pure ⟨rfl,l,rfl,g2,g4,g5⟩
   ·rw [if_neg e]
    refine wpS_bind (Gx hA B1 (by omega) (by omega) ?_)
    dsimp only
    by_cases z:fa f (arrOf aL) (lo + k) < fa f (arrOf aL) (lo + (l + r) / 2)
    ·rw [if_pos (decide_eq_true z)]
     refine wpS_pure ⟨rfl,l,_,rfl,by omega,by omega,by omega,g4,fun i i1 i2=>?_⟩
     have:=A1 (lo + (l + r) / 2) (lo + i) (by omega) (by omega) (by omega)
     omega
    ·rw [if_neg (by rw [decide_eq_true_eq]; exact z)]
     refine wpS_pure ⟨rfl,_,r,rfl,by omega,by omega,by omega,fun i i1=>?_,g5⟩
     have:=A1 (lo + i) (lo + (l + r) / 2) (by omega) (by omega) (by omega)
     omega
  ·rintro c aL ⟨rfl,l,r,rfl,g1,g2,g3,g4,g5⟩
   obtain rfl:l = r:=by omega
   exact ⟨rfl,l,rfl,g2,g4,g5⟩
  rintro c aL ⟨rfl,l,rfl,g2,g4,g5⟩
  dsimp only
  have eb:∀ m,fa f (bubble (arrOf aL) (lo + k) (lo + k - (lo + l))) m = if m = lo + l then fa f (arrOf aL) (lo + k) else if lo + l < m /\ m <= lo + k then fa f (arrOf aL) (m - 1) else fa f (arrOf aL) m:=fun m=>by
   rw [Wv (by omega) (by omega),show lo + k - (lo + k - (lo + l)) = lo + l by omega]
  refine wpS_bind (m:=moveDown' (lo + k) (lo + l)) ?_
  rw [moveDown'_eq]
  refine wpS_modify (wpS_pure ⟨rfl,⟨(bubble_perm _ _ _).trans B1.perm,B1.kind,B1.failed⟩,C1.trans ⟨rfl,fun m hm=>?_⟩,fun i j i1 i2 i3=>?_⟩)
  ·show fa f (bubble (arrOf aL) (lo + k) (lo + k - (lo + l))) m = _
   rw [eb m,if_neg (by omega),if_neg (by omega)]
  ·show fa f (bubble (arrOf aL) (lo + k) (lo + k - (lo + l))) i <= fa f (bubble (arrOf aL) (lo + k) (lo + k - (lo + l))) j
   rw [eb i,eb j]
   have G4:∀ i,lo <= i -> i < lo + l -> fa f (arrOf aL) i <= fa f (arrOf aL) (lo + k):=fun i i1 i2=>by
    have:=g4 (i - lo) (by omega)
    rwa [show lo + (i - lo) = i by omega] at this
   have G5:∀ i,lo + l <= i -> i < lo + k -> fa f (arrOf aL) (lo + k) <= fa f (arrOf aL) i:=fun i i1 i2=>by
    have:=g5 (i - lo) (by omega) (by omega)
    rwa [show lo + (i - lo) = i by omega] at this
   by_cases c1:i = lo + l
   ·rw [if_pos c1]
    by_cases c2:j = lo + l
    ·rw [if_pos c2]
     exact Nat.le_refl _
    ·rw [if_neg c2,if_pos (by omega)]
     exact G5 (j - 1) (by omega) (by omega)
   ·rw [if_neg c1]
    by_cases c3:lo + l < i /\ i <= lo + k
    ·rw [if_pos c3,if_neg (by omega),if_pos (by omega)]
     exact A1 (i - 1) (j - 1) (by omega) (by omega) (by omega)
    ·rw [if_neg c3]
     by_cases c2:j = lo + l
     ·rw [if_pos c2]
      exact G4 i i1 (by omega)
     ·rw [if_neg c2]
      by_cases c4:lo + l < j /\ j <= lo + k
      ·rw [if_pos c4]
       exact Nat.le_trans (G4 i i1 (by omega)) (G5 (j - 1) (by omega) (by omega))
      ·rw [if_neg c4]
       exact A1 i j i1 i2 (by omega)
 ·rintro c aE ⟨rfl,B1,C1,A1⟩
  rw [show max (max ok 1) n = n by omega] at A1
  exact ⟨rfl,B1,C1,A1⟩
 rintro c aE ⟨rfl,B1,C1,A1⟩
 exact wpS_pure (h _ B1 C1 A1)
theorem Lx (hA : I0 prog w A s κ f a₀) (hB : Bs κ a₀ st) {i hi : Nat} (hR : Cu f (arrOf st) 0 (pendingOf st).toList hi) (hh : hi <= a₀.size) (aN : i + 1 < (pendingOf st).size) {Q : Bool -> SortSt -> Prop}
  (h:∀ aE,Bs κ a₀ aE -> Cu f (arrOf aE) 0 (pendingOf aE).toList hi -> (pendingOf aE).size + 1 = (pendingOf st).size -> (∀ k,hi <= k -> fa f (arrOf aE) k = fa f (arrOf st) k) -> Q true aE):wpS (model prog w) A E s (mergeAt' i) Q st:=by
 have hl:i + 1 < (pendingOf st).toList.length:=by rw [Array.length_toList]; exact aN
 obtain ⟨sa,na,pw,ea⟩ : ∃ sa na pw,(pendingOf st).toList[i]? = some (sa,na,pw):=⟨_,_,_,List.getElem?_eq_getElem (by omega)⟩
 obtain ⟨sb,nb,pb,eb⟩ : ∃ sb nb pb,(pendingOf st).toList[i + 1]? = some (sb,nb,pb):=⟨_,_,_,List.getElem?_eq_getElem (by omega)⟩
 have ed:(pendingOf st).toList = (pendingOf st).toList.take i ++ (sa,na,pw) :: (sb,nb,pb) :: (pendingOf st).toList.drop (i + 2):=by
  have h1:=(List.take_append_drop i (pendingOf st).toList).symm
  rw [List.drop_eq_getElem_cons (by omega),(List.getElem?_eq_some_iff.mp ea).2,List.drop_eq_getElem_cons hl,(List.getElem?_eq_some_iff.mp eb).2] at h1
  exact h1
 have hR2:=hR
 rw [ed] at hR2
 obtain ⟨mid,r1,r2⟩ := Cu.app.mp hR2
 obtain ⟨a1,a2,a3,b1,b2,b3,r3⟩ := r2
 dsimp only at a1 a2 a3 b1 b2 b3 r3
 subst a1 b1
 have l1:=r1.len
 have l3:=r3.len
 refine Sa hA hB (by rw [<- Array.getElem?_toList]; exact ea) (by rw [<- Array.getElem?_toList]; exact eb) rfl a2 b2 (by omega) a3 b3 fun aE B' p' A' f'=>?_
 refine h aE B' ?_ ?_ fun k hk=>f' k (by omega)
 ·rw [p',V6 _ _ _ aN]
  refine Cu.app.mpr ⟨sa,r1.congr fun k k1 k2=>f' k (by omega),rfl,by show 0 < na + nb; omega,?_,?_⟩
  ·show Ht f (arrOf aE) sa (sa + (na + nb))
   rw [<- Nat.add_assoc]
   exact A'
  ·show Cu f (arrOf aE) (sa + (na + nb)) _ _
   rw [<- Nat.add_assoc]
   exact r3.congr fun k k1 k2=>f' k (by omega)
 ·rw [p',<- Array.length_toList,V6 _ _ _ aN,<- Array.length_toList (xs:=pendingOf st)]
  rw [List.length_append,List.length_cons,List.length_take,List.length_drop]
  omega
end
section
variable {prog:Program} {w:World} {A:Around} {E:Value -> Shared -> Prop} {s:Shared} {κ:SortKind} {f:Keyed -> Nat} {a₀:Array Keyed} {st:SortSt}
theorem Cu.push {a a':Array Keyed} {p:Array (Nat × Nat × Nat)} {lo n pw:Nat} (h:Cu f a 0 p.toList lo) (e:∀ k,k < lo -> fa f a' k = fa f a k) (hn:0 < n) (hs:Ht f a' lo (lo + n)):Cu f a' 0 (p.push (lo,n,pw)).toList (lo + n):=by
 rw [Array.toList_push]
 exact Cu.app.mpr ⟨lo,h.congr fun k _ hk=>e k hk,rfl,hn,hs,rfl⟩
theorem Qh (hA:I0 prog w A s κ f a₀) (hB:Bs κ a₀ st) (hp:pendingOf st = #[]) {Q:Unit -> SortSt -> Prop} (h:∀ aE,Bs κ a₀ aE -> Ht f (arrOf aE) 0 a₀.size -> Q () aE):wpS (model prog w) A E s sortRuns' Q st:=by
 have sz0:=hB.size
 rw [sortRuns'_eq]
 refine wpS_bind (wpS_get ?_)
 refine wpS_bind (wpS_mono (wpS_forRange (I:=fun x c aE=>∃ lo,c = (none,lo) /\ Bs κ a₀ aE /\ Cu f (arrOf aE) 0 (pendingOf aE).toList lo /\ lo <= a₀.size /\ (lo < a₀.size -> x <= lo)) (Q:=fun c aE=>c = (none,a₀.size) /\ Bs κ a₀ aE /\ Cu f (arrOf aE) 0 (pendingOf aE).toList a₀.size) ?_ ?_ ⟨0,rfl,hB,by rw [hp]; rfl,by omega,fun _=>Nat.le_refl _⟩) ?_)
 ·rintro x c bK _ x2 ⟨lo,rfl,B1,R1,l1,l2⟩
  dsimp only
  rw [show (arrOf st).size = a₀.size from sz0]
  by_cases e1:lo >= a₀.size
  ·rw [if_pos e1]
   obtain rfl:lo = a₀.size:=by omega
   exact wpS_pure ⟨rfl,B1,R1⟩
  rw [if_neg e1]
  refine wpS_bind (U0 hA B1 (by omega) (by omega) fun m aL m1 m2 B2 C2 A2=>?_)
  dsimp only
  have R2:Cu f (arrOf aL) 0 (pendingOf aL).toList lo:=by
   rw [C2.1]
   exact R1.congr fun k _ hk=>C2.2 k hk
  by_cases e2:m < minRun' a₀.size a₀.size 0
  case' pos =>
   rw [if_pos e2]
   refine wpS_bind (wpS_lift (wpAny_rule ⟨rfl,?_⟩))
   generalize hn:min (a₀.size - lo) (minRun' a₀.size a₀.size 0) = n
   have uX:0 < n /\ n <= a₀.size - lo /\ m <= n:=by omega
   refine wpS_bind (Ym hA B2 m1 uX.2.2 (by omega) A2 fun bX B3 C3 A3=>?_)
   rw [if_neg (by decide)]
   have R3:Cu f (arrOf bX) 0 (pendingOf bX).toList lo:=by
    rw [C3.1]
    exact R2.congr fun k _ hk=>C3.2 k hk
  case' neg =>
   rw [if_neg e2]
   obtain ⟨n,rfl⟩ : ∃ n,n = m:=⟨m,rfl⟩
   have uX:0 < n /\ n <= a₀.size - lo:=⟨m1,m2⟩
   have B3:=B2
   have A3:=A2
   have R3:=R2
   obtain ⟨bX,rfl⟩ : ∃ bX,bX = aL:=⟨aL,rfl⟩
  all_goals
   refine wpS_bind (wpS_get ?_)
   cases hb:(pendingOf bX).back? with
   | none =>
    dsimp only
    refine wpS_bind (wpS_modify (wpS_pure ⟨lo + n,rfl,⟨B3.perm,B3.kind,B3.failed⟩,R3.push (fun _ _=>rfl) uX.1 A3,by omega,fun _=>by omega⟩))
   | some v =>
    obtain ⟨s1,n1,v1⟩ := v
    dsimp only
    refine wpS_bind (wpS_mono (wpS_forRange (I:=fun y c bM=>c = (none,()) /\ Bs κ a₀ bM /\ Cu f (arrOf bM) 0 (pendingOf bM).toList lo /\ Ht f (arrOf bM) lo (lo + n)) (Q:=fun c bM=>c = (none,()) /\ Bs κ a₀ bM /\ Cu f (arrOf bM) 0 (pendingOf bM).toList lo /\ Ht f (arrOf bM) lo (lo + n)) ?_ (fun c bM h4=>h4) ⟨rfl,B3,R3,A3⟩) ?_)
    ·rintro y c bM _ y2 ⟨rfl,B4,R4,A4⟩
     refine wpS_bind (wpS_get ?_)
     by_cases e3:(pendingOf bM).size > 1
     ·rw [if_pos e3]
      obtain ⟨⟨u1,u2,u3⟩,hu⟩ : ∃ u,(pendingOf bM)[(pendingOf bM).size - 2]? = some u:=⟨_,getElem?_pos (pendingOf bM) _ (by omega)⟩
      rw [hu]
      dsimp only
      split
      ·exact wpS_pure ⟨rfl,B4,R4,A4⟩
      ·refine wpS_bind (Lx hA B4 R4 l1 (by omega) fun xm B5 R5 _ f5=>?_)
       rw [if_neg (by decide)]
       refine wpS_pure ⟨rfl,B5,R5,fun i j i1 i2 i3=>?_⟩
       rw [f5 i i1,f5 j (by omega)]
       exact A4 i j i1 i2 i3
     ·rw [if_neg e3]
      exact wpS_pure ⟨rfl,B4,R4,A4⟩
    ·rintro c bM ⟨rfl,B4,R4,A4⟩
     dsimp only
     refine wpS_bind (wpS_modify (wpS_bind (wpS_modify (wpS_pure ⟨lo + n,rfl,⟨B4.perm,B4.kind,B4.failed⟩,?_,by omega,fun _=>by omega⟩))))
     refine Cu.push (a:=arrOf bM) ?_ (fun _ _=>rfl) uX.1 A4
     show Cu f (arrOf bM) 0 ((pendingOf bM).modify ((pendingOf bM).size - 1) _).toList lo
     rw [Array.toList_modify]
     exact R4.mod
 ·rintro c bK ⟨lo,rfl,B1,R1,l1,l2⟩
  obtain rfl:lo = a₀.size:=by omega
  exact ⟨rfl,B1,R1⟩
 rintro c bK ⟨rfl,B1,R1⟩
 dsimp only
 have n1:(pendingOf bK).size <= a₀.size:=by
  have:=R1.len
  rw [Array.length_toList] at this
  omega
 refine wpS_bind (wpS_mono (wpS_forRange (I:=fun y c bM=>c = (none,()) /\ Bs κ a₀ bM /\ Cu f (arrOf bM) 0 (pendingOf bM).toList a₀.size /\ (pendingOf bM).size + y <= a₀.size + 1) (Q:=fun c bM=>c = (none,()) /\ Bs κ a₀ bM /\ Cu f (arrOf bM) 0 (pendingOf bM).toList a₀.size /\ (pendingOf bM).size <= 1) ?_ ?_ ⟨rfl,B1,R1,by omega⟩) ?_)
 ·rintro y c bM _ y2 ⟨rfl,B4,R4,n4⟩
  refine wpS_bind (wpS_get ?_)
  by_cases e3:(pendingOf bM).size <= 1
  ·rw [if_pos e3]
   exact wpS_pure ⟨rfl,B4,R4,e3⟩
  rw [if_neg e3]
  refine wpS_bind (Lx hA B4 R4 (Nat.le_refl _) ?_ fun xm B5 R5 n5 f5=>?_)
  ·(repeat' split) <;> omega
  rw [if_neg (by decide)]
  exact wpS_pure ⟨rfl,B5,R5,by omega⟩
 ·rintro c bM ⟨rfl,B4,R4,n4⟩
  exact ⟨rfl,B4,R4,by omega⟩
 rintro c bM ⟨rfl,B4,R4,n4⟩
 dsimp only
 refine wpS_pure (h _ B4 ?_)
 rw [<- Array.length_toList] at n4
 match hl:(pendingOf bM).toList with
 | [] =>
  rw [hl] at R4
  have e:0 = a₀.size:=R4
  rw [<- e]
  exact fun i j _ _ h3=>absurd h3 (Nat.not_lt_zero _)
 | [x] =>
  rw [hl] at R4
  obtain ⟨_,_,r3,r4⟩ := R4
  rw [show 0 + x.2.1 = a₀.size from r4] at r3
  exact r3
 | x :: y :: r =>
  rw [hl,List.length_cons,List.length_cons] at n4
  omega
end
open PySem PySem.Spec PySem.SeqAt PyProof.Rows
section
variable {prog:Program} {w:World} {E:Value -> Shared -> Prop}
def Mr:List PyData -> List PyData -> Prop
 | x :: xs,y :: ys=>if PyData.eqv x y = true then Mr xs ys else Gg x y
 | _,_=>True
def ar:PyData -> PyData -> Prop
 | .tuple xs,.tuple ys=>Mr xs ys
 | _,_=>False
theorem Ql {A : Around} {s : Shared} {b : Bool} {Q : Bool -> Shared -> Prop} : ∀ (xs ys : List PyData) (vs ws : List Value) (as bs : List Addr) (i : Nat), ReadsAll s.heap vs xs as -> ReadsAll s.heap ws ys bs -> PyData.canLayAll0 xs = true -> PyData.canLayAll0 ys = true -> Mr xs ys ->
  A.units + min (PyData.depthAll xs) (PyData.depthAll ys) < cLine -> (b = true -> i = 0 -> ∀ x xs' y HE,xs = x :: xs' -> ys = y :: HE -> ∃ m n,x = .int m /\ y = .int n) -> Q (aH xs ys) s -> PySem.W.KatLex prog w A b (decide (xs.length < ys.length)) Q (vs.zip ws) i s
 | [],ys,_,ws,_,_,i,ra,rb,_,_,_,_,_,h=>by
  cases ra
  rw [List.zip_nil_left]
  refine PySem.W.kat_nil ?_
  cases ys <;> exact h
 | x :: xs,[],_,_,_,_,i,ra,rb,_,_,_,_,_,h=>by
  cases rb
  rw [List.zip_nil_right]
  exact PySem.W.kat_nil h
 | x :: xs,y :: ys,_,_,_,_,i,ra,rb,ca,cb,hc,hu,hb,h=>by
  have e0:=eqAt_readsAll (x :: xs) (y :: ys) A s _ _ _ _ ra rb ca cb hu 0
  cases ra with
  | @cons v vs _ _ a1 a2 r1 r2 =>
   cases rb with
   | @cons u us _ _ b1 b2 q1 q2 =>
    have uR:x.canLay0 = true /\ PyData.canLayAll0 xs = true:=by simpa [PyData.canLayAll0] using ca
    have uS:y.canLay0 = true /\ PyData.canLayAll0 ys = true:=by simpa [PyData.canLayAll0] using cb
    have hd:A.units + min x.depth y.depth < cLine /\ A.units + min (PyData.depthAll xs) (PyData.depthAll ys) < cLine:=by
     simp only [PyData.depthAll] at hu
     omega
    have e1:SeqAt.EqAt A s v u (PyData.eqv x y):=e0 (by simp) (by simp)
    have el:decide ((x :: xs).length < (y :: ys).length) = decide (xs.length < ys.length):=by simp
    rw [List.zip_cons_cons,el]
    refine PySem.W.kat_cons (e1 prog w _ _ ?_)
    cases e:PyData.eqv x y with
    | true =>
     unfold Mr at hc
     rw [if_pos e] at hc
     refine PySem.W.kat_yes (Ql xs ys _ _ _ _ (i + 1) r2 q2 uR.2 uS.2 hc hd.2 (fun _ z=>by omega) ?_)
     rw [aH,if_pos e] at h
     exact h
    | false =>
     unfold Mr at hc
     rw [if_neg (by rw [e]; decide)] at hc
     rw [aH,if_neg (by rw [e]; decide)] at h
     refine PySem.W.kat_no ?_
     by_cases z:(b && i == 0) = true
     ·have z2:b = true /\ i = 0:=by simpa using z
      obtain ⟨m,n,rfl,rfl⟩ := hb z2.1 z2.2 x xs y ys rfl rfl
      cases r1
      cases q1
      rw [z]
      exact oneLt_int h
     ·rw [show (b && i == 0) = false from Bool.eq_false_iff.mpr z]
      refine PySem.W.kat_one _ _ ?_
      exact Im x y A s _ _ _ _ r1 q1 uR.1 uS.1 hc hd.1 prog w _ _ (show PySem.W.BoolBack Q (.bool (Jl x y)) s from h)
def J2 (b:Bool) (d:PyData):Prop := ∃ x r,d = .tuple (x :: r) /\ if b = true then ∃ m,x = .int m else ∃ l,x = .tuple l
theorem Zu {A : Around} {s : Shared} {b : Bool} {Q : Bool -> Shared -> Prop} {v u : Value} {d e : PyData} {as bs : List Addr} (rv : Reads s.heap v d as) (ru : Reads s.heap u e bs) (fd : J2 b d) (fe : J2 b e) (cd : d.canLay0 = true) (ce : e.canLay0 = true) (hc : ar d e) (hu : A.units + d.depth < cLine) (h : Q (Jl d e) s) :
  wpAny (model prog w) A (keyLt' (PyProof.Rows.tuples' b) v u) Q E s:=by
 obtain ⟨x,r,rfl,hx⟩ := fd
 obtain ⟨y,r2,rfl,hy⟩ := fe
 cases rv with
 | @tuple l1 o1 vs n1 _ as1 h1 h2 h3 h4 =>
  cases ru with
  | @tuple l2 o2 ws n2 _ as2 k1 k2 k3 k4 =>
   have n1':vs.size = (x :: r).length:=by simpa using ReadsAll.length _ _ _ h4
   have TK:ws.size = (y :: r2).length:=by simpa using ReadsAll.length _ _ _ k4
   refine PySem.W.kat_lt h1 h3 k1 k3 ?_
   rw [n1',TK]
   refine Ql (x :: r) (y :: r2) _ _ _ _ 0 h4 k4 cd ce hc ?_ (fun hb _ x' _ y' _ e1 e2=>?_) h
   ·have e:(PyData.tuple (x :: r)).depth = PyData.depthAll (x :: r) + 1:=by simp [PyData.depth]
    omega
   ·cases e1
    cases e2
    rw [if_pos hb] at hx hy
    obtain ⟨m,rfl⟩ := hx
    obtain ⟨n,rfl⟩ := hy
    exact ⟨m,n,rfl,rfl⟩
theorem W1 {A:Around} {s:Shared} {b:Bool} {Q:SortKind -> Shared -> Prop}:∀ {vs:List Value} ,vs ≠ [] -> (∀ v ∈ vs,∃ d as,Reads s.heap v d as /\ J2 b d) -> Q (PyProof.Rows.tuples' b) s -> wpAny (model prog w) A (keyKind' vs.toArray) Q E s:=by
 intro vs bP hall h
 have key:∀ vs:List Value,(∀ v ∈ vs,∃ d as,Reads s.heap v d as /\ J2 b d) -> ∃ fs,PySem.W.KatTups s.heap vs fs /\ fs.length = vs.length /\ ∀ f ∈ fs,PySem.W.Looks (model prog w) s.heap (typeOf f) (.type (if b = true then "int" else "tuple")):=by
  intro vs
  induction vs with
  | nil=>exact fun _=>⟨[],PySem.W.KatTups.nil,rfl,fun f hf=>by cases hf⟩
  | cons v vs ih =>
   intro hall
   obtain ⟨fs,t1,t2,t3⟩ := ih fun v hv=>hall v (List.mem_cons_of_mem _ hv)
   obtain ⟨d,as,rv,x,r,rfl,hx⟩ := hall v List.mem_cons_self
   cases rv with
   | tuple h1 h2 h3 h4 =>
    rename_i a o us n
    obtain ⟨u,ur,eu⟩ : ∃ u ur,us.toList = u :: ur:=by
     cases jW:us.toList with
     | nil=>rw [jW] at h4; cases h4
     | cons u ur=>exact ⟨u,ur,rfl⟩
    have e0:us[0]? = some u:=by rw [<- Array.getElem?_toList,eu]; rfl
    refine ⟨u :: fs,PySem.W.KatTups.cons h1 h2 h3 e0 t1,by simp [t2],fun f hf=>?_⟩
    rcases List.mem_cons.mp hf with z | z
    ·subst z
     rw [eu] at h4
     cases h4 with
     | cons r1 r2 =>
      cases b with
      | true =>
       obtain ⟨m,rfl⟩ := hx
       cases r1
       exact PySem.W.Looks.now
      | false =>
       obtain ⟨l,rfl⟩ := hx
       cases r1 with
       | tuple g1 g2 g3 g4 =>
        show PySem.W.Looks (model prog w) s.heap _ (Value.type "tuple")
        rw [<- g2]
        exact (PySem.W.Looks.ld g1).andThen .now
    ·exact t3 f z
 obtain ⟨fs,t1,t2,t3⟩ := key vs hall
 refine PySem.W.kat_kind t1 ?_ t3 (by cases b <;> rfl) ?_
 ·rw [t2]
  exact List.length_pos_iff.mpr bP
 ·have e:(Value.type (if b = true then "int" else "tuple") != Value.type "tuple") = b:=by cases b <;> decide
  rw [e]
  exact h
theorem Gf (vs:List Value):vs.toArray.zip vs.toArray = (vs.map fun v=>(v,v)).toArray:=by
 apply Array.toList_inj.mp
 rw [Array.toList_zip,List.toList_toArray]
 induction vs with
 | nil=>rfl
 | cons v r ih=>rw [List.zip_cons_cons,ih,List.map_cons]
theorem Vl (vs:List Value):(vs.map fun v=>(v,v)).map (fun x:Value × Value=>x.2) = vs:=by
 rw [List.map_map]
 exact List.map_id'' (fun _=>rfl) vs
theorem Y2 {A : Around} {s : Shared} {a : Addr} {vs : List Value} {n : Nat} {κ : SortKind} {g : Value -> Nat} {P : PySem.Fin -> Shared -> Prop} (ho : s.heap.get? a = some (seqObj "list" vs.toArray n)) (hsz : vs.length <= sizeLine)
  (nA:∀ h6:Heap,(∀ b o,b ≠ a -> s.heap.get? b = some o -> h6.get? b = some o) -> 2 <= vs.length -> (∀ Q,Q κ { s with heap:=h6 } -> wpAny (model prog w) A (keyKind' vs.toArray) Q E { s with heap:=h6 }) /\ I0 prog w A { s with heap:=h6 } κ (fun p=>g p.1) (vs.toArray.zip vs.toArray))
  (h:∀ out:Array Value,out.toList.Perm vs -> out.toList.Pairwise (fun x y=>g x <= g y) -> P (.done (.ret .none)) { s with heap:=sortedHeap s.heap a vs out }) :
  wpAny (model prog w) A (Builtin.«list.sort» ⟨[.ref a],[]⟩) P E s:=by
 rw [list_sort_plain]
 have ha:a < s.heap.objs.size:=Heap.lt_size ho
 refine wpAny_bind (listItems_at ho rfl (wpAny_bind (listUpdate_at ho rfl ?_ (by rw [List.size_toArray]; exact hsz) (Nat.zero_le _))))
 obtain ⟨e1,QE⟩ : ∃ e1,(s.heap.update a (Obj.mapSeq fun _=>(#[]:Array Value))).get? a = some (seqObj "list" #[] e1):=⟨_,get?_update_seq ho (fun _=>#[])⟩
 refine wpAny_bind (seqEpoch_at QE rfl (wpAny_bind (wpAny_newTuple (wpAny_bind (wpAny_newList (wpAny_holding ?_))))))
 have HY:(((s.heap.update a (Obj.mapSeq fun _=>(#[]:Array Value))).push (seqObj "tuple" vs.toArray 0)).push (seqObj "list" #[] 0)).get? a = some (seqObj "list" #[] e1):=Heap.get?_push_of_some _ (Heap.get?_push_of_some _ QE)
 have kp:∀ b o,b ≠ a -> s.heap.get? b = some o -> (((s.heap.update a (Obj.mapSeq fun _=>(#[]:Array Value))).push (seqObj "tuple" vs.toArray 0)).push (seqObj "list" #[] 0)).get? b = some o:=fun b o hb e=>Heap.get?_push_of_some _ (Heap.get?_push_of_some _ ((Heap.get?_update_other _ _ (Ne.symm hb)).trans e))
 have hk:=nA _ kp
 have fin:=h
 unfold sortedHeap at fin
 generalize ((s.heap.update a (Obj.mapSeq fun _=>(#[]:Array Value))).push (seqObj "tuple" vs.toArray 0)).push (seqObj "list" #[] 0) = h6 at HY kp hk fin
 show wpAny (model prog w) A _ P E { s with heap:=h6 }
 dsimp only
 have mW:vs.toArray.size = vs.length:=by simp
 by_cases h2:vs.toArray.size < 2
 ·rw [if_pos h2,if_pos h2]
  refine wpAny_bind (wpAny_pure ?_)
  rw [StateT.run_pure]
  refine wpAny_bind (wpAny_pure ?_)
  dsimp only
  have eo:Array.map (fun x=>x.snd) (vs.toArray.zip vs.toArray) = vs.toArray:=by
   rw [Gf]
   apply Array.toList_inj.mp
   rw [Array.toList_map]
   exact Vl vs
  refine wpAny_bind (seqEpoch_at HY rfl (wpAny_bind (listUpdate_at HY rfl ?_ (Nat.zero_le _) (by rw [eo,mW]; omega))))
  simp only [bne_self_eq_false,Bool.false_eq_true,if_false]
  rw [show Array.map (fun x=>x.snd) (arrOf (SortSt.mk' general' (vs.toArray.zip vs.toArray) #[] 7 none)) = vs.toArray from eo]
  refine wpAny_pure (fin vs.toArray (by simp) ?_)
  match vs,mW,h2 with
  | [],_,_=>exact List.Pairwise.nil
  | [x],_,_=>exact List.pairwise_singleton _ _
  | x :: y :: r,mW,h2=>exact absurd h2 (by rw [mW,List.length_cons,List.length_cons]; omega)
 ·rw [if_neg h2,if_neg h2]
  obtain ⟨tO,tH⟩ := hk (by omega)
  refine wpAny_bind (tO _ ?_)
  have hz:(vs.toArray.zip vs.toArray).size = vs.length:=by rw [Gf]; simp
  refine wpAny_bind (wpAny_mono (Qh (st:=SortSt.mk' κ (vs.toArray.zip vs.toArray) #[] 7 none) tH ⟨Array.Perm.refl _,rfl,rfl⟩ rfl (Q:=fun _ aE=>Bs κ (vs.toArray.zip vs.toArray) aE /\ Ht (fun p=>g p.1) (arrOf aE) 0 (vs.toArray.zip vs.toArray).size) fun aE b1 b2=>⟨b1,b2⟩) ?_ fun _ _ e=>e)
  rintro ⟨⟨⟩,aE⟩ s' ⟨rfl,hB,hS⟩
  dsimp only at hB hS ⊢
  have bW:∀ p ∈ arrOf aE,p.1 = p.2 /\ p.1 ∈ vs:=fun p hp=>by
   have:=hB.perm.mem_iff.mp hp
   rw [Gf] at this
   have h3:p ∈ vs.map fun v=>(v,v):=by simpa using this
   obtain ⟨v,hv,rfl⟩ := List.mem_map.mp h3
   exact ⟨rfl,hv⟩
  have eY:((arrOf aE).map (·.2)).toList.Perm vs:=by
   rw [Array.toList_map]
   have:=(Array.perm_iff_toList_perm.mp hB.perm).map (·.2)
   rw [Gf,Vl] at this
   exact this
  have nW:((arrOf aE).map (·.2)).toList.Pairwise (fun x y=>g x <= g y):=by
   rw [Array.toList_map]
   refine List.pairwise_iff_getElem.mpr fun i j hi hj xB=>?_
   rw [List.length_map,Array.length_toList] at hi hj
   have ei:(arrOf aE)[i]? = some (arrOf aE)[i]:=getElem?_pos (arrOf aE) i hi
   have ej:(arrOf aE)[j]? = some (arrOf aE)[j]:=getElem?_pos (arrOf aE) j hj
   have h4:=hS i j (Nat.zero_le _) (Nat.le_of_lt xB) (by rw [<- hB.size]; exact hj)
   rw [Au ei,Au ej] at h4
   have e1:=(bW _ (Array.mem_of_getElem? ei)).1
   have e2:=(bW _ (Array.mem_of_getElem? ej)).1
   rw [e1,e2] at h4
   simpa using h4
  refine wpAny_bind (seqEpoch_at HY rfl (wpAny_bind (listUpdate_at HY rfl ?_ (Nat.zero_le _) (by
   have:=eY.length_eq
   rw [Array.length_toList] at this
   rw [this]
   omega))))
  rw [show failedOf aE = none from hB.failed]
  simp only [bne_self_eq_false,Bool.false_eq_true,if_false]
  exact wpAny_pure (fin _ eY nW)
end
open PySem PySem.Spec PySem.SeqAt PyProof.Rows
section
variable {prog:Program} {w:World} {E:Value -> Shared -> Prop}
theorem W4 {A : Around} {s : Shared} {vs : List Value} {κ : SortKind} {g : Value -> Nat} {r : Value} {Q : Value -> Shared -> Prop} {h1 : Heap} {t1 : Nat} (hsz : vs.length <= sizeLine) (UD : ∀ R : List Value -> Shared -> Prop, R vs { s with heap := h1, toks := t1 } -> wpAny (model prog w) A.in1 (collect r) R E s)
  (nA:∀ (h6:Heap) (A':Around),A'.units <= A.units + 4 -> (∀ b o,h1.get? b = some o -> h6.get? b = some o) -> 2 <= vs.length -> (∀ Q E,Q κ { s with heap:=h6,toks:=t1 } -> wpAny (model prog w) A' (keyKind' vs.toArray) Q E { s with heap:=h6,toks:=t1 }) /\ I0 prog w A' { s with heap:=h6,toks:=t1 } κ (fun p=>g p.1) (vs.toArray.zip vs.toArray))
  (h:∀ (out:Array Value) (h':Heap) (c:Nat),out.toList.Perm vs -> out.toList.Pairwise (fun x y=>g x <= g y) -> (∀ b o,h1.get? b = some o -> h'.get? b = some o) -> h'.get? h1.objs.size = some (seqObj "list" out c) -> Q (.ref h1.objs.size) { s with heap:=h',toks:=t1 }) :
  wpAny (model prog w) A (call (.builtin "sorted") [r]) Q E s:=by
 refine Calls.call_function_entry kind_sorted plain_sorted entry_sorted (args_sorted1 _) ?_
 unfold Builtin.«sorted»
 refine wpAny_bind (m:=checkCount "sorted" 1 1 _) (wpAny_pure ?_)
 refine wpAny_bind (UD _ (wpAny_bind (wpAny_newList ?_ )))
 have GS:(h1.push (seqObj "list" vs.toArray 0)).get? h1.objs.size = some (seqObj "list" vs.toArray 0):=Heap.get?_push_size _ rfl
 show wpAny _ _ _ _ _ { s with heap:=h1.push (seqObj "list" vs.toArray 0),toks:=t1 }
 refine wpAny_bind (wpAny_holding (wpAny_call_entry slot_list_sort ⟨_,GS,rfl⟩ entry_list_sort (Y2 (κ:=κ) (g:=g) (s:={ s with heap:=h1.push (seqObj "list" vs.toArray 0),toks:=t1 }) GS hsz (fun h6 kp h2=>?_) fun out p1 p2=>⟨_,rfl,?_⟩) (args_list_sort _)))
 ·obtain ⟨k1,k2⟩ := nA h6 A.in1.in1 (show A.units + 1 + 1 <= A.units + 4 by omega) (fun b o e=>kp b o (Nat.ne_of_lt (Heap.lt_size e)) (Heap.get?_push_of_some _ e)) h2
  exact ⟨fun Q hq=>k1 Q _ hq,k2⟩
 ·obtain ⟨c,hc⟩ : ∃ c,(sortedHeap (h1.push (seqObj "list" vs.toArray 0)) h1.objs.size vs out).get? h1.objs.size = some (seqObj "list" out c):=sortedHeap_at GS
  refine wpAny_pure ⟨_,rfl,h out _ c p1 p2 (fun b o e=>?_) hc⟩
  rw [sortedHeap_old (Nat.ne_of_lt (Heap.lt_size e)) (by rw [size_push']; exact Nat.lt_succ_of_lt (Heap.lt_size e))]
  exact Heap.get?_push_of_some _ e
end
section
variable {X:Cx} {k:Nat}
def Ov:Value -> Addr
 | .ref a=>a
 | _=>0
def Ri (H:Hp) (b:Bool) (D:V -> PyData) (g:V -> Nat) (us:List V):Prop:=(∀ u ∈ us,Rp H (D u) u /\ J2 b (D u) /\ (D u).depth <= 50) /\ ∀ u ∈ us,∀ v ∈ us,ar (D u) (D v) /\ Jl (D u) (D v) = decide (g u < g v)
theorem Ri.ref {H:Hp} {b:Bool} {D:V -> PyData} {g:V -> Nat} {us:List V} (h:Ri H b D g us):∃ as:List Addr,us = as.map V.ref:=by
 have key:∀ us:List V,(∀ u ∈ us,Rp H (D u) u /\ J2 b (D u)) -> ∃ as:List Addr,us = as.map V.ref:=by
  intro us
  induction us with
  | nil=>exact fun _=>⟨[],rfl⟩
  | cons u us ih =>
   intro hall
   obtain ⟨as,rfl⟩ := ih fun v hv=>hall v (List.mem_cons_of_mem _ hv)
   obtain ⟨h1,x,r,e,_⟩ := hall u List.mem_cons_self
   rw [e] at h1
   unfold Rp at h1
   obtain ⟨a,TL,ea,_⟩ := h1
   exact ⟨a :: as,by rw [ea]; rfl⟩
 exact key us fun u hu=>⟨(h.1 u hu).1,(h.1 u hu).2.1⟩
theorem Ri.asks {P : Program} {w : World} {pins : List (Addr × Obj)} {σ : St} {H : Hp} {s : Shared} {b : Bool} {D : V -> PyData} {g : V -> Nat} {as : List Addr} {A' : Around} {E : Value -> Shared -> Prop} (I : Ai X pins σ H s) (hP : X.prog = P) (hw : X.w = w) (h : Ri H b D g (as.map V.ref)) (hu : A'.units + 50 < cLine) (h2 : 2 <= as.length) :
  (∀ Q E,Q (PyProof.Rows.tuples' b) s -> wpAny (model P w) A' (keyKind' (as.map Value.ref).toArray) Q E s) /\ I0 P w A' s (PyProof.Rows.tuples' b) (fun p=>g (.ref (Ov p.1))) ((as.map Value.ref).toArray.zip (as.map Value.ref).toArray):=by
 subst hP hw
 have rd:∀ a ∈ as,∃ xs,Reads s.heap (.ref a) (D (.ref a)) xs:=fun a ha=>Cr I _ _ _ (h.1 _ (List.mem_map_of_mem ha)).1 rfl
 refine ⟨fun Q E hq=>W1 (b:=b) ?_ (fun v hv=>?_) hq,fun x y hx hy Q E hq=>?_⟩
 ·intro e
  have:=congrArg List.length e
  rw [List.length_map,List.length_nil] at this
  omega
 ·obtain ⟨a,ha,rfl⟩ := List.mem_map.mp hv
  obtain ⟨xs,r⟩ := rd a ha
  exact ⟨_,xs,r,(h.1 _ (List.mem_map_of_mem ha)).2.1⟩
 ·have mem : ∀ z, z ∈ (as.map Value.ref).toArray.zip (as.map Value.ref).toArray -> ∃ a ∈ as, z.1 = Value.ref a := fun z hz => by
   rw [Gf] at hz
   have h3:z ∈ (as.map Value.ref).map fun v=>(v,v):=by simpa using hz
   obtain ⟨v,hv,rfl⟩ := List.mem_map.mp h3
   obtain ⟨a,ha,rfl⟩ := List.mem_map.mp hv
   exact ⟨a,ha,rfl⟩
  obtain ⟨a,ha,ea⟩ := mem x hx
  obtain ⟨c,hc,ec⟩ := mem y hy
  have QF:=List.mem_map_of_mem (f:=V.ref) ha
  have fN:=List.mem_map_of_mem (f:=V.ref) hc
  obtain ⟨xs,r1⟩ := rd a ha
  obtain ⟨ys,r2⟩ := rd c hc
  obtain ⟨c1,c2⟩ := h.2 _ QF _ fN
  obtain ⟨x1,x2⟩ := x
  obtain ⟨y1,y2⟩ := y
  obtain rfl:x1 = Value.ref a:=ea
  obtain rfl:y1 = Value.ref c:=ec
  refine Zu r1 r2 (h.1 _ QF).2.1 (h.1 _ fN).2.1 (Cs _ _ (h.1 _ QF).1) (Cs _ _ (h.1 _ fN).1) c1 ?_ ?_
  ·have:=(h.1 _ QF).2.2
   omega
  ·rw [c2]
   exact hq
theorem Wd {g:V -> Nat} {as:List Addr} {out:List Value} (hp:out.Perm (as.map Value.ref)) (hs:out.Pairwise (fun x y=>g (.ref (Ov x)) <= g (.ref (Ov y)))):∃ jC:List V,Aw jC out /\ jC.Perm (as.map V.ref) /\ jC.Pairwise (fun x y=>g x <= g y):=by
 have hr:∀ v ∈ out,v = .ref (Ov v):=fun v hv=>by
  obtain ⟨a,_,rfl⟩ := List.mem_map.mp (hp.mem_iff.mp hv)
  rfl
 refine ⟨out.map fun v=>.ref (Ov v),?_,?_,?_⟩
 ·have key : ∀ l : List Value, (∀ v ∈ l, v = .ref (Ov v)) -> Aw (l.map fun v => V.ref (Ov v)) l := by
   intro l
   induction l with
   | nil=>exact fun _=>.nil
   | cons v l ih=>exact fun h=>.cons (h v List.mem_cons_self) (ih fun v hv=>h v (List.mem_cons_of_mem _ hv))
  exact key out hr
 ·have:=hp.map fun v=>V.ref (Ov v)
  rw [List.map_map] at this
  exact this
 ·rw [List.pairwise_map]
  exact hs
def Yp (K:PySem.W.Frag):List V -> Hp -> VK -> Prop:=fun xs H Q=>∃ (l:Addr) (us:List V) (b:Bool) (D:V -> PyData) (g:V -> Nat),xs = [.ref l] /\ Bg K H l us /\ us.length <= 20000 /\ Ri H b D g us /\ ∀ (p:Addr) (jC:List V),H p = none -> jC.Perm us -> jC.Pairwise (fun x y=>g x <= g y) -> Q (.ref p) (upd H p (.lst jC))
theorem Q6 (hr:Cq k X.A):Dy X (.builtin "sorted") (Yp X.K):=by
 intro pins s σ H xs us Q I r h
 obtain ⟨l,vs,b,D,g,rfl,hq,hl,hD,q⟩ := h
 obtain ⟨u,rfl,ru⟩ := r.one
 cases ru
 obtain ⟨aD,rv,pl,hz⟩ := I.list hq
 obtain ⟨as,rfl⟩ := hD.ref
 obtain rfl:=Nb as aD rv
 have hu:=hr.units
 have h63:=G8
 have hlen:(as.map Value.ref).length <= sizeLine:=by
  rw [List.length_map]
  rw [List.length_map] at hl
  exact Nat.le_trans hl (by rw [sizeLine_eq]; decide)
 have kp:∀ b o,s.heap.get? b = some o -> ((s.heap.push (seqObj "list" #[] 0)).update s.heap.objs.size (Obj.mapSeq (· ++ (as.map Value.ref).toArray))).get? b = some o:=fun b o e=>(Heap.get?_update_other _ _ (Ne.symm (Nat.ne_of_lt (Heap.lt_size e)))).trans (Heap.get?_push_of_some _ e)
 refine W4 (h1:=(s.heap.push (seqObj "list" #[] 0)).update s.heap.objs.size (Obj.mapSeq (· ++ (as.map Value.ref).toArray))) (t1:=s.toks) (κ:=PyProof.Rows.tuples' b) (g:=fun v=>g (.ref (Ov v))) hlen (fun R hR=>collect_list pl.isList hR hlen) (fun h6 A' hA' k6 h2=>?_) fun out h' c p1 p2 k' e'=>?_
 ·have I6:Ai X pins σ H { s with heap:=h6 }:=I.kept (t':=s.toks) fun b o e=>k6 b o (kp b o e)
  rw [List.length_map] at h2
  exact hD.asks (E:=fun _ _=>True) I6 rfl rfl (by have:=hr.un; omega) h2
 ·obtain ⟨jC,v1,v2,v3⟩ := Wd p1 p2
  refine ⟨.ref _,upd H _ (.lst jC),I.laid (t':=s.toks) (fun b o e=>k' b o (kp b o e)) ?_ ?_,rfl,q _ jC (I.aF.fresh ?_) v2 v3⟩
  ·rw [Heap.size_update,size_push']
   exact Nat.le_succ _
  ·exact ⟨by rw [v2.length_eq]; exact hz,out.toList,c,v1,e'⟩
  ·rw [Heap.size_update,size_push']
   exact Nat.le_succ _
end
open PySem.W (KdxIt)
section
variable {P:Program} {w:World} {A:Around} {E:Value -> Shared -> Prop} {s:Shared}
def jm (h:Heap) (it d S:Addr) (i n ep:Nat):Prop:=(i = 0 /\ ∃ ok ov,IsItemIter h it d 0 n ep ok ov) \/ ∃ ok ov a f oa,KdxIt h it d i n ep ok ov a f /\ h.get? a = some oa /\ a ≠ it /\ a ≠ S
structure u8 (es:Array DictEntry) (lo:Addr) (h:Heap) (as:List Addr):Prop where
 rise:as.Pairwise (· < ·)
 above:∀ a ∈ as,lo < a
 at_:∀ (j:Nat) (a:Addr),as[j]? = some a -> ∃ en,es[j]? = some en /\ h.get? a = some { cls := .type "tuple",data := .seq #[en.key,en.val] }
theorem u8.lt {es:Array DictEntry} {lo:Addr} {h:Heap} {as:List Addr} (g:u8 es lo h as) {a:Addr} (ha:a ∈ as):a < h.objs.size:=by
 obtain ⟨j,hj⟩ := List.mem_iff_getElem?.mp ha
 obtain ⟨_,_,e⟩ := g.at_ j a hj
 exact Heap.lt_size e
theorem jm.keep {h h':Heap} {it d S:Addr} {i n ep:Nat} (x:jm h it d S i n ep) (hk:∀ b o,b ≠ S -> h.get? b = some o -> h'.get? b = some o) (hI:it ≠ S):jm h' it d S i n ep:=by
 rcases x with ⟨e,ok,ov,hit⟩ | ⟨ok,ov,a,f,oa,hit,ha,hai,haS⟩
 ·exact .inl ⟨e,ok,ov,hk it _ hI hit⟩
 ·exact .inr ⟨ok,ov,a,f,oa,hk it _ hI hit,hk a _ haS ha,hai,haS⟩
end
section
variable {prog:Program} {w:World} {E:Value -> Shared -> Prop}
end
section
variable {X:Cx} {k:Nat} {pins:List (Addr × Obj)} {σ:St} {H H':Hp} {s:Shared} {h':Heap}
def dz (v D:Addr):HO := .ext fun h=>h.IsItemsView v D
def ox:V -> List V -> Hp -> VK -> Prop:=fun x vs H Q=>∃ D kvs,x = .ref D /\ vs = [] /\ H D = some (.dT kvs) /\ ∀ v,H v = none -> Q (.ref v) (upd H v (dz v D))
def vc (k:(List Int × Int)):PyData := .tuple [.tuple (k.1.map PyData.int),.int k.2]
mutual
theorem nn {H H':Hp} (sm:A9 H H'):∀ (d:PyData) (v:V),Rp H d v -> Rp H' d v
 | .none,v,h=>h
 | .bool _,v,h=>h
 | .int _,v,h=>h
 | .str _,v,h=>h
 | .dict _,v,h=>h
 | .tuple ds,v,h=>by
  unfold Rp at h ⊢
  obtain ⟨a,xs,e,h1,h2⟩ := h
  exact ⟨a,xs,e,sm _ _ h1,kJ sm ds xs h2⟩
 | .list ds,v,h=>by
  unfold Rp at h ⊢
  obtain ⟨a,xs,e,h1,h2⟩ := h
  exact ⟨a,xs,e,sm _ _ h1,kJ sm ds xs h2⟩
theorem kJ {H H':Hp} (sm:A9 H H'):∀ (ds:List PyData) (vs:List V),aG H ds vs -> aG H' ds vs
 | [],vs,h=>by
  unfold aG at h ⊢
  exact h
 | d :: ds,vs,h=>by
  unfold aG at h ⊢
  obtain ⟨x,xs,e,h1,h2⟩ := h
  exact ⟨x,xs,e,nn sm d x h1,kJ sm ds xs h2⟩
end
def vf (H:Hp) (kv:(List Int × Int) × V) (u:V):Prop := ∃ a b,u = .ref a /\ H a = some (.tup [.ref b,kv.2]) /\ Ds H b kv.1
def Vh (dv:(List Int × Int) × V -> PyData) (kv:(List Int × Int) × V):PyData := .tuple [vc kv.1,dv kv]
def sn:List V -> Hp -> VK -> Prop:=fun xs H Q=>∃ (v D:Addr) (kvs:List ((List Int × Int) × V)) (dv:(List Int × Int) × V -> PyData) (g:(List Int × Int) × V -> Nat),xs = [.ref v] /\ H v = some (dz v D) /\ H D = some (.dT kvs) /\ (∀ kv ∈ kvs,Rp H (dv kv) kv.2 /\ (dv kv).depth <= 40) /\
 (∀ a ∈ kvs,∀ b ∈ kvs,ar (Vh dv a) (Vh dv b) /\ Jl (Vh dv a) (Vh dv b) = decide (g a < g b)) /\
 ∀ (p:Addr) (us:List V) (ps:List ((List Int × Int) × V)) (H':Hp),A9 H H' -> H p = none -> H' p = some (.lst us) -> ps.Perm kvs -> ps.Pairwise (fun x y=>g x <= g y) -> Paired (vf H') ps us -> Q (.ref p) H'
end
section
variable {X:Cx}
def br:V -> List V -> Hp -> VK -> Prop:=fun x vs H Q=>∃ l xs i y,x = .ref l /\ vs = [.int i,y] /\ H l = some (.lst xs) /\ 0 <= i /\ i <= (xs.length:Int) /\ xs.length < sizeLine /\ Q .aR (upd H l (.lst (xs.take i.toNat ++ y :: xs.drop i.toNat)))
theorem Wp:kc X "list.insert" br:=by
 intro pins s σ H x vs v us Q I rx rv h
 obtain ⟨l,xs,i,y,rfl,rfl,hH,h0,h1,hz,q⟩ := h
 cases rx
 obtain ⟨u,w,rfl,ru,fJ⟩ := rv.two
 obtain ⟨t,rfl⟩ := ru
 obtain ⟨z,aD,n,r,hl,e⟩ := I.nI hH
 have hi:i.toNat <= aD.length:=by omega
 have h63:=G8
 refine call_meets F.slot_list_insert ⟨_,e,rfl⟩ F.entry_list_insert (F.args_list_insert_3 _ _ _) (PySem.AutoSeq1.list_insert_list_int_val_1 l aD.toArray n i t w (by rw [fitsIndex_both (by omega) (by omega)]; simp) (by rw [List.size_toArray]; omega)) ⟨e,?_⟩
 refine ⟨.aR,_,I.sX (its':=aD.take i.toNat ++ w :: aD.drop i.toNat) hH e ?_ ((r.take _).append (.cons fJ (r.drop _))) ?_,rfl,q⟩
 ·show (aD.toArray.extract 0 (if i < 0 then (i + (aD.toArray.size:Int)).toNat else min i.toNat aD.toArray.size)).push w ++ aD.toArray.extract (if i < 0 then (i + (aD.toArray.size:Int)).toNat else min i.toNat aD.toArray.size) = _
  rw [List.size_toArray,if_neg (by omega),Nat.min_eq_left hi]
  exact Array.toList_inj.mp (by simp; exact List.take_of_length_le (by rw [List.length_drop]; omega))
 ·rw [List.length_append,List.length_cons,List.length_take,List.length_drop]
  omega
end
end L2
namespace Law
local macro_rules | `(tactic| ac_rfl) => `(tactic| first | exact ⟨rfl,rfl,rfl,by decide +kernel,rfl,by decide +kernel,by decide +kernel⟩ | exact ⟨rfl,by decide +kernel,by decide +kernel,by decide +kernel,by decide +kernel⟩)
local macro_rules | `(tactic| omega) => `(tactic| lia)
open PySem L2 PyProof.Rows
open PySem.Builtin.Int (intBits)
def top (i:Nat):Stmt:=PySem.Challenge.pw_roundcall_k78_whole_broken_in_time.main.body.getD i (.Pass ⟨0,0,0,0⟩)
abbrev On:Stmt:=top 7
abbrev Ng:Stmt:=top 8
abbrev Ob:Stmt:=top 9
abbrev Xi:Stmt:=top 10
abbrev Lz:Stmt:=top 11
abbrev Vy:Stmt:=top 12
abbrev Fz:Stmt:=top 13
abbrev Na:Stmt:=top 14
abbrev Fa:Stmt:=top 15
abbrev Xb:Stmt:=top 16
abbrev Og:Stmt:=top 17
abbrev L9:Stmt:=top 18
abbrev Ls:Stmt:=top 19
abbrev Xj:Stmt:=top 21
abbrev Ny:Stmt:=top 22
abbrev Vv:Stmt:=top 23
abbrev Lw:Stmt:=top 24
abbrev Nn:Stmt:=top 25
abbrev M9:Stmt:=top 26
abbrev Me:Stmt:=top 27
abbrev O2:Stmt:=top 28
abbrev Mo:Stmt:=top 30
abbrev S3:Stmt:=top 31
abbrev L3:Stmt:=top 32
abbrev Nf:Stmt:=top 36
abbrev Vr:Stmt:=Hv (top 38) 1
abbrev Np:Stmt:=Hv (top 37) 0
abbrev X6:Stmt:=Hv (top 40) 1
abbrev Nw:Stmt:=top 34
abbrev Xe:Stmt:=Hv (top 38) 0
abbrev Sc:Stmt:=Hv (top 40) 0
abbrev Oa:Stmt:=top 42
abbrev Oj:Stmt:=top 43
abbrev Nu:Stmt:=top 44
abbrev Kw:Stmt:=top 45
abbrev N0:Stmt:=top 46
abbrev Iu:Stmt:=top 47
theorem jd:Ar (["hall"]:List Str) ["hall"] (A6 On):=by ac_rfl
theorem fg:Ar (["hall","standing"]:List Str) ["hall","standing"] (A6 Ng):=by ac_rfl
theorem ij:Ar (["hall","who"]:List Str) ["hall","who"] (A6 Ob):=by ac_rfl
theorem m9:Ar (["hall","standing","who","lost"]:List Str) ["hall","standing","who","lost"] (A6 Xi):=by ac_rfl
theorem Xs:Ar (["hall","standing","who","lost","left"]:List Str) ["hall","standing","who","lost"] (A6 Lz):=by ac_rfl
def Ja:Scope:={ kind := .function,names:=[(PySem.Str.ofString ".0",NameKind.local),(PySem.Str.ofString "turns",NameKind.local)],isGenerator:=false,isCoroutine:=false,more:=[] }
theorem Jh:Cz (A6 Lz) Ja (["hall","standing","who","lost","left"]:List Str) (["turns"]:List Str) []:=by ac_rfl
theorem Jq:(Br (["hall","standing","who","lost","left"]:List Str) (["turns"]:List Str) []).Nodup:=by decide +kernel
theorem l5:Ar (["hall","standing","lost"]:List Str) ["hall","standing","lost"] (A6 Vy):=by ac_rfl
theorem Ze:Ar (["hall","standing","who","lost","left"]:List Str) ["hall","standing","who","lost"] (A6 Fz):=by ac_rfl
theorem Yx:Ar (["hall","standing","who","behind"]:List Str) ["hall","standing","who"] (A6 Na):=by ac_rfl
theorem Y1:Ar (["hall","standing","who","lost","left"]:List Str) ["hall","standing","who","lost"] (A6 Fa):=by ac_rfl
def Jm:Scope:={ kind := .function,names:=[(PySem.Str.ofString ".0",NameKind.local),(PySem.Str.ofString "number",NameKind.local),(PySem.Str.ofString "turns",NameKind.local)],isGenerator:=false,isCoroutine:=false,more:=[] }
theorem Jf:Cz (A6 Fa) Jm (["hall","standing","who","lost","left"]:List Str) (["number","turns"]:List Str) []:=by ac_rfl
theorem Fg:(Br (["hall","standing","who","lost","left"]:List Str) (["number","turns"]:List Str) []).Nodup:=by decide +kernel
theorem ni:Ar (["hall"]:List Str) ["hall"] (A6 Xb):=by ac_rfl
theorem P4:Ar (["hall","product","wait"]:List Str) ["hall"] (A6 Og):=by ac_rfl
theorem Jn:Ar (["waits","rows","wait","longer","row"]:List Str) ["waits"] (A6 L9):=by ac_rfl
def Mv:Scope:={ kind := .function,names:=[(PySem.Str.ofString ".0",NameKind.local),(PySem.Str.ofString "turns",NameKind.local),(PySem.Str.ofString "row",NameKind.free)],isGenerator:=false,isCoroutine:=false,more:=[] }
theorem Mt:Cz (A6 L9) Mv (["waits","rows","wait","longer","row"]:List Str) (["turns"]:List Str) [4]:=by ac_rfl
theorem Mp:(Br (["waits","rows","wait","longer","row"]:List Str) (["turns"]:List Str) [4]).Nodup:=by decide +kernel
theorem Se:Ar (["hall","told","left"]:List Str) ["hall"] (A6 Ls):=by ac_rfl
def L4:Scope:={ kind := .function,names:=[(PySem.Str.ofString ".0",NameKind.local),(PySem.Str.ofString "quiet",NameKind.local),(PySem.Str.ofString "left",NameKind.free)],isGenerator:=false,isCoroutine:=false,more:=[] }
theorem Lh:Cz (A6 Ls) L4 (["hall","told","left"]:List Str) (["quiet"]:List Str) [2]:=by ac_rfl
theorem M7:(Br (["hall","told","left"]:List Str) (["quiet"]:List Str) [2]).Nodup:=by decide +kernel
theorem Oi:Ar (["hall","pending","standing","calls","who","behind"]:List Str) ["hall"] (A6 Xj):=by ac_rfl
theorem Ho:Ar (["pending","ways","standing","calls","who","behind","later"]:List Str) ["pending"] (A6 Ny):=by ac_rfl
theorem N6:Ar (["pending","ways","ranked","bare","later","standing","who","calls"]:List Str) ["pending","ways","ranked"] (A6 Vv):=by ac_rfl
theorem Fr:Ar (["hall","pending","ways","table","rank","ranked","standing"]:List Str) ["hall"] (A6 Lw):=by ac_rfl
def Ud:Scope:={ kind := .function,names:=[(PySem.Str.ofString ".0",NameKind.local),(PySem.Str.ofString "standing",NameKind.local),(PySem.Str.ofString "calls",NameKind.local)],isGenerator:=false,isCoroutine:=false,more:=[] }
theorem Ta:Cz (A6 Lw) Ud (["hall","pending","ways","table","rank","ranked","standing"]:List Str) (["standing","calls"]:List Str) []:=by ac_rfl
theorem Lo:(Br (["hall","pending","ways","table","rank","ranked","standing"]:List Str) (["standing","calls"]:List Str) []).Nodup:=by decide +kernel
theorem iz:Ar (["table","behind"]:List Str) ["table","behind"] (A6 Nn):=by ac_rfl
theorem il:Ar (["hall","table","standing","who"]:List Str) ["hall","table","standing","who"] (A6 M9):=by ac_rfl
def K9:Scope:={ kind := .function,names:=[(PySem.Str.ofString ".0",NameKind.local),(PySem.Str.ofString "behind",NameKind.local),(PySem.Str.ofString "worth",NameKind.globalImplicit),(PySem.Str.ofString "table",NameKind.free)],isGenerator:=false,isCoroutine:=false,more:=[] }
theorem K5:Cz (A6 M9) K9 (["hall","table","standing","who"]:List Str) (["behind"]:List Str) [1]:=by ac_rfl
theorem Kf:(Br (["hall","table","standing","who"]:List Str) (["behind"]:List Str) [1]).Nodup:=by decide +kernel
theorem Yr:Ar (["hall","table","standing","worths"]:List Str) ["hall","table","standing"] (A6 Me):=by ac_rfl
def L7:Scope:={ kind := .function,names:=[(PySem.Str.ofString ".0",NameKind.local),(PySem.Str.ofString "who",NameKind.local),(PySem.Str.ofString "call_worth",NameKind.globalImplicit),(PySem.Str.ofString "hall",NameKind.free),(PySem.Str.ofString "standing",NameKind.free),(PySem.Str.ofString "table",NameKind.free)],isGenerator:=false,isCoroutine:=false,more:=[] }
theorem Mm:Cz (A6 Me) L7 (["hall","table","standing","worths"]:List Str) (["who"]:List Str) [0,1,2]:=by ac_rfl
theorem Lc:(Br (["hall","table","standing","worths"]:List Str) (["who"]:List Str) [0,1,2]).Nodup:=by decide +kernel
theorem Zm:Ar (["hall","table","standing","who","reached"]:List Str) ["hall","table","standing","who"] (A6 O2):=by ac_rfl
theorem ju:Ar (["hall","table","standing"]:List Str) ["hall","table","standing"] (A6 Mo):=by ac_rfl
def Jk:Scope:={ kind := .function,names:=[(PySem.Str.ofString ".0",NameKind.local),(PySem.Str.ofString "who",NameKind.local),(PySem.Str.ofString "worst_answer",NameKind.globalImplicit),(PySem.Str.ofString "hall",NameKind.free),(PySem.Str.ofString "standing",NameKind.free),(PySem.Str.ofString "table",NameKind.free)],isGenerator:=false,isCoroutine:=false,more:=[] }
theorem Ix:Cz (A6 Mo) Jk (["hall","table","standing"]:List Str) (["who"]:List Str) [0,1,2]:=by ac_rfl
theorem Jc:(Br (["hall","table","standing"]:List Str) (["who"]:List Str) [0,1,2]).Nodup:=by decide +kernel
theorem dy:Ar (["hall","standing","answers","behind"]:List Str) ["hall","standing","answers"] (A6 S3):=by ac_rfl
def Ga:Scope:={ kind := .function,names:=[(PySem.Str.ofString ".0",NameKind.local),(PySem.Str.ofString "who",NameKind.local),(PySem.Str.ofString "lost",NameKind.local),(PySem.Str.ofString "after",NameKind.globalImplicit),(PySem.Str.ofString "hall",NameKind.free),(PySem.Str.ofString "standing",NameKind.free)],isGenerator:=false,isCoroutine:=false,more:=[] }
theorem Gj:Cz (A6 S3) Ga (["hall","standing","answers","behind"]:List Str) (["who","lost"]:List Str) [0,1]:=by ac_rfl
theorem Du:(Br (["hall","standing","answers","behind"]:List Str) (["who","lost"]:List Str) [0,1]).Nodup:=by decide +kernel
def Gr:Scope:={ kind := .function,names:=[(PySem.Str.ofString ".0",NameKind.local),(PySem.Str.ofString "later",NameKind.local)],isGenerator:=false,isCoroutine:=false,more:=[] }
theorem Gm:Cz (A6 S3) Gr (["hall","standing","answers","behind"]:List Str) (["later"]:List Str) []:=by ac_rfl
theorem Gc:(Br (["hall","standing","answers","behind"]:List Str) (["later"]:List Str) []).Nodup:=by decide +kernel
theorem La:Ar (["hall","table","told","coming","standing"]:List Str) ["hall"] (A6 L3):=by ac_rfl
def Il:Scope:={ kind := .function,names:=[(PySem.Str.ofString ".0",NameKind.local),(PySem.Str.ofString "standing",NameKind.local),(PySem.Str.ofString "answers",NameKind.local),(PySem.Str.ofString "table",NameKind.free)],isGenerator:=false,isCoroutine:=false,more:=[] }
theorem Ih:Cz (A6 L3) Il (["hall","table","told","coming","standing"]:List Str) (["standing","answers"]:List Str) [1]:=by ac_rfl
theorem Eo:(Br (["hall","table","told","coming","standing"]:List Str) (["standing","answers"]:List Str) [1]).Nodup:=by decide +kernel
theorem jc:Ar (["standing"]:List Str) ["standing"] (A6 Nf):=by ac_rfl
theorem d8:Ar (["self","hall","standing","place"]:List Str) ["self","hall","standing"] (A6 Vr):=by ac_rfl
theorem jt:Ar (["self","hall","standing"]:List Str) ["self","hall","standing"] (A6 Np):=by ac_rfl
theorem mo:Ar (["self","hall","standing","who"]:List Str) ["self","hall","standing","who"] (A6 X6):=by ac_rfl
theorem Hm:Ar (["hall","caller","road","turns","rows","standing","who","lost","broken"]:List Str) ["hall","caller","road","turns"] (A6 Nw):=by ac_rfl
theorem og:Ar (["self","row"]:List Str) ["self","row"] (A6 Xe):=by ac_rfl
theorem mj:Ar (["self","paper"]:List Str) ["self","paper"] (A6 Sc):=by ac_rfl
def Fe:Scope:={ kind := .function,names:=[(PySem.Str.ofString ".0",NameKind.local),(PySem.Str.ofString "standing",NameKind.local),(PySem.Str.ofString "rank",NameKind.local),(PySem.Str.ofString "answers",NameKind.local)],isGenerator:=false,isCoroutine:=false,more:=[] }
theorem Fb:Cz (A6 Sc) Fe (["self","paper"]:List Str) (["standing","rank","answers"]:List Str) []:=by ac_rfl
theorem Cf:(Br (["self","paper"]:List Str) (["standing","rank","answers"]:List Str) []).Nodup:=by decide +kernel
theorem ii:Ar (["script","k"]:List Str) ["script","k"] (A6 Oa):=by ac_rfl
theorem Ma:Ar (["script","kind","cell","waits"]:List Str) ["script"] (A6 Oj):=by ac_rfl
theorem Tg:Ar (["script","many","row","cell"]:List Str) ["script","many"] (A6 Nu):=by ac_rfl
theorem Dn:Ar (["hall","told","caller","road","begin","rank","found","above","standing","who","lost","due"]:List Str) ["hall","told","caller","road"] (A6 Kw):=by ac_rfl
def Kd:Scope:={ kind := .function,names:=[(PySem.Str.ofString ".0",NameKind.local),(PySem.Str.ofString "k",NameKind.local),(PySem.Str.ofString "lost",NameKind.free),(PySem.Str.ofString "standing",NameKind.free),(PySem.Str.ofString "who",NameKind.free)],isGenerator:=false,isCoroutine:=false,more:=[] }
theorem Kh:Cz (A6 Kw) Kd (["hall","told","caller","road","begin","rank","found","above","standing","who","lost","due"]:List Str) (["k"]:List Str) [10,9,8]:=by ac_rfl
theorem K8:(Br (["hall","told","caller","road","begin","rank","found","above","standing","who","lost","due"]:List Str) (["k"]:List Str) [10,9,8]).Nodup:=by decide +kernel
theorem G9:Ar (["hall","told","road","table","standing","turns","rank","who"]:List Str) ["hall","told","road"] (A6 N0):=by ac_rfl
theorem Fw:Ar (["script","hall","paper","told","standing","rank","answers","road","row"]:List Str) ["script"] (A6 Iu):=by ac_rfl
set_option genInjectivity false in
set_option genSizeOf false in
structure ue where
 cE:Addr
 bS:Addr
 cS:Addr
 gO:Addr
 cF:Addr
 gP:Addr
 bH:Addr
 cH:Addr
 cJ:Addr
 fQ:Addr
 cT:Addr
 cU:Addr
 cV:Addr
 gQ:Addr
 cW:Addr
 gR:Addr
 cK:Addr
 cL:Addr
 cX:Addr
 cY:Addr
 cZ:Addr
 dA:Addr
 gS:Addr
 dB:Addr
 cM:Addr
 gT:Addr
 dC:Addr
 fR:Addr
 dD:Addr
 gU:Addr
 gW:Addr
 cN:Addr
 dE:Addr
 dG:Addr
 dH:Addr
 dJ:Addr
 eZ:Addr
structure Txt (K:PySem.W.Frag) (mg:Str -> Option Value) (ad:ue) (aC aA aB:Addr):Prop where
 nX:mg "beginning" = some (.ref ad.cE)
 k_x22:PySem.W.keepIn K (.ref ad.cE) = true
 lN:mg "may_lose" = some (.ref ad.bS)
 k_x25:PySem.W.keepIn K (.ref ad.bS) = true
 HZ:mg "is_listener" = some (.ref ad.cS)
 k_x12:PySem.W.keepIn K (.ref ad.cS) = true
 UE:mg "refuse_wrong_turn" = some (.ref ad.gO)
 k_x3:PySem.W.keepIn K (.ref ad.gO) = true
 vA:mg "left_behind" = some (.ref ad.cF)
 k_x13:PySem.W.keepIn K (.ref ad.cF) = true
 UG:mg "quiet_behind" = some (.ref ad.gP)
 k_x8:PySem.W.keepIn K (.ref ad.gP) = true
 fS:mg "after" = some (.ref ad.bH)
 k_x32:PySem.W.keepIn K (.ref ad.bH) = true
 vB:mg "all_behind" = some (.ref ad.cH)
 k_x18:PySem.W.keepIn K (.ref ad.cH) = true
 IA:mg "broken_ones" = some (.ref ad.cJ)
 k_x14:PySem.W.keepIn K (.ref ad.cJ) = true
 IB:mg "quiet_values" = some (.ref ad.fQ)
 k_x9:PySem.W.keepIn K (.ref ad.fQ) = true
 IC:mg "how_many" = some (.ref ad.cT)
 k_x26:PySem.W.keepIn K (.ref ad.cT) = true
 ID:mg "all_left" = some (.ref ad.cU)
 k_x27:PySem.W.keepIn K (.ref ad.cU) = true
 IE:mg "standings" = some (.ref ad.cV)
 k_x23:PySem.W.keepIn K (.ref ad.cV) = true
 UH:mg "calls_by_standing" = some (.ref ad.gQ)
 k_x4:PySem.W.keepIn K (.ref ad.gQ) = true
 IG:mg "ways_to" = some (.ref ad.cW)
 k_x30:PySem.W.keepIn K (.ref ad.cW) = true
 UI:mg "without_calls_left" = some (.ref ad.gR)
 k_x0:PySem.W.keepIn K (.ref ad.gR) = true
 vC:mg "ranks" = some (.ref ad.cK)
 k_x33:PySem.W.keepIn K (.ref ad.cK) = true
 nY:mg "worth" = some (.ref ad.cL)
 k_x34:PySem.W.keepIn K (.ref ad.cL) = true
 IH:mg "call_worth" = some (.ref ad.cX)
 k_x19:PySem.W.keepIn K (.ref ad.cX) = true
 II:mg "best_call" = some (.ref ad.cY)
 k_x24:PySem.W.keepIn K (.ref ad.cY) = true
 IJ:mg "worst_answer" = some (.ref ad.cZ)
 k_x10:PySem.W.keepIn K (.ref ad.cZ) = true
 IK:mg "all_answers" = some (.ref ad.dA)
 k_x15:PySem.W.keepIn K (.ref ad.dA) = true
 UJ:mg "unbroken_behind" = some (.ref ad.gS)
 k_x5:PySem.W.keepIn K (.ref ad.gS) = true
 IL:mg "broken_paper" = some (.ref ad.dB)
 k_x11:PySem.W.keepIn K (.ref ad.dB) = true
 vD:mg "least_left" = some (.ref ad.cM)
 k_x20:PySem.W.keepIn K (.ref ad.cM) = true
 IM:mg "play" = some (.ref ad.dD)
 k_x35:PySem.W.keepIn K (.ref ad.dD) = true
 nZ:mg "_law_cell_at" = some (.ref ad.cN)
 k_x17:PySem.W.keepIn K (.ref ad.cN) = true
 IP:mg "_law_hall" = some (.ref ad.dE)
 k_x28:PySem.W.keepIn K (.ref ad.dE) = true
 IQ:mg "_law_row" = some (.ref ad.dG)
 k_x31:PySem.W.keepIn K (.ref ad.dG) = true
 oA:mg "_law_broken" = some (.ref ad.dH)
 k_x21:PySem.W.keepIn K (.ref ad.dH) = true
 IT:mg "_law_best" = some (.ref ad.dJ)
 k_x29:PySem.W.keepIn K (.ref ad.dJ) = true
 m_law:mg "law" = some (.ref ad.eZ)
 k_law:PySem.W.keepIn K (.ref ad.eZ) = true
 bN:mg "len" = none
 vE:mg "max" = none
 dZ:mg "tuple" = none
 fA:mg "enumerate" = none
 cP:mg "range" = none
 vF:mg "min" = none
 oB:mg "sorted" = none
 oC:mg "list" = none
 xI:mg "dict" = none
 eF:mg "isinstance" = none
 eS:∃ t,mg "MOST_STANDINGS" = some (.int 3000 t)
 oE:mg "Caller" = some (.ref aC)
 fB:mg "RowCaller" = some (.ref aA)
 jN:mg "PaperRoad" = some (.ref aB)
 mF:Xk K aC
 mG:pz K aC
 IU:Z2 K aC "call" ad.dC
 aO:Xk K aA
 eG:Mk K aA ad.gU
 UK:Z2 K aA "call" ad.gT
 bB:Fx K aA "row"
 aW:Fx K aA "asked"
 aU:Xk K aB
 iQ:Mk K aB ad.gW
 IV:Z2 K aB "loses" ad.fR
 aP:Fx K aB "paper"
inductive W9 (p0 p1 p2:Prop):Prop where
 | mk (h0:p0) (h1:p1) (h2:p2):W9 p0 p1 p2
inductive Sz (p0 p1 p2 p3:Prop):Prop where
 | mk (h0:p0) (h1:p1) (h2:p2) (h3:p3):Sz p0 p1 p2 p3
inductive Mn (p0 p1 p2 p3 p4:Prop):Prop where
 | mk (h0:p0) (h1:p1) (h2:p2) (h3:p3) (h4:p4):Mn p0 p1 p2 p3 p4
inductive Mz (p0 p1 p2 p3 p4 p5:Prop):Prop where
 | mk (h0:p0) (h1:p1) (h2:p2) (h3:p3) (h4:p4) (h5:p5):Mz p0 p1 p2 p3 p4 p5
inductive X7 (p0 p1 p2 p3 p4 p5 p6:Prop):Prop where
 | mk (h0:p0) (h1:p1) (h2:p2) (h3:p3) (h4:p4) (h5:p5) (h6:p6):X7 p0 p1 p2 p3 p4 p5 p6
inductive Wu (p0 p1 p2 p3 p4 p5 p6 p7:Prop):Prop where
 | mk (h0:p0) (h1:p1) (h2:p2) (h3:p3) (h4:p4) (h5:p5) (h6:p6) (h7:p7):Wu p0 p1 p2 p3 p4 p5 p6 p7
inductive Ss (p0 p1 p2 p3 p4 p5 p6 p7 p8:Prop):Prop where
 | mk (h0:p0) (h1:p1) (h2:p2) (h3:p3) (h4:p4) (h5:p5) (h6:p6) (h7:p7) (h8:p8):Ss p0 p1 p2 p3 p4 p5 p6 p7 p8
inductive Ol (p0 p1 p2 p3 p4 p5 p6 p7 p8 p9:Prop):Prop where
 | mk (h0:p0) (h1:p1) (h2:p2) (h3:p3) (h4:p4) (h5:p5) (h6:p6) (h7:p7) (h8:p8) (h9:p9):Ol p0 p1 p2 p3 p4 p5 p6 p7 p8 p9
inductive Qw (p0 p1 p2 p3 p4 p5 p6 p7 p8 p9 lO:Prop):Prop where
 | mk (h0:p0) (h1:p1) (h2:p2) (h3:p3) (h4:p4) (h5:p5) (h6:p6) (h7:p7) (h8:p8) (h9:p9) (QG:lO):Qw p0 p1 p2 p3 p4 p5 p6 p7 p8 p9 lO
inductive dh (p0 p1 p2 p3 p4 p5 p6 p7 p8 p9 lO oF oG oH:Prop):Prop where
 | mk (h0:p0) (h1:p1) (h2:p2) (h3:p3) (h4:p4) (h5:p5) (h6:p6) (h7:p7) (h8:p8) (h9:p9) (QG:lO) (UL:oF) (UM:oG) (UN:oH):dh p0 p1 p2 p3 p4 p5 p6 p7 p8 p9 lO oF oG oH
inductive Z1 (p0 p1 p2 p3 p4 p5 p6 p7 p8 p9 lO oF oG oH vG:Prop):Prop where
 | mk (h0:p0) (h1:p1) (h2:p2) (h3:p3) (h4:p4) (h5:p5) (h6:p6) (h7:p7) (h8:p8) (h9:p9) (QG:lO) (UL:oF) (UM:oG) (UN:oH) (h14:vG):Z1 p0 p1 p2 p3 p4 p5 p6 p7 p8 p9 lO oF oG oH vG
inductive ee (p0 p1 p2 p3 p4 p5 p6 p7 p8 p9 lO oF oG oH vG IW:Prop):Prop where
 | mk (h0:p0) (h1:p1) (h2:p2) (h3:p3) (h4:p4) (h5:p5) (h6:p6) (h7:p7) (h8:p8) (h9:p9) (QG:lO) (UL:oF) (UM:oG) (UN:oH) (h14:vG) (h15:IW):ee p0 p1 p2 p3 p4 p5 p6 p7 p8 p9 lO oF oG oH vG IW
inductive ef (p0 p1 p2 p3 p4 p5 p6 p7 p8 p9 lO oF oG oH vG IW p16 p17:Prop):Prop where
 | mk (h0:p0) (h1:p1) (h2:p2) (h3:p3) (h4:p4) (h5:p5) (h6:p6) (h7:p7) (h8:p8) (h9:p9) (QG:lO) (UL:oF) (UM:oG) (UN:oH) (h14:vG) (h15:IW) (h16:p16) (h17:p17):ef p0 p1 p2 p3 p4 p5 p6 p7 p8 p9 lO oF oG oH vG IW p16 p17
inductive Zz {T0 T1:Type} (p:T0 -> T1 -> Prop):Prop where
 | mk (x0:T0) (x1:T1) (h:p x0 x1):Zz p
inductive Wi {T0 T1 T2:Type} (p:T0 -> T1 -> T2 -> Prop):Prop where
 | mk (x0:T0) (x1:T1) (x2:T2) (h:p x0 x1 x2):Wi p
inductive Yo {T0 T1 T2 T3:Type} (p:T0 -> T1 -> T2 -> T3 -> Prop):Prop where
 | mk (x0:T0) (x1:T1) (x2:T2) (x3:T3) (h:p x0 x1 x2 x3):Yo p
inductive kd {T0 T1 T2 T3 T4:Type} (p:T0 -> T1 -> T2 -> T3 -> T4 -> Prop):Prop where
 | mk (x0:T0) (x1:T1) (x2:T2) (x3:T3) (x4:T4) (h:p x0 x1 x2 x3 x4):kd p
inductive mw {T0 T1 T2 T3 T4 T5:Type} (p:T0 -> T1 -> T2 -> T3 -> T4 -> T5 -> Prop):Prop where
 | mk (x0:T0) (x1:T1) (x2:T2) (x3:T3) (x4:T4) (x5:T5) (h:p x0 x1 x2 x3 x4 x5):mw p
inductive qk {T0 T1 T2 T3 T4 T5 T6:Type} (p:T0 -> T1 -> T2 -> T3 -> T4 -> T5 -> T6 -> Prop):Prop where
 | mk (x0:T0) (x1:T1) (x2:T2) (x3:T3) (x4:T4) (x5:T5) (x6:T6) (h:p x0 x1 x2 x3 x4 x5 x6):qk p
inductive cr {T0 T1 T2 T3 T4 T5 T6 T7:Type} (p:T0 -> T1 -> T2 -> T3 -> T4 -> T5 -> T6 -> T7 -> Prop):Prop where
 | mk (x0:T0) (x1:T1) (x2:T2) (x3:T3) (x4:T4) (x5:T5) (x6:T6) (x7:T7) (h:p x0 x1 x2 x3 x4 x5 x6 x7):cr p
inductive uk {T0 T1 T2 T3 T4 T5 T6 T7 T8:Type} (p:T0 -> T1 -> T2 -> T3 -> T4 -> T5 -> T6 -> T7 -> T8 -> Prop):Prop where
 | mk (x0:T0) (x1:T1) (x2:T2) (x3:T3) (x4:T4) (x5:T5) (x6:T6) (x7:T7) (x8:T8) (h:p x0 x1 x2 x3 x4 x5 x6 x7 x8):uk p
inductive Yi {T0 T1 T2 T3 T4 T5 T6 T7 T8 T9:Type} (p:T0 -> T1 -> T2 -> T3 -> T4 -> T5 -> T6 -> T7 -> T8 -> T9 -> Prop):Prop where
 | mk (x0:T0) (x1:T1) (x2:T2) (x3:T3) (x4:T4) (x5:T5) (x6:T6) (x7:T7) (x8:T8) (x9:T9) (h:p x0 x1 x2 x3 x4 x5 x6 x7 x8 x9):Yi p
inductive n9 {T0 T1 T2 T3 T4 T5 T6 T7 T8 T9 vH:Type} (p:T0 -> T1 -> T2 -> T3 -> T4 -> T5 -> T6 -> T7 -> T8 -> T9 -> vH -> Prop):Prop where
 | mk (x0:T0) (x1:T1) (x2:T2) (x3:T3) (x4:T4) (x5:T5) (x6:T6) (x7:T7) (x8:T8) (x9:T9) (IX:vH) (h:p x0 x1 x2 x3 x4 x5 x6 x7 x8 x9 IX):n9 p
inductive ll {T0 T1 T2 T3 T4 T5 T6 T7 T8 T9 vH IY IZ JA:Type} (p:T0 -> T1 -> T2 -> T3 -> T4 -> T5 -> T6 -> T7 -> T8 -> T9 -> vH -> IY -> IZ -> JA -> Prop):Prop where
 | mk (x0:T0) (x1:T1) (x2:T2) (x3:T3) (x4:T4) (x5:T5) (x6:T6) (x7:T7) (x8:T8) (x9:T9) (IX:vH) (UO:IY) (UP:IZ) (UQ:JA) (h:p x0 x1 x2 x3 x4 x5 x6 x7 x8 x9 IX UO UP UQ):ll p
inductive l6 {T0 T1 T2 T3 T4 T5 T6 T7 T8 T9 vH IY IZ JA T14:Type} (p:T0 -> T1 -> T2 -> T3 -> T4 -> T5 -> T6 -> T7 -> T8 -> T9 -> vH -> IY -> IZ -> JA -> T14 -> Prop):Prop where
 | mk (x0:T0) (x1:T1) (x2:T2) (x3:T3) (x4:T4) (x5:T5) (x6:T6) (x7:T7) (x8:T8) (x9:T9) (IX:vH) (UO:IY) (UP:IZ) (UQ:JA) (x14:T14) (h:p x0 x1 x2 x3 x4 x5 x6 x7 x8 x9 IX UO UP UQ x14):l6 p
def B0 (H:Hp) (a:Addr) (ws:List Int) (calm:Option Int):Prop := ∃ t,H a = some (.tup [.ref t,vO calm]) /\ H t = some (.tup (ws.map V.int))
def Cg (H:Hp) (b:Addr) (ls:List Int) (q:Int):Prop := ∃ u,H b = some (.tup [.ref u,.int q]) /\ H u = some (.tup (ls.map V.int))
theorem B0.same {H H':Hp} {a:Addr} {ws:List Int} {calm:Option Int} (s:A9 H H') (h:B0 H a ws calm):B0 H' a ws calm:=by
 obtain ⟨t,h1,h2⟩ := h
 exact ⟨t,s _ _ h1,s _ _ h2⟩
theorem Cg.same {H H':Hp} {a:Addr} {ls:List Int} {q:Int} (s:A9 H H') (h:Cg H a ls q):Cg H' a ls q:=by
 obtain ⟨t,h1,h2⟩ := h
 exact ⟨t,s _ _ h1,s _ _ h2⟩
theorem g7 (c:Option Int):decide (vO c = V.aR) = decide (c = none):=by cases c <;> simp [vO]
def Ax (ws ls:List Int) (who:Nat) (lost:Bool):List Int:=if lost = true then ls.map (fun x=>x - 1) else (ls.map (fun x=>x - 1)).set who (ws.getD who 0)
def Cj (calm:Option Int) (q:Int) (lost:Bool):Int:=if lost = true then calm.getD 0 else max (q - 1) 0
def My (calm:Option Int) (q:Int) (lost:Bool):Prop:=lost = true -> calm ≠ none /\ q = 0
theorem Fs (ws ls:List Int) (who:Nat) (lost:Bool):(Ax ws ls who lost).length = ls.length:=by
 unfold Ax
 split <;> simp
theorem Qb (x:Int):∀ ns:List Int,oz (.int x) (ns.map V.int) = decide (x ∈ ns)
 | []=>rfl
 | n :: ns=>by
  show (ak (V.int n) (V.int x) || oz (.int x) (ns.map V.int)) = _
  rw [Qb x ns]
  show ((n == x) || decide (x ∈ ns)) = _
  by_cases h:n = x
  ·simp [h]
  ·have h':¬ x = n:=fun e=>h e.symm
   simp [h,h']
theorem Nv:∀ ns:List Int,(ns.map V.int).all Ej = true
 | []=>rfl
 | n :: ns=>by
  show (Ej (V.int n) && (ns.map V.int).all Ej) = true
  rw [Nv ns]
  rfl
theorem Q3 {ws:List Int} {k:Nat} (h:k < ws.length):Ux (ws.map V.int) (k:Int) = some (.int (ws.getD k 0)):=by
 refine Ij ?_
 rw [List.getElem?_map,List.getElem?_eq_getElem h,List.getD_eq_getElem?_getD,List.getElem?_eq_getElem h]
 rfl
theorem az {n k:Nat} (h:k < n):Yu n (k:Int) = some k:=by
 unfold Yu
 rw [if_pos (by omega),if_pos (by omega)]
 simp
theorem aj {a:Int} {n:Nat} (h:a.natAbs < 2 ^ n):intBits a <= n:=intBits_le h
theorem Bq (x:Int) {m:Int} (h:0 < m):0 <= x % m /\ x % m < m:=⟨Int.emod_nonneg x (by omega),Int.emod_lt_of_pos x h⟩
def Ow (xs:List Int) (lo hi:Option Int):List Int:=(xs.drop (HT.jB xs.length 0 lo)).take (HT.jB xs.length xs.length hi - HT.jB xs.length 0 lo)
theorem N9 (xs:List Int) (lo hi:Option Int):W8 (xs.map V.int) lo hi = (Ow xs lo hi).map V.int:=by
 unfold W8 Ow
 rw [List.length_map,List.map_take,List.map_drop]
theorem Rv (xs:List Int) (lo hi:Option Int):(Ow xs lo hi).length <= xs.length:=by
 unfold Ow
 rw [List.length_take,List.length_drop]
 omega
theorem Rx:∀ {l:List Int} {m:Int},m ∈ l -> ∃ j:Nat,l[j]? = some m /\ ∀ i,i < j -> l[i]? ≠ some m
 | x :: l,m,h=>by
  by_cases e:x = m
  ·exact ⟨0,by simp [e],(fun i hi=>absurd hi (Nat.not_lt_zero i))⟩
  ·rcases List.mem_cons.mp h with h | h
   ·exact absurd h.symm e
   ·obtain ⟨j,hj,hn⟩ := Rx h
    refine ⟨j + 1,by simpa using hj,fun i hi=>?_⟩
    cases i with
    | zero=>simpa using e
    | succ i=>simpa using hn i (by omega)
theorem X4 {a b:Int} {m n:Nat} (ha:intBits a <= m) (hb:intBits b <= n):intBits (a * b) <= m + n:=by
 apply intBits_le
 rw [Int.natAbs_mul,Nat.pow_add]
 have h1:=Nat.lt_of_lt_of_le (natAbs_lt_pow_bits a) (Nat.pow_le_pow_right (by decide) ha)
 have h2:=Nat.lt_of_lt_of_le (natAbs_lt_pow_bits b) (Nat.pow_le_pow_right (by decide) hb)
 exact Nat.mul_lt_mul'' h1 h2
theorem Fh {n:Nat} (h:n <= 10000):n < sizeLine:=Nat.lt_of_le_of_lt h (by decide)
def An (H H':Hp):Prop := ∀ b xs,H b = some (.tup xs) -> H' b = some (.tup xs)
theorem An.of {H H':Hp} (s:A9 H H'):An H H':=fun b xs e=>s b _ e
theorem An.trans {H H1 H2:Hp} (a:An H H1) (b:An H1 H2):An H H2:=fun c xs e=>b c xs (a c xs e)
theorem An.lst {H:Hp} {D:Addr} {zs:List V} {o:HO} (h:H D = some (.lst zs)):An H (upd H D o):=fun b xs e=>by
 rw [Aa (Bn e h (by intro z; cases z))]
 exact e
def El (H:Hp) (r:List Int) (v:V):Prop := ∃ p,v = .ref p /\ H p = some (.tup (r.map V.int))
def Gi (H:Hp) (z:List Int × Int) (v:V):Prop := ∃ p u,v = .ref p /\ H p = some (.tup [.ref u,.int z.2]) /\ H u = some (.tup (z.1.map V.int))
theorem El.up {H H':Hp} {r:List Int} {v:V} (t:An H H') (h:El H r v):El H' r v:=by
 obtain ⟨p,e,h1⟩ := h
 exact ⟨p,e,t _ _ h1⟩
theorem Gi.up {H H':Hp} {z:List Int × Int} {v:V} (t:An H H') (h:Gi H z v):Gi H' z v:=by
 obtain ⟨p,u,e,h1,h2⟩ := h
 exact ⟨p,u,e,t _ _ h1,t _ _ h2⟩
def Ah {α:Type} (P:α -> V -> Prop) (rs:List α) (vs:List V):Prop:=vs.length = rs.length /\ ∀ (i:Nat) (r:α) (v:V),rs[i]? = some r -> vs[i]? = some v -> P r v
theorem Ah.nil {α:Type} {P:α -> V -> Prop}:Ah P [] []:=⟨rfl,fun i r v e=>by cases e⟩
theorem Ah.imp {α:Type} {P P':α -> V -> Prop} {rs:List α} {vs:List V} (f:∀ r v,P r v -> P' r v) (h:Ah P rs vs):Ah P' rs vs:=⟨h.1,fun i r v e1 e2=>f _ _ (h.2 i r v e1 e2)⟩
theorem Ah.append {α:Type} {P:α -> V -> Prop} {rs ss:List α} {vs us:List V} (h:Ah P rs vs) (g:Ah P ss us):Ah P (rs ++ ss) (vs ++ us):=by
 refine ⟨by rw [List.length_append,List.length_append,h.1,g.1],fun i r v e1 e2=>?_⟩
 rcases Nat.lt_or_ge i rs.length with z | z
 ·rw [List.getElem?_append_left z] at e1
  rw [List.getElem?_append_left (by rw [h.1]; exact z)] at e2
  exact h.2 i r v e1 e2
 ·rw [List.getElem?_append_right z] at e1
  rw [List.getElem?_append_right (by rw [h.1]; exact z),h.1] at e2
  exact g.2 _ r v e1 e2
theorem Ah.one {α:Type} {P:α -> V -> Prop} {r:α} {v:V} (h:P r v):Ah P [r] [v]:=by
 refine ⟨rfl,fun i r' v' e1 e2=>?_⟩
 cases i with
 | zero=>cases e1; cases e2; exact h
 | succ i=>cases e1
theorem Ah.get {α:Type} {P:α -> V -> Prop} {rs:List α} {vs:List V} (h:Ah P rs vs) {i:Nat} {v:V} (e:vs[i]? = some v):∃ r,rs[i]? = some r /\ P r v:=by
 have hi:=(List.getElem?_eq_some_iff.mp e).1
 have mZ:i < rs.length:=by
  rw [<- h.1]
  exact hi
 have h2:rs[i]? = some rs[i]:=List.getElem?_eq_getElem mZ
 exact ⟨_,h2,h.2 i _ v h2 e⟩
def qv:Option Int -> Int
 | none=>1
 | some c=>c + 1
def Bv (q:Int) (ws:List Int):Int:=ws.foldl (· * ·) q
def Pj (r:List Int) (w:Int):List (List Int):=(List.range w.toNat).map fun t=>r ++ [1 + ((t:Nat):Int)]
def C5 (rows:List (List Int)) (w:Int):List (List Int):=rows.flatMap fun r=>Pj r w
def Ca (ws:List Int):List (List Int):=ws.foldl C5 [[]]
def Fc (r:List Int) (q:Int):List (List Int × Int):=(List.range q.toNat).map fun k=>(r,0 + ((k:Nat):Int))
def Az (ws:List Int) (q:Int):List (List Int × Int):=(Ca ws).flatMap fun r=>Fc r q
theorem Fk {α β:Type} (f:β -> α -> β) (b:β) (xs:List α) {i:Nat} {x:α} (h:xs[i]? = some x):(xs.take (i + 1)).foldl f b = f ((xs.take i).foldl f b) x:=by
 rw [List.take_add_one,h,List.foldl_append]
 rfl
theorem Od {α β:Type} (f:α -> List β) (xs:List α) {i:Nat} {x:α} (h:xs[i]? = some x):(xs.take (i + 1)).flatMap f = (xs.take i).flatMap f ++ f x:=by
 rw [List.take_add_one,h,List.flatMap_append]
 simp
theorem O3 {q:Int} (hq:intBits q <= 256):∀ {ws:List Int},(∀ w ∈ ws,intBits w <= 256) -> ∀ i,i <= ws.length -> intBits (Bv q (ws.take i)) <= 256 * (i + 1)
 | ws,h,0,_=>by simpa [Bv] using hq
 | ws,h,i + 1,hi=>by
  have hx:ws[i]? = some ws[i]:=List.getElem?_eq_getElem (by omega)
  have ih:=O3 hq h i (by omega)
  unfold Bv at ih ⊢
  rw [Fk _ _ _ hx]
  exact Nat.le_trans (X4 ih (h _ (List.getElem_mem _))) (by omega)
theorem Tv (q:Int):∀ (ws:List Int) (a:Int),Bv (q * a) ws = q * Bv a ws
 | [],a=>rfl
 | w :: ws,a=>by
  show Bv (q * a * w) ws = q * Bv (a * w) ws
  rw [Int.mul_assoc,Tv q ws (a * w)]
theorem L1 {α β:Type} {f:α -> List β} {n:Nat}:∀ {xs:List α},(∀ x ∈ xs,(f x).length = n) -> (xs.flatMap f).length = xs.length * n
 | [],_=>by simp
 | x :: xs,h=>by
  rw [List.flatMap_cons,List.length_append,h x (List.mem_cons_self ..),L1 fun y hy=>h y (List.mem_cons_of_mem _ hy),List.length_cons,Nat.succ_mul]
  omega
theorem Rt (r:List Int) (w:Int):(Pj r w).length = w.toNat:=by simp [Pj]
theorem Om (r:List Int) (q:Int):(Fc r q).length = q.toNat:=by simp [Fc]
theorem Md (rows:List (List Int)) (w:Int):(C5 rows w).length = rows.length * w.toNat:=L1 fun r _=>Rt r w
theorem Mb:∀ (ws:List Int) (rows:List (List Int)),(∀ w ∈ ws,1 <= w) -> ((ws.foldl C5 rows).length:Int) = Bv (rows.length:Int) ws
 | [],rows,_=>rfl
 | w :: ws,rows,h=>by
  have hw:=h w (List.mem_cons_self ..)
  show ((ws.foldl C5 (C5 rows w)).length:Int) = Bv ((rows.length:Int) * w) ws
  rw [Mb ws _ (fun x hx=>h x (List.mem_cons_of_mem _ hx)),Md]
  congr 1
  rw [Int.natCast_mul]
  congr 1
  omega
theorem Ip:∀ (ws:List Int) (a:Int),0 <= a -> (∀ w ∈ ws,1 <= w) -> a <= Bv a ws
 | [],a,_,_=>Int.le_refl _
 | w :: ws,a,ha,h=>by
  have hw:=h w (List.mem_cons_self ..)
  have h1:a <= a * w:=by
   have:=Int.mul_le_mul_of_nonneg_left hw ha
   rw [Int.mul_one] at this
   exact this
  exact Int.le_trans h1 (Ip ws (a * w) (Int.le_trans ha h1) fun x hx=>h x (List.mem_cons_of_mem _ hx))
theorem Xh {ws:List Int} {a:Int} (ha:0 <= a) (h:∀ w ∈ ws,1 <= w) (i:Nat):Bv a (ws.take i) <= Bv a ws:=by
 have e:Bv a ws = Bv (Bv a (ws.take i)) (ws.drop i):=by
  unfold Bv
  rw [<- List.foldl_append,List.take_append_drop]
 rw [e]
 refine Ip _ _ (Int.le_trans ha (Ip _ _ ha fun w hw=>h w (List.mem_of_mem_take hw))) fun w hw=>h w (List.mem_of_mem_drop hw)
theorem Pu {r x:List Int} {w:Int} (h:x ∈ Pj r w):∃ t:Nat,t < w.toNat /\ x = r ++ [1 + (t:Int)]:=by
 unfold Pj at h
 obtain ⟨t,h1,rfl⟩ := List.mem_map.mp h
 exact ⟨t,List.mem_range.mp h1,rfl⟩
theorem Hy (ws:List Int):∀ i,i <= ws.length -> ∀ r ∈ Ca (ws.take i),r.length = i /\ ∀ (k:Nat) (x w:Int),r[k]? = some x -> ws[k]? = some w -> 1 <= x /\ x <= w
 | 0,_,r,h=>by
  have e:r = []:=List.mem_singleton.mp h
  subst e
  exact ⟨rfl,fun k x w e=>by cases e⟩
 | i + 1,hi,r,h=>by
  have hw:ws[i]? = some ws[i]:=List.getElem?_eq_getElem (by omega)
  have e:Ca (ws.take (i + 1)) = C5 (Ca (ws.take i)) ws[i]:=Fk _ _ _ hw
  rw [e] at h
  obtain ⟨r',h1,h2⟩ := List.mem_flatMap.mp h
  obtain ⟨t,h3,rfl⟩ := Pu h2
  obtain ⟨h4,h5⟩ := Hy ws i (by omega) r' h1
  refine ⟨by simp [h4],fun k x w e1 e2=>?_⟩
  rcases Nat.lt_or_ge k r'.length with z | z
  ·rw [List.getElem?_append_left z] at e1
   exact h5 k x w e1 e2
  ·have hk : k = i := by
    have:=(List.getElem?_eq_some_iff.mp e1).1
    rw [List.length_append,List.length_singleton] at this
    omega
   subst hk
   rw [List.getElem?_append_right z,h4,Nat.sub_self] at e1
   cases e1
   rw [hw] at e2
   cases e2
   omega
def W2 (r s:List Int):Prop:=aH (r.map PyData.int) (s.map PyData.int) = true
theorem Kk (a b:Int):PyData.eqv (.int a) (.int b) = decide (a = b):=by
 show (a == b) = _
 by_cases h:a = b <;> simp [h]
theorem Q7:∀ r:List Int,¬ W2 r r
 | []=>by unfold W2; simp [aH]
 | x :: r=>fun h=>by
  have ih:=Q7 r
  unfold W2 at h ih
  rw [List.map_cons,aH,Kk,if_pos (by simp)] at h
  exact ih h
theorem S1:∀ {r s:List Int} {x y:Int},r.length = s.length -> W2 r s -> W2 (r ++ [x]) (s ++ [y])
 | [],[],x,y,_,h=>absurd h (Q7 [])
 | [],_ :: _,_,_,hl,_=>by simp at hl
 | _ :: _,[],_,_,hl,_=>by simp at hl
 | a :: r,b :: s,x,y,hl,h=>by
  unfold W2 at h ⊢
  rw [List.cons_append,List.cons_append,List.map_cons,List.map_cons,aH] at *
  by_cases e:PyData.eqv (.int a) (.int b) = true
  ·rw [if_pos e] at h ⊢
   exact S1 (r:=r) (s:=s) (by simpa using hl) h
  ·rw [if_neg e] at h ⊢
   exact h
theorem Rk:∀ {r:List Int} {x y:Int},x < y -> W2 (r ++ [x]) (r ++ [y])
 | [],x,y,h=>by
  unfold W2
  show aH [PyData.int x] [PyData.int y] = true
  rw [aH,Kk,if_neg (by simp; omega),Jl]
  exact decide_eq_true h
 | a :: r,x,y,h=>by
  unfold W2
  rw [List.cons_append,List.cons_append,List.map_cons,List.map_cons,aH,Kk,if_pos (by simp)]
  exact Rk (r:=r) h
theorem Ue (r:List Int) (w:Int):(Pj r w).Pairwise W2:=by
 unfold Pj
 rw [List.pairwise_map]
 exact List.pairwise_lt_range.imp fun h=>Rk (by omega)
theorem K3 (ws:List Int):∀ i,i <= ws.length -> (Ca (ws.take i)).Pairwise W2
 | 0,_=>by
  show ([[]]:List (List Int)).Pairwise W2
  exact List.pairwise_singleton _ _
 | i + 1,hi=>by
  have hw:ws[i]? = some ws[i]:=List.getElem?_eq_getElem (by omega)
  have e:Ca (ws.take (i + 1)) = C5 (Ca (ws.take i)) ws[i]:=Fk _ _ _ hw
  rw [e]
  unfold C5
  rw [List.pairwise_flatMap]
  refine ⟨fun r _=>Ue r _,?_⟩
  refine (K3 ws i (by omega)).imp_of_mem fun {a b} ha hb h x hx y hy=>?_
  obtain ⟨t,_,rfl⟩ := Pu hx
  obtain ⟨u,_,rfl⟩ := Pu hy
  have h1:=(Hy ws i (by omega) a ha).1
  have h2:=(Hy ws i (by omega) b hb).1
  exact S1 (by omega) h
def dS (z:List Int × Int):PyData:=dP (dT z.1) (.int z.2)
theorem Xm {a b:List Int × Int} (h:W2 a.1 b.1 \/ (a.1 = b.1 /\ a.2 < b.2)):Jl (dS a) (dS b) = true:=by
 show aH [dT a.1,.int a.2] [dT b.1,.int b.2] = true
 rw [aH,Yj]
 rcases h with h | ⟨h1,h2⟩
 ·have bP : ¬ a.1 = b.1 := fun e => by
   rw [e] at h
   exact Q7 _ h
  rw [if_neg (by simpa using bP)]
  exact h
 ·rw [if_pos (by simpa using h1),aH,Kk,if_neg (by simp; omega),Jl]
  exact decide_eq_true h2
theorem Q8 {r:List Int} {q:Int} {z:List Int × Int} (h:z ∈ Fc r q):z.1 = r /\ 0 <= z.2 /\ z.2 < q:=by
 unfold Fc at h
 obtain ⟨k,h1,rfl⟩ := List.mem_map.mp h
 have:=List.mem_range.mp h1
 exact ⟨rfl,by show 0 <= 0 + (k:Int); omega,by show 0 + (k:Int) < q; omega⟩
theorem Ft (ws:List Int) (q:Int):(Az ws q).Pairwise fun a b=>Jl (dS a) (dS b) = true:=by
 unfold Az
 rw [List.pairwise_flatMap]
 refine ⟨fun r _=>?_,?_⟩
 ·unfold Fc
  rw [List.pairwise_map]
  exact List.pairwise_lt_range.imp fun {a b} h=>Xm (a:=(r,0 + ((a:Nat):Int))) (b:=(r,0 + ((b:Nat):Int))) (.inr ⟨rfl,by show 0 + ((a:Nat):Int) < 0 + ((b:Nat):Int); omega⟩)
 ·have h:=K3 ws ws.length (Nat.le_refl _)
  rw [List.take_length] at h
  refine h.imp fun {a b} h x hx y hy=>?_
  exact Xm (.inl (by rw [(Q8 hx).1,(Q8 hy).1]; exact h))
theorem Iy {ws:List Int} {q:Int} (h:∀ w ∈ ws,1 <= w) (hq:0 <= q):((Az ws q).length:Int) = Bv q ws:=by
 unfold Az
 rw [L1 fun r _=>Om r q,Int.natCast_mul]
 have e:((Ca ws).length:Int) = Bv 1 ws:=Mb ws [[]] h
 rw [e,Int.toNat_of_nonneg hq,Int.mul_comm,<- Tv,Int.mul_one]
theorem N8 {ws:List Int} {q:Int} {z:List Int × Int} (h:z ∈ Az ws q):z.1.length = ws.length /\ (∀ (k:Nat) (x w:Int),z.1[k]? = some x -> ws[k]? = some w -> 1 <= x /\ x <= w) /\ 0 <= z.2 /\ z.2 < q:=by
 obtain ⟨r,h1,h2⟩ := List.mem_flatMap.mp h
 obtain ⟨h3,h4,h5⟩ := Q8 h2
 have h6:=Hy ws ws.length (Nat.le_refl _) r (by rw [List.take_length]; exact h1)
 rw [h3]
 exact ⟨h6.1,h6.2,h4,h5⟩
theorem Nt {ws:List Int} (h:∀ w ∈ ws,1 <= w) (hp:Bv 1 ws <= 3000) (i:Nat):(Ca (ws.take i)).length <= 3000:=by
 have e:=Mb (ws.take i) [[]] fun w hw=>h w (List.mem_of_mem_take hw)
 have e2:=Xh (ws:=ws) (a:=1) (by decide) h i
 have e3:Bv (([[]]:List (List Int)).length:Int) (ws.take i) = Bv 1 (ws.take i):=rfl
 unfold Ca
 omega
theorem Re (z:List Int × Int):(dS z).depth = 2:=by
 unfold dS
 rw [Rn,Zp]
 rfl
def k9 (H:Hp) (v:V):Option (List Int × Int) -> Prop
 | none=>v = .aR
 | some r=>∃ b,v = .ref b /\ Cg H b r.1 r.2
def g8:Option (List Int × Int) -> PyData
 | none=>.none
 | some r=>dP (dT r.1) (.int r.2)
theorem io {H:Hp} {v:V} {r:Option (List Int × Int)} (h:k9 H v r):Rp H (g8 r) v:=by
 cases r with
 | none =>
  cases h
  exact Zh
 | some r =>
  obtain ⟨b,rfl,t,h1,h2⟩ := h
  exact Za h1 (df h2) (Q9 _)
theorem Ah.tail {α:Type} {P:α -> V -> Prop} {r:α} {v:V} {rs:List α} {vs:List V} (h:Ah P (r :: rs) (v :: vs)):P r v /\ Ah P rs vs:=⟨h.2 0 r v rfl rfl,by have:=h.1; simpa using this,fun i a b e1 e2=>h.2 (i + 1) a b e1 e2⟩
theorem Mh {α:Type} {P:α -> Prop} {xs:List α} {x:α} (h:∀ y ∈ xs,P y) (hx:P x):∀ y ∈ xs ++ [x],P y:=fun y hy=>by
 rcases List.mem_append.mp hy with z | z
 ·exact h y z
 ·cases List.mem_singleton.mp z
  exact hx
theorem Cg.up {H H':Hp} {b:Addr} {ls:List Int} {q:Int} (t:An H H') (h:Cg H b ls q):Cg H' b ls q:=by
 obtain ⟨u,h1,h2⟩ := h
 exact ⟨u,t _ _ h1,t _ _ h2⟩
theorem k9.up {H H':Hp} {v:V} {r:Option (List Int × Int)} (s:An H H') (h:k9 H v r):k9 H' v r:=by
 cases r with
 | none=>exact h
 | some r =>
  obtain ⟨b,e,h⟩ := h
  exact ⟨b,e,h.up s⟩
def D0 (ws ls:List Int) (cm:Option Int) (q:Int) (who:Nat) (lost:Bool):Option (List Int × Int):=if (0:Int) ∈ Ax ws ls who lost then none else some (Ax ws ls who lost,Cj cm q lost)
def Dl (cm:Option Int) (q:Int):Bool := !decide (cm = none) && decide (q = 0)
def Bc (ws ls:List Int) (cm:Option Int) (q:Int) (who:Nat):List (Option (List Int × Int)):=D0 ws ls cm q who false :: if Dl cm q = true then [D0 ws ls cm q who true] else []
def Ex (H:Hp) (r:Option (List Int × Int)) (v:V):Prop:=k9 H v r
theorem Ex.up {H H':Hp} {v:V} {r:Option (List Int × Int)} (s:An H H') (h:Ex H r v):Ex H' r v:=k9.up s h
theorem Ah.cons {α:Type} {P:α -> V -> Prop} {r:α} {v:V} {rs:List α} {vs:List V} (h:P r v) (g:Ah P rs vs):Ah P (r :: rs) (v :: vs):=(Ah.one h).append g
theorem O9 {H:Hp}:∀ {rs:List (Option (List Int × Int))} {us:List V},Ah (Ex H) rs us -> aG H (rs.map g8) us
 | [],[],_=>by unfold aG; rfl
 | [],_ :: _,h=>by have:=h.1; simp at this
 | _ :: _,[],h=>by have:=h.1; simp at this
 | r :: rs,u :: us,h=>by
  obtain ⟨h1,h2⟩ := h.tail
  show aG H (g8 r :: rs.map g8) (u :: us)
  unfold aG
  exact ⟨_,_,rfl,io h1,O9 h2⟩
theorem c9 (r:Option (List Int × Int)):PyData.eqv (g8 r) .none = decide (r = none):=by cases r <;> rfl
theorem P7:∀ rs:List (Option (List Int × Int)),(rs.map g8).any (fun e=>PyData.eqv e .none) = decide (none ∈ rs)
 | []=>rfl
 | r :: rs=>by
  rw [List.map_cons,List.any_cons,P7 rs,c9,Bool.eq_iff_iff]
  simp only [Bool.or_eq_true,decide_eq_true_eq,List.mem_cons]
  exact ⟨fun z=>z.imp Eq.symm id,fun z=>z.imp Eq.symm id⟩
def SV (H:Hp) (v:V):Prop := ∃ b k,v = .ref b /\ Ds H b k
theorem SV.up {H H':Hp} {v:V} (t:An H H') (h:SV H v):SV H' v:=by
 obtain ⟨b,k,e,h1⟩ := h
 exact ⟨b,k,e,h1.up t⟩
def Uz (H:Hp) (cs:List (Dt × V)):Prop := ∀ e ∈ cs,(∃ i:Int,e.1 = .inl i) /\ ∃ (l:Addr) (us:List V),e.2 = .ref l /\ H l = some (.lst us) /\ us.length <= 2 /\ ∀ u ∈ us,SV H u
def mz (H:Hp) (v:V):Prop := ∃ (c:Addr) (cs:List (Dt × V)),v = .ref c /\ H c = some (.dK cs) /\ cs.length <= 8 /\ Uz H cs
def LT (H H':Hp):Prop:=(∀ b xs,H b = some (.lst xs) -> H' b = some (.lst xs)) /\ An H H'
theorem LT.of {H H':Hp} (s:A9 H H'):LT H H':=⟨fun b xs e=>s b _ e,An.of s⟩
theorem LT.dT {H:Hp} {D:Addr} {kvs:List ((List Int × Int) × V)} {o:HO} (h:H D = some (.dT kvs)):LT H (upd H D o) :=
 ⟨fun b xs e=>by rw [Aa (Bn e h (by intro z; cases z))]; exact e,fun b xs e=>by rw [Aa (Bn e h (by intro z; cases z))]; exact e⟩
theorem LT.dK {H:Hp} {D:Addr} {kvs:List (Dt × V)} {o:HO} (h:H D = some (.dK kvs)):LT H (upd H D o) :=
 ⟨fun b xs e=>by rw [Aa (Bn e h (by intro z; cases z))]; exact e,fun b xs e=>by rw [Aa (Bn e h (by intro z; cases z))]; exact e⟩
theorem LT.trans {H H1 H2:Hp} (a:LT H H1) (b:LT H1 H2):LT H H2:=⟨fun c xs e=>b.1 c xs (a.1 c xs e),a.2.trans b.2⟩
def Es (H:Hp) (kvs:List ((List Int × Int) × V)):Prop := ∀ kv ∈ kvs,mz H kv.2
theorem S8 {κ:Type} [DecidableEq κ] {P:V -> Prop} {kvs:List (κ × V)} {k:κ} {v:V} (h:∀ kv ∈ kvs,P kv.2) (hv:P v):∀ kv ∈ Bl kvs k v,P kv.2:=fun kv aK=>by
 unfold Bl at aK
 split at aK
 ·obtain ⟨x,hx,rfl⟩ := List.mem_map.mp aK
  split
  ·exact hv
  ·exact h x hx
 ·rcases List.mem_append.mp aK with z | z
  ·exact h kv z
  ·cases List.mem_singleton.mp z
   exact hv
theorem Ce {n:Nat} (h:n <= 200000):n < sizeLine:=Nat.lt_of_le_of_lt h (by decide)
theorem Bi {κ:Type} [DecidableEq κ] {kvs:List (κ × V)} {k:κ} {v:V} (h:Ae kvs k = some v):(k,v) ∈ kvs:=by
 unfold Ae at h
 obtain ⟨p,hp,rfl⟩ := Option.map_eq_some_iff.mp h
 have h1:=List.find?_some hp
 have h2:=List.mem_of_find?_eq_some hp
 have h3:p.1 = k:=by simpa using h1
 rw [<- h3]
 exact h2
theorem K4 {κ:Type} [DecidableEq κ] {kvs:List (κ × V)} {k:κ} {v:V} (h:(k,v) ∈ kvs):∃ w,Ae kvs k = some w:=by
 cases e:Ae kvs k with
 | some w=>exact ⟨w,rfl⟩
 | none=>exact absurd (List.mem_map_of_mem (f:=(·.1)) h) (Lg e)
def Ei (kvs:List ((List Int × Int) × V)) (H H':Hp):Prop := ∀ b o,H b = some o -> (∀ kv ∈ kvs,kv.2 ≠ .ref b) -> H' b = some o
theorem Ei.of {kvs:List ((List Int × Int) × V)} {H H':Hp} (s:A9 H H'):Ei kvs H H':=fun b o e _=>s b o e
theorem Ei.trans {kvs:List ((List Int × Int) × V)} {H H1 H2:Hp} (a:Ei kvs H H1) (b:Ei kvs H1 H2):Ei kvs H H2:=fun c o e n=>b c o (a c o e n) n
theorem Ei.new {kvs:List ((List Int × Int) × V)} {H H':Hp} {p:Addr} {o:HO} (a:Ei kvs H H') (h:H p = none):Ei kvs H (upd H' p o):=fun b u e n=>by
 rw [Aa (Ad e h)]
 exact a b u e n
theorem Ei.keep {kvs:List ((List Int × Int) × V)} {H H':Hp} {b:Addr} {o:HO} (a:Ei kvs H H') (p:Es H kvs) (e:H b = some o) (n:∀ cs,o ≠ .dK cs):H' b = some o:=a b o e fun kv aK z=>by
 obtain ⟨c,cs,e1,e2,_⟩ := p kv aK
 rw [z] at e1
 cases e1
 rw [e] at e2
 exact n cs (Option.some.inj e2)
theorem Ei.lt {kvs:List ((List Int × Int) × V)} {H H':Hp} (a:Ei kvs H H') (p:Es H kvs):LT H H':=⟨fun b xs e=>a.keep p e (fun cs z=>nomatch z),fun b xs e=>a.keep p e (fun cs z=>nomatch z)⟩
theorem Ei.pop {kvs:List ((List Int × Int) × V)} {H:Hp} {c:Addr} {o:HO} {kv:(List Int × Int) × V} (h:kv ∈ kvs) (e:kv.2 = .ref c):Ei kvs H (upd H c o):=fun b u eb n=>by
 rw [Aa (fun z=>n kv h (by rw [e,z]))]
 exact eb
def eh (H:Hp):V -> Nat
 | .ref c=>match H c with
  | some (.dK cs)=>cs.length
  | _=>0
 | _=>0
def Ci (H:Hp) (kvs:List ((List Int × Int) × V)):Nat:=(kvs.map fun kv=>eh H kv.2).sum
theorem M8 {H:Hp} {c:Addr} {cs:List (Dt × V)} (h:H c = some (.dK cs)):eh H (.ref c) = cs.length:=by
 unfold eh
 simp only [h]
theorem Ed {H H':Hp}:∀ {kvs:List ((List Int × Int) × V)},Es H kvs -> (∀ c cs,H c = some (.dK cs) -> H' c = some (.dK cs)) -> Ci H' kvs = Ci H kvs
 | [],_,_=>rfl
 | kv :: kvs,p,k=>by
  obtain ⟨c,cs,e,h1,_⟩ := p kv (by simp)
  have ih:=Ed (kvs:=kvs) (fun x hx=>p x (List.mem_cons_of_mem _ hx)) k
  unfold Ci at ih ⊢
  rw [List.map_cons,List.map_cons,List.sum_cons,List.sum_cons,ih,e,M8 h1,M8 (k c cs h1)]
theorem Lr {H:Hp}:∀ {kvs:List ((List Int × Int) × V)},Es H kvs -> Ci H kvs <= 8 * kvs.length
 | [],_=>Nat.zero_le _
 | kv :: kvs,p=>by
  obtain ⟨c,cs,e,h1,h2,_⟩ := p kv (by simp)
  have ih:=Lr (kvs:=kvs) (fun x hx=>p x (List.mem_cons_of_mem _ hx))
  unfold Ci at ih ⊢
  rw [List.map_cons,List.sum_cons,e,M8 h1,List.length_cons]
  omega
theorem No {H:Hp} {c:Addr} {cs iR:List (Dt × V)} (hc:H c = some (.dK cs)) (aN:iR.length < cs.length):∀ {kvs:List ((List Int × Int) × V)},Ci (upd H c (.dK iR)) kvs <= Ci H kvs /\ ((∃ kv ∈ kvs,kv.2 = .ref c) -> Ci (upd H c (.dK iR)) kvs + 1 <= Ci H kvs)
 | []=>⟨Nat.le_refl _,fun ⟨kv,h,_⟩=>by cases h⟩
 | kv :: kvs=>by
  obtain ⟨i1,i2⟩ := No hc aN (kvs:=kvs)
  have one:eh (upd H c (.dK iR)) kv.2 <= eh H kv.2 /\ (kv.2 = .ref c -> eh (upd H c (.dK iR)) kv.2 + 1 <= eh H kv.2):=by
   by_cases z:kv.2 = .ref c
   ·rw [z,M8 hc,M8 A5]
    omega
   ·refine ⟨Nat.le_of_eq ?_,fun y=>absurd y z⟩
    unfold eh
    cases hv:kv.2 with
    | ref d =>
     rw [hv] at z
     have hd:d ≠ c:=fun y=>z (by rw [y])
     simp only [Aa hd]
    | _=>rfl
  unfold Ci at i1 i2 ⊢
  rw [List.map_cons,List.map_cons,List.sum_cons,List.sum_cons]
  refine ⟨by omega,fun ⟨x,hx,ex⟩=>?_⟩
  rcases List.mem_cons.mp hx with y | y
  ·subst y
   have:=one.2 ex
   omega
  ·have:=i2 ⟨x,y,ex⟩
   omega
theorem ah {cs:List (Dt × V)} {k:Dt} {v:V} (h:Ae cs k = some v):(Bx cs k).length < cs.length:=by
 have hm:=Bi h
 unfold Bx
 exact List.length_filter_lt_length_iff_exists.mpr ⟨(k,v),hm,by simp⟩
theorem Kv {cs:List (Dt × V)} {k:Dt} {e:Dt × V} (h:e ∈ Bx cs k):e ∈ cs:=(List.mem_filter.mp h).1
def Vd (B:Addr) (H:Hp) (kvs:List ((List Int × Int) × V)):Prop := ∀ kv ∈ kvs,∀ c cs,kv.2 = .ref c -> H c = some (.dK cs) -> ∀ e ∈ cs,e.2 ≠ .ref B
theorem Vd.start {B:Addr} {H:Hp} {kvs:List ((List Int × Int) × V)} (p:Es H kvs) (h:H B = none):Vd B H kvs:=fun kv aK c cs e1 e2 e he z=>by
 obtain ⟨d,ds,f1,f2,_,f3⟩ := p kv aK
 rw [e1] at f1
 cases f1
 rw [e2] at f2
 cases f2
 obtain ⟨_,l,us,g1,g2,_⟩ := f3 e he
 rw [z] at g1
 cases g1
 rw [h] at g2
 cases g2
theorem Vd.keep {B:Addr} {H H':Hp} {kvs:List ((List Int × Int) × V)} (n:Vd B H kvs) (p:Es H kvs) (k:∀ c cs,H c = some (.dK cs) -> H' c = some (.dK cs)):Vd B H' kvs:=fun kv aK c cs e1 e2=>by
 obtain ⟨d,ds,f1,f2,_⟩ := p kv aK
 have JB:=f1
 rw [e1] at JB
 cases JB
 have:=k _ _ f2
 rw [e2] at this
 cases this
 exact n kv aK c cs e1 f2
theorem Vd.pop {B c:Addr} {H:Hp} {cs:List (Dt × V)} {k:Dt} {kvs:List ((List Int × Int) × V)} (n:Vd B H kvs) (hc:H c = some (.dK cs)):Vd B (upd H c (.dK (Bx cs k))) kvs:=fun kv aK d ds e1 e2 e he=>by
 by_cases z:d = c
 ·subst z
  rw [A5] at e2
  cases e2
  exact n kv aK d cs e1 hc e (Kv he)
 ·rw [Aa z] at e2
  exact n kv aK d ds e1 e2 e he
theorem Es.vI {B:Addr} {H H':Hp} {kvs:List ((List Int × Int) × V)} (p:Es H kvs) (n:Vd B H kvs) (t:An H H') (kl:∀ l us,l ≠ B -> H l = some (.lst us) -> H' l = some (.lst us)) (k:∀ c cs,H c = some (.dK cs) -> H' c = some (.dK cs)):Es H' kvs:=fun kv aK=>by
 obtain ⟨c,cs,e1,e2,e3,e4⟩ := p kv aK
 refine ⟨c,cs,e1,k _ _ e2,e3,fun e he=>?_⟩
 obtain ⟨g1,l,us,g2,g3,g4,g5⟩ := e4 e he
 exact ⟨g1,l,us,g2,kl _ _ (fun z=>n kv aK c cs e1 e2 e he (by rw [g2,z])) g3,g4,fun u hu=>(g5 u hu).up t⟩
theorem V5 (k:List Int × Int):Jl (dS k) (dS k) = false:=by
 have e1:PyData.eqv (dT k.1) (dT k.1) = true:=by
  show PyData.eqvAll (k.1.map PyData.int) (k.1.map PyData.int) = true
  rw [Dw]
  simp
 show aH [dT k.1,.int k.2] [dT k.1,.int k.2] = false
 rw [aH,if_pos e1,aH,if_pos (show PyData.eqv (.int k.2) (.int k.2) = true from PySem.SeqAt.eqv_refl _ rfl)]
 rfl
theorem Ju (ws:List Int) (q:Int):(Az ws q).Nodup:=(Ft ws q).imp fun {a b} h e=>by
 rw [e,V5] at h
 cases h
theorem O0 {α:Type} {xs:List α} {i:Nat} {x:α} (h:xs.Nodup) (e:xs[i]? = some x):x ∉ xs.take i:=fun z=>by
 obtain ⟨j,hj⟩ := List.mem_iff_getElem?.mp z
 have aN:j < i:=by
  apply Classical.byContradiction
  intro y
  rw [List.getElem?_take_eq_none (by omega)] at hj
  cases hj
 rw [List.getElem?_take_of_lt aN] at hj
 have h1:=(List.getElem?_eq_some_iff.mp hj)
 have h2:=(List.getElem?_eq_some_iff.mp e)
 obtain ⟨a1,a2⟩ := h1
 obtain ⟨b1,b2⟩ := h2
 exact (List.pairwise_iff_getElem.mp h) j i a1 b1 aN (a2.trans b2.symm)
theorem Ct {κ:Type} [DecidableEq κ] {kvs:List (κ × V)} {k:κ} {v:V} (hn:(kvs.map (·.1)).Nodup) (h:(k,v) ∈ kvs):Ae kvs k = some v:=by
 induction kvs with
 | nil=>cases h
 | cons p r ih =>
  rw [List.map_cons,List.nodup_cons] at hn
  rcases List.mem_cons.mp h with z | z
  ·subst z
   exact C7 rfl
  ·have hp:¬ p.1 = k:=fun e=>hn.1 (by rw [e]; exact List.mem_map_of_mem (f:=(·.1)) z)
   rw [C6 hp]
   exact ih hn.2 z
theorem Pz {κ:Type} {kvs:List (κ × V)} {x y:κ × V} (hn:(kvs.map (·.2)).Nodup) (hx:x ∈ kvs) (hy:y ∈ kvs) (e:x.2 = y.2):x = y:=by
 induction kvs with
 | nil=>cases hx
 | cons p r ih =>
  rw [List.map_cons,List.nodup_cons] at hn
  rcases List.mem_cons.mp hx with z | z <;> rcases List.mem_cons.mp hy with y' | y'
  ·rw [z,y']
  ·subst z
   exact absurd (by rw [e]; exact List.mem_map_of_mem (f:=(·.2)) y') hn.1
  ·subst y'
   exact absurd (by rw [<- e]; exact List.mem_map_of_mem (f:=(·.2)) z) hn.1
  ·exact ih hn.2 z y'
theorem Yn {κ:Type} [DecidableEq κ] {kvs:List (κ × V)} {k:κ} {v:V} {e:κ × V} (h:e ∈ Bl kvs k v):e ∈ kvs \/ e = (k,v):=by
 unfold Bl at h
 split at h
 ·obtain ⟨x,hx,rfl⟩ := List.mem_map.mp h
  split
  ·rename_i hk
   exact .inr (by rw [hk])
  ·exact .inl hx
 ·rcases List.mem_append.mp h with z | z
  ·exact .inl z
  ·exact .inr (List.mem_singleton.mp z)
theorem Tu {κ:Type} [DecidableEq κ] {kvs:List (κ × V)} {k j:κ} {v:V} (h:(Ae kvs j).isSome = true \/ j = k):(Ae (Bl kvs k v) j).isSome = true:=by
 rw [Ec]
 split
 ·rfl
 ·rename_i hn
  rcases h with h | h
  ·exact h
  ·exact absurd h hn
def Gk (ws:List Int) (cm:Option Int) (z:List Int × Int) (H:Hp) (cs:List (Dt × V)):Prop := ∀ e ∈ cs,∃ (who:Nat) (l:Addr) (us:List V),e.1 = .inl (who:Int) /\ who < ws.length /\ none ∉ Bc ws z.1 cm z.2 who /\ e.2 = .ref l /\ H l = some (.lst us) /\ Ah (Ex H) (Bc ws z.1 cm z.2 who) us
def V4 (ws:List Int) (cm:Option Int) (H:Hp) (z:List Int × Int) (v:V):Prop := ∃ (c:Addr) (cs:List (Dt × V)),v = .ref c /\ H c = some (.dK cs) /\ cs.length <= 8 /\ Gk ws cm z H cs
theorem Gk.up {ws:List Int} {cm:Option Int} {z:List Int × Int} {H H':Hp} {cs:List (Dt × V)} (t:LT H H') (h:Gk ws cm z H cs):Gk ws cm z H' cs:=fun e he=>by
 obtain ⟨who,l,us,h1,h2,h3,h4,h5,h6⟩ := h e he
 exact ⟨who,l,us,h1,h2,h3,h4,t.1 _ _ h5,h6.imp fun _ _ y=>Ex.up t.2 y⟩
theorem Gk.ok {ws:List Int} {cm:Option Int} {z:List Int × Int} {H:Hp} {cs:List (Dt × V)} (h:Gk ws cm z H cs):Uz H cs:=fun e he=>by
 obtain ⟨who,l,us,h1,h2,h3,h4,h5,h6⟩ := h e he
 refine ⟨⟨_,h1⟩,l,us,h4,h5,?_,fun u hu=>?_⟩
 ·rw [h6.1]
  unfold Bc
  split <;> simp
 ·obtain ⟨m,hm⟩ := List.mem_iff_getElem?.mp hu
  obtain ⟨r,hV,UR⟩ := h6.get hm
  cases r with
  | none=>exact absurd (List.mem_of_getElem? hV) h3
  | some r =>
   obtain ⟨bb,e,h1⟩ := UR
   exact ⟨bb,r,e,h1⟩
theorem V4.up {ws:List Int} {cm:Option Int} {z:List Int × Int} {H H':Hp} {v:V} (t:LT H H') (k:∀ c cs,H c = some (.dK cs) -> H' c = some (.dK cs)) (h:V4 ws cm H z v):V4 ws cm H' z v:=by
 obtain ⟨c,cs,e,h1,h2,h3⟩ := h
 exact ⟨c,cs,e,k _ _ h1,h2,h3.up t⟩
def Cl (ws:List Int) (cm:Option Int) (H:Hp) (kvs:List ((List Int × Int) × V)):Prop:=(∀ kv ∈ kvs,V4 ws cm H kv.1 kv.2) /\ (kvs.map (·.1)).Nodup /\ (kvs.map (·.2)).Nodup
theorem Cl.ok {ws:List Int} {cm:Option Int} {H:Hp} {kvs:List ((List Int × Int) × V)} (h:Cl ws cm H kvs):Es H kvs:=fun kv aK=>by
 obtain ⟨c,cs,e,h1,h2,h3⟩ := h.1 kv aK
 exact ⟨c,cs,e,h1,h2,h3.ok⟩
theorem Cl.keep {ws:List Int} {cm:Option Int} {H H':Hp} {kvs:List ((List Int × Int) × V)} (p:Cl ws cm H kvs) (t:LT H H') (k:∀ c cs,H c = some (.dK cs) -> H' c = some (.dK cs)):Cl ws cm H' kvs:=⟨fun kv aK=>(p.1 kv aK).up t k,p.2⟩
def Kt (ws:List Int) (cm:Option Int) (H:Hp) (kvs:List ((List Int × Int) × V)):Prop := ∀ kv ∈ kvs,∀ c cs,kv.2 = .ref c -> H c = some (.dK cs) -> ∀ who:Nat,who < ws.length -> none ∉ Bc ws kv.1.1 cm kv.1.2 who -> (Ae cs (.inl (who:Int))).isSome = true
theorem Kt.keep {ws:List Int} {cm:Option Int} {H H':Hp} {kvs:List ((List Int × Int) × V)} (f:Kt ws cm H kvs) (p:Cl ws cm H kvs) (k:∀ c cs,H c = some (.dK cs) -> H' c = some (.dK cs)):Kt ws cm H' kvs:=fun kv aK c cs e1 e2=>by
 obtain ⟨d,ds,f1,f2,_⟩ := p.1 kv aK
 have JB:=f1
 rw [e1] at JB
 cases JB
 have:=k _ _ f2
 rw [e2] at this
 cases this
 exact f kv aK c cs e1 f2
def Ao (H:Hp) (kvs:List ((List Int × Int) × V)) (k:List Int × Int) (who:Nat):Prop := ∃ (c:Addr) (cs:List (Dt × V)),Ae kvs k = some (.ref c) /\ H c = some (.dK cs) /\ (Ae cs (.inl (who:Int))).isSome = true
theorem Dv {α:Type} {xs:List α} {x:α} (h:xs.Nodup) (hx:x ∉ xs):(xs ++ [x]).Nodup:=by
 rw [List.nodup_append]
 refine ⟨h,by simp,fun a ha b hb e=>?_⟩
 rw [List.mem_singleton.mp hb] at e
 exact hx (e ▸ ha)
def Pk (ws:List Int) (cm:Option Int) (kvs:List ((List Int × Int) × V)) (H:Hp) (later:List Int × Int) (u:V):Prop := ∃ (t b:Addr) (who:Nat) (k:List Int × Int),u = .ref t /\ H t = some (.tup [.ref b,.int (who:Int)]) /\ Ds H b k /\ (∃ v,Ae kvs k = some v) /\ some later ∈ Bc ws k.1 cm k.2 who
theorem Pk.up {ws:List Int} {cm:Option Int} {kvs:List ((List Int × Int) × V)} {H H':Hp} {later:List Int × Int} {u:V} (t:An H H') (h:Pk ws cm kvs H later u):Pk ws cm kvs H' later u:=by
 obtain ⟨a,b,i,k,e,h1,h2,h3,h4⟩ := h
 exact ⟨a,b,i,k,e,t _ _ h1,h2.up t,h3,h4⟩
def F9 (ws:List Int) (cm:Option Int) (H0:Hp) (kvs:List ((List Int × Int) × V)) (n:Nat) (H:Hp) (wv:List ((List Int × Int) × V)):Prop:=(∀ kv ∈ wv,∃ (l:Addr) (us:List V),kv.2 = .ref l /\ H0 l = none /\ H l = some (.lst us) /\ us.length <= n /\ ∀ u ∈ us,Pk ws cm kvs H kv.1 u) /\ (wv.map (·.2)).Nodup
theorem F9.up {ws:List Int} {cm:Option Int} {H0 H H':Hp} {kvs wv:List ((List Int × Int) × V)} {n m:Nat} (t:LT H H') (hn:n <= m) (h:F9 ws cm H0 kvs n H wv):F9 ws cm H0 kvs m H' wv:=⟨fun kv aK=>by
 obtain ⟨l,us,e,h0,h1,h2,h3⟩ := h.1 kv aK
 exact ⟨l,us,e,h0,t.1 _ _ h1,by omega,fun u hu=>(h3 u hu).up t.2⟩,h.2⟩
theorem F9.app {ws:List Int} {cm:Option Int} {H0 H:Hp} {kvs wv:List ((List Int × Int) × V)} {n:Nat} {l:Addr} {us:List V} {x:V} {later:List Int × Int} (h:F9 ws cm H0 kvs n H wv) (hm:(later,V.ref l) ∈ wv) (hl:H l = some (.lst us)) (hu:us.length <= n) (ha:∀ u ∈ us,Pk ws cm kvs H later u) (hx:Pk ws cm kvs H later x):F9 ws cm H0 kvs (n + 1) (upd H l (.lst (us ++ [x]))) wv:=⟨fun kv aK=>by
 have t:An H (upd H l (.lst (us ++ [x]))):=An.lst hl
 obtain ⟨l2,gK,e,h0,h1,h2,h3⟩ := h.1 kv aK
 by_cases z:l2 = l
 ·subst z
  have ek:kv = (later,V.ref l2):=Pz h.2 aK hm e
  refine ⟨l2,us ++ [x],e,h0,A5,by rw [List.length_append,List.length_singleton]; omega,fun u hu=>?_⟩
  rw [ek]
  exact (Mh ha hx u hu).up t
 ·exact ⟨l2,gK,e,h0,(Aa z).trans h1,by omega,fun u hu=>(h3 u hu).up t⟩,h.2⟩
def Cm (H:Hp) (wv:List ((List Int × Int) × V)) (later k:List Int × Int) (who:Nat):Prop := ∃ (l:Addr) (us:List V) (t b:Addr),Ae wv later = some (.ref l) /\ H l = some (.lst us) /\ V.ref t ∈ us /\ H t = some (.tup [.ref b,.int (who:Int)]) /\ Ds H b k
theorem Cm.up {H H':Hp} {wv:List ((List Int × Int) × V)} {later k:List Int × Int} {who:Nat} (t:LT H H') (h:Cm H wv later k who):Cm H' wv later k who:=by
 obtain ⟨l,us,a,b,h1,h2,h3,h4,h5⟩ := h
 exact ⟨l,us,a,b,h1,t.1 _ _ h2,h3,t.2 _ _ h4,h5.up t.2⟩
theorem Cm.put {H:Hp} {wv:List ((List Int × Int) × V)} {later k lk:List Int × Int} {who:Nat} {v:V} (hn:Ae wv lk = none) (h:Cm H wv later k who):Cm H (Bl wv lk v) later k who:=by
 obtain ⟨l,us,a,b,h1,h2⟩ := h
 refine ⟨l,us,a,b,?_,h2⟩
 rw [Ec,if_neg (fun e=>by rw [e,hn] at h1; cases h1)]
 exact h1
theorem Cm.app {H:Hp} {wv:List ((List Int × Int) × V)} {later k:List Int × Int} {who:Nat} {l:Addr} {us:List V} {x:V} (hl:H l = some (.lst us)) (h:Cm H wv later k who):Cm (upd H l (.lst (us ++ [x]))) wv later k who:=by
 have t:An H (upd H l (.lst (us ++ [x]))):=An.lst hl
 obtain ⟨l2,gK,a,b,h1,h2,h3,h4,h5⟩ := h
 by_cases z:l2 = l
 ·subst z
  rw [hl] at h2
  cases h2
  exact ⟨l2,_,a,b,h1,A5,List.mem_append_left _ h3,t _ _ h4,h5.up t⟩
 ·exact ⟨l2,gK,a,b,h1,(Aa z).trans h2,h3,t _ _ h4,h5.up t⟩
theorem S4 {cs:List (Dt × V)} {k j:Dt}:Ae (Bx cs k) j = if j = k then none else Ae cs j:=by
 induction cs with
 | nil=>split <;> rfl
 | cons p r ih =>
  by_cases e:p.1 = k
  ·rw [X5 e,ih]
   by_cases z:j = k
   ·rw [if_pos z,if_pos z]
   ·rw [if_neg z,if_neg z,C6 (fun y=>z (by rw [<- y,e]))]
  ·have ed : Bx (p :: r) k = p :: Bx r k := by
    unfold Bx
    rw [List.filter_cons,if_pos (by simpa using e)]
   rw [ed]
   by_cases z:p.1 = j
   ·rw [C7 z,C7 z,if_neg (fun y=>e (z.trans y))]
   ·rw [C6 z,C6 z,ih]
theorem Ao.keep {ws:List Int} {cm:Option Int} {H H':Hp} {kvs:List ((List Int × Int) × V)} {k:List Int × Int} {who:Nat} (p:Cl ws cm H kvs) (kk:∀ c cs,H c = some (.dK cs) -> H' c = some (.dK cs)):Ao H' kvs k who ↔ Ao H kvs k who:=by
 constructor
 ·rintro ⟨c,cs,h1,h2,h3⟩
  obtain ⟨d,ds,e,f1,_⟩ := p.1 _ (Bi h1)
  cases e
  have:=kk _ _ f1
  rw [h2] at this
  cases this
  exact ⟨c,cs,h1,f1,h3⟩
 ·rintro ⟨c,cs,h1,h2,h3⟩
  exact ⟨c,cs,h1,kk _ _ h2,h3⟩
theorem Ao.pop {ws : List Int} {cm : Option Int} {H : Hp} {kvs : List ((List Int × Int) × V)} {k k' : List Int × Int} {who aI : Nat} {c : Addr} {cs : List (Dt × V)} (p : Cl ws cm H kvs) (hk : Ae kvs k = some (.ref c)) (hc : H c = some (.dK cs)) :
  Ao (upd H c (.dK (Bx cs (.inl (who:Int))))) kvs k' aI ↔ Ao H kvs k' aI /\ ¬ (k' = k /\ aI = who):=by
 constructor
 ·rintro ⟨d,ds,h1,h2,h3⟩
  by_cases z:d = c
  ·subst z
   rw [A5] at h2
   cases h2
   have ek:(k',V.ref d) = (k,V.ref d):=Pz p.2.2 (Bi h1) (Bi hk) rfl
   cases ek
   rw [S4] at h3
   by_cases y:(Sum.inl (aI:Int):Dt) = .inl (who:Int)
   ·rw [if_pos y] at h3
    cases h3
   ·rw [if_neg y] at h3
    exact ⟨⟨d,cs,h1,hc,h3⟩,fun w=>y (by rw [w.2])⟩
  ·rw [Aa z] at h2
   refine ⟨⟨d,ds,h1,h2,h3⟩,fun w=>z ?_⟩
   rw [w.1,hk] at h1
   cases h1
   rfl
 ·rintro ⟨⟨d,ds,h1,h2,h3⟩,hn⟩
  by_cases z:d = c
  ·subst z
   have ek:(k',V.ref d) = (k,V.ref d):=Pz p.2.2 (Bi h1) (Bi hk) rfl
   cases ek
   rw [hc] at h2
   cases h2
   refine ⟨d,_,h1,A5,?_⟩
   rw [S4,if_neg]
   ·exact h3
   ·intro y
    have y2:(aI:Int) = (who:Int):=Sum.inl.inj y
    exact hn ⟨rfl,by omega⟩
  ·exact ⟨d,ds,h1,(Aa z).trans h2,h3⟩
theorem Cl.pop {ws:List Int} {cm:Option Int} {H:Hp} {c:Addr} {cs:List (Dt × V)} {k:Dt} {kvs:List ((List Int × Int) × V)} (p:Cl ws cm H kvs) (hc:H c = some (.dK cs)):Cl ws cm (upd H c (.dK (Bx cs k))) kvs:=⟨fun kv aK=>by
 obtain ⟨d,ds,e,h1,h2,h3⟩ := p.1 kv aK
 have t:LT H (upd H c (.dK (Bx cs k))):=LT.dK hc
 by_cases z:d = c
 ·subst z
  rw [hc] at h1
  cases h1
  exact ⟨d,Bx cs k,e,A5,Nat.le_trans (S2 cs k) h2,fun x hx=>(h3.up t) x (Kv hx)⟩
 ·exact ⟨d,ds,e,(Aa z).trans h1,h2,h3.up t⟩,p.2⟩
theorem Cl.vI {ws:List Int} {cm:Option Int} {B:Addr} {H H':Hp} {kvs:List ((List Int × Int) × V)} (p:Cl ws cm H kvs) (n:Vd B H kvs) (t:An H H') (kl:∀ l us,l ≠ B -> H l = some (.lst us) -> H' l = some (.lst us)) (k:∀ c cs,H c = some (.dK cs) -> H' c = some (.dK cs)):Cl ws cm H' kvs:=⟨fun kv aK=>by
 obtain ⟨c,cs,e1,e2,e3,e4⟩ := p.1 kv aK
 refine ⟨c,cs,e1,k _ _ e2,e3,fun e he=>?_⟩
 obtain ⟨who,l,us,g1,g2,g3,g4,g5,g6⟩ := e4 e he
 exact ⟨who,l,us,g1,g2,g3,g4,kl _ _ (fun z=>n kv aK c cs e1 e2 e he (by rw [g4,z])) g5,g6.imp fun _ _ y=>Ex.up t y⟩,p.2⟩
theorem K1:∀ {xs ys:List Int},xs.map V.int = ys.map V.int -> xs = ys
 | [],[],_=>rfl
 | [],_ :: _,h=>by cases h
 | _ :: _,[],h=>by cases h
 | x :: xs,y :: ys,h=>by
  rw [List.map_cons,List.map_cons] at h
  injection h with h1 h2
  injection h1 with h1
  rw [h1,K1 h2]
def S0 (ws:List Int) (cm:Option Int) (tv:List ((List Int × Int) × V)) (k:List Int × Int) (m:Int):Prop :=
 (∀ who,who < ws.length -> none ∈ Bc ws k.1 cm k.2 who \/ ∃ later m',some later ∈ Bc ws k.1 cm k.2 who /\ Ae tv later = some (.int m') /\ m' <= m - 1) /\
 (m = 1 \/ ∃ who,who < ws.length /\ none ∉ Bc ws k.1 cm k.2 who /\ ∀ later m',some later ∈ Bc ws k.1 cm k.2 who -> Ae tv later = some (.int m') -> m - 1 <= m')
def C8 (ws:List Int) (cm:Option Int) (tv:List ((List Int × Int) × V)):Prop :=
 (∀ k v,Ae tv k = some v -> ∃ m:Int,v = .int m /\ 1 <= m /\ k ∈ Az ws (qv cm) /\ S0 ws cm tv k m) /\
 (∀ k,k ∈ Az ws (qv cm) -> Ae tv k = none -> ∃ who,who < ws.length /\ none ∉ Bc ws k.1 cm k.2 who /\ ∀ later,some later ∈ Bc ws k.1 cm k.2 who -> Ae tv later = none)
def Fy (ws:List Int) (cm:Option Int) (tv:List ((List Int × Int) × V)) (bG:List (List Int × Int)) (r:Int) (Lf:(List Int × Int) -> Nat -> Prop):Prop :=
 1 <= r /\ (∀ kv ∈ tv,∃ n:Int,kv.2 = .int n /\ 1 <= n /\ n < r) /\ (∀ k ∈ bG,k ∈ Az ws (qv cm) /\ Ae tv k = none) /\ (∀ k v,Ae tv k = some v -> k ∈ Az ws (qv cm)) /\
 (∀ k who,Lf k who ↔ (k ∈ Az ws (qv cm) /\ who < ws.length /\ none ∉ Bc ws k.1 cm k.2 who /\ ∀ later,some later ∈ Bc ws k.1 cm k.2 who -> Ae tv later = none)) /\
 (∀ k,k ∈ Az ws (qv cm) -> ((∀ who,¬ Lf k who) ↔ (k ∈ bG \/ (Ae tv k).isSome = true))) /\
 (∀ k m,Ae tv k = some (.int m) -> S0 ws cm tv k m) /\ ∀ k ∈ bG,S0 ws cm tv k r
theorem Fy.done {ws:List Int} {cm:Option Int} {tv:List ((List Int × Int) × V)} {r:Int} {Lf:(List Int × Int) -> Nat -> Prop} (h:Fy ws cm tv [] r Lf):C8 ws cm tv:=by
 obtain ⟨h0,hv,dR,eM,hb,hc,US,hd2⟩ := h
 refine ⟨fun k v e=>?_,fun k hk e=>?_⟩
 ·obtain ⟨n,e1,e2,_⟩ := hv _ (Bi e)
  have nK:v = .int n:=e1
  subst nK
  exact ⟨n,rfl,e2,eM k _ e,US k n e⟩
 ·have hn : ¬ ∀ who, ¬ Lf k who := fun z => by
   rcases (hc k hk).mp z with y | y
   ·cases y
   ·rw [e] at y
    cases y
  obtain ⟨who,hw⟩ := Classical.not_forall.mp hn
  obtain ⟨g1,g2,g3,g4⟩ := (hb k who).mp (Classical.not_not.mp hw)
  exact ⟨who,g2,g3,g4⟩
theorem Fy.step {ws : List Int} {cm : Option Int} {tv fD : List ((List Int × Int) × V)} {bG beta : List (List Int × Int)} {r : Int} {Lf QH : (List Int × Int) -> Nat -> Prop} (h : Fy ws cm tv bG r Lf)
  (ht:∀ k,Ae fD k = if k ∈ bG then some (.int r) else Ae tv k) (jV:∀ kv ∈ fD,∃ n:Int,kv.2 = .int n /\ 1 <= n /\ n < r + 1)
  (hl:∀ k who,QH k who ↔ (Lf k who /\ ∀ later ∈ bG,some later ∉ Bc ws k.1 cm k.2 who)) (QI:∀ k,k ∈ beta ↔ ((∃ who,Lf k who) /\ ∀ who,¬ QH k who)):Fy ws cm fD beta (r + 1) QH:=by
 obtain ⟨h0,hv,dR,eM,hb,hc,US,hd2⟩ := h
 have lP:∀ k,Ae fD k = none ↔ (k ∉ bG /\ Ae tv k = none):=fun k=>by
  rw [ht]
  by_cases z:k ∈ bG
  ·rw [if_pos z]
   exact ⟨fun y=>(nomatch y),fun y=>absurd z y.1⟩
  ·rw [if_neg z]
   exact ⟨fun y=>⟨z,y⟩,fun y=>y.2⟩
 have old:∀ later m',Ae tv later = some (.int m') -> Ae fD later = some (.int m'):=fun later m' e=>by
  rw [ht,if_neg (fun z=>by rw [(dR later z).2] at e; cases e)]
  exact e
 have back:∀ later m',Ae fD later = some (.int m') -> (later ∈ bG /\ m' = r) \/ Ae tv later = some (.int m'):=fun later m' e=>by
  rw [ht] at e
  by_cases z:later ∈ bG
  ·rw [if_pos z] at e
   cases e
   exact .inl ⟨z,rfl⟩
  ·rw [if_neg z] at e
   exact .inr e
 have more:∀ k m,m <= r -> S0 ws cm tv k m -> S0 ws cm fD k m:=fun k m hm ⟨p1,p2⟩=>by
  refine ⟨fun who hw=>?_,?_⟩
  ·rcases p1 who hw with y | ⟨later,m',y1,y2,y3⟩
   ·exact .inl y
   ·exact .inr ⟨later,m',y1,old _ _ y2,y3⟩
  ·rcases p2 with y | ⟨who,y1,y2,y3⟩
   ·exact .inl y
   ·refine .inr ⟨who,y1,y2,fun later m' z1 z2=>?_⟩
    rcases back later m' z2 with ⟨_,e⟩ | e
    ·omega
    ·exact y3 later m' z1 e
 have gM:∀ k who,QH k who ↔ (k ∈ Az ws (qv cm) /\ who < ws.length /\ none ∉ Bc ws k.1 cm k.2 who /\ ∀ later,some later ∈ Bc ws k.1 cm k.2 who -> Ae fD later = none):=fun k who=>by
  rw [hl,hb]
  constructor
  ·rintro ⟨⟨g1,g2,g3,g4⟩,g5⟩
   exact ⟨g1,g2,g3,fun later z=>(lP later).mpr ⟨fun y=>g5 later y z,g4 later z⟩⟩
  ·rintro ⟨g1,g2,g3,g4⟩
   exact ⟨⟨g1,g2,g3,fun later z=>((lP later).mp (g4 later z)).2⟩,fun later y z=>((lP later).mp (g4 later z)).1 y⟩
 refine ⟨by omega,jV,fun k hk=>?_,fun k v e=>?_,gM,fun k hk=>?_,fun k m e=>?_,fun k hk=>?_⟩
 ·obtain ⟨⟨who,hw⟩,hn⟩ := (QI k).mp hk
  have hs:=((hb k who).mp hw).1
  refine ⟨hs,(lP k).mpr ⟨fun z=>?_,?_⟩⟩
  ·exact (hc k hs).mpr (.inl z) who hw
  ·cases hvk:Ae tv k with
   | none=>rfl
   | some v=>exact absurd hw ((hc k hs).mpr (.inr (by rw [hvk]; rfl)) who)
 ·rw [ht] at e
  by_cases z:k ∈ bG
  ·exact (dR k z).1
  ·rw [if_neg z] at e
   exact eM k v e
 ·constructor
  ·intro z
   by_cases y:∃ who,Lf k who
   ·exact .inl ((QI k).mpr ⟨y,z⟩)
   ·right
    rcases (hc k hk).mp (fun who w=>y ⟨who,w⟩) with x | x
    ·rw [ht,if_pos x]
     rfl
    ·obtain ⟨v,JC⟩ := Option.isSome_iff_exists.mp x
     obtain ⟨n,e1,_⟩ := hv _ (Bi JC)
     have nK:v = .int n:=e1
     rw [nK] at JC
     rw [old k n JC]
     rfl
  ·rintro (z | z) who w
   ·exact ((QI k).mp z).2 who w
   ·have w1:=((hl k who).mp w).1
    rw [ht] at z
    by_cases y:k ∈ bG
    ·exact (hc k hk).mpr (.inl y) who w1
    ·rw [if_neg y] at z
     exact (hc k hk).mpr (.inr z) who w1
 ·rcases back k m e with ⟨y1,y2⟩ | y
  ·subst y2
   exact more k m (Int.le_refl _) (hd2 k y1)
  ·obtain ⟨n,e1,e2,e3⟩ := hv _ (Bi y)
   cases e1
   exact more k m (by omega) (US k m y)
 ·obtain ⟨⟨JD,tP⟩,hn⟩ := (QI k).mp hk
  obtain ⟨g1,g2,g3,g4⟩ := (hb k JD).mp tP
  refine ⟨fun who hw=>?_,.inr ⟨JD,g2,g3,fun later m' z1 z2=>?_⟩⟩
  ·by_cases y:none ∈ Bc ws k.1 cm k.2 who
   ·exact .inl y
   ·right
    have hnn:¬ ∀ later,some later ∈ Bc ws k.1 cm k.2 who -> Ae fD later = none:=fun z=>hn who ((gM k who).mpr ⟨g1,hw,y,z⟩)
    obtain ⟨later,hx⟩ := Classical.not_forall.mp hnn
    obtain ⟨x1,x2⟩ := Classical.not_imp.mp hx
    cases UT:Ae fD later with
    | none=>exact absurd UT x2
    | some v =>
     obtain ⟨n,e1,e2,e3⟩ := jV _ (Bi UT)
     have nK:v = .int n:=e1
     exact ⟨later,n,x1,by rw [UT,nK],by omega⟩
  ·rcases back later m' z2 with ⟨_,e⟩ | e
   ·omega
   ·rw [g4 later z1] at e
    cases e
theorem gv {κ:Type} [DecidableEq κ] {kvs:List (κ × V)} {k:κ} {v:V} (hn:(kvs.map (·.1)).Nodup):((Bl kvs k v).map (·.1)).Nodup:=by
 cases e:Ae kvs k with
 | none =>
  rw [Dc v e,List.map_append]
  exact Dv hn (Lg e)
 | some w =>
  have hk:(kvs.any fun kv=>decide (kv.1 = k)) = true:=by
   rw [Dx,e]
   rfl
  unfold Bl
  rw [if_pos hk,List.map_map]
  have:(kvs.map ((fun x=>x.1) ∘ fun kv=>if kv.1 = k then (kv.1,v) else kv)) = kvs.map (·.1):=by
   apply List.map_congr_left
   intro x _
   show (if x.1 = k then (x.1,v) else x).1 = x.1
   split <;> rfl
  rw [this]
  exact hn
def Y4 (H:Hp) (v:V):Prop := ∃ c,v = .ref c /\ H c = some (.dK [])
theorem Fy.start {ws:List Int} {cm:Option Int} {H:Hp} {kvs:List ((List Int × Int) × V)} {bG:List (List Int × Int)} (hp:Cl ws cm H kvs) (hk:kvs.map (·.1) = Az ws (qv cm)) (hf:Kt ws cm H kvs) (hr:∀ k,k ∈ bG ↔ ∃ v,(k,v) ∈ kvs /\ Y4 H v):Fy ws cm [] bG 1 (Ao H kvs):=by
 have mem:∀ k,k ∈ Az ws (qv cm) ↔ ∃ v,(k,v) ∈ kvs:=fun k=>by
  rw [<- hk,List.mem_map]
  exact ⟨fun ⟨x,h1,h2⟩=>⟨x.2,by rw [<- h2]; exact h1⟩,fun ⟨v,h1⟩=>⟨_,h1,rfl⟩⟩
 have hb:∀ k who,Ao H kvs k who ↔ (k ∈ Az ws (qv cm) /\ who < ws.length /\ none ∉ Bc ws k.1 cm k.2 who):=fun k who=>by
  constructor
  ·rintro ⟨c,cs,h1,h2,h3⟩
   have hm:=Bi h1
   obtain ⟨d,ds,e,f1,_,f2⟩ := hp.1 _ hm
   cases e
   rw [h2] at f1
   cases f1
   obtain ⟨w',UU⟩ := Option.isSome_iff_exists.mp h3
   obtain ⟨oJ,l,us,g1,g2,g3,_⟩ := f2 _ (Bi UU)
   have g1':(who:Int) = (oJ:Int):=Sum.inl.inj g1
   have:who = oJ:=by omega
   subst this
   exact ⟨(mem k).mpr ⟨_,hm⟩,g2,g3⟩
  ·rintro ⟨h1,h2,h3⟩
   obtain ⟨v,hm⟩ := (mem k).mp h1
   obtain ⟨c,cs,e,f1,_,f2⟩ := hp.1 _ hm
   have e':v = .ref c:=e
   subst e'
   exact ⟨c,cs,Ct hp.2.1 hm,f1,hf _ hm c cs rfl f1 who h2 h3⟩
 have hc:∀ k,k ∈ Az ws (qv cm) -> ((∀ who,¬ Ao H kvs k who) ↔ k ∈ bG):=fun k gN=>by
  obtain ⟨v,hm⟩ := (mem k).mp gN
  obtain ⟨c,cs,e,f1,_,f2⟩ := hp.1 _ hm
  have e':v = .ref c:=e
  subst e'
  rw [hr]
  constructor
  ·intro z
   refine ⟨_,hm,c,rfl,?_⟩
   cases cs with
   | nil=>exact f1
   | cons x xs =>
    obtain ⟨who,l,us,g1,_⟩ := f2 x (by simp)
    exact absurd ⟨c,_,Ct hp.2.1 hm,f1,by rw [C7 g1]; rfl⟩ (z who)
  ·rintro ⟨v',dX,c',e1,e2⟩ who ⟨c2,cs2,g1,g2,g3⟩
   have h1:=Ct hp.2.1 hm
   rw [Ct hp.2.1 dX,e1] at h1
   cases h1
   rw [Ct hp.2.1 hm] at g1
   cases g1
   rw [e2] at g2
   cases g2
   cases g3
 refine ⟨Int.le_refl _,(fun kv z=>by cases z),fun k eK=>?_,(fun k v z=>by cases z),fun k who=>?_,fun k gN=>?_,(fun k m z=>by cases z),fun k eK=>?_⟩
 ·obtain ⟨v,hm,_⟩ := (hr k).mp eK
  exact ⟨(mem k).mpr ⟨v,hm⟩,rfl⟩
 ·rw [hb]
  exact ⟨fun z=>⟨z.1,z.2.1,z.2.2,fun _ _=>rfl⟩,fun z=>⟨z.1,z.2.1,z.2.2.1⟩⟩
 ·rw [hc k gN]
  exact ⟨fun z=>.inl z,fun z=>z.elim id (fun y=>by cases y)⟩
 ·obtain ⟨v,hm,_⟩ := (hr k).mp eK
  have gN:=(mem k).mpr ⟨v,hm⟩
  refine ⟨fun who hw=>?_,.inl rfl⟩
  left
  apply Classical.byContradiction
  intro y
  exact (hc k gN).mpr eK who ((hb k who).mpr ⟨gN,hw,y⟩)
theorem Z8 (ws:List Int) (w:Int):ws.map V.int ++ [V.int w] = (ws ++ [w]).map V.int:=by rw [List.map_append]; rfl
theorem Qg {α:Type} {ls:List α} {x:α} {i:Nat} (h:ls.length = i):(ls ++ [x]).length = i + 1:=by
 rw [List.length_append,h]
 rfl
theorem Ry {H:Hp} {L:Addr} {ls:List Int} {x:Int}:(upd H L (.lst (ls.map V.int ++ [V.int x]))) L = some (.lst ((ls ++ [x]).map V.int)):=by
 rw [Z8]
 exact A5
theorem Qk {ls:List Int} {j:Nat} (h:j < ls.length):ls[j]? = some (ls.getD j 0):=by
 rw [List.getD_eq_getElem?_getD,List.getElem?_eq_getElem h]
 rfl
theorem Fd {ls:List Int} {j:Nat} (h:j < ls.length):ls.getD j 0 ∈ ls:=List.mem_of_getElem? (Qk h)
def Ef (ws:List Int) (cm:Option Int):Prop:=(∀ w ∈ ws,1 <= w /\ w <= 3000) /\ (∀ c,cm = some c -> 1 <= c /\ c < 3000) /\ 0 < ws.length /\ ws.length <= 8 /\ Bv (qv cm) ws <= 300
theorem Hw {w:Int} (h1:0 <= w) (h2:w <= 3000):intBits w <= 256:=Nat.le_trans (aj (n:=12) (by omega)) (by decide)
theorem Ef.qv {ws:List Int} {cm:Option Int} (h:Ef ws cm):1 <= qv cm /\ qv cm <= 3000:=by
 cases cm with
 | none=>exact ⟨Int.le_refl _,by decide⟩
 | some c =>
  have:=h.2.1 c rfl
  show 1 <= c + 1 /\ c + 1 <= 3000
  omega
theorem Wy {ws ls:List Int} {who i:Nat} {lost:Bool} (hi:i < ls.length):(Ax ws ls who lost)[i]? = some (if i = who /\ lost = false then ws.getD who 0 else ls.getD i 0 - 1):=by
 have e:(ls.map fun x=>x - 1)[i]? = some (ls.getD i 0 - 1):=by
  rw [List.getElem?_map,List.getElem?_eq_getElem hi,List.getD_eq_getElem?_getD,List.getElem?_eq_getElem hi]
  rfl
 unfold Ax
 cases lost with
 | true =>
  rw [if_pos rfl,if_neg (fun z=>nomatch z.2)]
  exact e
 | false =>
  rw [if_neg Bool.false_ne_true,List.getElem?_set]
  by_cases z:i = who
  ·subst z
   rw [if_pos rfl,if_pos (by rw [List.length_map]; exact hi),if_pos ⟨rfl,rfl⟩]
  ·rw [if_neg (fun y=>z y.symm),if_neg (fun y=>z y.1)]
   exact e
def Qv (cm:Option Int) (q:Int):List Bool:=if Dl cm q = true then [false,true] else [false]
theorem Yc (ws ls:List Int) (cm:Option Int) (q:Int) (who:Nat):Bc ws ls cm q who = (Qv cm q).map fun lost=>D0 ws ls cm q who lost:=by
 unfold Bc Qv
 split <;> rfl
theorem Lm {xs:List Int} {i:Nat} (h:i < xs.length):xs[i]? = some (xs.getD i 0):=by
 rw [List.getD_eq_getElem?_getD,List.getElem?_eq_getElem h]
 rfl
theorem Vk:∀ (ws:List Int) (rows:List (List Int)) (r0 ext:List Int),r0 ∈ rows -> ext.length = ws.length -> (∀ i,i < ws.length -> 1 <= ext.getD i 0 /\ ext.getD i 0 <= ws.getD i 0) -> r0 ++ ext ∈ ws.foldl C5 rows
 | [],rows,r0,ext,h,hl,_=>by
  have e:ext = []:=List.length_eq_zero_iff.mp hl
  rw [e,List.append_nil]
  exact h
 | w :: ws,rows,r0,[],h,hl,_=>by simp at hl
 | w :: ws,rows,r0,x :: ext,h,hl,hb=>by
  have h0:=hb 0 (by simp)
  have hx:1 <= x /\ x <= w:=h0
  have bW:r0 ++ [x] ∈ C5 rows w:=by
   refine List.mem_flatMap.mpr ⟨r0,h,List.mem_map.mpr ⟨(x - 1).toNat,List.mem_range.mpr (by omega),?_⟩⟩
   have e:1 + (((x - 1).toNat:Nat):Int) = x:=by omega
   rw [e]
  have ih:=Vk ws (C5 rows w) (r0 ++ [x]) ext bW (by simpa using hl) fun i hi=>hb (i + 1) (by simp; omega)
  rw [List.append_assoc] at ih
  exact ih
theorem Ru {ws:List Int} {q:Int} {z:List Int × Int} (h1:z.1.length = ws.length) (h2:∀ i,i < ws.length -> 1 <= z.1.getD i 0 /\ z.1.getD i 0 <= ws.getD i 0) (h3:0 <= z.2) (h4:z.2 < q):z ∈ Az ws q:=by
 refine List.mem_flatMap.mpr ⟨z.1,?_,List.mem_map.mpr ⟨z.2.toNat,List.mem_range.mpr (by omega),?_⟩⟩
 ·have:=Vk ws [[]] [] z.1 (by simp) h1 h2
  exact this
 ·have e:0 + ((z.2.toNat:Nat):Int) = z.2:=by omega
  rw [e]
theorem Jo {ws:List Int} {q:Int} {z:List Int × Int} (h:z ∈ Az ws q):z.1.length = ws.length /\ (∀ i,i < ws.length -> 1 <= z.1.getD i 0 /\ z.1.getD i 0 <= ws.getD i 0) /\ 0 <= z.2 /\ z.2 < q:=by
 obtain ⟨m1,m2,m3,m4⟩ := N8 h
 exact ⟨m1,fun i hi=>m2 i _ _ (Lm (by omega)) (Lm hi),m3,m4⟩
theorem Ve {ws ls:List Int} {who i:Nat} {lost:Bool} (hi:i < ls.length):(Ax ws ls who lost).getD i 0 = if i = who /\ lost = false then ws.getD who 0 else ls.getD i 0 - 1:=by
 rw [List.getD_eq_getElem?_getD,Wy hi]
 rfl
theorem Yg {ws ls:List Int} {cm:Option Int} {q:Int} {who:Nat} {lost:Bool} {k:List Int × Int} (h:D0 ws ls cm q who lost = some k):(0:Int) ∉ Ax ws ls who lost /\ k = (Ax ws ls who lost,Cj cm q lost):=by
 unfold D0 at h
 by_cases z:(0:Int) ∈ Ax ws ls who lost
 ·rw [if_pos z] at h
  cases h
 ·rw [if_neg z] at h
  exact ⟨z,(Option.some.inj h).symm⟩
theorem jh {ws:List Int} {cm:Option Int} {k l:List Int × Int} {who:Nat} {lost:Bool} (cQ:∀ w ∈ ws,1 <= w) (hk:k ∈ Az ws (qv cm)) (cC:who < ws.length) (hlo:lost ∈ Qv cm k.2) (h:D0 ws k.1 cm k.2 who lost = some l):l ∈ Az ws (qv cm):=by
 obtain ⟨g1,g2,g3,g4⟩ := Jo hk
 obtain ⟨hz,rfl⟩ := Yg h
 have hwp:1 <= ws.getD who 0:=cQ _ (Fd cC)
 have hlen:(Ax ws k.1 who lost).length = k.1.length:=Fs _ _ _ _
 refine Ru (by rw [hlen]; exact g1) (fun i hi=>?_) ?_ ?_
 ·have b:=g2 i hi
  have bP:(Ax ws k.1 who lost).getD i 0 ≠ 0:=fun e=>by
   have:=Lm (xs:=Ax ws k.1 who lost) (i:=i) (by omega)
   rw [e] at this
   exact hz (List.mem_of_getElem? this)
  show 1 <= (Ax ws k.1 who lost).getD i 0 /\ (Ax ws k.1 who lost).getD i 0 <= ws.getD i 0
  rw [Ve (by omega)] at bP ⊢
  by_cases y:i = who /\ lost = false
  ·rw [if_pos y,y.1]
   omega
  ·rw [if_neg y] at bP
   rw [if_neg y]
   omega
 ·show 0 <= Cj cm k.2 lost
  unfold Cj
  cases lost with
  | true =>
   rw [if_pos rfl]
   cases cm with
   | none=>exact Int.le_refl _
   | some c =>
    show 0 <= c
    have:k.2 < c + 1:=g4
    omega
  | false =>
   rw [if_neg Bool.false_ne_true]
   omega
 ·show Cj cm k.2 lost < qv cm
  unfold Cj
  cases lost with
  | true =>
   rw [if_pos rfl]
   cases cm with
   | none=>decide
   | some c =>
    show c < c + 1
    omega
  | false =>
   rw [if_neg Bool.false_ne_true]
   have:0 < qv cm:=by omega
   omega
def wd (x:Int × Int):PyData:=dP (.int x.1) (.int x.2)
def Fm (x y:Int × Int):Bool:=decide (y.1 < x.1 \/ (x.1 = y.1 /\ y.2 < x.2))
theorem J6 (a b:Int):PyData.eqv (.int a) (.int b) = decide (a = b):=rfl
theorem js (x y:Int × Int):Xg (wd x) (wd y) = Fm x y:=by
 obtain ⟨a,b⟩ := x
 obtain ⟨c,d⟩ := y
 show (if PyData.eqv (.int a) (.int c) = true then (if PyData.eqv (.int b) (.int d) = true then aY [] [] else Xg (.int b) (.int d)) else Xg (.int a) (.int c)) = decide (c < a \/ (a = c /\ d < b))
 rw [J6,J6]
 show (if decide (a = c) = true then (if decide (b = d) = true then false else decide (b > d)) else decide (a > c)) = decide (c < a \/ (a = c /\ d < b))
 by_cases h1:a = c
 ·rw [if_pos (decide_eq_true h1)]
  by_cases h2:b = d
  ·rw [if_pos (decide_eq_true h2)]
   exact (decide_eq_false (by omega)).symm
  ·rw [if_neg (by simpa using h2)]
   exact decide_eq_decide.mpr (by omega)
 ·rw [if_neg (by simpa using h1)]
  exact decide_eq_decide.mpr (by omega)
theorem Y7 (x y:Int × Int):Jl (wd x) (wd y) = Fm y x:=by
 obtain ⟨a,b⟩ := x
 obtain ⟨c,d⟩ := y
 show (if PyData.eqv (.int a) (.int c) = true then (if PyData.eqv (.int b) (.int d) = true then aH [] [] else Jl (.int b) (.int d)) else Jl (.int a) (.int c)) = decide (a < c \/ (c = a /\ b < d))
 rw [J6,J6]
 show (if decide (a = c) = true then (if decide (b = d) = true then false else decide (b < d)) else decide (a < c)) = decide (a < c \/ (c = a /\ b < d))
 by_cases h1:a = c
 ·rw [if_pos (decide_eq_true h1)]
  by_cases h2:b = d
  ·rw [if_pos (decide_eq_true h2)]
   exact (decide_eq_false (by omega)).symm
  ·rw [if_neg (by simpa using h2)]
   exact decide_eq_decide.mpr (by omega)
 ·rw [if_neg (by simpa using h1)]
  exact decide_eq_decide.mpr (by omega)
theorem Zw (x y:Int × Int):Gg (wd x) (wd y):=by
 show Gg (.tuple [.int x.1,.int x.2]) (.tuple [.int y.1,.int y.2])
 simp [Gg,bL]
theorem Kx (x:Int × Int):(wd x).depth <= 50:=by
 show (dP _ _).depth <= 50
 rw [Rn]
 show max 0 0 + 1 <= 50
 decide
theorem Vb {H:Hp} {p:Addr} {x:Int × Int} (h:H p = some (.tup [.int x.1,.int x.2])):Rp H (wd x) (.ref p):=Za h (Q9 _) (Q9 _)
theorem Zi (x y:Int × Int):PyData.eqv (wd x) (wd y) = decide (x = y):=by
 obtain ⟨a,b⟩ := x
 obtain ⟨c,d⟩ := y
 show PyData.eqv (dP _ _) (dP _ _) = _
 rw [gw,J6,J6]
 by_cases h1:a = c <;> by_cases h2:b = d <;> simp [h1,h2]
theorem Op (f:Nat -> Int × Int):∀ k,argBest (fun i j=>Fm (f i) (f j)) k <= k /\ ∀ j,j <= k -> Fm (f j) (f (argBest (fun i j=>Fm (f i) (f j)) k)) = false
 | 0=>⟨Nat.le_refl _,fun j hj=>by
  have e:j = 0:=by omega
  subst e
  show Fm (f 0) (f 0) = false
  unfold Fm
  exact decide_eq_false (by omega)⟩
 | k + 1=>by
  obtain ⟨h1,h2⟩ := Op f k
  rw [E9]
  generalize argBest (fun i j=>Fm (f i) (f j)) k = b at h1 h2 ⊢
  by_cases z:Fm (f (k + 1)) (f b) = true
  ·rw [if_pos z]
   refine ⟨Nat.le_refl _,fun j hj=>?_⟩
   unfold Fm at z h2 ⊢
   have z':=of_decide_eq_true z
   refine decide_eq_false ?_
   rcases Nat.lt_or_ge k j with y | y
   ·have e:j = k + 1:=by omega
    subst e
    omega
   ·have:=of_decide_eq_false (h2 j y)
    omega
  ·rw [if_neg z]
   refine ⟨by omega,fun j hj=>?_⟩
   rcases Nat.lt_or_ge k j with y | y
   ·have e:j = k + 1:=by omega
    subst e
    simpa using z
   ·exact h2 j y
def Of:Option V -> Int × Int
 | some (.int m)=>(0,m)
 | _=>(1,0)
def told (tv:List ((List Int × Int) × V)):Option (List Int × Int) -> Int × Int
 | none=>(0,0)
 | some k=>Of (Ae tv k)
def ik (x y:Int × Int):Int × Int:=if Fm x y = true then y else x
def Ki (tv:List ((List Int × Int) × V)) (ws ls:List Int) (cm:Option Int) (q:Int) (who:Nat):Int × Int :=
 if Dl cm q = true then ik (told tv (D0 ws ls cm q who false)) (told tv (D0 ws ls cm q who true)) else told tv (D0 ws ls cm q who false)
def So (tv:List ((List Int × Int) × V)):Prop := ∀ k v,Ae tv k = some v -> ∃ m:Int,v = .int m
theorem Pc {tv:List ((List Int × Int) × V)} {ws ls:List Int} {cm:Option Int} {q:Int} {who:Nat}:(∀ o ∈ Bc ws ls cm q who,Fm (Ki tv ws ls cm q who) (told tv o) = false) /\ ∃ o,o ∈ Bc ws ls cm q who /\ Ki tv ws ls cm q who = told tv o:=by
 rw [Yc]
 unfold Qv Ki
 by_cases z:Dl cm q = true
 ·rw [if_pos z,if_pos z]
  show (∀ o ∈ [D0 ws ls cm q who false,D0 ws ls cm q who true],_) /\ ∃ o,o ∈ [D0 ws ls cm q who false,D0 ws ls cm q who true] /\ _
  unfold ik
  by_cases y:Fm (told tv (D0 ws ls cm q who false)) (told tv (D0 ws ls cm q who true)) = true
  ·rw [if_pos y]
   refine ⟨fun o ho=>?_,_,by simp,rfl⟩
   have iL:o = D0 ws ls cm q who false \/ o = D0 ws ls cm q who true:=by simpa using ho
   unfold Fm at y ⊢
   have y':=of_decide_eq_true y
   refine decide_eq_false ?_
   rcases iL with e | e <;> subst e <;> omega
  ·rw [if_neg y]
   refine ⟨fun o ho=>?_,_,by simp,rfl⟩
   have iL:o = D0 ws ls cm q who false \/ o = D0 ws ls cm q who true:=by simpa using ho
   unfold Fm at y ⊢
   refine decide_eq_false ?_
   have y':=fun h=>y (decide_eq_true h)
   rcases iL with e | e <;> subst e <;> omega
 ·rw [if_neg z,if_neg z]
  refine ⟨fun o ho=>?_,D0 ws ls cm q who false,by simp,rfl⟩
  have e:o = D0 ws ls cm q who false:=by simpa using ho
  subst e
  unfold Fm
  exact decide_eq_false (by omega)
theorem R7 {H:Hp}:∀ {ds:List PyData} {us:List V},us.length = ds.length -> (∀ (i:Nat) (d:PyData) (u:V),ds[i]? = some d -> us[i]? = some u -> Rp H d u) -> aG H ds us
 | [],us,hl,_=>by
  unfold aG
  exact List.length_eq_zero_iff.mp hl
 | d :: ds,[],hl,_=>by simp at hl
 | d :: ds,u :: us,hl,h=>by
  unfold aG
  exact ⟨u,us,rfl,h 0 d u rfl rfl,R7 (by simpa using hl) fun i d' u' h1 h2=>h (i + 1) d' u' (by simpa using h1) (by simpa using h2)⟩
theorem cp {f:Nat -> Int × Int} {n:Nat} (hn:0 < n):Dr ((List.range n).map fun i=>wd (f i)) < n /\ ∀ j,j < n -> Fm (f j) (f (Dr ((List.range n).map fun i=>wd (f i)))) = false:=by
 have e:Dr ((List.range n).map fun i=>wd (f i)) = argBest (fun i j=>Fm (f i) (f j)) (n - 1):=by
  unfold Dr
  rw [List.length_map,List.length_range]
  have key:∀ k,k <= n - 1 -> argBest (fun i j=>Xg (((List.range n).map fun i=>wd (f i)).getD i .none) (((List.range n).map fun i=>wd (f i)).getD j .none)) k = argBest (fun i j=>Fm (f i) (f j)) k:=fun k=>by
   induction k with
   | zero=>exact fun _=>rfl
   | succ k ih =>
    intro hk
    have b:=(Op f k).1
    rw [E9,E9,ih (by omega)]
    generalize argBest (fun i j=>Fm (f i) (f j)) k = b0 at b ⊢
    have g:∀ i,i < n -> ((List.range n).map fun i=>wd (f i)).getD i .none = wd (f i):=fun i hi=>by
     rw [List.getD_eq_getElem?_getD,List.getElem?_map,List.getElem?_range hi]
     rfl
    show (if Xg (((List.range n).map fun i=>wd (f i)).getD (k + 1) .none) (((List.range n).map fun i=>wd (f i)).getD b0 .none) = true then _ else _) = _
    rw [g _ (by omega),g _ (by omega),js]
  exact key (n - 1) (Nat.le_refl _)
 rw [e]
 obtain ⟨h1,h2⟩ := Op f (n - 1)
 exact ⟨by omega,fun j hj=>h2 j (by omega)⟩
def O4 (f:Nat -> Int × Int) (n j:Nat):Prop:=j < n /\ (∀ i,i < n -> Fm (f i) (f j) = false) /\ ∀ m,m < j -> f m ≠ f j
theorem least {Pr:Nat -> Prop}:∀ (b:Nat),Pr b -> ∃ j,j <= b /\ Pr j /\ ∀ m,m < j -> ¬ Pr m:=fun b=>by
 induction b using Nat.strongRecOn with
 | ind b ih =>
  intro hb
  by_cases z:∃ m,m < b /\ Pr m
  ·obtain ⟨m,h1,h2⟩ := z
   obtain ⟨j,j1,j2,j3⟩ := ih m h1 h2
   exact ⟨j,by omega,j2,j3⟩
  ·exact ⟨b,Nat.le_refl _,hb,fun m hm hp=>z ⟨m,hm,hp⟩⟩
theorem O4.of {f:Nat -> Int × Int} {n j:Nat} (hn:0 < n) (hj:j <= Dr ((List.range n).map fun i=>wd (f i))) (e:f j = f (Dr ((List.range n).map fun i=>wd (f i)))) (h:∀ m,m < j -> ¬ f m = f (Dr ((List.range n).map fun i=>wd (f i)))):O4 f n j:=by
 obtain ⟨b1,b2⟩ := cp (f:=f) hn
 refine ⟨by omega,fun i hi=>by rw [e]; exact b2 i hi,fun m hm=>by rw [e]; exact h m hm⟩
def Tl (H:Hp) (f:Nat -> Int × Int) (ys:List V):Prop := ∀ (i:Nat) (u:V),ys[i]? = some u -> ∃ p,u = .ref p /\ H p = some (.tup [.int (f i).1,.int (f i).2])
theorem Tl.snoc {H H':Hp} {f:Nat -> Int × Int} {ys:List V} {p:Addr} {n:Nat} (h:Tl H f ys) (t:An H H') (hn:ys.length = n) (e:H' p = some (.tup [.int (f n).1,.int (f n).2])):Tl H' f (ys ++ [.ref p]):=fun i u hu=>by
 rcases Nat.lt_or_ge i ys.length with y | y
 ·rw [List.getElem?_append_left y] at hu
  obtain ⟨p3,e1,e2⟩ := h i u hu
  exact ⟨p3,e1,t _ _ e2⟩
 ·rw [List.getElem?_append_right y] at hu
  have hi0:i - ys.length = 0:=by
   have:=(List.getElem?_eq_some_iff.mp hu).1
   rw [List.length_singleton] at this
   omega
  rw [hi0] at hu
  cases hu
  have ei:i = n:=by omega
  subst ei
  exact ⟨p,rfl,e⟩
theorem Tl.rp {H:Hp} {f:Nat -> Int × Int} {ys:List V} {n:Nat} (h:Tl H f ys) (hn:ys.length = n):aG H ((List.range n).map fun i=>wd (f i)) ys:=by
 refine R7 (by rw [List.length_map,List.length_range]; exact hn) fun i d u h1 h2=>?_
 obtain ⟨p3,e1,e2⟩ := h i u h2
 subst e1
 rw [List.getElem?_map] at h1
 obtain ⟨i',mV,rfl⟩ := Option.map_eq_some_iff.mp h1
 have UW:i < n:=by
  have:=(List.getElem?_eq_some_iff.mp h2).1
  omega
 rw [List.getElem?_range UW] at mV
 cases mV
 exact Vb e2
theorem Vc (f:Nat -> Int × Int) (n:Nat):∀ d ∈ (List.range n).map fun i=>wd (f i),∀ e ∈ (List.range n).map fun i=>wd (f i),Gg d e:=fun d hd e he=>by
 obtain ⟨i1,_,rfl⟩ := List.mem_map.mp hd
 obtain ⟨i2,_,rfl⟩ := List.mem_map.mp he
 exact Zw _ _
theorem Vg (f:Nat -> Int × Int) (n:Nat):∀ d ∈ (List.range n).map fun i=>wd (f i),d.depth <= 50:=fun d hd=>by
 obtain ⟨i1,_,rfl⟩ := List.mem_map.mp hd
 exact Kx _
theorem cc (f:Nat -> Int × Int) {n i:Nat} (h:i < n):((List.range n).map fun i=>wd (f i))[i]? = some (wd (f i)):=by
 rw [List.getElem?_map,List.getElem?_range h]
 rfl
theorem Ys {f:Nat -> Int × Int} {n i:Nat} {e:PyData} (h:((List.range n).map fun i=>wd (f i))[i]? = some e):e = wd (f i):=by
 rw [List.getElem?_map] at h
 obtain ⟨i',mV,rfl⟩ := Option.map_eq_some_iff.mp h
 have UW:i < n:=by
  have:=(List.getElem?_eq_some_iff.mp mV).1
  rwa [List.length_range] at this
 rw [List.getElem?_range UW] at mV
 cases mV
 rfl
def Bt (tv:List ((List Int × Int) × V)) (ws ls:List Int) (cm:Option Int) (q:Int) (who:Nat):Bool:=Dl cm q && Fm (told tv (D0 ws ls cm q who false)) (told tv (D0 ws ls cm q who true))
theorem Fl {tv:List ((List Int × Int) × V)} {k:List Int × Int} {m:Int} (h:Ae tv k = some (.int m)):told tv (some k) = (0,m):=by
 show Of (Ae tv k) = _
 rw [h]
 rfl
theorem Fp {ws:List Int} {cm:Option Int} {tv:List ((List Int × Int) × V)} (h:C8 ws cm tv) (o:Option (List Int × Int)):(o = none /\ told tv o = (0,0)) \/ (∃ k m,o = some k /\ Ae tv k = some (.int m) /\ 1 <= m /\ told tv o = (0,m)) \/ told tv o = (1,0):=by
 cases o with
 | none=>exact .inl ⟨rfl,rfl⟩
 | some k =>
  cases hv:Ae tv k with
  | none =>
   refine .inr (.inr ?_)
   show Of (Ae tv k) = _
   rw [hv]
   rfl
  | some v =>
   obtain ⟨m,e1,h1,_⟩ := h.1 k v hv
   subst e1
   exact .inr (.inl ⟨k,m,rfl,hv,h1,Fl hv⟩)
theorem Go {ws:List Int} {cm:Option Int} {tv:List ((List Int × Int) × V)} {k b:List Int × Int} {m:Int} {who:Nat} (h:C8 ws cm tv) (hv:Ae tv k = some (.int m)) (hw:who < ws.length) (ho:D0 ws k.1 cm k.2 who (Bt tv ws k.1 cm k.2 who) = some b):∃ m':Int,Ae tv b = some (.int m') /\ 1 <= m' /\ m' <= m - 1:=by
 obtain ⟨m0,e0,h1,gN,p1,p2⟩ := h.1 k _ hv
 cases e0
 have least:∀ o ∈ Bc ws k.1 cm k.2 who,Fm (told tv (some b)) (told tv o) = false:=fun o hm=>by
  have g:∀ x:Int × Int,Fm x x = false:=fun x=>by
   unfold Fm
   exact decide_eq_false (by omega)
  have UX:∀ x y:Int × Int,Fm x y = true -> Fm y x = false:=fun x y e=>by
   unfold Fm at e ⊢
   have:=of_decide_eq_true e
   exact decide_eq_false (by omega)
  unfold Bt at ho
  unfold Bc at hm
  by_cases z:Dl cm k.2 = true
  ·rw [if_pos z] at hm
   rw [z,Bool.true_and] at ho
   have kH:o = D0 ws k.1 cm k.2 who false \/ o = D0 ws k.1 cm k.2 who true:=by simpa using hm
   cases y:Fm (told tv (D0 ws k.1 cm k.2 who false)) (told tv (D0 ws k.1 cm k.2 who true)) with
   | true =>
    rw [y] at ho
    rw [<- ho]
    rcases kH with e | e <;> rw [e]
    ·exact UX _ _ y
    ·exact g _
   | false =>
    rw [y] at ho
    rw [<- ho]
    rcases kH with e | e <;> rw [e]
    ·exact g _
    ·exact y
  ·rw [if_neg z] at hm
   have z':Dl cm k.2 = false:=by simpa using z
   rw [z',Bool.false_and] at ho
   have kH:o = D0 ws k.1 cm k.2 who false:=by simpa using hm
   rw [kH,ho]
   exact g _
 have key:∃ c:Int,Fm (told tv (some b)) (0,c) = false /\ c <= m - 1:=by
  rcases p1 who hw with z | ⟨later,m',z1,z2,z3⟩
  ·exact ⟨0,least none z,by omega⟩
  ·have:=least _ z1
   rw [Fl z2] at this
   exact ⟨m',this,z3⟩
 obtain ⟨c,c1,c2⟩ := key
 unfold Fm at c1
 have c3:=of_decide_eq_false c1
 rcases Fp h (some b) with ⟨e,_⟩ | ⟨k',m',e,e1,e2,e3⟩ | e
 ·cases e
 ·cases e
  rw [e3] at c3
  have c4:¬ ((0:Int) < 0 \/ ((0:Int) = 0 /\ c < m')):=c3
  exact ⟨m',e1,e2,by omega⟩
 ·rw [e] at c3
  have c4:¬ ((0:Int) < 1 \/ ((1:Int) = 0 /\ c < 0)):=c3
  omega
theorem Wq {ws : List Int} {cm : Option Int} {tv : List ((List Int × Int) × V)} {k : List Int × Int} {m : Int} {b : Nat} (h : C8 ws cm tv) (hv : Ae tv k = some (.int m)) (hn : 0 < ws.length) (hb : b < ws.length)
  (bT:∀ j,j < ws.length -> Fm (Ki tv ws k.1 cm k.2 j) (Ki tv ws k.1 cm k.2 b) = false):Ki tv ws k.1 cm k.2 b = (0,m - 1):=by
 obtain ⟨m0,e0,h1,_,p1,p2⟩ := h.1 k _ hv
 cases e0
 have up:∀ j,j < ws.length -> (Ki tv ws k.1 cm k.2 j).1 = 0 /\ 0 <= (Ki tv ws k.1 cm k.2 j).2 /\ (Ki tv ws k.1 cm k.2 j).2 <= m - 1:=fun j hj=>by
  obtain ⟨w1,o,w2,w3⟩ := Pc (tv:=tv) (ws:=ws) (ls:=k.1) (cm:=cm) (q:=k.2) (who:=j)
  rw [w3] at w1 ⊢
  have key:∃ c:Int,Fm (told tv o) (0,c) = false /\ c <= m - 1:=by
   rcases p1 j hj with z | ⟨later,m',z1,z2,z3⟩
   ·exact ⟨0,w1 none z,by omega⟩
   ·have:=w1 _ z1
    rw [Fl z2] at this
    exact ⟨m',this,z3⟩
  obtain ⟨c,c1,c2⟩ := key
  unfold Fm at c1
  have c3:=of_decide_eq_false c1
  rcases Fp h o with ⟨_,e⟩ | ⟨_,m',_,_,e1,e⟩ | e
  ·rw [e]
   exact ⟨rfl,Int.le_refl _,by show (0:Int) <= m - 1; omega⟩
  ·rw [e] at c3 ⊢
   have c4:¬ ((0:Int) < 0 \/ ((0:Int) = 0 /\ c < m')):=c3
   exact ⟨rfl,by show (0:Int) <= m'; omega,by show m' <= m - 1; omega⟩
  ·rw [e] at c3
   have c4:¬ ((0:Int) < 1 \/ ((1:Int) = 0 /\ c < 0)):=c3
   omega
 have low:∃ j,j < ws.length /\ m - 1 <= (Ki tv ws k.1 cm k.2 j).2:=by
  rcases p2 with z | ⟨who,z1,z2,z3⟩
  ·exact ⟨0,hn,by have:=up 0 hn; omega⟩
  ·refine ⟨who,z1,?_⟩
   have u:=up who z1
   obtain ⟨_,o,w2,w3⟩ := Pc (tv:=tv) (ws:=ws) (ls:=k.1) (cm:=cm) (q:=k.2) (who:=who)
   rw [w3] at u ⊢
   rcases Fp h o with ⟨e0,e⟩ | ⟨l,m',e0,e2,e1,e⟩ | e
   ·rw [e0] at w2
    exact absurd w2 z2
   ·rw [e0] at w2
    have:=z3 l m' w2 e2
    rw [e]
    exact this
   ·rw [e] at u
    simp only at u
    omega
 obtain ⟨j,j1,j2⟩ := low
 have u:=up j j1
 have ub:=up b hb
 have g:=bT j j1
 unfold Fm at g
 have g':=of_decide_eq_false g
 refine Prod.ext ub.1 ?_
 show (Ki tv ws k.1 cm k.2 b).2 = m - 1
 omega
def fo (tv:List ((List Int × Int) × V)) (k:List Int × Int) (o:Option (List Int × Int)):Prop:=(Ae tv k = none -> ∃ b,o = some b /\ Ae tv b = none) /\ ∀ m:Int,Ae tv k = some (.int m) -> (o = none -> m = 1) /\ ∀ (b:List Int × Int) (m':Int),o = some b -> Ae tv b = some (.int m') -> m - 1 <= m'
theorem Zx {ws:List Int} {cm:Option Int} {tv:List ((List Int × Int) × V)} (h:C8 ws cm tv) {o:Option (List Int × Int)} (e:told tv o = (1,0)):∃ b,o = some b /\ Ae tv b = none:=by
 cases o with
 | none=>cases e
 | some b =>
  refine ⟨b,rfl,?_⟩
  cases hv:Ae tv b with
  | none=>rfl
  | some v =>
   obtain ⟨m,e1,_⟩ := h.1 b v hv
   subst e1
   rw [Fl hv] at e
   cases e
theorem bd {ws:List Int} {cm:Option Int} {tv:List ((List Int × Int) × V)} {k:List Int × Int} {j:Nat} {o:Option (List Int × Int)} (h:C8 ws cm tv) (hk:k ∈ Az ws (qv cm)) (hn:0 < ws.length) (hb:O4 (fun i=>Ki tv ws k.1 cm k.2 i) ws.length j) (ho:o ∈ Bc ws k.1 cm k.2 j):fo tv k o:=by
 obtain ⟨w1,o1,w2,w3⟩ := Pc (tv:=tv) (ws:=ws) (ls:=k.1) (cm:=cm) (q:=k.2) (who:=j)
 have wo:=w1 o ho
 refine ⟨fun hv=>?_,fun m hv=>?_⟩
 ·obtain ⟨who,y1,y2,y3⟩ := h.2 k hk hv
  obtain ⟨v1,o2,v2,v3⟩ := Pc (tv:=tv) (ws:=ws) (ls:=k.1) (cm:=cm) (q:=k.2) (who:=who)
  have e2:told tv o2 = (1,0):=by
   cases o2 with
   | none=>exact absurd v2 y2
   | some b =>
    show Of (Ae tv b) = _
    rw [y3 b v2]
    rfl
  have bT:=hb.2.1 who y1
  simp only at bT
  rw [v3,e2] at bT
  refine Zx h ?_
  unfold Fm at bT wo
  have g1:=of_decide_eq_false bT
  have g2:=of_decide_eq_false wo
  rcases Fp h o with ⟨_,e⟩ | ⟨_,m',_,_,e1,e⟩ | e
  ·rw [e] at g2
   simp only at g1 g2
   omega
  ·rw [e] at g2
   simp only at g1 g2
   omega
  ·exact e
 ·obtain ⟨m0,e0,h1,_⟩ := h.1 k _ hv
  cases e0
  have fL:=Wq h hv hn hb.1 hb.2.1
  rw [fL] at wo
  unfold Fm at wo
  have g2:=of_decide_eq_false wo
  refine ⟨fun e=>?_,fun b m' e jV=>?_⟩
  ·subst e
   have e3:told tv none = (0,0):=rfl
   rw [e3] at g2
   have g3:¬ ((0:Int) < 0 \/ ((0:Int) = 0 /\ (0:Int) < m - 1)):=g2
   omega
  ·subst e
   rw [Fl jV] at g2
   have g3:¬ ((0:Int) < 0 \/ ((0:Int) = 0 /\ m' < m - 1)):=g2
   omega
theorem Sj (a b:List Int × Int):PyData.eqv (dS a) (dS b) = decide (a = b):=by
 show (PyData.eqvAll (a.1.map PyData.int) (b.1.map PyData.int) && (PyData.eqv (.int a.2) (.int b.2) && true)) = _
 rw [Dw]
 have e:PyData.eqv (.int a.2) (.int b.2) = decide (a.2 = b.2):=by
  show (a.2 == b.2) = _
  rw [Bool.eq_iff_iff]
  simp
 rw [e,Bool.and_true,Bool.eq_iff_iff]
 simp [Prod.ext_iff]
def Wa (o:Option HO):Nat:=match o with
 | some (.lst vs)=>vs.length
 | _=>0
def O5 (o:Option HO):Nat:=match o with
 | some (.dT wv)=>wv.length
 | _=>0
theorem cg {α:Type} {xs:List α} (h:0 < xs.length):∃ y,xs[xs.length - 1]? = some y:=⟨xs[xs.length - 1],List.getElem?_eq_getElem (by omega)⟩
theorem Ah.take {α:Type} {P:α -> V -> Prop} {rs:List α} {vs:List V} (h:Ah P rs vs) (n:Nat):Ah P (rs.take n) (vs.take n):=by
 refine ⟨by rw [List.length_take,List.length_take,h.1],fun i r v e1 e2=>?_⟩
 rcases Nat.lt_or_ge i n with z | z
 ·rw [List.getElem?_take_of_lt z] at e1 e2
  exact h.2 i r v e1 e2
 ·rw [List.getElem?_take_eq_none z] at e1
  cases e1
theorem Ew:∀ xs ys:List Int,aH (xs.map PyData.int) (ys.map PyData.int) = true -> aH (ys.map PyData.int) (xs.map PyData.int) = false
 | [],[],_=>rfl
 | [],y :: ys,h=>rfl
 | x :: xs,[],h=>by simp [aH] at h
 | x :: xs,y :: ys,h=>by
  have e:∀ a b:Int,PyData.eqv (.int a) (.int b) = decide (a = b):=fun a b=>by
   show (a == b) = _
   rw [Bool.eq_iff_iff]
   simp
  rw [List.map_cons,List.map_cons,aH,e] at h ⊢
  by_cases z:x = y
  ·subst z
   rw [if_pos (by simp)] at h ⊢
   exact Ew xs ys h
  ·rw [if_neg (by simp; exact z)] at h
   rw [if_neg (by simp; exact fun y=>z y.symm)]
   have h1:x < y:=of_decide_eq_true h
   exact decide_eq_false (by omega)
theorem Qq {a b:List Int × Int} (h:Jl (dS a) (dS b) = true):Jl (dS b) (dS a) = false:=by
 have h':aH [dT a.1,.int a.2] [dT b.1,.int b.2] = true:=h
 show aH [dT b.1,.int b.2] [dT a.1,.int a.2] = false
 rw [aH,Yj] at h' ⊢
 by_cases z:a.1 = b.1
 ·rw [if_pos (by simp [z])] at h' ⊢
  exact Ew [a.2] [b.2] h'
 ·rw [if_neg (by simp [z])] at h'
  rw [if_neg (by simp; exact fun y=>z y.symm)]
  exact Ew a.1 b.1 h'
theorem Nl {L:List (List Int × Int)} (hs:L.Pairwise fun a b=>Jl (dS a) (dS b) = true) {a b:List Int × Int} (ha:a ∈ L) (hb:b ∈ L):Jl (dS a) (dS b) = decide (L.idxOf a < L.idxOf b):=by
 have la:=List.idxOf_lt_length_of_mem ha
 have lb:=List.idxOf_lt_length_of_mem hb
 have ea:L[L.idxOf a] = a:=List.getElem_idxOf la
 have eb:L[L.idxOf b] = b:=List.getElem_idxOf lb
 have hp:=List.pairwise_iff_getElem.mp hs
 rcases Nat.lt_trichotomy (L.idxOf a) (L.idxOf b) with z | z | z
 ·have:=hp _ _ la lb z
  rw [ea,eb] at this
  rw [this,decide_eq_true z]
 ·have e : a = b := by
   rw [<- ea,<- eb]
   congr 1
  subst e
  rw [decide_eq_false (Nat.lt_irrefl _)]
  exact V5 a
 ·have:=hp _ _ lb la z
  rw [ea,eb] at this
  rw [Qq this,decide_eq_false (by omega)]
theorem n0 {i:Nat} {v:V} {σ:L2.St} {H:Hp} {Q:L2.St -> Hp -> Prop} (h:Q (List.set σ i (some v)) H):F5 i v σ H Q:=h
theorem m8 {c:TT} {tb u:TS} {D:Hq} {σ:L2.St} {H:Hp} (h:Ph c tb { D with nx:=u D } σ H):m7 (Ph c tb) u D σ H:=h
theorem Yq {H:Hp} {b:Addr} {k:List Int × Int} (h:Ds H b k):Rp H (dS k) (.ref b):=by
 obtain ⟨u,h1,h2⟩ := h
 exact Za h1 (df h2) (by unfold Rp; rfl)
theorem fm (a b:List Int × Int):Gg (dS a) (dS b):=by
 have cs:∀ x y:List Int,bL (x.map PyData.int) (y.map PyData.int):=by
  intro x
  induction x with
  | nil=>intro y; unfold bL; trivial
  | cons u x ih =>
   intro y
   cases y with
   | nil=>unfold bL; trivial
   | cons v y=>exact ⟨trivial,ih y⟩
 exact ⟨cs _ _,trivial,trivial⟩
def Er (tv:List ((List Int × Int) × V)) (ws ls:List Int) (cm:Option Int) (q:Int):List Bool:=(List.range ws.length).map fun w=>Bt tv ws ls cm q w
theorem D8 (tv:List ((List Int × Int) × V)) (ws ls:List Int) (cm:Option Int) (q:Int):(Er tv ws ls cm q).length = ws.length:=by unfold Er; rw [List.length_map,List.length_range]
theorem Hx {tv:List ((List Int × Int) × V)} {ws ls:List Int} {cm:Option Int} {q:Int} {i:Nat} (h:i < ws.length):(Er tv ws ls cm q)[i]? = some (Bt tv ws ls cm q i):=by
 unfold Er
 rw [List.getElem?_map,List.getElem?_range h]
 rfl
def Iv (tv:List ((List Int × Int) × V)) (ws:List Int) (cm:Option Int) (k:List Int × Int) (who:Nat):Option (List Int × Int):=D0 ws k.1 cm k.2 who (Bt tv ws k.1 cm k.2 who)
inductive bi (ws:List Int) (cm:Option Int) (tv:List ((List Int × Int) × V)):(List Int × Int) -> Prop
 | base:bi ws cm tv (ws,0)
 | step {k k':List Int × Int} {j:Nat}:bi ws cm tv k -> j < ws.length -> Iv tv ws cm k j = some k' -> bi ws cm tv k'
def Uf (ws:List Int) (cm:Option Int) (tv:List ((List Int × Int) × V)) (k:List Int × Int):Prop:=k ∈ Az ws (qv cm) /\ (∃ m:Int,Ae tv k = some (.int m)) /\ bi ws cm tv k
structure Qa (ws:List Int) (cm:Option Int) (tv cv:List ((List Int × Int) × V)) (E:List (List Int × Int)):Prop where
 nd:(cv.map (·.1)).Nodup
 sf:∀ k ∈ E,Uf ws cm tv k
 ent:∀ kv ∈ cv,Uf ws cm tv kv.1 /\ ∀ j k',j < ws.length -> Iv tv ws cm kv.1 j = some k' -> k' ∈ cv.map (·.1) \/ k' ∈ E
 xJ:(ws,0) ∈ cv.map (·.1) \/ (ws,0) ∈ E
theorem Qa.len {ws:List Int} {cm:Option Int} {tv cv:List ((List Int × Int) × V)} {E:List (List Int × Int)} (h:Qa ws cm tv cv E) (aF:Ef ws cm):cv.length <= 300:=by
 have h1:=List.Nodup.length_le_of_subset h.nd (show cv.map (·.1) ⊆ Az ws (qv cm) from fun k hk=>by
  obtain ⟨kv,aK,rfl⟩ := List.mem_map.mp hk
  exact (h.ent kv aK).1.1)
 have h2:=Iy (ws:=ws) (q:=qv cm) (fun w hw=>(aF.1 w hw).1) (by have:=aF.qv.1; omega)
 have h3:=aF.2.2.2.2
 rw [List.length_map] at h1
 omega
theorem Qa.start {ws:List Int} {cm:Option Int} {tv:List ((List Int × Int) × V)} (h:Uf ws cm tv (ws,0)):Qa ws cm tv [] [(ws,0)]:=⟨List.nodup_nil,fun k hk=>by cases List.mem_singleton.mp hk; exact h,(fun kv aK=>by cases aK),.inr (List.mem_singleton.mpr rfl)⟩
theorem Qa.skip {ws:List Int} {cm:Option Int} {tv cv:List ((List Int × Int) × V)} {E:List (List Int × Int)} {k:List Int × Int} (h:Qa ws cm tv cv (E ++ [k])) (hk:k ∈ cv.map (·.1)):Qa ws cm tv cv E:=by
 have key:∀ x,x ∈ cv.map (·.1) \/ x ∈ E ++ [k] -> x ∈ cv.map (·.1) \/ x ∈ E:=fun x hx=>by
  rcases hx with z | z
  ·exact .inl z
  ·rcases List.mem_append.mp z with y | y
   ·exact .inr y
   ·rw [List.mem_singleton.mp y]
    exact .inl hk
 exact ⟨h.nd,fun x hx=>h.sf x (List.mem_append_left _ hx),fun kv aK=>⟨(h.ent kv aK).1,fun j k' h1 h2=>key _ ((h.ent kv aK).2 j k' h1 h2)⟩,key _ h.xJ⟩
theorem Qa.put {ws:List Int} {cm:Option Int} {tv cv:List ((List Int × Int) × V)} {E:List (List Int × Int)} {k:List Int × Int} {v:V} (h:Qa ws cm tv cv (E ++ [k])) (hk:Ae cv k = none) (hs:∀ x ∈ (List.range ws.length).filterMap (Iv tv ws cm k),Uf ws cm tv x):Qa ws cm tv (Bl cv k v) (E ++ (List.range ws.length).filterMap (Iv tv ws cm k)):=by
 have ep:=Dc (kvs:=cv) (k:=k) v hk
 have key:∀ x,x ∈ cv.map (·.1) \/ x ∈ E ++ [k] -> x ∈ (Bl cv k v).map (·.1) \/ x ∈ E ++ (List.range ws.length).filterMap (Iv tv ws cm k):=fun x hx=>by
  rw [ep,List.map_append]
  rcases hx with z | z
  ·exact .inl (List.mem_append_left _ z)
  ·rcases List.mem_append.mp z with y | y
   ·exact .inr (List.mem_append_left _ y)
   ·rw [List.mem_singleton.mp y]
    exact .inl (List.mem_append_right _ (by simp))
 refine ⟨cq _ h.nd hk,fun x hx=>?_,fun kv aK=>?_,key _ h.xJ⟩
 ·rcases List.mem_append.mp hx with y | y
  ·exact h.sf x (List.mem_append_left _ y)
  ·exact hs x y
 ·have JE:=aK
  rw [ep] at JE
  rcases List.mem_append.mp JE with z | z
  ·exact ⟨(h.ent kv z).1,fun j k' h1 h2=>key _ ((h.ent kv z).2 j k' h1 h2)⟩
  ·rw [List.mem_singleton.mp z]
   exact ⟨h.sf k (by simp),fun j k' h1 h2=>.inr (List.mem_append_right _ (List.mem_filterMap.mpr ⟨j,List.mem_range.mpr h1,h2⟩))⟩
theorem Qa.perm {ws:List Int} {cm:Option Int} {tv cv ps:List ((List Int × Int) × V)} (h:Qa ws cm tv cv []) (hp:ps.Perm cv):Qa ws cm tv ps []:=by
 have hm:=hp.map (·.1)
 exact ⟨hm.nodup_iff.mpr h.nd,h.sf,fun kv aK=>⟨(h.ent kv (hp.mem_iff.mp aK)).1,fun j k' h1 h2=>((h.ent kv (hp.mem_iff.mp aK)).2 j k' h1 h2).imp (fun y=>hm.mem_iff.mpr y) id⟩,h.xJ.imp (fun y=>hm.mem_iff.mpr y) id⟩
theorem Ha {tv:List ((List Int × Int) × V)} {ws ls:List Int} {cm:Option Int} {q:Int} {who:Nat}:My cm q (Bt tv ws ls cm q who):=fun h=>by
 have h1:Dl cm q = true:=by
  unfold Bt at h
  exact (Bool.and_eq_true_iff.mp h).1
 unfold Dl at h1
 simpa using h1
theorem gm {ws:List Int} {cm:Option Int} {tv:List ((List Int × Int) × V)} {k:List Int × Int} (fE:C8 ws cm tv) (aF:Ef ws cm) (h:Uf ws cm tv k):∀ x ∈ (List.range ws.length).filterMap (Iv tv ws cm k),Uf ws cm tv x:=fun x hx=>by
 obtain ⟨j,hj,e⟩ := List.mem_filterMap.mp hx
 have vJ:=List.mem_range.mp hj
 obtain ⟨m,hm⟩ := h.2.1
 obtain ⟨m',dX,_⟩ := Go fE hm vJ e
 refine ⟨jh (fun w hw=>(aF.1 w hw).1) h.1 vJ ?_ e,⟨m',dX⟩,.step h.2.2 vJ e⟩
 have kH:=Ha (tv:=tv) (ws:=ws) (ls:=k.1) (cm:=cm) (q:=k.2) (who:=j)
 unfold Qv
 cases e2:Bt tv ws k.1 cm k.2 j with
 | false=>split <;> simp
 | true =>
  obtain ⟨a1,a2⟩ := kH e2
  have h1:Dl cm k.2 = true:=by
   unfold Dl
   simp [a1,a2]
  first
   | (rw [if_pos h1]; simp)
   | (split
      ·simp
      ·exact absurd (by simpa [Dl] using h1) (by assumption))
def Kc (tv:List ((List Int × Int) × V)) (ws:List Int) (cm:Option Int) (H:Hp) (kv:(List Int × Int) × V) (u:V):Prop := ∃ (p b t:Addr) (m:Int),u = .ref p /\ H p = some (.tup [.ref b,.int m,.ref t]) /\ Ds H b kv.1 /\ Ae tv kv.1 = some (.int m) /\ kv.2 = .ref t /\ H t = some (.tup ((Er tv ws kv.1.1 cm kv.1.2).map V.bl))
theorem Kc.up {tv:List ((List Int × Int) × V)} {ws:List Int} {cm:Option Int} {H H':Hp} {kv:(List Int × Int) × V} {u:V} (s:An H H') (h:Kc tv ws cm H kv u):Kc tv ws cm H' kv u:=by
 obtain ⟨p,b,t,m,h1,h2,h3,h4,h5,h6⟩ := h
 exact ⟨p,b,t,m,h1,s _ _ h2,h3.up s,h4,h5,s _ _ h6⟩
def pf (tv:List ((List Int × Int) × V)) (k:List Int × Int):Int:=match Ae tv k with
 | some (.int m)=>m
 | _=>0
def Jj (tv:List ((List Int × Int) × V)) (ws:List Int) (cm:Option Int) (kv:(List Int × Int) × V):PyData := .tuple [dS kv.1,.int (pf tv kv.1),.tuple ((Er tv ws kv.1.1 cm kv.1.2).map PyData.bool)]
theorem Rj {H:Hp}:∀ l:List Bool,aG H (l.map PyData.bool) (l.map V.bl)
 | []=>by unfold aG; rfl
 | x :: l=>by
  show aG H (PyData.bool x :: l.map PyData.bool) (V.bl x :: l.map V.bl)
  unfold aG
  exact ⟨_,_,rfl,mm x,Rj l⟩
theorem Kc.rp {tv:List ((List Int × Int) × V)} {ws:List Int} {cm:Option Int} {H:Hp} {kv:(List Int × Int) × V} {u:V} (h:Kc tv ws cm H kv u):Rp H (Jj tv ws cm kv) u:=by
 obtain ⟨p,b,t,m,rfl,h2,h3,h4,h5,h6⟩ := h
 have e:pf tv kv.1 = m:=by unfold pf; rw [h4]
 unfold Jj
 rw [e]
 unfold Rp
 refine ⟨p,_,rfl,h2,?_⟩
 unfold aG
 refine ⟨_,_,rfl,Yq h3,?_⟩
 unfold aG
 refine ⟨_,_,rfl,Q9 m,?_⟩
 unfold aG
 refine ⟨_,_,rfl,?_,?_⟩
 ·unfold Rp
  exact ⟨t,_,rfl,h6,Rj _⟩
 ·unfold aG
  rfl
theorem Ug (tv:List ((List Int × Int) × V)) (ws:List Int) (cm:Option Int) (kv:(List Int × Int) × V):(Jj tv ws cm kv).depth <= 50:=by
 have hb:∀ l:List Bool,PyData.depthAll (l.map PyData.bool) = 0:=by
  intro l
  induction l with
  | nil=>rfl
  | cons x l ih=>simp only [List.map_cons,PyData.depthAll,PyData.depth,ih]; rfl
 unfold Jj
 simp only [PyData.depth,PyData.depthAll,Re,hb]
 omega
theorem Jx:∀ l:List PyData,PyData.canLayAll0 l = true -> aH l l = false
 | [],_=>rfl
 | x :: l,h=>by
  have h1:x.canLay0 = true /\ PyData.canLayAll0 l = true:=by simpa [PyData.canLayAll0] using h
  rw [aH,if_pos (PySem.SeqAt.eqv_refl x h1.1)]
  exact Jx l h1.2
theorem Nq:∀ l:List PyData,PyData.canLayAll0 l = true -> Mr l l
 | [],_=>by unfold Mr; trivial
 | x :: l,h=>by
  have h1:x.canLay0 = true /\ PyData.canLayAll0 l = true:=by simpa [PyData.canLayAll0] using h
  unfold Mr
  rw [if_pos (PySem.SeqAt.eqv_refl x h1.1)]
  exact Nq l h1.2
theorem Vt {ws:List Int} {cm:Option Int} {tv:List ((List Int × Int) × V)} {H:Hp} {a b:(List Int × Int) × V} {u:V} (hr:Rp H (Jj tv ws cm a) u) (ha:a.1 ∈ Az ws (qv cm)) (hb:b.1 ∈ Az ws (qv cm)):ar (Jj tv ws cm a) (Jj tv ws cm b) /\ Jl (Jj tv ws cm a) (Jj tv ws cm b) = decide ((Az ws (qv cm)).idxOf a.1 < (Az ws (qv cm)).idxOf b.1):=by
 by_cases z:a.1 = b.1
 ·have e:Jj tv ws cm b = Jj tv ws cm a:=by unfold Jj; rw [z]
  have hc:PyData.canLayAll0 [dS a.1,.int (pf tv a.1),.tuple ((Er tv ws a.1.1 cm a.1.2).map PyData.bool)] = true:=Cs _ _ hr
  rw [e,z,decide_eq_false (Nat.lt_irrefl _)]
  exact ⟨Nq _ hc,Jx _ hc⟩
 ·refine ⟨?_,?_⟩
  ·show Mr (dS a.1 :: _) (dS b.1 :: _)
   unfold Mr
   rw [Sj,if_neg (by simp [z])]
   exact fm _ _
  ·show aH (dS a.1 :: _) (dS b.1 :: _) = _
   rw [aH,Sj,if_neg (by simp [z])]
   exact Nl (Ft ws (qv cm)) ha hb
def Gh (ws:List Int) (cm:Option Int) (tv ps:List ((List Int × Int) × V)):Prop:=Qa ws cm tv ps [] /\ ps.Pairwise fun x y=>Jl (dS x.1) (dS y.1) = true
theorem W6 {ws:List Int} {cm:Option Int} {tv cv ps:List ((List Int × Int) × V)} (h:Qa ws cm tv cv []) (hp:ps.Perm cv) (hs:ps.Pairwise fun x y=>(Az ws (qv cm)).idxOf x.1 <= (Az ws (qv cm)).idxOf y.1):Gh ws cm tv ps:=by
 have h':=h.perm hp
 refine ⟨h',?_⟩
 have hn:=List.pairwise_map.mp h'.nd
 refine List.Pairwise.imp_of_mem (fun {x y} hx hy z=>?_) (hs.and hn)
 have xK:=(h'.ent x hx).1.1
 have hy1:=(h'.ent y hy).1.1
 rw [Nl (Ft ws (qv cm)) xK hy1]
 refine decide_eq_true (Nat.lt_of_le_of_ne z.1 fun e=>z.2 ?_)
 have lx:=List.idxOf_lt_length_of_mem xK
 have ly:=List.idxOf_lt_length_of_mem hy1
 rw [<- List.getElem_idxOf lx,<- List.getElem_idxOf ly]
 congr 1
theorem Nm {ws:List Int} {cm:Option Int} {tv fD:List ((List Int × Int) × V)} (h:C8 ws cm tv) (h':C8 ws cm fD):∀ (n:Nat) (k:List Int × Int) (m:Int),m <= n -> Ae tv k = some (.int m) -> (Ae fD k).isSome = true
 | 0,k,m,hm,hk=>by
  obtain ⟨m0,e,h1,_⟩ := h.1 k _ hk
  cases e
  omega
 | n + 1,k,m,hm,hk=>by
  obtain ⟨m0,e,h1,gN,p1,_⟩ := h.1 k _ hk
  cases e
  cases hv:Ae fD k with
  | some v=>rfl
  | none =>
   obtain ⟨who,y1,y2,y3⟩ := h'.2 k gN hv
   rcases p1 who y1 with z | ⟨later,m',z1,z2,z3⟩
   ·exact absurd z y2
   ·have:=Nm h h' n later m' (by omega) z2
    rw [y3 later z1] at this
    cases this
theorem Gv {ws:List Int} {cm:Option Int}:∀ (n:Nat) {tv fD:List ((List Int × Int) × V)},C8 ws cm tv -> C8 ws cm fD -> ∀ (k:List Int × Int) (m:Int),m <= n -> Ae tv k = some (.int m) -> Ae fD k = some (.int m)
 | 0,tv,fD,h,h',k,m,hm,hv=>by
  obtain ⟨m0,e,h1,_⟩ := h.1 k _ hv
  cases e
  omega
 | n + 1,tv,fD,h,h',k,m,hm,hv=>by
  have ih1:=@Gv ws cm n tv fD h h'
  have ih2:=@Gv ws cm n fD tv h' h
  obtain ⟨m0,e,h1,gN,p1,p2⟩ := h.1 k _ hv
  cases e
  have hs:(Ae fD k).isSome = true:=Nm h h' m.toNat k m (by omega) hv
  obtain ⟨v',jV⟩ := Option.isSome_iff_exists.mp hs
  obtain ⟨m',e',g1,_,q1,q2⟩ := h'.1 k _ jV
  subst e'
  have hle:m' <= m:=by
   rcases q2 with e | ⟨who,y1,y2,y3⟩
   ·omega
   ·rcases p1 who y1 with z | ⟨later,ml,z1,z2,z3⟩
    ·exact absurd z y2
    ·have:=y3 later ml z1 (ih1 later ml (by omega) z2)
     omega
  rcases Int.lt_or_eq_of_le hle with z | z
  ·have:=ih2 k m' (by omega) jV
   rw [hv] at this
   cases this
   omega
  ·rw [jV,z]
theorem bw {ws:List Int} {cm:Option Int} {tv fD:List ((List Int × Int) × V)} (h:C8 ws cm tv) (h':C8 ws cm fD) (k:List Int × Int):Ae tv k = Ae fD k:=by
 cases e:Ae tv k with
 | some v =>
  obtain ⟨m,e1,h1,_⟩ := h.1 k v e
  subst e1
  exact (Gv m.toNat h h' k m (by omega) e).symm
 | none =>
  cases e2:Ae fD k with
  | none=>rfl
  | some v =>
   obtain ⟨m,e1,h1,_⟩ := h'.1 k v e2
   subst e1
   have:=Gv m.toNat h' h k m (by omega) e2
   rw [e] at this
   cases this
def Ir (ls:List Int) (j:Nat):Prop:=j < ls.length /\ (∀ k,k < ls.length -> ls.getD j 0 <= ls.getD k 0) /\ ∀ k,k < j -> ls.getD j 0 < ls.getD k 0
theorem Xt {ls:List Int} {m:Int} {j:Nat} (hm:∀ a ∈ ls,m <= a) (h1:ls[j]? = some m) (h2:∀ k:Nat,k < j -> ls[k]? ≠ some m):Ir ls j:=by
 have hj:=(List.getElem?_eq_some_iff.mp h1).1
 have e:ls.getD j 0 = m:=by rw [List.getD_eq_getElem?_getD,h1]; rfl
 refine ⟨hj,fun k hk=>?_,fun k hk=>?_⟩
 ·rw [e]
  exact hm _ (Fd hk)
 ·rw [e]
  have a1:=hm _ (Fd (show k < ls.length by omega))
  have a2:ls.getD k 0 ≠ m:=fun z=>h2 k hk (by rw [Qk (by omega),z])
  omega
def Jg (H:Hp) (p:Addr) (ws:List Int) (calm:Option Int) (ls:List Int) (q:Int):Prop := ∃ a b,H p = some (.tup [.ref a,.ref b]) /\ B0 H a ws calm /\ Cg H b ls q
theorem Jg.same {H H':Hp} {p:Addr} {ws:List Int} {calm:Option Int} {ls:List Int} {q:Int} (s:A9 H H') (h:Jg H p ws calm ls q):Jg H' p ws calm ls q:=by
 obtain ⟨a,b,h1,h2,h3⟩ := h
 exact ⟨a,b,s _ _ h1,h2.same s,h3.same s⟩
def Bp (H H':Hp):Prop := ∀ b o,H b = some o -> (∀ C dx fs,o ≠ HO.ins C dx fs) -> H' b = some o
theorem A9.aJ {H H':Hp} (s:A9 H H'):Bp H H':=fun b o e _=>s b o e
theorem Bp.refl (H:Hp):Bp H H:=fun _ _ e _=>e
theorem Bp.trans {H H1 H2:Hp} (a:Bp H H1) (b:Bp H1 H2):Bp H H2:=fun c o e n=>b c o (a c o e n) n
theorem Bp.ins {H:Hp} {x C dx:Addr} {fs gs:List (Str × V)} (h:H x = some (.ins C dx fs)):Bp H (upd H x (.ins C dx gs)):=fun b o e n=>by
 rw [Aa (fun z=>n C dx fs (by rw [z,h] at e; exact (Option.some.inj e).symm))]
 exact e
theorem Bp.new {H H':Hp} {p:Addr} {o:HO} (e:Bp H H') (h:H p = none):Bp H (upd H' p o):=fun b u q n=>by
 rw [Aa (Ad q h)]
 exact e b u q n
theorem Bp.lst {H H':Hp} {a:Addr} {xs:List V} (s:Bp H H') (h:H a = some (.lst xs)):H' a = some (.lst xs):=s _ _ h fun _ _ _=>HO.noConfusion
theorem Bp.tup {H H':Hp} {a:Addr} {xs:List V} (s:Bp H H') (h:H a = some (.tup xs)):H' a = some (.tup xs):=s _ _ h fun _ _ _=>HO.noConfusion
theorem B0.aJ {H H':Hp} {a:Addr} {ws:List Int} {calm:Option Int} (s:Bp H H') (h:B0 H a ws calm):B0 H' a ws calm:=by
 obtain ⟨t,h1,h2⟩ := h
 exact ⟨t,s.tup h1,s.tup h2⟩
theorem Cg.aJ {H H':Hp} {a:Addr} {ls:List Int} {q:Int} (s:Bp H H') (h:Cg H a ls q):Cg H' a ls q:=by
 obtain ⟨t,h1,h2⟩ := h
 exact ⟨t,s.tup h1,s.tup h2⟩
theorem Jg.aJ {H H':Hp} {p:Addr} {ws:List Int} {calm:Option Int} {ls:List Int} {q:Int} (s:Bp H H') (h:Jg H p ws calm ls q):Jg H' p ws calm ls q:=by
 obtain ⟨a,b,h1,h2,h3⟩ := h
 exact ⟨a,b,s.tup h1,h2.aJ s,h3.aJ s⟩
def Jp (r:Addr) (k:Nat):List (Str × V):=[("row",.ref r),("asked",.int k)]
theorem Zr (r:Addr) (v:V):Eh "asked" v [("row",.ref r)] = ([("row",.ref r),("asked",v)]:List (Str × V)):=by
 unfold Eh
 rw [if_neg (by decide)]
 rfl
theorem X8 (r:Addr) (k:Nat) (m:Int) (h:m = ((k + 1:Nat):Int)):Eh "asked" (.int m) (Jp r k) = Jp r (k + 1):=by
 subst h
 unfold Jp Eh
 rw [if_neg (by decide)]
 unfold Eh
 rw [if_pos rfl]
def Ge (us:List Int) (k:Nat) (ls:List Int) (v:Int):Prop:=(k < us.length -> v = us.getD k 0) /\ (us.length <= k -> ∃ j:Nat,v = j /\ Ir ls j)
theorem Ge.at {us ls:List Int} {k:Nat} (h:k < us.length):Ge us k ls (us.getD k 0):=⟨fun _=>rfl,fun z=>absurd h (by omega)⟩
theorem Ge.least {us ls:List Int} {k j:Nat} (h:us.length <= k) (hj:Ir ls j):Ge us k ls j:=⟨fun z=>absurd z (by omega),fun _=>⟨j,rfl,hj⟩⟩
theorem d9 {bs:List Bool} {k:Nat} (h:k < bs.length):Ux (bs.map V.bl) (k:Int) = some (.bl (bs.getD k false)):=by
 refine Ij ?_
 rw [List.getElem?_map,List.getElem?_eq_getElem h,List.getD_eq_getElem?_getD,List.getElem?_eq_getElem h]
 rfl
theorem Oy {α:Type} {xs:List α} {i:Nat} {x:α} (h:xs[i]? = some x):xs.take (i + 1) = xs.take i ++ [x]:=by
 rw [List.take_add_one,h]
 rfl
def Di (L:List Int) (i:Nat):List Int:=(List.range i).filterMap fun k=>if L.getD k 0 = 0 then some (k:Int) else none
theorem D9 (L:List Int) (i:Nat):Di L (i + 1) = Di L i ++ (if L.getD i 0 = 0 then [(i:Int)] else []):=by
 unfold Di
 rw [List.range_succ,List.filterMap_append]
 congr 1
 by_cases h:L.getD i 0 = 0
 ·rw [if_pos h,List.filterMap_cons,List.filterMap_nil,if_pos h]
 ·rw [if_neg h,List.filterMap_cons,List.filterMap_nil,if_neg h]
theorem Ez (L:List Int):∀ i,(Di L i).length <= i
 | 0=>Nat.le_refl _
 | i + 1=>by
  rw [D9,List.length_append]
  have h:=Ez L i
  split <;> simp <;> omega
theorem Tq {L:List Int} {i:Nat} (hi:i <= L.length):Di L i = [] ↔ (0:Int) ∉ L.take i:=by
 induction i with
 | zero=>simp [Di]
 | succ i ih =>
  have e:L[i]? = some (L.getD i 0):=by
   rw [List.getD_eq_getElem?_getD,List.getElem?_eq_getElem (show i < L.length by omega)]
   rfl
  rw [D9,Oy e,List.append_eq_nil_iff,ih (by omega)]
  by_cases h:L.getD i 0 = 0
  ·rw [if_pos h,h]
   simp
  ·have h':¬ (0 = L.getD i 0):=fun z=>h z.symm
   simp only [if_neg h,List.mem_append,List.mem_singleton,h',or_false,and_true]
abbrev PR:=(List Int × Int) × Nat × Bool
def P2 (H:Hp) (r:PR) (u:V):Prop := ∃ t s,u = .ref t /\ H t = some (.tup [.ref s,.int (r.2.1:Nat),.bl r.2.2]) /\ Cg H s r.1.1 r.1.2
def Fj (H H':Hp):Prop := ∀ b xs,H b = some (.tup xs) -> H' b = some (.tup xs)
theorem A9.aX {H H':Hp} (s:A9 H H'):Fj H H':=fun b xs e=>s b _ e
theorem Bp.aX {H H':Hp} (s:Bp H H'):Fj H H':=fun b xs e=>s.tup e
theorem Fj.trans {H H1 H2:Hp} (a:Fj H H1) (b:Fj H1 H2):Fj H H2:=fun c xs e=>b c xs (a c xs e)
theorem Fj.lst {H:Hp} {D:Addr} {zs:List V} {o:HO} (h:H D = some (.lst zs)):Fj H (upd H D o):=fun b xs e=>by
 rw [Aa (fun z=>by rw [z,h] at e; cases e)]
 exact e
theorem Cg.aX {H H':Hp} {a:Addr} {ls:List Int} {q:Int} (s:Fj H H') (h:Cg H a ls q):Cg H' a ls q:=by
 obtain ⟨t,h1,h2⟩ := h
 exact ⟨t,s _ _ h1,s _ _ h2⟩
theorem B0.aX {H H':Hp} {a:Addr} {ws:List Int} {calm:Option Int} (s:Fj H H') (h:B0 H a ws calm):B0 H' a ws calm:=by
 obtain ⟨t,h1,h2⟩ := h
 exact ⟨t,s _ _ h1,s _ _ h2⟩
theorem P2.aX {H H':Hp} {r:PR} {u:V} (s:Fj H H') (h:P2 H r u):P2 H' r u:=by
 obtain ⟨t,x,e,h1,h2⟩ := h
 exact ⟨t,x,e,s _ _ h1,h2.aX s⟩
theorem F8 {H H':Hp} {rs:List PR} {us:List V} (s:Fj H H') (h:Ah (P2 H) rs us):Ah (P2 H') rs us:=h.imp fun _ _=>P2.aX s
def Ll (H:Hp) (q:(List Int × Int) × V) (u:V):Prop := ∃ t b,u = .ref t /\ H t = some (.tup [.ref b,q.2]) /\ Ds H b q.1
def Js (H:Hp) (q:(List Int × Int) × V) (u:V):Prop := ∃ t b w,u = .ref t /\ H t = some (.tup [.ref b,w,q.2]) /\ Ds H b q.1
theorem Mf {H H':Hp} {b:Addr} {k:List Int × Int} (s:A9 H H') (h:Ds H b k):Ds H' b k:=h.up fun c xs e=>s c _ e
theorem Ds.of {H:Hp} {b:Addr} {ls:List Int} {q:Int} (h:Cg H b ls q):Ds H b (ls,q):=h
theorem Ll.same {H H':Hp} {q:(List Int × Int) × V} {u:V} (s:A9 H H') (h:Ll H q u):Ll H' q u:=by
 obtain ⟨t,b,e,h1,h2⟩ := h
 exact ⟨t,b,e,s _ _ h1,Mf s h2⟩
theorem Js.same {H H':Hp} {q:(List Int × Int) × V} {u:V} (s:A9 H H') (h:Js H q u):Js H' q u:=by
 obtain ⟨t,b,w,e,h1,h2⟩ := h
 exact ⟨t,b,w,e,s _ _ h1,Mf s h2⟩
theorem Ll.aX {H H':Hp} {q:(List Int × Int) × V} {u:V} (s:Fj H H') (h:Ll H q u):Ll H' q u:=by
 obtain ⟨t,b,e,h1,h2⟩ := h
 exact ⟨t,b,e,s _ _ h1,h2.up s⟩
theorem Js.aX {H H':Hp} {q:(List Int × Int) × V} {u:V} (s:Fj H H') (h:Js H q u):Js H' q u:=by
 obtain ⟨t,b,w,e,h1,h2⟩ := h
 exact ⟨t,b,w,e,s _ _ h1,h2.up s⟩
theorem Bp.dT {H H':Hp} {d:Addr} {kvs:List ((List Int × Int) × V)} (s:Bp H H') (h:H d = some (.dT kvs)):H' d = some (.dT kvs):=s _ _ h fun _ _ _=>HO.noConfusion
theorem Xp {row ls:List Int} {k n:Nat} {v:Int} (h:Ge row k ls v) (hr:∀ x ∈ row,0 <= x /\ x < (n:Int)) (hl:ls.length = n):∃ j:Nat,v = j /\ j < n:=by
 rcases Nat.lt_or_ge k row.length with z | z
 ·have e:=h.1 z
  have:=hr _ (Fd z)
  exact ⟨v.toNat,by omega,by omega⟩
 ·obtain ⟨j,rfl,hj⟩ := h.2 z
  have:=hj.1
  exact ⟨j,rfl,by omega⟩
theorem Yb {kvs:List ((List Int × Int) × V)} {k:List Int × Int} {v:V} (h:Ae kvs k = some v):k ∈ kvs.map (·.1):=by
 unfold Ae at h
 obtain ⟨p,hp,_⟩ := Option.map_eq_some_iff.mp h
 have h1:=List.find?_some hp
 have h2:=List.mem_of_find?_eq_some hp
 have h3:p.1 = k:=by simpa using h1
 rw [<- h3]
 exact List.mem_map_of_mem h2
theorem N5:∀ (qs kvs:List ((List Int × Int) × V)),((kvs ++ qs).map (·.1)).Nodup -> Df kvs qs = kvs ++ qs
 | [],kvs,_=>(List.append_nil _).symm
 | p :: qs,kvs,h=>by
  have fO:p.1 ∉ kvs.map (·.1):=fun z=>by
   rw [List.map_append,List.map_cons] at h
   exact (List.nodup_append.mp h).2.2 _ z _ List.mem_cons_self rfl
  have hv:Ae kvs p.1 = none:=by
   cases e:Ae kvs p.1 with
   | none=>rfl
   | some v=>exact absurd (Yb e) fO
  show Df (Bl kvs p.1 p.2) qs = _
  rw [Dc p.2 hv,N5 qs _ (by rw [List.append_assoc]; exact h),List.append_assoc]
  rfl
theorem Hd {H:Hp} {x dx C:Addr} (hx:H x = none) (UY:H dx = none):A9 H (upd (upd H dx (.own x)) x (.ins C dx [])):=fun b o e=>by
 rw [Aa (Ad e hx),Aa (Ad e UY)]
 exact e
theorem P6 {H H':Hp} {x dx C:Addr} (hx:H x = none) (UY:H dx = none) (h:∀ b o,b ≠ x -> (upd (upd H dx (.own x)) x (.ins C dx [])) b = some o -> H' b = some o):A9 H H':=fun b o e=>h b o (Ad e hx) (Hd hx UY b o e)
theorem Qm {P:Int -> Prop} {ls:List Int} {x:Int} (h:∀ y ∈ ls,P y) (hx:P x):∀ y ∈ ls ++ [x],P y:=fun y hy=>by
 rcases List.mem_append.mp hy with z | z
 ·exact h y z
 ·cases List.mem_singleton.mp z
  exact hx
theorem l0 {n:Nat} {i:Int} (h0:0 <= i) (h1:i < (n:Int)):Yu n i = some i.toNat:=by
 unfold Yu
 rw [if_pos h0,if_pos h1]
def Dk (ws:List Int) (cm:Option Int) (rs:List PR):List Int × Int:=rs.foldl (fun st r=>(Ax ws st.1 r.2.1 r.2.2,Cj cm st.2 r.2.2)) (ws,0)
theorem Qs {ws:List Int} {cm:Option Int} {rs:List PR} {r:PR}:Dk ws cm (rs ++ [r]) = (Ax ws (Dk ws cm rs).1 r.2.1 r.2.2,Cj cm (Dk ws cm rs).2 r.2.2):=by
 unfold Dk
 rw [List.foldl_append]
 rfl
def Qp (CC CR:Addr) (n:Nat) (H:Hp) (C:Addr) (fs:List (Str × V)):Prop:=(C = CR /\ ∃ (q:Addr) (k:Nat) (row:List Int),fs = Jp q k /\ H q = some (.lst (row.map V.int)) /\ ∀ x ∈ row,0 <= x /\ x < (n:Int)) \/ (C = CC /\ fs = [])
theorem Qp.aJ {CC CR C:Addr} {n:Nat} {H H':Hp} {fs:List (Str × V)} (s:Bp H H') (h:Qp CC CR n H C fs):Qp CC CR n H' C fs:=by
 rcases h with ⟨e,q,k,row,e2,h1,h2⟩ | h
 ·exact .inl ⟨e,q,k,row,e2,s.lst h1,h2⟩
 ·exact .inr h
def Sm (tv:List ((List Int × Int) × V)) (ws:List Int) (cm:Option Int) (ps:List ((List Int × Int) × V)) (H:Hp):Prop := ∀ kv ∈ ps,∃ t:Addr,kv.2 = .ref t /\ H t = some (.tup ((Er tv ws kv.1.1 cm kv.1.2).map V.bl))
theorem Sm.aJ {tv:List ((List Int × Int) × V)} {ws:List Int} {cm:Option Int} {ps:List ((List Int × Int) × V)} {H H':Hp} (s:Bp H H') (h:Sm tv ws cm ps H):Sm tv ws cm ps H':=fun kv hk=>by
 obtain ⟨t,e,h1⟩ := h kv hk
 exact ⟨t,e,s.tup h1⟩
def V2 (ws:List Int) (cm:Option Int) (tv ps:List ((List Int × Int) × V)) (r:PR):Prop:=r.1 ∈ ps.map (·.1) /\ r.2.1 < ws.length /\ r.2.2 = Bt tv ws r.1.1 cm r.1.2 r.2.1
def a9 (ws:List Int) (cm:Option Int) (tv ps:List ((List Int × Int) × V)) (rs:List PR):Prop := ∀ i r,rs[i]? = some r -> r.1 = Dk ws cm (rs.take i) /\ V2 ws cm tv ps r /\ (i + 1 < rs.length -> (0:Int) ∉ Ax ws r.1.1 r.2.1 r.2.2)
theorem a9.nil {ws:List Int} {cm:Option Int} {tv ps:List ((List Int × Int) × V)}:a9 ws cm tv ps []:=fun i r h=>by simp at h
theorem a9.snoc {ws:List Int} {cm:Option Int} {tv ps:List ((List Int × Int) × V)} {rs:List PR} {r0:PR} (h:a9 ws cm tv ps rs) (hz:∀ r,rs[rs.length - 1]? = some r -> (0:Int) ∉ Ax ws r.1.1 r.2.1 r.2.2) (e0:r0.1 = Dk ws cm rs) (ht:V2 ws cm tv ps r0):a9 ws cm tv ps (rs ++ [r0]):=fun i r e=>by
 rcases Nat.lt_or_ge i rs.length with z | z
 ·rw [List.getElem?_append_left z] at e
  rw [List.take_append_of_le_length (by omega)]
  obtain ⟨h1,h2,h3⟩ := h i r e
  refine ⟨h1,h2,fun _=>?_⟩
  rcases Nat.lt_or_ge (i + 1) rs.length with y | y
  ·exact h3 y
  ·refine hz r ?_
   rw [show rs.length - 1 = i by omega]
   exact e
 ·rw [List.getElem?_append_right z] at e
  have hi:i - rs.length = 0:=by
   rcases Nat.eq_zero_or_pos (i - rs.length) with y | y
   ·exact y
   ·rw [List.getElem?_eq_none (show 1 <= i - rs.length from y)] at e
    cases e
  rw [hi] at e
  have e':r = r0:=(Option.some.inj e).symm
  have mV:i = rs.length:=by omega
  subst mV
  rw [e',List.take_left' rfl]
  exact ⟨e0,ht,fun y=>by rw [List.length_append,List.length_singleton] at y; omega⟩
theorem Pq {ws:List Int} {cm:Option Int} {tv ps:List ((List Int × Int) × V)} (hb:Gh ws cm tv ps) (hr:C8 ws cm tv) {k:List Int × Int} (hk:k ∈ ps.map (·.1)):∃ m:Int,Ae tv k = some (.int m) /\ 1 <= m /\ k.1.length = ws.length /\ (∀ x ∈ k.1,1 <= x):=by
 obtain ⟨kv,aK,e⟩ := List.mem_map.mp hk
 subst e
 obtain ⟨⟨gN,⟨m,hm⟩,_⟩,_⟩ := hb.1.ent kv aK
 obtain ⟨m0,e0,h1,_⟩ := hr.1 _ _ hm
 cases e0
 obtain ⟨g1,g2,_,_⟩ := Jo gN
 refine ⟨m,hm,h1,g1,fun x hx=>?_⟩
 obtain ⟨i,hi,e⟩ := List.getElem_of_mem hx
 have h3:=(g2 i (by omega)).1
 rw [List.getD_eq_getElem?_getD,List.getElem?_eq_getElem hi,e] at h3
 exact h3
theorem Xu {ws:List Int} {cm:Option Int} {tv ps:List ((List Int × Int) × V)} (hb:Gh ws cm tv ps) (hr:C8 ws cm tv) {r:PR} {m:Int} (ht:V2 ws cm tv ps r) (hm:Ae tv r.1 = some (.int m)) (hz:(0:Int) ∉ Ax ws r.1.1 r.2.1 r.2.2):∃ m':Int,Ae tv (Ax ws r.1.1 r.2.1 r.2.2,Cj cm r.1.2 r.2.2) = some (.int m') /\ 1 <= m' /\ m' <= m - 1 /\ (Ax ws r.1.1 r.2.1 r.2.2,Cj cm r.1.2 r.2.2) ∈ ps.map (·.1):=by
 obtain ⟨hk,hw,hl⟩ := ht
 have hn:Iv tv ws cm r.1 r.2.1 = some (Ax ws r.1.1 r.2.1 r.2.2,Cj cm r.1.2 r.2.2):=by
  unfold Iv D0
  rw [<- hl,if_neg hz]
 obtain ⟨kv,aK,e⟩ := List.mem_map.mp hk
 have kA:=(hb.1.ent kv aK).2 r.2.1 _ hw (by rw [e]; exact hn)
 obtain ⟨m',a1,a2,a3⟩ := Go hr hm hw hn
 exact ⟨m',a1,a2,a3,kA.resolve_right fun y=>by cases y⟩
theorem a9.JF {ws:List Int} {cm:Option Int} {tv ps:List ((List Int × Int) × V)} {rs:List PR} (h:a9 ws cm tv ps rs) (hb:Gh ws cm tv ps) (hr:C8 ws cm tv) {i:Nat} {r r':PR} {m m':Int} (e:rs[i]? = some r) (e':rs[i + 1]? = some r') (hm:Ae tv r.1 = some (.int m)) (dX:Ae tv r'.1 = some (.int m')):m' < m:=by
 obtain ⟨h1,h2,h3⟩ := h i r e
 obtain ⟨g1,_,_⟩ := h (i + 1) r' e'
 rw [Oy e,Qs,<- h1] at g1
 obtain ⟨m2,a1,a2,a3,_⟩ := Xu hb hr h2 hm (h3 (List.getElem?_eq_some_iff.mp e').1)
 rw [g1,a1] at dX
 injection dX with z
 injection z with z
 omega
def ow (ws:List Int):Prop:=0 < ws.length /\ ws.length <= 3 /\ (∀ x ∈ ws,1 <= x /\ x <= 128) /\ Bv 1 ws <= 128
theorem bq {x y z a b c:Int} (h1:1 <= x /\ x <= a) (h2:1 <= y /\ y <= b) (h3:1 <= z /\ z <= c) (ha:a <= 128) (hb:b <= 128) (hc:c <= 128) (h:a * b * c <= 128):ow [x,y,z]:=by
 refine ⟨by simp,by simp,fun u hu=>?_,?_⟩
 ·have:u = x \/ u = y \/ u = z:=by simpa using hu
  rcases this with e | e | e <;> subst e <;> omega
 ·show 1 * x * y * z <= 128
  have e1:=Int.mul_le_mul h1.2 h2.2 (by omega) (by omega)
  have e2:=Int.mul_le_mul e1 h3.2 (by omega) (Int.mul_nonneg (by omega) (by omega))
  rw [Int.one_mul]
  omega
theorem ow.all {ws:List Int} (h:ow ws):Ef ws none:=by
 obtain ⟨h1,h2,h3,h4⟩ := h
 exact ⟨fun w hw=>by have:=h3 w hw; omega,(fun c e=>by cases e),h1,by omega,by show Bv 1 ws <= 300; omega⟩
theorem Qi {x y:Int} {cm:Option Int} (h1:1 <= x /\ x <= 4) (h2:1 <= y /\ y <= 4) (hc:cm = none \/ cm = some 1):Ef [x,y] cm:=by
 have hm:=Int.mul_le_mul h1.2 h2.2 (by omega) (by decide)
 have hb:∀ z ∈ [x,y],1 <= z /\ z <= 3000:=fun z hz=>by
  have:z = x \/ z = y:=by simpa using hz
  rcases this with e | e <;> subst e <;> omega
 rcases hc with rfl | rfl
 ·refine ⟨hb,(fun c e=>by cases e),by simp,by simp,?_⟩
  show 1 * x * y <= 300
  rw [Int.one_mul]
  omega
 ·refine ⟨hb,(fun c e=>by cases e; decide),by simp,by simp,?_⟩
  show 2 * x * y <= 300
  rw [Int.mul_assoc]
  omega
theorem Y5 (x:Int):Ef [1] (some (1 + x % 20)):=by
 have:=Bq x (show (0:Int) < 20 by decide)
 refine ⟨(fun z hz=>by cases List.mem_singleton.mp hz; decide),(fun c e=>by cases e; omega),by simp,by simp,?_⟩
 show (1 + x % 20 + 1) * 1 <= 300
 omega
def Jz (tv:List ((List Int × Int) × V)) (ws:List Int) (cm:Option Int) (kvs:List ((List Int × Int) × V)) (H:Hp) (k:List Int × Int):Prop := ∃ (T t:Addr) (m:Int),Ae kvs k = some (.ref T) /\ H T = some (.tup [.int m,.ref t]) /\ Ae tv k = some (.int m) /\ H t = some (.tup ((Er tv ws k.1 cm k.2).map V.bl))
theorem Jz.aJ {tv:List ((List Int × Int) × V)} {ws:List Int} {cm:Option Int} {kvs:List ((List Int × Int) × V)} {H H':Hp} {k:List Int × Int} (s:Bp H H') (h:Jz tv ws cm kvs H k):Jz tv ws cm kvs H' k:=by
 obtain ⟨T,t,m,h1,h2,h3,h4⟩ := h
 exact ⟨T,t,m,h1,s.tup h2,h3,s.tup h4⟩
theorem X1 {ws ls:List Int} {who j:Nat} {lost:Bool} (hw:∀ x ∈ ws,1 <= x) (cC:who < ws.length) (hj:j < ls.length):(Ax ws ls who lost).getD j 0 = 0 ↔ ls.getD j 0 = 1 /\ (lost = true \/ j ≠ who):=by
 rw [Ve hj]
 by_cases z:j = who /\ lost = false
 ·rw [if_pos z]
  have:=hw _ (Fd cC)
  constructor
  ·intro e
   omega
  ·rintro ⟨_,e | e⟩
   ·rw [z.2] at e
    cases e
   ·exact absurd z.1 e
 ·rw [if_neg z]
  constructor
  ·intro e
   refine ⟨by omega,?_⟩
   by_cases y:j = who
   ·left
    cases lost with
    | true=>rfl
    | false=>exact absurd ⟨y,rfl⟩ z
   ·exact .inr y
  ·rintro ⟨e,_⟩
   omega
def ko (r:Int) (σ:L2.St):Nat:=match σ[5]? with
 | some (some (V.int n))=>(r - n).toNat
 | _=>0
def uy (D:Addr) (H H':Hp):Prop := ∀ b ob,b ≠ D -> H b = some ob -> H' b = some ob
def lm (D c:Addr) (H H':Hp):Prop := ∀ b ob,b ≠ D -> b ≠ c -> H b = some ob -> H' b = some ob
def jy (ws:List Int) (cm:Option Int) (H:Hp) (kvs:List ((List Int × Int) × V)) (i:Nat) (H':Hp) (wv:List ((List Int × Int) × V)):Prop := ∀ k who later,(∃ v,(k,v) ∈ kvs.take i) -> Ao H kvs k who -> some later ∈ Bc ws k.1 cm k.2 who -> Cm H' wv later k who
def nt (ws:List Int) (cm:Option Int) (cs:List (Dt × V)) (j:Nat) (kk:List Int × Int) (H':Hp) (wv:List ((List Int × Int) × V)):Prop := ∀ who later,(∃ e ∈ cs.take j,e.1 = .inl ((who:Nat):Int)) -> some later ∈ Bc ws kk.1 cm kk.2 who -> Cm H' wv later kk who
def af (kvs:List ((List Int × Int) × V)) (H' H:Hp):Prop := ∀ k who,Ao H' kvs k who -> Ao H kvs k who
def gj (ws:List Int) (cm:Option Int) (kvs:List ((List Int × Int) × V)) (bG:List (List Int × Int)) (i:Nat) (H H':Hp):Prop := ∀ k who,Ao H kvs k who -> (∀ later ∈ bG.take i,some later ∉ Bc ws k.1 cm k.2 who) -> Ao H' kvs k who
def ie (ws:List Int) (cm:Option Int) (kvs:List ((List Int × Int) × V)) (bG:List (List Int × Int)) (i:Nat) (H':Hp):Prop := ∀ later ∈ bG.take i,∀ k who,some later ∈ Bc ws k.1 cm k.2 who -> ¬ Ao H' kvs k who
def nc (kvs:List ((List Int × Int) × V)) (H H':Hp) (beta:List (List Int × Int)):Prop := ∀ k,k ∈ beta ↔ ((∃ who,Ao H kvs k who) /\ ∀ who,¬ Ao H' kvs k who)
def vz (H7:Hp) (gK:List V) (j:Nat) (H8:Hp) (kvs:List ((List Int × Int) × V)):Prop := ∀ t b who k,V.ref t ∈ gK.take j -> H7 t = some (.tup [.ref b,.int ((who:Nat):Int)]) -> Ds H7 b k -> ¬ Ao H8 kvs k who
def va (T:Addr) (kvs:List ((List Int × Int) × V)) (H4 H':Hp):Prop := ∀ b ob,b ≠ T -> H4 b = some ob -> (∀ kv ∈ kvs,kv.2 ≠ .ref b) -> H' b = some ob
theorem Io:Aw [V.bl false] [Value.bool false] := .cons rfl .nil
theorem Td:Aw [V.bl false] [Value.bool false] := .cons rfl .nil
theorem r6 {us:List Value} (h:us.length = 0):us = []:=List.length_eq_zero_iff.mp h
theorem Kg {us:List Value} (h:us.length = 1):∃ a0,us = [a0]:=by
 cases us with
 | nil=>cases h
 | cons a us =>
  obtain rfl:=r6 (Nat.succ.inj h)
  exact ⟨a,rfl⟩
theorem R9 {us:List Value} (h:us.length = 2):∃ a0 a1,us = [a0,a1]:=by
 cases us with
 | nil=>cases h
 | cons a us =>
  obtain ⟨a1,rfl⟩ := Kg (Nat.succ.inj h)
  exact ⟨a,a1,rfl⟩
theorem Kb {us:List Value} (h:us.length = 3):∃ a0 a1 a2,us = [a0,a1,a2]:=by
 cases us with
 | nil=>cases h
 | cons a us =>
  obtain ⟨a1,a2,rfl⟩ := R9 (Nat.succ.inj h)
  exact ⟨a,a1,a2,rfl⟩
theorem Pf {us:List Value} (h:us.length = 4):∃ a0 a1 a2 a3,us = [a0,a1,a2,a3]:=by
 cases us with
 | nil=>cases h
 | cons a us =>
  obtain ⟨a1,a2,a3,rfl⟩ := Kb (Nat.succ.inj h)
  exact ⟨a,a1,a2,a3,rfl⟩
section
variable {P:Program} {w:World} {K:PySem.W.Frag} {mg:Str -> Option Value} {base:Heap} {ad:ue} {aC aA aB:Addr}
def Pd (K:PySem.W.Frag):Sp:=fun vs H Q _=>Wi fun (a:Addr) (ws:List Int) (cm:Option Int)=>W9 (vs = [.ref a]) (B0 H a ws cm) (∀ (p:Addr) (H':Hp),A9 H H' -> Cg H' p ws 0 -> Q (.ref p) H')
theorem gi {fd  : FuncData} (T:Txt K mg ad aC aA aB) (F:Fn K "beginning" "beginning" On ad.cE fd):Af P w K mg base Bd 1 ad.cE fd ["hall"] (Pd K):=by
 refine F.ok jd (fun vs H Q E h=>?_) (fun aS A outer s H vs Q E hr h=>?_)
 ·rcases h with ⟨a,ws,cm,rfl,⟨t,ha,ht⟩,q⟩ <;> rfl
 ·obtain ⟨a,ws,cm,rfl,⟨t,ha,ht⟩,q⟩ := h
  refine ⟨_,(Ac (Aq (C4 (A0 (Ba (B9 K) (pv 0) Ab (fun _ _=>rfl)) (A0 Ab A8))))),?_⟩
  refine ⟨_,rfl,a,_,_,_,rfl,rfl,.inr (Bw.of ha),rfl,?_⟩
  exact ⟨Bm,fun p hp=>q p _ (A9.upd hp) ⟨t,A5,A9.upd hp _ _ ht⟩⟩
def J1 (K:PySem.W.Frag):Sp:=fun vs H Q _=>mw fun (a b:Addr) (ws ls:List Int) (calm:Option Int) (q:Int)=>Sz (vs = [.ref a,.ref b]) (B0 H a ws calm) (Cg H b ls q) (Q (.bl (!decide (calm = none) && decide (q = 0))) H)
theorem jf {fd  : FuncData} (T:Txt K mg ad aC aA aB) (F:Fn K "may_lose" "may_lose" Ng ad.bS fd):Af P w K mg base Bd 1 ad.bS fd ["hall","standing"] (J1 K):=by
 refine F.ok fg (fun vs H Q E h=>?_) (fun aS A outer s H vs Q E hr h=>?_)
 ·rcases h with ⟨a,b,ws,ls,calm,n,rfl,⟨t,ha,_⟩,⟨u,hb,_⟩,q⟩ <;> rfl
 ·obtain ⟨a,b,ws,ls,calm,n,rfl,⟨t,ha,_⟩,⟨u,hb,_⟩,q⟩ := h
  refine ⟨_,(Ac (Aq (Ib (E5 Pm (Ba (B9 K) (pv 0) Ab (fun _ _=>rfl)) Dj (Bh _)) (Jd (E5 O7 (Ba (B9 K) (pv 1) Ab (fun _ _=>rfl)) Ab (Bh _)))))),?_⟩
  refine ⟨_,rfl,a,_,_,_,rfl,rfl,.inr (Bw.of ha),rfl,rfl,_,decide (V.int n = V.int 0),rfl,fun _ Q' z=>⟨_,rfl,b,_,_,_,rfl,rfl,.inr (Bw.of hb),rfl,rfl,z⟩,?_⟩
  have e2:decide (V.int n = V.int 0) = decide (n = 0):=by simp
  rw [g7,e2]
  exact q
def Uj (K:PySem.W.Frag):Sp:=fun vs H Q _=>Yo fun (a:Addr) (ws:List Int) (calm:Option Int) (who:Int)=>W9 (vs = [.ref a,.int who]) (B0 H a ws calm) (Q (.bl (decide (0 <= who /\ who < ws.length))) H)
theorem fk {fd  : FuncData} (T:Txt K mg ad aC aA aB) (F:Fn K "is_listener" "is_listener" Ob ad.cS fd):Af P w K mg base Bd 1 ad.cS fd ["hall","who"] (Uj K):=by
 refine F.ok ij (fun vs H Q E h=>?_) (fun aS A outer s H vs Q E hr h=>?_)
 ·rcases h with ⟨a,ws,calm,who,rfl,⟨t,dR,eM⟩,q⟩ <;> rfl
 ·obtain ⟨a,ws,calm,who,rfl,⟨t,dR,eM⟩,q⟩ := h
  refine ⟨_,(Ac (Aq (Ib (E5 dq (pv 1) Ab (Bh _)) (Jd (E5 L5 (pv 1) (Bf (Bz K) (by rfl) T.bN PySem.boot_len (A0 (Ba (B9 K) (pv 0) Ab (fun _ _=>rfl)) A8)) (Bh _)))))),?_⟩
  refine ⟨_,rfl,_,_,rfl,rfl,_,decide (who < (ws.length:Int)),rfl,fun _ Q' z=>⟨_,rfl,_,rfl,a,_,_,_,rfl,rfl,.inr (Bw.of dR),rfl,t,_,rfl,.inr (Bw.of eM),_,_,rfl,rfl,?_⟩,?_⟩
  ·rw [List.length_map]
   exact z
  ·rw [show (decide (who >= 0) && decide (who < (ws.length:Int))) = decide (0 <= who /\ who < (ws.length:Int)) by rw [Bool.decide_and]]
   exact q
def Z4 (K:PySem.W.Frag):Sp:=fun vs H Q _=>cr fun (a b:Addr) (ws ls:List Int) (calm:Option Int) (q:Int) (who:Nat) (lost:Bool)=>Mz (vs = [.ref a,.ref b,.int who,.bl lost]) (B0 H a ws calm) (Cg H b ls q) (who < ws.length) (My calm q lost) (Q .aR H)
theorem le {fd oK bI:FuncData} (T:Txt K mg ad aC aA aB) (F:Fn K "refuse_wrong_turn" "refuse_wrong_turn" Xi ad.gO fd) (oM:Af P w K mg base Bd 1 ad.cS oK ["hall","who"] (Uj K)) (oN:Ap K oK ["hall","who"] []) (bZ:Af P w K mg base Bd 1 ad.bS bI ["hall","standing"] (J1 K)) (cA:Ap K bI ["hall","standing"] []):Af P w K mg base Bd 2 ad.gO fd ["hall","standing","who","lost"] (Z4 K):=by
 refine F.ok m9 (fun vs H Q E h=>?_) (fun aS A outer s H vs Q E hr h=>?_)
 ·rcases h with ⟨a,b,ws,ls,calm,n,who,lost,rfl,ha,hb,hw,hm,q⟩ <;> rfl
 ·obtain ⟨a,b,ws,ls,calm,n,who,lost,rfl,ha,hb,hw,hm,q⟩ := h
  refine ⟨_,(A7 (D1 (Ey (Dz (Ag oM (hr.mono (by decide)) rfl T.HZ T.k_x12 oN .nil As (A0 (pv 0) (A0 (pv 2) A8))))) (Ac Ky) Bb) (Ac (D1 (PW.pt (V7 (Dz (pv 3)) (Py (Ey (Dz (Ag bZ (hr.mono (by decide)) rfl T.lN T.k_x25 cA .nil As (A0 (pv 0) (A0 (pv 1) A8)))))))) (Ac Ky) Bb))),?_⟩
  obtain ⟨t,dR,eM⟩ := id ha
  refine ⟨_,rfl,_,rfl,a,ws,calm,(who:Int),rfl,ha,_,rfl,Ek ?_ ?_⟩
  ·rw [decide_eq_true (show (0:Int) <= (who:Int) /\ (who:Int) < (ws.length:Int) by omega)]
   rfl
  refine ⟨_,rfl,_,rfl,!(!decide (calm = none) && decide (n = 0)),fun _ Q' z=>⟨_,rfl,_,rfl,a,b,ws,ls,calm,n,rfl,ha,hb,_,rfl,z⟩,Ek ?_ q⟩
  cases lost with
  | false=>rfl
  | true =>
   obtain ⟨h1,h2⟩ := hm rfl
   simp [h1,h2]
def Os (K:PySem.W.Frag):Sp:=fun vs H Q _=>cr fun (a b:Addr) (ws ls:List Int) (calm:Option Int) (q:Int) (who:Nat) (lost:Bool)=>Wu (vs = [.ref a,.ref b,.int who,.bl lost]) (B0 H a ws calm) (Cg H b ls q) (who < ws.length) (ls.length = ws.length) (ws.length <= 8) (My calm q lost) (∀ (l:Addr) (H':Hp),H l = none -> A9 H H' -> H' l = some (.lst ((Ax ws ls who lost).map V.int)) -> Q (.ref l) H')
theorem im {fd vK:FuncData} (T:Txt K mg ad aC aA aB) (F:Fn K "left_behind" "left_behind" Lz ad.cF fd) (xM:Af P w K mg base Bd 2 ad.gO vK ["hall","standing","who","lost"] (Z4 K)) (xN:Ap K vK ["hall","standing","who","lost"] []):Af P w K mg base Bd 3 ad.cF fd ["hall","standing","who","lost"] (Os K):=by
 refine F.ok Xs (fun vs H Q E h=>?_) (fun aS A outer s H vs Q E hr h=>?_)
 ·rcases h with ⟨a,b,ws,ls,calm,n,who,lost,rfl,ha,hb,hw,hl,h8,hm,q⟩ <;> rfl
 ·obtain ⟨a,b,ws,ls,calm,n,who,lost,rfl,ha,hb,hw,hl,h8,hm,q⟩ := h
  refine ⟨_,(A7 (D4 (Ag xM (hr.mono (by decide)) rfl T.UE T.k_x3 xN .nil As (A0 (pv 0) (A0 (pv 1) (A0 (pv 2) (A0 (pv 3) A8)))))) (A7 (Ee (i:=4) Xs.nd rfl (E2 (w':=Ra K _) (E3 (Ba (B9 K) (pv 1) Ab (fun _ _=>rfl)))) _ rfl Jh rfl rfl (fun _ _ _ _=>(Al (i:=0) Jq rfl (Or.inl rfl))) (fun _ _ _ _=>E6) (fun _ _ _ _=>(B6 Ou (pv 0) Ab)) rfl rfl) (A7 (Hh (Ey (Dz (pv 3))) (Ac (Sx (Ba (B9 K) (Ba (B9 K) (pv 0) Ab (fun _ _=>rfl)) (pv 2) (fun _ _=>rfl)) (Z0 (pv 4) (pv 2) Qo))) Bb) (Ac (Aq (pv 4)))))),?_⟩
  obtain ⟨t,dR,eM⟩ := id ha
  obtain ⟨u,mH,mI⟩ := id hb
  refine ⟨_,rfl,_,rfl,_,rfl,_,rfl,a,b,ws,ls,calm,n,who,lost,rfl,ha,hb,hw,hm,?_⟩
  refine ⟨_,rfl,b,_,_,_,rfl,rfl,.inr (Bw.of mH),rfl,u,rfl,.inr ⟨⟨_,Bw.of mI⟩,fun D hD=>?_⟩⟩
  refine Xn (K:=K) (a:=u) (xs:=ls.map V.int) (fun i ys H'=>ys = ((ls.take i).map (fun x=>x - 1)).map V.int /\ H' D = some (.lst ys) /\ A9 H H') ⟨rfl,A5,A9.upd hD⟩ (by rintro i ys H' _ ⟨_,_,s⟩; exact Bw.of (s _ _ mI)) ?_ ?_
  ·rintro i x ys H' hx ⟨rfl,jO,s'⟩ Qe hQ
   rw [List.getElem?_map] at hx
   obtain ⟨y,hy,rfl⟩ := Option.map_eq_some_iff.mp hx
   have hi:=(List.getElem?_eq_some_iff.mp hy).1
   refine ⟨_,rfl,_,_,rfl,rfl,hQ _ _ jO (Bj (by simp; omega)) ⟨?_,A5,s'.new hD⟩⟩
   rw [List.take_add_one,hy]
   simp
  rintro ys H2 ⟨rfl,hX,s2⟩
  rw [List.length_map,List.take_length] at hX
  refine ⟨_,rfl,_,rfl,(fun σ' H'=>σ' = [some (.ref a),some (.ref b),some (.int (who:Nat)),some (.bl lost),some (.ref D)] /\ A9 H H' /\ H' D = some (.lst ((Ax ws ls who lost).map V.int))),fun e=>?_,fun e=>?_,?_⟩
  ·have e':lost = false:=by simpa using e
   subst e'
   refine ⟨_,rfl,a,_,_,_,rfl,rfl,.inr (Bw.of (s2 _ _ dR)),rfl,_,rfl,t,_,_,_,rfl,rfl,.inr (Bw.of (s2 _ _ eM)),Q3 hw,?_⟩
   refine ⟨_,rfl,_,rfl,D,_,_,_,rfl,rfl,hX,az (by simp; omega),rfl,s2.new hD,?_⟩
   rw [A5]
   unfold Ax
   simp
  ·have e':lost = true:=by simpa using e
   subst e'
   exact ⟨rfl,s2,hX⟩
  ·rintro σ' H' ⟨rfl,s3,e3⟩
   exact ⟨_,rfl,q D H' hD s3 e3⟩
def Zd (K:PySem.W.Frag):Sp:=fun vs H Q _=>qk fun (a b:Addr) (ws ls:List Int) (calm:Option Int) (q:Int) (lost:Bool)=>Mn (vs = [.ref a,.ref b,.bl lost]) (B0 H a ws calm) (Cg H b ls q) (My calm q lost) (Q (.int (Cj calm q lost)) H)
theorem kq {fd  : FuncData} (T:Txt K mg ad aC aA aB) (F:Fn K "quiet_behind" "quiet_behind" Vy ad.gP fd):Af P w K mg base Bd 1 ad.gP fd ["hall","standing","lost"] (Zd K):=by
 refine F.ok l5 (fun vs H Q E h=>?_) (fun aS A outer s H vs Q E hr h=>?_)
 ·rcases h with ⟨a,b,ws,ls,calm,n,lost,rfl,⟨t,ha,_⟩,⟨u,hb,_⟩,hm,q⟩ <;> rfl
 ·obtain ⟨a,b,ws,ls,calm,n,lost,rfl,⟨t,ha,_⟩,⟨u,hb,_⟩,hm,q⟩ := h
  refine ⟨_,(A7 (D1 (Dz (pv 2)) (Ac (Aq (Ba (B9 K) (pv 0) Ab (fun _ _=>rfl)))) Bb) (Ac (Aq (Bf (Xa rfl) (by rfl) T.vE boot_max (A0 (B6 Ou (Ba (B9 K) (pv 1) Ab (fun _ _=>rfl)) Ab) (A0 Ab A8)))))),?_⟩
  refine ⟨_,rfl,_,rfl,?_⟩
  cases lost with
  | true =>
   refine Nh rfl ?_
   refine ⟨_,rfl,a,_,_,_,rfl,rfl,.inr (Bw.of ha),rfl,?_⟩
   cases calm with
   | none=>exact absurd rfl (hm rfl).1
   | some c=>exact q
  | false =>
   refine Ek rfl ?_
   refine ⟨_,rfl,b,_,_,_,rfl,rfl,.inr (Bw.of hb),rfl,_,_,rfl,rfl,_,_,rfl,?_⟩
   have e:(if (0:Int) > n - 1 then (0:Int) else n - 1) = Cj calm n false:=by
    unfold Cj
    rw [if_neg Bool.false_ne_true]
    omega
   show Q (.int (if (0:Int) > n - 1 then (0:Int) else n - 1)) H
   rw [e]
   exact q
def Hj (K:PySem.W.Frag):Sp:=fun vs H Q _=>cr fun (a b:Addr) (ws ls:List Int) (calm:Option Int) (q:Int) (who:Nat) (lost:Bool)=>Ss (vs = [.ref a,.ref b,.int who,.bl lost]) (B0 H a ws calm) (Cg H b ls q) (who < ws.length) (ls.length = ws.length) (ws.length <= 8) (My calm q lost) (((0:Int) ∈ Ax ws ls who lost -> ∀ H',A9 H H' -> Q .aR H')) (((0:Int) ∉ Ax ws ls who lost -> ∀ (p:Addr) (H':Hp),A9 H H' -> Cg H' p (Ax ws ls who lost) (Cj calm q lost) -> Q (.ref p) H'))
theorem jo {fd fT vL:FuncData} (T:Txt K mg ad aC aA aB) (F:X3 K "after" "after" Fz ad.bH fd) (iA:Af P w K mg base Bd 3 ad.cF fT ["hall","standing","who","lost"] (Os K)) (iB:Ap K fT ["hall","standing","who","lost"] []) (xO:Af P w K mg base Bd 1 ad.gP vL ["hall","standing","lost"] (Zd K)) (xP:Ap K vL ["hall","standing","lost"] []):Af P w K mg base Bd 4 ad.bH fd ["hall","standing","who","lost"] (Hj K):=by
 refine F.ok Ze (fun vs H Q E h=>?_) (fun aS A outer s H vs Q E hr h=>?_)
 ·rcases h with ⟨a,b,ws,ls,calm,n,who,lost,rfl,ha,hb,hw,hl,h8,hm,q1,q2⟩ <;> rfl
 ·obtain ⟨a,b,ws,ls,calm,n,who,lost,rfl,ha,hb,hw,hl,h8,hm,q1,q2⟩ := h
  refine ⟨_,(A7 (Am (i:=4) Ze.nd rfl (Or.inl rfl) (Ag iA (hr.mono (by decide)) rfl T.vA T.k_x13 iB .nil As (A0 (pv 0) (A0 (pv 1) (A0 (pv 2) (A0 (pv 3) A8)))))) (A7 (D1 (Bk (jv K) Ab (pv 4) rfl) (Ac (Aq Dj)) Bb) (Ac (Aq (C4 (A0 (Ea (Hb K) (by rfl) T.dZ boot_tuple (A0 (pv 4) A8)) (A0 (Ag xO (hr.mono (by decide)) rfl T.UG T.k_x8 xP .nil As (A0 (pv 0) (A0 (pv 1) (A0 (pv 3) A8)))) A8))))))),?_⟩
  refine ⟨_,rfl,_,rfl,_,rfl,_,rfl,a,b,ws,ls,calm,n,who,lost,rfl,ha,hb,hw,hl,h8,hm,fun l H1 oO s1 tQ=>?_⟩
  refine ⟨_,rfl,l,_,rfl,.inl (Bg.of tQ),rfl,Nv _,_,rfl,?_⟩
  rw [Qb]
  refine Hi (fun h0=>?_) (fun h0=>?_)
  ·exact q1 (by simpa using h0) H1 s1
  ·refine ⟨_,rfl,l,_,rfl,.inl ⟨Bg.of tQ,fun t ht=>?_⟩⟩
   have s2:A9 H (upd H1 t (.tup ((Ax ws ls who lost).map V.int))):=s1.new (s1.free ht)
   refine ⟨_,rfl,_,rfl,_,rfl,a,b,ws,ls,calm,n,lost,rfl,ha.same s2,hb.same s2,hm,Bm,fun p hp=>?_⟩
   refine q2 (by simpa using h0) p _ (s2.new (s2.free hp)) ⟨t,A5,?_⟩
   rw [Aa (fun e=>by rw [<- e,A5] at hp; cases hp),A5]
def P8 (K:PySem.W.Frag):Sp:=fun vs H Q _=>cr fun (a b:Addr) (ws ls:List Int) (cm:Option Int) (q w:Int) (who:Nat)=>Wu (vs = [.ref a,.ref b,.int w]) (w = (who:Int)) (B0 H a ws cm) (Cg H b ls q) (who < ws.length) (ls.length = ws.length) (ws.length <= 8) (∀ (l:Addr) (us:List V) (H':Hp),H l = none -> A9 H H' -> H' l = some (.lst us) -> Ah (Ex H') (Bc ws ls cm q who) us -> Q (.ref l) H')
theorem fb {fd bI aQ:FuncData} (T:Txt K mg ad aC aA aB) (F:Fn K "all_behind" "all_behind" Na ad.cH fd) (bZ:Af P w K mg base Bd 1 ad.bS bI ["hall","standing"] (J1 K)) (cA:Ap K bI ["hall","standing"] []) (bC:Af P w K mg base Bd 4 ad.bH aQ ["hall","standing","who","lost"] (Hj K)) (bJ:Ap K aQ ["hall","standing","who","lost"] []) (aM:Ap K aQ ["hall","standing","who","lost"] [Value.bool false]):Af P w K mg base Bd 5 ad.cH fd ["hall","standing","who"] (P8 K):=by
 refine F.ok Yx (fun vs H Q E h=>?_) (fun aS A outer s H vs Q E hr h=>?_)
 ·rcases h with ⟨a,b,ws,ls,cm,n,w0,who,rfl,rfl,ha,hb,hw,hl,h8,q⟩ <;> rfl
 ·obtain ⟨a,b,ws,ls,cm,n,w0,who,rfl,rfl,ha,hb,hw,hl,h8,q⟩ := h
  refine ⟨_,(A7 (Am (i:=3) Yx.nd rfl (Or.inl rfl) (D5 (A0 (U1 (Ag bC (hr.mono (by decide)) rfl T.fS T.k_x32 aM (Io) As (A0 (pv 0) (A0 (pv 1) (A0 (pv 2) A8))))) A8))) (A7 (Hh (Dz (Ag bZ (hr.mono (by decide)) rfl T.lN T.k_x25 cA .nil As (A0 (pv 0) (A0 (pv 1) A8)))) (Ac (D4 (F7 (u':=X0 K _ _ _ _) (G3 PySem.F.plainAttrs_list PySem.F.slot_list_append PySem.F.type_list_append Dp (pv 3) (A0 (U1 (Ag bC (hr.mono (by decide)) rfl T.fS T.k_x32 bJ .nil As (A0 (pv 0) (A0 (pv 1) (A0 (pv 2) (A0 Ia A8)))))) A8))))) Bb) (Ac (Aq (pv 3))))),?_⟩
  refine ⟨(fun v H9=>Ex H9 (D0 ws ls cm n who false) v /\ A9 H H9),⟨_,rfl,_,rfl,_,rfl,a,b,ws,ls,cm,n,who,false,rfl,ha,hb,hw,hl,h8,(fun z=>nomatch z),(fun hz H2 s2=>⟨by unfold D0; rw [if_pos hz]; rfl,s2⟩),fun hz p H2 s2 bQ=>⟨by unfold D0; rw [if_neg hz]; exact ⟨p,rfl,bQ⟩,s2⟩⟩,?_⟩
  rintro v H1 ⟨hv,s1⟩
  refine ⟨Bm,fun L hL=>?_⟩
  have s2:A9 H1 (upd H1 L (.lst [v])):=A9.upd hL
  have e2:(upd H1 L (.lst [v])) L = some (.lst [v]):=A5
  generalize upd H1 L (.lst [v]) = H2 at s2 e2 ⊢
  have cR:=s1.trans s2
  refine ⟨_,rfl,_,rfl,a,b,ws,ls,cm,n,rfl,ha.same cR,hb.same cR,_,rfl,(fun σ' H'=>∃ (us:List V),Sz (σ' = [some (.ref a),some (.ref b),some (.int who),some (.ref L)]) (H' L = some (.lst us)) (Ah (Ex H') (Bc ws ls cm n who) us) (A9 H H')),fun hm=>?_,fun hm=>?_,?_⟩
  ·have dX:Dl cm n = true:=hm
   have gX:My cm n true:=fun _=>by
    unfold Dl at dX
    simp only [Bool.and_eq_true,Bool.not_eq_true',decide_eq_false_iff_not,decide_eq_true_eq] at dX
    exact dX
   refine ⟨_,rfl,.inl ⟨rfl,_,Bg.of e2⟩,(fun v H9=>Ex H9 (D0 ws ls cm n who true) v /\ A9 H2 H9),⟨_,rfl,_,rfl,_,rfl,a,b,ws,ls,cm,n,who,true,rfl,ha.same cR,hb.same cR,hw,hl,h8,gX,(fun hz H2 s2=>⟨by unfold D0; rw [if_pos hz]; rfl,s2⟩),fun hz p H2 s2 bQ=>⟨by unfold D0; rw [if_neg hz]; exact ⟨p,rfl,bQ⟩,s2⟩⟩,?_⟩
   rintro v2 H3 ⟨JC,s3⟩
   have e3:=s3 _ _ e2
   have tt:An H3 (upd H3 L (.lst ([v] ++ [v2]))):=An.lst e3
   refine ⟨L,_,_,rfl,rfl,e3,Bj (by simp),[v] ++ [v2],rfl,A5,?_,(cR.trans s3).new (s1.free hL)⟩
   unfold Bc
   rw [if_pos dX]
   exact Ah.cons (hv.up (((An.of s2).trans (An.of s3)).trans tt)) (Ah.one (JC.up tt))
  ·have dX : ¬ Dl cm n = true := by
    rw [show Dl cm n = false from hm]
    exact Bool.false_ne_true
   refine ⟨[v],rfl,e2,?_,cR⟩
   unfold Bc
   rw [if_neg dX]
   exact Ah.one (hv.up (An.of s2))
  rintro σ' H' ⟨us,rfl,eL,hall,s'⟩
  exact ⟨_,rfl,q L us H' (s1.free hL) s' eL hall⟩
def Tf (K:PySem.W.Frag):Sp:=fun vs H Q _=>cr fun (a b:Addr) (ws ls:List Int) (calm:Option Int) (q:Int) (who:Nat) (lost:Bool)=>Wu (vs = [.ref a,.ref b,.int who,.bl lost]) (B0 H a ws calm) (Cg H b ls q) (who < ws.length) (ls.length = ws.length) (ws.length <= 8) (My calm q lost) (∀ (l:Addr) (H':Hp),H l = none -> A9 H H' -> H' l = some (.lst ((Di (Ax ws ls who lost) ws.length).map V.int)) -> Q (.ref l) H')
theorem jp {fd fT:FuncData} (T:Txt K mg ad aC aA aB) (F:X3 K "broken_ones" "broken_ones" Fa ad.cJ fd) (iA:Af P w K mg base Bd 3 ad.cF fT ["hall","standing","who","lost"] (Os K)) (iB:Ap K fT ["hall","standing","who","lost"] []):Af P w K mg base Bd 4 ad.cJ fd ["hall","standing","who","lost"] (Tf K):=by
 refine F.ok Y1 (fun vs H Q E h=>?_) (fun aS A outer s H vs Q E hr h=>?_)
 ·rcases h with ⟨a,b,ws,ls,calm,n,who,lost,rfl,ha,hb,hw,hl,h8,hm,q⟩ <;> rfl
 ·obtain ⟨a,b,ws,ls,calm,n,who,lost,rfl,ha,hb,hw,hl,h8,hm,q⟩ := h
  refine ⟨_,(A7 (Am (i:=4) Y1.nd rfl (Or.inl rfl) (Ag iA (hr.mono (by decide)) rfl T.vA T.k_x13 iB .nil As (A0 (pv 0) (A0 (pv 1) (A0 (pv 2) (A0 (pv 3) A8)))))) (Ac (Aq (En (Rc (by rfl) T.fA (A0 (pv 4) A8)) _ rfl Jf rfl rfl (fun _ _ _ _=>(De K (n:=2) rfl (Ay (Al (i:=0) Fg rfl (Or.inl rfl)) (Ay (Al (i:=1) Fg rfl (Or.inl rfl)) Dg)))) (fun _ _ _ _=>(Kp (Bk O7 (pv 1) Ab (Bh _)))) (fun _ _ _ _=>(pv 0)))))),?_⟩
  refine ⟨_,rfl,_,rfl,_,rfl,_,rfl,a,b,ws,ls,calm,n,who,lost,rfl,ha,hb,hw,hl,h8,hm,fun l H1 oO s1 tQ=>?_⟩
  have hL:(Ax ws ls who lost).length = ws.length:=by rw [Fs]; exact hl
  generalize Ax ws ls who lost = L at tQ hL ⊢ q
  refine ⟨_,rfl,false,l,rfl,⟨_,Bg.of tQ⟩,fun D hD=>?_⟩
  refine Mc (K:=K) (b1:=false) (c:=l) (xs:=L.map V.int) (fun i ys H'=>ys = (Di L i).map V.int /\ H' D = some (.lst ys) /\ A9 H1 H') ⟨rfl,A5,A9.upd hD⟩ (by rintro i ys H' _ ⟨_,_,s⟩; exact Bg.of (s _ _ tQ)) ?_ ?_ ?_ ?_
  ·rintro i x T ys H2 hx ⟨rfl,hX,s2⟩ hT
   rw [List.getElem?_map] at hx
   obtain ⟨y,hy,rfl⟩ := Option.map_eq_some_iff.mp hx
   have hi:=(List.getElem?_eq_some_iff.mp hy).1
   have ey:L.getD i 0 = y:=by rw [List.getD_eq_getElem?_getD,hy]; rfl
   have s3:A9 H2 (upd H2 T (.tup [V.int (i:Nat),V.int y])):=A9.upd hT
   have QJ:=Ez L i
   refine ⟨_,rfl,rfl,_,rfl,?_⟩
   refine Hi (fun h0=>?_) (fun h0=>?_)
   ·have h1:y = 0:=by simpa using h0
    refine ⟨_,rfl,s3 _ _ hX,Bj (by rw [List.length_map]; omega),?_,A5,(s2.trans s3).new hD⟩
    rw [D9,ey,if_pos h1,List.map_append]
    rfl
   ·have h1:¬ y = 0:=by simpa using h0
    refine ⟨?_,s3 _ _ hX,s2.trans s3⟩
    rw [D9,ey,if_neg h1,List.append_nil]
  ·rintro σ H' Q1 Q2 hQ ⟨v,e1,e2,c,e3,z⟩
   exact ⟨v,e1,e2,c,e3,hQ _ _ z⟩
  ·rintro σ H' Q1 Q2 hQ ⟨v,e1,z⟩
   exact ⟨v,e1,hQ _ _ z⟩
  ·rintro ys H2 ⟨rfl,hX,s2⟩
   rw [List.length_map,hL] at hX
   exact q D H2 (s1.free hD) (s1.trans s2) hX
def Vm (K:PySem.W.Frag):Sp:=fun vs H Q _=>Wi fun (a:Addr) (ws:List Int) (cm:Option Int)=>W9 (vs = [.ref a]) (B0 H a ws cm) (Q (.int (qv cm)) H)
theorem kn {fd  : FuncData} (T:Txt K mg ad aC aA aB) (F:Fn K "quiet_values" "quiet_values" Xb ad.fQ fd):Af P w K mg base Bd 1 ad.fQ fd ["hall"] (Vm K):=by
 refine F.ok ni (fun vs H Q E h=>?_) (fun aS A outer s H vs Q E hr h=>?_)
 ·rcases h with ⟨a,ws,cm,rfl,⟨t,dR,eM⟩,q⟩ <;> rfl
 ·obtain ⟨a,ws,cm,rfl,⟨t,dR,eM⟩,q⟩ := h
  refine ⟨_,(Ac (Aq (Z5 (Bk Pp (Ba (B9 K) (pv 0) Ab (fun _ _=>rfl)) Dj (Bh _)) Ab (B6 Cy (Ba (B9 K) (pv 0) Ab (fun _ _=>rfl)) Ab)))),?_⟩
  cases cm with
  | none=>exact ⟨_,rfl,a,_,_,_,rfl,rfl,.inr (Bw.of dR),rfl,rfl,_,rfl,Nh rfl q⟩
  | some c=>exact ⟨_,rfl,a,_,_,_,rfl,rfl,.inr (Bw.of dR),rfl,rfl,_,rfl,Ek rfl ⟨_,rfl,a,_,_,_,rfl,rfl,.inr (Bw.of dR),rfl,_,_,rfl,rfl,q⟩⟩
def Si (K:PySem.W.Frag):Sp:=fun vs H Q _=>Wi fun (a:Addr) (ws:List Int) (cm:Option Int)=>Mz (vs = [.ref a]) (B0 H a ws cm) ((∀ w ∈ ws,intBits w <= 256)) (intBits (qv cm) <= 256) (ws.length <= 8) (Q (.int (Bv (qv cm) ws)) H)
theorem gl {fd jP:FuncData} (T:Txt K mg ad aC aA aB) (F:Fn K "how_many" "how_many" Og ad.cT fd) (mJ:Af P w K mg base Bd 1 ad.fQ jP ["hall"] (Vm K)) (mK:Ap K jP ["hall"] []):Af P w K mg base Bd 2 ad.cT fd ["hall"] (Si K):=by
 refine F.ok P4 (fun vs H Q E h=>?_) (fun aS A outer s H vs Q E hr h=>?_)
 ·rcases h with ⟨a,ws,cm,rfl,⟨t,dR,eM⟩,hb,uW,hl,q⟩ <;> rfl
 ·obtain ⟨a,ws,cm,rfl,⟨t,dR,eM⟩,hb,uW,hl,q⟩ := h
  refine ⟨_,(A7 (Am (i:=1) P4.nd rfl (Or.inl rfl) (Ag mJ (hr.mono (by decide)) rfl T.IB T.k_x9 mK .nil As (A0 (pv 0) A8))) (A7 (D6 PassesOwn.never rfl (E2 (w':=Ra K _) (E3 (Ba (B9 K) (pv 0) Ab (fun _ _=>rfl)))) (Al (i:=2) P4.nd rfl (Or.inl rfl)) (Ac (Am (i:=1) P4.nd rfl (Or.inl rfl) (B6 Vn (pv 1) (pv 2))))) (Ac (Aq (pv 1))))),?_⟩
  refine ⟨_,rfl,a,ws,cm,rfl,⟨t,dR,eM⟩,?_⟩
  refine ⟨_,rfl,a,_,_,_,rfl,rfl,.inr (Bw.of dR),rfl,t,rfl,.inr ⟨⟨_,Bw.of eM⟩,?_⟩⟩
  refine Va (K:=K) (a:=t) (xs:=ws.map V.int) (fun i σ H'=>∃ (v2:Option V),σ = [some (.ref a),some (.int (Bv (qv cm) (ws.take i))),v2] /\ H' = H) ⟨none,rfl,rfl⟩ (by rintro i σ H' _ ⟨_,_,e⟩; exact (by rw [e]; exact Bw.of eM)) ?_ ?_
  ·rintro i y σ H' hy ⟨v2,rfl,eH⟩
   subst eH
   rw [List.getElem?_map] at hy
   obtain ⟨x,hx,rfl⟩ := Option.map_eq_some_iff.mp hy
   have hi:=(List.getElem?_eq_some_iff.mp hx).1
   have b1:=O3 uW hb i (by omega)
   refine ⟨_,rfl,_,rfl,_,_,rfl,rfl,d7 b1 (hb x (List.mem_of_getElem? hx)) (by omega),?_⟩
   refine ⟨some (.int x),?_,rfl⟩
   have e:Bv (qv cm) (ws.take (i + 1)) = Bv (qv cm) (ws.take i) * x:=Fk _ _ _ hx
   rw [e]
   rfl
  ·rintro σ H' ⟨v2,rfl,eH⟩
   subst eH
   rw [List.length_map,List.take_length]
   exact ⟨_,rfl,q⟩
def Te (K:PySem.W.Frag):Sp:=fun vs H Q _=>Zz fun (t:Addr) (ws:List Int)=>Mz (vs = [.ref t]) (H t = some (.tup (ws.map V.int))) ((∀ w ∈ ws,1 <= w)) (Bv 1 ws <= 3000) (ws.length <= 8) (∀ (l:Addr) (us:List V) (H':Hp),H l = none -> A9 H H' -> H' l = some (.lst us) -> Ah (El H') (Ca ws) us -> Q (.ref l) H')
theorem gr {fd  : FuncData} (T:Txt K mg ad aC aA aB) (F:Fn K "all_left" "all_left" L9 ad.cU fd):Af P w K mg base Bd 1 ad.cU fd ["waits"] (Te K):=by
 refine F.ok Jn (fun vs H Q E h=>?_) (fun aS A outer s H vs Q E hr h=>?_)
 ·rcases h with ⟨t,ws,rfl,ht,cQ,hp,mL,q⟩ <;> rfl
 ·obtain ⟨t,ws,rfl,ht,cQ,hp,mL,q⟩ := h
  refine ⟨_,(A7 (Am (i:=1) Jn.nd rfl (Or.inl rfl) (D5 (A0 (C4 A8) A8))) (A7 (D6 PassesOwn.never rfl (E2 (w':=Ra K _) (E3 (pv 0))) (Al (i:=2) Jn.nd rfl (Or.inl rfl)) (A7 (Am (i:=3) Jn.nd rfl (Or.inl rfl) (D5 A8)) (A7 (D6 PassesOwn.never rfl (E2 (w':=Ra K _) (E3 (pv 1))) (Al (i:=4) Jn.nd rfl (Or.inr rfl)) (Ac (D4 (F7 (u':=X0 K _ _ _ _) (G3 PySem.F.plainAttrs_list PySem.F.slot_list_extend PySem.F.type_list_extend J0 (pv 3) (A0 (En (Xf (by rfl) T.cP (A0 Ab (A0 (B6 Cy (pv 2) Ab) A8))) _ rfl Mt rfl rfl (fun _ _ _ _=>(Al (i:=0) Mp rfl (Or.inl rfl))) (fun _ _ _ _=>E6) (fun _ _ _ _=>(B6 (al K) (pv 1) (C4 (A0 (pv 0) A8))))) A8)))))) (Ac (Am (i:=1) Jn.nd rfl (Or.inl rfl) (pv 3)))))) (Ac (Aq (pv 1))))),?_⟩
  refine ⟨Bm,fun E0 hE0=>⟨Bm,fun L0 UZ=>?_⟩⟩
  have s0:A9 H (upd H E0 (.tup [])):=A9.upd hE0
  have e0:(upd H E0 (.tup [])) E0 = some (.tup (([]:List Int).map V.int)):=A5
  generalize upd H E0 (.tup []) = H0 at s0 e0 UZ ⊢
  have s1:A9 H0 (upd H0 L0 (.lst [.ref E0])):=A9.upd UZ
  have e1:(upd H0 L0 (.lst [.ref E0])) L0 = some (.lst [.ref E0]):=A5
  have r1:Ah (El (upd H0 L0 (.lst [.ref E0]))) (Ca (ws.take 0)) [.ref E0]:=Ah.one ⟨E0,rfl,s1 _ _ e0⟩
  generalize upd H0 L0 (.lst [.ref E0]) = H1 at s1 e1 r1 ⊢
  have s01:=s0.trans s1
  refine ⟨_,rfl,t,rfl,.inr ⟨⟨_,Bw.of (s01 _ _ ht)⟩,?_⟩⟩
  refine Va (K:=K) (a:=t) (xs:=ws.map V.int) (fun i σ H'=>kd fun (L:Addr) (us:List V) (v2 v3 v4:Option V)=>Mn (σ = [some (.ref t),some (.ref L),v2,v3,v4]) (H' L = some (.lst us)) (A9 H H') (Ah (El H') (Ca (ws.take i)) us) (H L = none))
   ⟨L0,_,none,none,none,rfl,e1,s01,r1,s0.free UZ⟩ (by rintro i σ H' _ ⟨_,_,_,_,_,_,_,s,_,_⟩; exact Bw.of (s _ _ ht)) ?_ ?_
  ·rintro i y σ H2 hy ⟨L,us,v2,v3,v4,rfl,f1,s2,f2,hL⟩
   rw [List.getElem?_map] at hy
   obtain ⟨w,hw,rfl⟩ := Option.map_eq_some_iff.mp hy
   have hwi:=cQ w (List.mem_of_getElem? hw)
   have JG:=Nt cQ hp i
   have lQ:=Nt cQ hp (i + 1)
   have xQ:Ca (ws.take (i + 1)) = C5 (Ca (ws.take i)) w:=Fk _ _ _ hw
   rw [xQ,Md] at lQ
   have hiw:=(List.getElem?_eq_some_iff.mp hw).1
   have xR:∀ r ∈ Ca (ws.take i),r.length <= 8:=fun r hr=>by
    have:=(Hy ws i (by omega) r hr).1
    omega
   generalize Ca (ws.take i) = rows at f2 JG lQ xQ xR
   refine ⟨Bm,fun D hD=>?_⟩
   have s3:A9 H2 (upd H2 D (.lst [])):=A9.upd hD
   have e3:(upd H2 D (.lst [])) D = some (.lst []):=A5
   have f3:=s3 _ _ f1
   have g3:=f2.imp fun r v z=>El.up (An.of s3) z
   have VA:L ≠ D:=Ad f1 hD
   generalize upd H2 D (.lst []) = H3 at s3 e3 f3 g3 ⊢
   refine ⟨_,rfl,L,rfl,.inl ⟨⟨_,Bg.of f3⟩,?_⟩⟩
   refine D3 (K:=K) (a:=L) (xs:=us) (fun j σ H'=>Zz fun (zs:List V) (v4:Option V)=>Mn (σ = [some (.ref t),some (.ref L),some (.int w),some (.ref D),v4]) (H' D = some (.lst zs)) (H' L = some (.lst us)) (A9 H2 H') (Ah (El H') (C5 (rows.take j) w) zs))
    ⟨[],v4,rfl,e3,f3,s3,Ah.nil⟩ (by rintro j σ H' _ ⟨_,_,_,_,e,_⟩; exact Bg.of e) ?_ ?_
   ·rintro j y σ H4 hy ⟨zs,v4',rfl,h1,h2,s4,h3⟩
    have g4:=f2.imp fun r v z=>El.up (An.of s4) z
    obtain ⟨r,hV,p,rfl,VB⟩ := g4.get hy
    have hj:=(List.getElem?_eq_some_iff.mp hV).1
    have hr8:=xR r (List.mem_of_getElem? hV)
    have ezl:zs.length = (rows.take j).length * w.toNat:=by rw [h3.1,Md]
    have nB:zs.length <= 3000:=by
     rw [ezl]
     refine Nat.le_trans (Nat.mul_le_mul_right _ ?_) lQ
     rw [List.length_take]
     omega
    have hw3:w.toNat <= 3000:=Nat.le_trans (Nat.le_mul_of_pos_left _ (by omega)) lQ
    refine ⟨_,rfl,.inl ⟨rfl,_,Bg.of h1⟩,_,rfl,_,_,rfl,rfl,1,w + 1,rfl,by omega,fun B hB=>?_⟩
    refine Fu (fun m ys H'=>H' B = some (.lst ys) /\ A9 H4 H' /\ Ah (El H') ((List.range m).map fun t=>r ++ [1 + ((t:Nat):Int)]) ys) ⟨A5,A9.upd hB,Ah.nil⟩ ?_ ?_
    ·rintro m ys H5 hm ⟨k1,s5,k2⟩ Qe hQ
     refine ⟨_,rfl,_,rfl,Bm,fun P hP=>?_⟩
     have s6:A9 H5 (upd H5 P (.tup [.int (1 + (m:Int))])):=A9.upd hP
     refine ⟨p,P,_,_,rfl,rfl,Bw.of (s6 _ _ (s5 _ _ VB)),A5,by simp,Nat.le_of_lt (Fh (by simp; omega)),fun p' H6 s7 e7=>?_⟩
     generalize upd H5 P (.tup [.int (1 + (m:Int))]) = H5' at s6 s7
     have VC:=s6.trans s7
     have jX:=VC _ _ k1
     have kl:ys.length = m:=by rw [k2.1]; simp
     refine hQ _ _ jX (Fh (by omega)) ⟨A5,(s5.trans VC).new hB,?_⟩
     have tu:An H5 (upd H6 B (.lst (ys ++ [.ref p']))):=(An.of VC).trans (An.lst jX)
     rw [List.range_succ,List.map_append]
     refine (k2.imp fun r v z=>El.up tu z).append (Ah.one ⟨p',rfl,?_⟩)
     refine An.lst jX _ _ ?_
     rw [e7,List.map_append]
     rfl
    ·rintro ys H5 ⟨k1,s5,k2⟩
     have eB:((List.range (w + 1 - 1).toNat).map fun t=>r ++ [1 + ((t:Nat):Int)]) = Pj r w:=by
      rw [show w + 1 - 1 = w by omega]
      rfl
     rw [eB] at k2
     have eR:=s5 _ _ h1
     have kl:ys.length = w.toNat:=by rw [k2.1,Rt]
     refine ⟨D,B,_,_,rfl,rfl,eR,k1,Nat.le_of_lt (Fh (by omega)),?_⟩
     have tu:An H5 (upd H5 D (.lst (zs ++ ys))):=An.lst eR
     refine ⟨zs ++ ys,_,rfl,A5,by rw [Aa VA]; exact s5 _ _ h2,(s4.trans s5).new hD,?_⟩
     have e:C5 (rows.take (j + 1)) w = C5 (rows.take j) w ++ Pj r w:=Od _ _ hV
     rw [e]
     exact (h3.imp fun r v z=>El.up ((An.of s5).trans tu) z).append (k2.imp fun r v z=>El.up tu z)
   ·rintro σ H4 ⟨zs,v4',rfl,h1,h2,s4,h3⟩
    rw [f2.1,List.take_length] at h3
    refine ⟨_,rfl,D,zs,_,_,_,rfl,h1,s2.trans s4,?_,s2.free hD⟩
    rw [xQ]
    exact h3
  ·rintro σ H2 ⟨L,us,v2,v3,v4,rfl,f1,s2,f2,hL⟩
   rw [List.length_map,List.take_length] at f2
   exact ⟨_,rfl,q L us H2 hL s2 f1 f2⟩
def Ti (K:PySem.W.Frag):Sp:=fun vs H Q _=>Wi fun (a:Addr) (ws:List Int) (cm:Option Int)=>Ss (vs = [.ref a]) (B0 H a ws cm) ((∀ w ∈ ws,1 <= w)) (1 <= qv cm) ((∀ w ∈ ws,intBits w <= 256)) (intBits (qv cm) <= 256) (ws.length <= 8) (Bv (qv cm) ws <= 3000) (∀ (l:Addr) (us:List V) (H':Hp),H l = none -> A9 H H' -> H' l = some (.lst us) -> Ah (Gi H') (Az ws (qv cm)) us -> Q (.ref l) H')
theorem i8 {fd oP oQ jP:FuncData} (T:Txt K mg ad aC aA aB) (F:Fn K "standings" "standings" Ls ad.cV fd) (oS:Af P w K mg base Bd 1 ad.cU oP ["waits"] (Te K)) (oU:Ap K oP ["waits"] []) (oV:Af P w K mg base Bd 2 ad.cT oQ ["hall"] (Si K)) (oW:Ap K oQ ["hall"] []) (mJ:Af P w K mg base Bd 1 ad.fQ jP ["hall"] (Vm K)) (mK:Ap K jP ["hall"] []):Af P w K mg base Bd 3 ad.cV fd ["hall"] (Ti K):=by
 refine F.ok Se (fun vs H Q E h=>?_) (fun aS A outer s H vs Q E hr h=>?_)
 ·rcases h with ⟨a,ws,cm,rfl,⟨t,dR,eM⟩,cQ,vM,hb,uW,mL,hp,q⟩ <;> rfl
 ·obtain ⟨a,ws,cm,rfl,⟨t,dR,eM⟩,cQ,vM,hb,uW,mL,hp,q⟩ := h
  refine ⟨_,(A7 (D1 (Bk dl (Ag oV (hr.mono (by decide)) rfl T.IC T.k_x26 oW .nil As (A0 (pv 0) A8)) (bz (v := .int 3000) (by rfl) T.eS.choose_spec ⟨_,rfl⟩) (Bh _)) (Ac Ky) Bb) (A7 (Am (i:=1) Se.nd rfl (Or.inl rfl) (D5 A8)) (A7 (D6 PassesOwn.never rfl (E2 (w':=Ra K _) (E3 (Ag oS (hr.mono (by decide)) rfl T.ID T.k_x27 oU .nil As (A0 (Ba (B9 K) (pv 0) Ab (fun _ _=>rfl)) A8)))) (Al (i:=2) Se.nd rfl (Or.inr rfl)) (Ac (D4 (F7 (u':=X0 K _ _ _ _) (G3 PySem.F.plainAttrs_list PySem.F.slot_list_extend PySem.F.type_list_extend J0 (pv 1) (A0 (En (F4 (by rfl) T.cP (A0 (Ag mJ (hr.mono (by decide)) rfl T.IB T.k_x9 mK .nil As (A0 (pv 0) A8)) A8)) _ rfl Lh rfl rfl (fun _ _ _ _=>(Al (i:=0) M7 rfl (Or.inl rfl))) (fun _ _ _ _=>E6) (fun _ _ _ _=>(C4 (A0 (pv 1) (A0 (pv 0) A8))))) A8)))))) (Ac (Aq (pv 1)))))),?_⟩
  have VD:Bv 1 ws <= 3000:=by
   have e:=Tv (qv cm) ws 1
   rw [Int.mul_one] at e
   have h1:1 <= Bv 1 ws:=Ip ws 1 (by decide) cQ
   have h2:=Int.mul_le_mul_of_nonneg_right vM (show 0 <= Bv 1 ws by omega)
   rw [Int.one_mul] at h2
   omega
  have hq3:qv cm <= 3000:=Int.le_trans (Ip ws _ (by omega) cQ) hp
  refine ⟨_,rfl,a,ws,cm,rfl,⟨t,dR,eM⟩,hb,uW,mL,_,_,rfl,rfl,_,rfl,Ek (decide_eq_false (by omega)) ?_⟩
  refine ⟨Bm,fun D hD=>?_⟩
  have s1:A9 H (upd H D (.lst [])):=A9.upd hD
  have e1:(upd H D (.lst [])) D = some (.lst []):=A5
  generalize upd H D (.lst []) = H1 at s1 e1 ⊢
  refine ⟨_,rfl,a,_,_,_,rfl,rfl,.inr (Bw.of (s1 _ _ dR)),rfl,t,ws,rfl,s1 _ _ eM,cQ,VD,mL,fun L us H2 hL s2 f1 f2=>⟨L,rfl,.inl ⟨⟨_,Bg.of f1⟩,?_⟩⟩⟩
  have FV:=s1.trans s2
  have e2:=s2 _ _ e1
  have VA:L ≠ D:=(Ad e1 hL).symm
  refine D3 (K:=K) (a:=L) (xs:=us) (fun j σ H'=>Zz fun (zs:List V) (v2:Option V)=>Mz (σ = [some (.ref a),some (.ref D),v2]) (H' D = some (.lst zs)) (H' L = some (.lst us)) (A9 H H') (An H2 H') (Ah (Gi H') (((Ca ws).take j).flatMap fun r=>Fc r (qv cm)) zs))
   ⟨[],none,rfl,e2,f1,FV,An.of (A9.refl _),Ah.nil⟩ (by rintro j σ H' _ ⟨_,_,_,_,e,_⟩; exact Bg.of e) ?_ ?_
  ·rintro j y σ H4 hy ⟨zs,v2,rfl,h1,h2,s4,t4,h3⟩
   have g4:=f2.imp fun r v z=>El.up t4 z
   obtain ⟨r,hV,p,rfl,VB⟩ := g4.get hy
   have hj:=(List.getElem?_eq_some_iff.mp hV).1
   have nB:zs.length <= 3000:=by
    have e:=Iy (ws:=ws) (q:=qv cm) cQ (by omega)
    rw [h3.1]
    have e2:Az ws (qv cm) = (((Ca ws).take j).flatMap fun r=>Fc r (qv cm)) ++ (((Ca ws).drop j).flatMap fun r=>Fc r (qv cm)):=by
     rw [<- List.flatMap_append,List.take_append_drop]
     rfl
    rw [e2,List.length_append] at e
    omega
   refine ⟨_,rfl,.inl ⟨rfl,_,Bg.of h1⟩,_,rfl,a,ws,cm,rfl,⟨t,s4 _ _ dR,s4 _ _ eM⟩,qv cm,rfl,by omega,by omega,fun B hB=>?_⟩
   refine Fu (fun m ys H'=>H' B = some (.lst ys) /\ A9 H4 H' /\ Ah (Gi H') ((List.range m).map fun k=>(r,0 + ((k:Nat):Int))) ys) ⟨A5,A9.upd hB,Ah.nil⟩ ?_ ?_
   ·rintro m ys H5 hm ⟨k1,s5,k2⟩ Qe hQ
    refine ⟨_,rfl,_,rfl,Bm,fun P hP=>?_⟩
    have s6:A9 H5 (upd H5 P (.tup [.ref p,.int (0 + (m:Int))])):=A9.upd hP
    have e6:(upd H5 P (.tup [.ref p,.int (0 + (m:Int))])) P = some (.tup [.ref p,.int (0 + (m:Int))]):=A5
    generalize upd H5 P (.tup [.ref p,.int (0 + (m:Int))]) = H6 at s6 e6
    have jX:=s6 _ _ k1
    have kl:ys.length = m:=by rw [k2.1]; simp
    refine hQ _ _ jX (Fh (by omega)) ⟨A5,(s5.trans s6).new hB,?_⟩
    have tu:An H5 (upd H6 B (.lst (ys ++ [.ref P]))):=(An.of s6).trans (An.lst jX)
    rw [List.range_succ,List.map_append]
    refine (k2.imp fun r v z=>Gi.up tu z).append (Ah.one ⟨P,p,rfl,?_,?_⟩)
    ·exact An.lst jX _ _ e6
    ·exact An.lst jX _ _ (s6 _ _ (s5 _ _ VB))
   ·rintro ys H5 ⟨k1,s5,k2⟩
    have eR:=s5 _ _ h1
    have k3:Ah (Gi H5) (Fc r (qv cm)) ys:=k2
    have kl:ys.length = (qv cm).toNat:=by rw [k3.1,Om]
    refine ⟨D,B,_,_,rfl,rfl,eR,k1,Nat.le_of_lt (Fh (by omega)),?_⟩
    have tu:An H5 (upd H5 D (.lst (zs ++ ys))):=An.lst eR
    refine ⟨zs ++ ys,_,rfl,A5,by rw [Aa VA]; exact s5 _ _ h2,(s4.trans s5).new hD,(t4.trans (An.of s5)).trans tu,?_⟩
    have e:(((Ca ws).take (j + 1)).flatMap fun r=>Fc r (qv cm)) = (((Ca ws).take j).flatMap fun r=>Fc r (qv cm)) ++ Fc r (qv cm):=Od _ _ hV
    rw [e]
    exact (h3.imp fun r v z=>Gi.up ((An.of s5).trans tu) z).append (k3.imp fun r v z=>Gi.up tu z)
  ·rintro σ H4 ⟨zs,v2,rfl,h1,h2,s4,t4,h3⟩
   rw [f2.1,List.take_length] at h3
   exact ⟨_,rfl,q D zs H4 hD s4 h1 h3⟩
def Zy (K:PySem.W.Frag):Sp:=fun vs H Q _=>Wi fun (a:Addr) (ws:List Int) (cm:Option Int)=>Ss (vs = [.ref a]) (B0 H a ws cm) ((∀ w ∈ ws,1 <= w)) (1 <= qv cm) ((∀ w ∈ ws,intBits w <= 256)) (intBits (qv cm) <= 256) (ws.length <= 8) (Bv (qv cm) ws <= 3000) (∀ (D:Addr) (kvs:List ((List Int × Int) × V)) (H':Hp),H D = none -> A9 H H' -> H' D = some (.dT kvs) -> Cl ws cm H' kvs -> kvs.map (·.1) = Az ws (qv cm) -> Kt ws cm H' kvs -> (∀ kv ∈ kvs,∀ c,kv.2 = .ref c -> H c = none) -> kvs.length <= 3000 -> Q (.ref D) H')
theorem ma {fd oX fU:FuncData} (T:Txt K mg ad aC aA aB) (F:Fn K "calls_by_standing" "calls_by_standing" Xj ad.gQ fd) (oY:Af P w K mg base Bd 3 ad.cV oX ["hall"] (Ti K)) (oZ:Ap K oX ["hall"] []) (iC:Af P w K mg base Bd 5 ad.cH fU ["hall","standing","who"] (P8 K)) (iD:Ap K fU ["hall","standing","who"] []):Af P w K mg base Bd 6 ad.gQ fd ["hall"] (Zy K):=by
 refine F.ok Oi (fun vs H Q E h=>?_) (fun aS A outer s H vs Q E hr h=>?_)
 ·rcases h with ⟨a,ws,cm,rfl,ha,cQ,vM,mH,mI,kK,hp,q⟩ <;> rfl
 ·obtain ⟨a,ws,cm,rfl,ha,cQ,vM,mH,mI,kK,hp,q⟩ := h
  refine ⟨_,(A7 (Am (i:=1) Oi.nd rfl (Or.inl rfl) Gp) (A7 (D6 PassesOwn.never rfl (E2 (w':=Ra K _) (E3 (Ag oY (hr.mono (by decide)) rfl T.IE T.k_x23 oZ .nil As (A0 (pv 0) A8)))) (Al (i:=2) Oi.nd rfl (Or.inl rfl)) (A7 (Am (i:=3) Oi.nd rfl (Or.inl rfl) Z9) (A7 (D6 PassesOwn.never rfl (F4 (by rfl) T.cP (A0 (Bf (Bz K) (by rfl) T.bN PySem.boot_len (A0 (Ba (B9 K) (pv 0) Ab (fun _ _=>rfl)) A8)) A8)) (Al (i:=4) Oi.nd rfl (Or.inl rfl)) (A7 (Am (i:=5) Oi.nd rfl (Or.inl rfl) (Ag iC (hr.mono (by decide)) rfl T.vB T.k_x18 iD .nil As (A0 (pv 0) (A0 (pv 2) (A0 (pv 4) A8))))) (Ac (Hh (Bk (Vw K hr) Dj (pv 5) rfl) (Ac (Ie (E8 hr) (pv 3) (pv 4) (pv 5) rfl)) Bb)))) (Ac (Ie (E8 hr) (pv 1) (pv 2) (pv 3) rfl))))) (Ac (Aq (pv 1))))),?_⟩
  refine fun D hD=>?_
  have s1:A9 H (upd H D (.dT [])):=A9.upd hD
  have e1:(upd H D (.dT [])) D = some (.dT []):=A5
  generalize upd H D (.dT []) = H1 at s1 e1 ⊢
  refine ⟨_,rfl,a,ws,cm,rfl,ha.same s1,cQ,vM,mH,mI,kK,hp,fun l us H2 hl s2 el jW=>⟨l,rfl,.inl ⟨⟨_,Bg.of el⟩,?_⟩⟩⟩
  have hlen:us.length <= 3000:=by
   have h1:=jW.1
   have h2:=Iy cQ (show 0 <= qv cm by omega)
   omega
  have cR:=s1.trans s2
  have eD2:=s2 _ _ e1
  refine D3 (K:=K) (a:=l) (xs:=us) (fun i σ H'=>kd fun (kvs:List ((List Int × Int) × V)) (v2 v3 v4 v5:Option V)=>Ss (σ = [some (.ref a),some (.ref D),v2,v3,v4,v5]) (A9 H H') (LT H2 H') (H' D = some (.dT kvs)) (Cl ws cm H' kvs) ((∀ kv ∈ kvs,∀ c,kv.2 = .ref c -> H c = none)) (kvs.length <= i) (kvs.map (·.1) = (Az ws (qv cm)).take i) (Kt ws cm H' kvs))
   ⟨[],_,_,_,_,rfl,cR,⟨fun _ _ z=>z,fun _ _ z=>z⟩,eD2,⟨(fun kv z=>by cases z),List.Pairwise.nil,List.Pairwise.nil⟩,(fun kv z=>by cases z),Nat.le_refl _,rfl,(fun kv z=>by cases z)⟩ (by rintro i σ H' _ ⟨_,_,_,_,_,_,_,t,_⟩; exact Bg.of (t.1 _ _ el)) ?_ ?_
  ·rintro i u σ H' hu ⟨kvs,v2,v3,v4,v5,rfl,s',t',jO,jZ,jI,lR,fG,pA⟩
   have hi:=(List.getElem?_eq_some_iff.mp hu).1
   obtain ⟨z,hz,p,w,rfl,hz1,hz2⟩ := jW.get hu
   obtain ⟨m1,m2,m3,m4⟩ := N8 (List.mem_of_getElem? hz)
   have mM:Cg H' p z.1 z.2:=⟨w,t'.2 _ _ hz1,t'.2 _ _ hz2⟩
   refine fun c hc=>?_
   have s3:A9 H' (upd H' c (.dK [])):=A9.upd hc
   have e3:(upd H' c (.dK [])) c = some (.dK []):=A5
   generalize upd H' c (.dK []) = H3 at s3 e3 ⊢
   have s03:=s'.trans s3
   obtain ⟨wt,dR,eM⟩ := id (ha.same s03)
   refine ⟨_,rfl,a,_,_,_,rfl,rfl,.inr (Bw.of dR),rfl,wt,_,rfl,.inr (Bw.of eM),_,rfl,by omega,by rw [List.length_map]; omega,?_⟩
   refine Wg (n:=(ws.map V.int).length) (fun j σ H4=>Wi fun (cs:List (Dt × V)) (v4 v5:Option V)=>Mz (σ = [some (.ref a),some (.ref D),some (.ref p),some (.ref c),v4,v5]) (A9 H' H4) (H4 c = some (.dK cs)) (Gk ws cm z H4 cs) (cs.length <= j) (∀ who:Nat,who < j -> none ∉ Bc ws z.1 cm z.2 who -> (Ae cs (.inl (who:Int))).isSome = true))
    ⟨[],_,_,rfl,s3,e3,(fun e z=>by cases z),Nat.le_refl _,(fun who z=>absurd z (Nat.not_lt_zero _))⟩ ?_ ?_
   ·rintro j σ H4 hj ⟨cs,v4,v5,rfl,s4,QK,tR,mB,sL⟩
    rw [List.length_map] at hj
    have s04:=s'.trans s4
    refine ⟨_,rfl,_,rfl,_,rfl,a,p,ws,z.1,cm,z.2,_,j,rfl,by omega,ha.same s04,mM.same s4,hj,m1,kK,fun L gK H5 hL s5 eL lT=>?_⟩
    refine ⟨_,rfl,L,gK,.none,(Bc ws z.1 cm z.2 j).map g8,rfl,Bg.of eL,Zh,O9 lT,by decide,_,rfl,_,fun hb=>?_,fun hb=>?_,fun _ _ z=>z⟩
    ·rw [if_pos rfl,P7] at hb
     have mY:none ∉ Bc ws z.1 cm z.2 j:=by simpa using hb
     have mN:=s5 _ _ QK
     refine ⟨_,rfl,_,rfl,_,rfl,c,_,rfl,.inl ⟨cs,.inl (j:Int),mN,congrArg V.int (Int.zero_add _),Bj (by omega),rfl⟩,?_⟩
     have t6:LT H5 (upd H5 c (.dK (Bl cs (.inl (j:Int)) (.ref L)))):=LT.dK mN
     refine ⟨Bl cs (.inl (j:Int)) (.ref L),_,_,rfl,(s4.trans s5).new hc,A5,?_,Nat.le_trans (Cp _ _ _) (by omega),fun who cC hn=>Tu ?_⟩
     ·have hold:Gk ws cm z (upd H5 c (.dK (Bl cs (.inl (j:Int)) (.ref L)))) cs:=tR.up ((LT.of s5).trans t6)
      intro e he
      rcases Yn he with y | y
      ·exact hold e y
      ·subst y
       exact ⟨j,L,gK,rfl,hj,mY,rfl,t6.1 _ _ eL,lT.imp fun _ _ y=>Ex.up t6.2 y⟩
     ·rcases Nat.lt_or_ge who j with y | y
      ·exact .inl (sL who y hn)
      ·have e:who = j:=by omega
       rw [e]
       exact .inr rfl
    ·rw [if_pos rfl,P7] at hb
     have VE:none ∈ Bc ws z.1 cm z.2 j:=by simpa using hb
     refine ⟨cs,_,_,rfl,s4.trans s5,s5 _ _ QK,tR.up (LT.of s5),by omega,fun who cC hn=>?_⟩
     rcases Nat.lt_or_ge who j with y | y
     ·exact sL who y hn
     ·have e:who = j:=by omega
      rw [e] at hn
      exact absurd VE hn
   rintro σ H4 ⟨cs,v4,v5,rfl,s4,QK,tR,mB,sL⟩
   rw [List.length_map] at mB
   have vN:=s4 _ _ jO
   refine ⟨_,rfl,_,rfl,_,rfl,D,_,rfl,Lk.t vN (show Ds H4 p z from mM.same s4) (Ce (by omega)),?_⟩
   have t5:LT H4 (upd H4 D (.dT (Bl kvs z (.ref c)))):=LT.dT vN
   have k5:∀ c' iR,H4 c' = some (.dK iR) -> (upd H4 D (.dT (Bl kvs z (.ref c)))) c' = some (.dK iR):=fun c' iR e=>by
    rw [Aa (Bn e vN (by intro z; cases z))]
    exact e
   have s05:=s'.trans s4
   have VF:Ae kvs z = none:=by
    cases hv:Ae kvs z with
    | none=>rfl
    | some v =>
     have:=List.mem_map_of_mem (f:=(·.1)) (Bi hv)
     rw [fG] at this
     exact absurd this (O0 (Ju _ _) hz)
   have ep:Bl kvs z (.ref c) = kvs ++ [(z,.ref c)]:=Dc _ VF
   have kL:Cl ws cm (upd H4 D (.dT (Bl kvs z (.ref c)))) kvs:=(jZ.keep (LT.of s4) (fun c cs e=>s4 _ _ e)).keep t5 k5
   have xS:Kt ws cm (upd H4 D (.dT (Bl kvs z (.ref c)))) kvs:=(pA.keep jZ (fun c cs e=>s4 _ _ e)).keep (jZ.keep (LT.of s4) (fun c cs e=>s4 _ _ e)) k5
   have mN:=k5 _ _ QK
   have xU:=tR.up t5
   have sN:A9 H (upd H4 D (.dT (Bl kvs z (.ref c)))):=s05.new hD
   have tN:LT H2 (upd H4 D (.dT (Bl kvs z (.ref c)))):=(t'.trans (LT.of s4)).trans t5
   have eN:(upd H4 D (.dT (Bl kvs z (.ref c)))) D = some (.dT (Bl kvs z (.ref c))):=A5
   rw [ep] at kL xS mN xU sN tN eN ⊢
   generalize upd H4 D (.dT (kvs ++ [(z,.ref c)])) = H6 at kL xS mN xU sN tN eN ⊢
   have fO:∀ kv ∈ kvs,kv.2 ≠ .ref c:=fun kv aK e=>by
    obtain ⟨d,ds,e1,e2,_⟩ := jZ.1 kv aK
    rw [e] at e1
    cases e1
    rw [hc] at e2
    cases e2
   refine ⟨kvs ++ [(z,.ref c)],_,_,_,_,rfl,sN,tN,eN,⟨Mh kL.1 ⟨c,cs,rfl,mN,by omega,xU⟩,?_,?_⟩,Mh jI (fun c' e=>by cases e; exact s'.free hc),by rw [List.length_append,List.length_singleton]; omega,?_,?_⟩
   ·rw [List.map_append]
    refine Dv kL.2.1 (fun y=>?_)
    rw [fG] at y
    exact O0 (Ju _ _) hz y
   ·rw [List.map_append]
    refine Dv kL.2.2 (fun y=>?_)
    obtain ⟨kv,aK,e⟩ := List.mem_map.mp y
    exact fO kv aK e
   ·rw [List.map_append,fG,List.take_add_one,hz]
    rfl
   ·intro kv aK c' iR e1 e2
    rcases List.mem_append.mp aK with y | y
    ·exact xS kv y c' iR e1 e2
    ·cases List.mem_singleton.mp y
     cases e1
     rw [mN] at e2
     cases e2
     exact fun who hw hn=>sL who (by rw [List.length_map]; exact hw) hn
  rintro σ H' ⟨kvs,v2,v3,v4,v5,rfl,s',t',jO,jZ,jI,lR,fG,pA⟩
  rw [jW.1,List.take_length] at fG
  exact ⟨_,rfl,q D kvs H' hD s' jO jZ fG pA jI (by omega)⟩
def Tm (K:PySem.W.Frag):Sp:=fun vs H Q _=>Yo fun (D:Addr) (kvs:List ((List Int × Int) × V)) (ws:List Int) (cm:Option Int)=>Mn (vs = [.ref D]) (H D = some (.dT kvs)) (Cl ws cm H kvs) (kvs.length <= 3000) (∀ (W:Addr) (wv:List ((List Int × Int) × V)) (H':Hp),H W = none -> A9 H H' -> H' W = some (.dT wv) -> F9 ws cm H kvs 48000 H' wv -> (∀ k who later,Ao H kvs k who -> some later ∈ Bc ws k.1 cm k.2 who -> Cm H' wv later k who) -> wv.length <= 48000 -> Q (.ref W) H')
theorem gd {fd  : FuncData} (T:Txt K mg ad aC aA aB) (F:Fn K "ways_to" "ways_to" Ny ad.cW fd):Af P w K mg base Bd 1 ad.cW fd ["pending"] (Tm K):=by
 refine F.ok Ho (fun vs H Q E h=>?_) (fun aS A outer s H vs Q E hr h=>?_)
 ·rcases h with ⟨D,kvs,ws,cm,rfl,hD,fI,lR,q⟩ <;> rfl
 ·obtain ⟨D,kvs,ws,cm,rfl,hD,fI,lR,q⟩ := h
  refine ⟨_,(A7 (Am (i:=1) Ho.nd rfl (Or.inl rfl) Gp) (A7 (Ps (D6 PassesOwn.never rfl (Hu (pv 0)) (De K (n:=2) rfl (Ay (Al (i:=2) Ho.nd rfl (Or.inl rfl)) (Ay (Al (i:=3) Ho.nd rfl (Or.inl rfl)) Dg))) (Ac (Ps (D6 PassesOwn.never rfl (Hu (pv 3)) (De K (n:=2) rfl (Ay (Al (i:=4) Ho.nd rfl (Or.inl rfl)) (Ay (Al (i:=5) Ho.nd rfl (Or.inl rfl)) Dg))) (Ac (D6 PassesOwn.never rfl (E2 (w':=Ra K _) (E3 (pv 5))) (Al (i:=6) Ho.nd rfl (Or.inl rfl)) (Ac (D4 (F7 (u':=X0 K _ _ _ _) (G3 PySem.F.plainAttrs_list PySem.F.slot_list_append PySem.F.type_list_append Dp (U1 (ao (E8 hr) (pv 1) (pv 6) (D5 A8) ⟨rfl,rfl,rfl,rfl⟩)) (A0 (C4 (A0 (pv 2) (A0 (pv 4) A8))) A8)))))))))))) (Ac (Aq (pv 1))))),?_⟩
  have jZ:=fI.ok
  refine fun W hW=>?_
  have s1:A9 H (upd H W (.dT [])):=A9.upd hW
  have e1:(upd H W (.dT [])) W = some (.dT []):=A5
  generalize upd H W (.dT []) = H1 at s1 e1 ⊢
  have QL:=s1 _ _ hD
  have VG:W ≠ D:=(Ad hD hW).symm
  refine ⟨D,.dT kvs,trivial,QL,_,rfl,D,.dT kvs,rfl,trivial,QL,fun o=>?_⟩
  refine Nj (d:=D) (o:=o) (u := .dT kvs) (fun i σ H'=>mw fun (wv:List ((List Int × Int) × V)) (v2 v3 v4 v5 v6:Option V)=>X7 (σ = [some (.ref D),some (.ref W),v2,v3,v4,v5,v6]) (H' D = some (.bE o (.dT kvs))) ((uy D H H')) (H' W = some (.dT wv)) (F9 ws cm H kvs (16 * i) H' wv) (wv.length <= 16 * i) (jy ws cm H kvs i H' wv))
   ⟨[],_,_,_,_,_,rfl,A5,(fun b ob n e=>(Aa n).trans (s1 _ _ e)),(Aa VG).trans e1,⟨(fun kv z=>by cases z),List.Pairwise.nil⟩,Nat.zero_le _,(fun k who later z=>by obtain ⟨v,z⟩ := z; rw [List.take_zero] at z; cases z)⟩ (by rintro i σ H' _ ⟨_,_,_,_,_,_,_,e,_⟩; exact e) ?_ ?_
  ·rintro i x y T σ H' hi hit ⟨wv,v2,v3,v4,v5,v6,rfl,jO,k',vP,tS,FP,VH⟩ hT
   have hi3:i < 3000:=Nat.lt_of_lt_of_le hi lR
   obtain ⟨kk,bb,aK,rfl,nA⟩ := hit
   have bW:(kk,y) ∈ kvs:=List.mem_of_getElem? aK
   obtain ⟨kw,hkw⟩ := K4 bW
   obtain ⟨c,cs,ey,hc,mB,tR⟩ := fI.1 _ bW
   have VI:y = .ref c:=ey
   subst VI
   have s2:A9 H' (upd H' T (.tup [.ref bb,.ref c])):=A9.upd hT
   have e2:(upd H' T (.tup [.ref bb,.ref c])) T = some (.tup [.ref bb,.ref c]):=A5
   generalize upd H' T (.tup [.ref bb,.ref c]) = H2 at s2 e2 ⊢
   refine ⟨T,_,rfl,Bw.of e2,rfl,_,_,rfl,_,_,rfl,rfl,?_⟩
   have GV:c ≠ D:=Bn hc hD (by intro z; cases z)
   have VJ:c ≠ W:=Ad hc hW
   have gL:=s2 _ _ (k' c _ GV hc)
   refine ⟨c,.dK cs,trivial,gL,_,rfl,c,.dK cs,rfl,trivial,gL,fun o2=>?_⟩
   have VL:LT H2 (upd H2 c (.bE o2 (.dK cs))):=LT.dK gL
   refine Nj (d:=c) (o:=o2) (u := .dK cs) (fun j σ H3=>Yo fun (wv:List ((List Int × Int) × V)) (v4 v5 v6:Option V)=>Ol (σ = [some (.ref D),some (.ref W),some (.ref bb),some (.ref c),v4,v5,v6]) (H3 c = some (.bE o2 (.dK cs))) (H3 D = some (.bE o (.dT kvs))) ((lm D c H H3)) (An H2 H3) (H3 W = some (.dT wv)) (F9 ws cm H kvs (16 * i + 2 * j) H3 wv) (wv.length <= 16 * i + 2 * j) ((jy ws cm H kvs i H3 wv)) (nt ws cm cs j kk H3 wv))
    ⟨wv,_,_,_,rfl,A5,(Aa GV.symm).trans (s2 _ _ jO),(fun b ob n1 n2 e=>(Aa n2).trans (s2 _ _ (k' b ob n1 e))),VL.2,(Aa VJ.symm).trans (s2 _ _ vP),tS.up ((LT.of s2).trans VL) (by omega),by omega,(fun k who later z1 z2 z3=>(VH k who later z1 z2 z3).up ((LT.of s2).trans VL)),(fun who later z=>by obtain ⟨e,z,_⟩ := z; rw [List.take_zero] at z; cases z)⟩ (by rintro j σ H3 _ ⟨_,_,_,_,_,e,_⟩; exact e) ?_ ?_
   ·rintro j x2 y2 T2 σ H3 hj VM ⟨VN,v4,v5,v6,rfl,JH,VO,k3,t3,VP,xV,JI,VQ,xW⟩ JJ
    have hj8:j < 8:=Nat.lt_of_lt_of_le hj mB
    obtain ⟨kk2,kM,rfl⟩ := VM
    obtain ⟨w2,l,gK,ei,hw2,VR,el,hl,xX⟩ := tR _ (List.mem_of_getElem? kM)
    have sF:gK.length <= 2:=by
     rw [xX.1]
     unfold Bc
     split <;> simp
    have ei':kk2 = .inl (w2:Int):=ei
    subst ei'
    have el':y2 = .ref l:=el
    subst el'
    have s4:A9 H3 (upd H3 T2 (.tup [kV (.inl (w2:Int)),.ref l])):=A9.upd JJ
    have e4:(upd H3 T2 (.tup [kV (.inl (w2:Int)),.ref l])) T2 = some (.tup [kV (.inl (w2:Int)),.ref l]):=A5
    generalize upd H3 T2 (.tup [kV (.inl (w2:Int)),.ref l]) = H4 at s4 e4 ⊢
    refine ⟨T2,_,rfl,Bw.of e4,rfl,_,_,rfl,_,_,rfl,rfl,?_⟩
    have hlD:l ≠ D:=Bn hl hD (by intro z; cases z)
    have hlc:l ≠ c:=Bn hl hc (by intro z; cases z)
    refine ⟨_,rfl,l,rfl,.inl ⟨⟨_,Bg.of (s4 _ _ (k3 l _ hlD hlc hl))⟩,?_⟩⟩
    refine D3 (K:=K) (a:=l) (xs:=gK) (fun m σ H5=>Zz fun (wv:List ((List Int × Int) × V)) (v6:Option V)=>Qw (σ = [some (.ref D),some (.ref W),some (.ref bb),some (.ref c),some (kV (.inl (w2:Int))),some (.ref l),v6]) (H5 c = some (.bE o2 (.dK cs))) (H5 D = some (.bE o (.dT kvs))) ((lm D c H H5)) (An H2 H5) (H5 W = some (.dT wv)) (F9 ws cm H kvs (16 * i + 2 * j + m) H5 wv) (wv.length <= 16 * i + 2 * j + m) ((jy ws cm H kvs i H5 wv)) ((nt ws cm cs j kk H5 wv)) (∀ later,some later ∈ (Bc ws kk.1 cm kk.2 w2).take m -> Cm H5 wv later kk w2))
     ⟨VN,_,rfl,s4 _ _ JH,s4 _ _ VO,(fun b ob n1 n2 e=>s4 _ _ (k3 b ob n1 n2 e)),t3.trans (An.of s4),s4 _ _ VP,xV.up (LT.of s4) (Nat.le_refl _),JI,(fun k who later z1 z2 z3=>(VQ k who later z1 z2 z3).up (LT.of s4)),(fun who later z1 z2=>(xW who later z1 z2).up (LT.of s4)),(fun later z=>by rw [List.take_zero] at z; cases z)⟩ (by rintro m σ H5 _ ⟨_,_,_,_,_,k5,_⟩; exact Bg.of (k5 l _ hlD hlc hl)) ?_ ?_
    ·rintro m u σ H5 hu ⟨xY,v6,rfl,mN,iT,k5,t5,QM,kN,VS,QN,tT,tU⟩
     have kH:m < 2:=Nat.lt_of_lt_of_le (List.getElem?_eq_some_iff.mp hu).1 sF
     obtain ⟨r0,iU,hV⟩ := xX.get hu
     obtain ⟨lk,er⟩ : ∃ lk,r0 = some lk:=by
      cases r0 with
      | none=>exact absurd (List.mem_of_getElem? iU) VR
      | some r=>exact ⟨r,rfl⟩
     subst er
     obtain ⟨lb,rfl,tV⟩ := hV
     have VT:Ds H lb lk:=tV
     have tH5:An H H5:=fun b xs e=>k5 b _ (Bn e hD (by intro z; cases z)) (Bn e hc (by intro z; cases z)) e
     have VU:=VT.up tH5
     have JK:∀ E,H5 E = none -> H E = none:=fun E hE=>by
      cases hHE:H E with
      | none=>rfl
      | some ob =>
       by_cases z1:E = D
       ·rw [z1,iT] at hE
        cases hE
       by_cases z2:E = c
       ·rw [z2,mN] at hE
        cases hE
       rw [k5 E ob z1 z2 hHE] at hE
       cases hE
     refine ⟨(fun v H7=>Wi fun (tW:List ((List Int × Int) × V)) (l7:Addr) (xZ:List V)=>ee (v = .ref l7) (Ae tW lk = some (.ref l7)) (H l7 = none) (H7 l7 = some (.lst xZ)) (xZ.length <= 16 * i + 2 * j + m) ((∀ u ∈ xZ,Pk ws cm kvs H7 lk u)) (H7 c = some (.bE o2 (.dK cs))) (H7 D = some (.bE o (.dT kvs))) ((∀ b ob,b ≠ D -> b ≠ c -> H b = some ob -> H7 b = some ob)) (An H5 H7) (H7 W = some (.dT tW)) (F9 ws cm H kvs (16 * i + 2 * j + m) H7 tW) (tW.length <= 16 * i + 2 * j + m + 1) ((∀ k who later,(∃ v,(k,v) ∈ kvs.take i) -> Ao H kvs k who -> some later ∈ Bc ws k.1 cm k.2 who -> Cm H7 tW later k who)) ((∀ who later,(∃ e ∈ cs.take j,e.1 = .inl ((who:Nat):Int)) -> some later ∈ Bc ws kk.1 cm kk.2 who -> Cm H7 tW later kk who)) ((∀ later,some later ∈ (Bc ws kk.1 cm kk.2 w2).take m -> Cm H7 tW later kk w2))),⟨_,rfl,W,rfl,.inr ⟨xY,.inl QM⟩,_,rfl,Bm,fun E hE=>?_⟩,?_⟩
     ·have s6:A9 H5 (upd H5 E (.lst [])):=A9.upd hE
      have e6:(upd H5 E (.lst [])) E = some (.lst []):=A5
      generalize upd H5 E (.lst []) = H6 at s6 e6 ⊢
      have VW:=s6 _ _ QM
      refine ⟨xY,lk,lb,rfl,VU.up (An.of s6),VW,Ce (by omega),fun v hv=>?_,fun hv=>?_⟩
      ·obtain ⟨l7,xZ,e7,h0,h1,h2,h3⟩ := kN.1 _ (Bi hv)
       have e7':v = .ref l7:=e7
       exact ⟨xY,l7,xZ,e7,by rw [hv,e7'],h0,s6 _ _ h1,h2,(fun u hu=>(h3 u hu).up (An.of s6)),s6 _ _ mN,s6 _ _ iT,(fun b ob n1 n2 e=>s6 _ _ (k5 b ob n1 n2 e)),An.of s6,VW,kN.up (LT.of s6) (Nat.le_refl _),by omega,(fun k who later z1 z2 z3=>(QN k who later z1 z2 z3).up (LT.of s6)),(fun who later z1 z2=>(tT who later z1 z2).up (LT.of s6)),(fun later z=>(tU later z).up (LT.of s6))⟩
      ·have t7:LT H6 (upd H6 W (.dT (Bl xY lk (.ref E)))):=LT.dT VW
       have nE:=JK E hE
       have QO:=(LT.of s6).trans t7
       refine ⟨Bl xY lk (.ref E),E,[],rfl,by rw [Ec,if_pos rfl],nE,t7.1 _ _ e6,Nat.zero_le _,(fun u hu=>by cases hu),(Aa VJ).trans (s6 _ _ mN),(Aa VG.symm).trans (s6 _ _ iT),(fun b ob n1 n2 e=>(Aa (Ad e hW)).trans (s6 _ _ (k5 b ob n1 n2 e))),(An.of s6).trans t7.2,A5,?_,Nat.le_trans (Cp _ _ _) (by omega),(fun k who later z1 z2 z3=>((QN k who later z1 z2 z3).up QO).put hv),(fun who later z1 z2=>((tT who later z1 z2).up QO).put hv),(fun later z=>((tU later z).up QO).put hv)⟩
       refine ⟨fun kv aK=>?_,?_⟩
       ·rcases Yn aK with y | y
        ·exact (kN.up QO (Nat.le_refl _)).1 kv y
        ·subst y
         exact ⟨E,[],rfl,nE,t7.1 _ _ e6,Nat.zero_le _,fun u hu=>by cases hu⟩
       ·rw [Dc _ hv,List.map_append]
        refine Dv kN.2 (fun y=>?_)
        obtain ⟨kv,aK,e⟩ := List.mem_map.mp y
        obtain ⟨l9,us9,e9,_,h9,_⟩ := kN.1 kv aK
        have e':kv.2 = .ref E:=e
        rw [e'] at e9
        cases e9
        rw [hE] at h9
        cases h9
     rintro v H7 ⟨tW,l7,xZ,rfl,hv7,n7,VX,VY,JL,hc7,hD7,k7,t7,hW7,VZ,hwl7,hs7,WA,WB⟩
     refine ⟨.inl ⟨rfl,_,Bg.of VX⟩,_,rfl,_,rfl,Bm,fun T3 hT3=>?_⟩
     have s8:A9 H7 (upd H7 T3 (.tup [.ref bb,kV (.inl (w2:Int))])):=A9.upd hT3
     have e8:(upd H7 T3 (.tup [.ref bb,kV (.inl (w2:Int))])) T3 = some (.tup [.ref bb,kV (.inl (w2:Int))]):=A5
     generalize upd H7 T3 (.tup [.ref bb,kV (.inl (w2:Int))]) = H8 at s8 e8 ⊢
     have mL:=s8 _ _ VX
     refine ⟨l7,_,_,rfl,rfl,mL,Ce (by omega),?_⟩
     have WC:l7 ≠ D:=(Ad hD n7).symm
     have WD:l7 ≠ c:=(Ad hc n7).symm
     have WE:l7 ≠ W:=Bn VX hW7 (by intro z; cases z)
     have JM:Ds H8 bb kk:=(((nA.up (An.of s2)).up t5).up t7).up (An.of s8)
     have WG:Pk ws cm kvs H8 lk (.ref T3):=⟨T3,bb,w2,kk,rfl,e8,JM,⟨kw,hkw⟩,List.mem_of_getElem? iU⟩
     refine ⟨tW,_,rfl,(Aa WD.symm).trans (s8 _ _ hc7),(Aa WC.symm).trans (s8 _ _ hD7),(fun b ob n1 n2 e=>(Aa (Ad e n7)).trans (s8 _ _ (k7 b ob n1 n2 e))),((t5.trans t7).trans (An.of s8)).trans (An.lst mL),(Aa WE.symm).trans (s8 _ _ hW7),?_,by omega,(fun k who later z1 z2 z3=>((hs7 k who later z1 z2 z3).up (LT.of s8)).app mL),(fun who later z1 z2=>((WA who later z1 z2).up (LT.of s8)).app mL),(fun later z=>?_)⟩
     ·exact F9.app (VZ.up (LT.of s8) (Nat.le_refl _)) (Bi hv7) mL VY (fun u hu=>(JL u hu).up (An.of s8)) WG
     ·rw [List.take_add_one,iU] at z
      rcases List.mem_append.mp z with y | y
      ·exact ((WB later y).up (LT.of s8)).app mL
      ·have ey:later = lk:=by simpa using y
       subst ey
       have tt:An H8 (upd H8 l7 (.lst (xZ ++ [.ref T3]))):=An.lst mL
       exact ⟨l7,_,T3,bb,hv7,A5,by simp,tt _ _ e8,JM.up tt⟩
    rintro σ H5 ⟨xY,v6,rfl,mN,iT,k5,t5,QM,kN,VS,QN,tT,tU⟩
    refine ⟨xY,_,_,_,rfl,mN,iT,k5,t5,QM,kN.up ⟨fun _ _ z=>z,fun _ _ z=>z⟩ (by omega),by omega,QN,fun who later z1 z2=>?_⟩
    obtain ⟨e,he,ew⟩ := z1
    rw [List.take_add_one,kM] at he
    rcases List.mem_append.mp he with y | y
    ·exact tT who later ⟨e,y,ew⟩ z2
    ·have ey:e = (.inl (w2:Int),.ref l):=by simpa using y
     subst ey
     have ew2:(w2:Int) = (who:Int):=Sum.inl.inj ew
     have ew3:w2 = who:=by omega
     subst ew3
     refine tU later ?_
     rw [xX.1,List.take_length]
     exact z2
   rintro σ H3 ⟨VN,v4,v5,v6,rfl,JH,VO,k3,t3,VP,xV,JI,VQ,xW⟩
   have tX:Da (.dK cs) <= 8:=mB
   have tz:LT H3 (upd H3 c (.dK cs)):=⟨fun b xs e=>by rw [Aa (Bn e JH (by intro z; cases z))]; exact e,fun b xs e=>by rw [Aa (Bn e JH (by intro z; cases z))]; exact e⟩
   refine ⟨o2,JH,VN,_,_,_,_,_,rfl,(Aa GV.symm).trans VO,(fun b ob n1 e=>?_),(Aa VJ.symm).trans VP,xV.up tz (show 16 * i + 2 * Da (.dK cs) <= 16 * (i + 1) by omega),by omega,fun k who later z1 z2 z3=>?_⟩
   ·by_cases z:b = c
    ·subst z
     rw [hc] at e
     cases e
     exact A5
    ·exact (Aa z).trans (k3 b ob n1 z e)
   ·obtain ⟨v,hv⟩ := z1
    rw [List.take_add_one,aK] at hv
    rcases List.mem_append.mp hv with y | y
    ·exact (VQ k who later ⟨v,y⟩ z2 z3).up tz
    ·have ey:(k,v) = (kk,.ref c):=by simpa using y
     cases ey
     obtain ⟨c',iR,g1,g2,g3⟩ := z2
     rw [Ct fI.2.1 bW] at g1
     cases g1
     rw [hc] at g2
     cases g2
     obtain ⟨w',UU⟩ := Option.isSome_iff_exists.mp g3
     refine (xW who later ⟨(.inl (who:Int),w'),?_,rfl⟩ z3).up tz
     show _ ∈ cs.take cs.length
     rw [List.take_length]
     exact Bi UU
  rintro σ H' ⟨wv,v2,v3,v4,v5,v6,rfl,jO,k',vP,tS,FP,VH⟩
  have WH:Da (.dT kvs) <= 3000:=lR
  have tD:LT H' (upd H' D (.dT kvs)):=⟨fun b xs e=>by rw [Aa (Bn e jO (by intro z; cases z))]; exact e,fun b xs e=>by rw [Aa (Bn e jO (by intro z; cases z))]; exact e⟩
  refine ⟨o,jO,_,rfl,q W wv _ hW (fun b ob e=>?_) ((Aa VG).trans vP) (tS.up tD (show 16 * Da (.dT kvs) <= 48000 by omega)) (fun k who later z2 z3=>?_) (by omega)⟩
  ·by_cases z:b = D
   ·subst z
    rw [hD] at e
    cases e
    exact A5
   ·exact (Aa z).trans (k' b ob z e)
  ·obtain ⟨c',iR,g1,g2,g3⟩ := id z2
   refine (VH k who later ⟨.ref c',?_⟩ z2 z3).up tD
   show _ ∈ kvs.take kvs.length
   rw [List.take_length]
   exact Bi g1
def Yk (K : PySem.W.Frag) : Sp := fun vs H Q _ => Yi fun (D W R : Addr) (kvs wv : List ((List Int × Int) × V)) (rs : List V) (bG : List (List Int × Int)) (H0 : Hp) (ws : List Int) (cm : Option Int) => Ol (vs = [.ref D, .ref W, .ref R]) (H D = some (.dT kvs)) (Cl ws cm H kvs) (H W = some (.dT wv)) (F9 ws cm H0 kvs 48000 H wv) ((∀ k who later, Ao H kvs k who -> some later ∈ Bc ws k.1 cm k.2 who -> Cm H wv later k who)) (H R = some (.lst rs)) (Ah (Gi H) bG rs) (Ci H kvs <= 24000) (∀ (B : Addr) (bs : List V) (beta : List (List Int × Int)) (H' : Hp), H B = none -> Ei kvs H H' -> Cl ws cm H' kvs -> H' B = some (.lst bs) -> Ah (Gi H') beta bs -> Ci H' kvs + bs.length <= Ci H kvs ->
  (∀ k who,Ao H' kvs k who ↔ (Ao H kvs k who /\ ∀ later ∈ bG,some later ∉ Bc ws k.1 cm k.2 who)) -> (∀ k,k ∈ beta ↔ ((∃ who,Ao H kvs k who) /\ ∀ who,¬ Ao H' kvs k who)) -> Q (.ref B) H')
theorem li {fd  : FuncData} (T:Txt K mg ad aC aA aB) (F:Fn K "without_calls_left" "without_calls_left" Vv ad.gR fd):Af P w K mg base Bd 1 ad.gR fd ["pending","ways","ranked"] (Yk K):=by
 refine F.ok N6 (fun vs H Q E h=>?_) (fun aS A outer s H vs Q E hr h=>?_)
 ·rcases h with ⟨D,W,R,kvs,wv,rs,bG,H0,ws,cm,rfl,hD,fI,hW,tS,sI,hR,vQ,hle,q⟩ <;> rfl
 ·obtain ⟨D,W,R,kvs,wv,rs,bG,H0,ws,cm,rfl,hD,fI,hW,tS,sI,hR,vQ,hle,q⟩ := h
  refine ⟨_,(A7 (Am (i:=3) N6.nd rfl (Or.inl rfl) (D5 A8)) (A7 (D6 PassesOwn.never rfl (E2 (w':=Ra K _) (E3 (pv 2))) (Al (i:=4) N6.nd rfl (Or.inl rfl)) (Ac (D6 PassesOwn.never rfl (E2 (w':=Ra K _) (E3 (U1 (Yf (E8 hr) (pv 1) (pv 4) (D5 A8) ⟨rfl,rfl,rfl,rfl⟩)))) (De K (n:=2) rfl (Ay (Al (i:=5) N6.nd rfl (Or.inl rfl)) (Ay (Al (i:=6) N6.nd rfl (Or.inl rfl)) Dg))) (A7 (Am (i:=7) N6.nd rfl (Or.inl rfl) (Dq (E8 hr) (pv 0) (pv 5) (fun _ _=>rfl))) (Ac (Hh (Iz (Su (E8 hr) (pv 6) (pv 7)) rfl) (A7 (D4 (Zg (pv 7) (pv 6) ⟨rfl,rfl,rfl,rfl⟩)) (Ac (Hh (Ey (Ur (pv 7))) (Ac (D4 (F7 (u':=X0 K _ _ _ _) (G3 PySem.F.plainAttrs_list PySem.F.slot_list_append PySem.F.type_list_append Dp (pv 3) (A0 (pv 5) A8))))) Bb))) Bb)))))) (Ac (Aq (pv 3))))),?_⟩
  have jZ:=fI.ok
  refine ⟨Bm,fun B hB=>?_⟩
  have s1:A9 H (upd H B (.lst [])):=A9.upd hB
  have e1:(upd H B (.lst [])) B = some (.lst []):=A5
  generalize upd H B (.lst []) = H1 at s1 e1 ⊢
  have c1:∀ c cs,H c = some (.dK cs) -> H1 c = some (.dK cs):=fun c cs e=>s1 _ _ e
  refine ⟨_,rfl,R,rfl,.inl ⟨⟨_,Bg.of (s1 _ _ hR)⟩,?_⟩⟩
  refine D3 (K:=K) (a:=R) (xs:=rs) (fun i σ H'=>mw fun (bs:List V) (beta:List (List Int × Int)) (v4 v5 v6 v7:Option V)=>Qw (σ = [some (.ref D),some (.ref W),some (.ref R),some (.ref B),v4,v5,v6,v7]) (Ei kvs H H') (Cl ws cm H' kvs) (H' B = some (.lst bs)) (Ah (Gi H') beta bs) (Ci H' kvs + bs.length <= Ci H kvs) (Vd B H' kvs) ((af kvs H' H)) ((gj ws cm kvs bG i H H')) ((ie ws cm kvs bG i H')) ((nc kvs H H' beta)))
   ⟨[],[],_,_,_,_,rfl,Ei.of s1,fI.keep (LT.of s1) c1,e1,Ah.nil,by rw [Ed jZ c1]; exact Nat.le_refl _,(Vd.start jZ hB).keep jZ c1,(fun k who z=>(Ao.keep fI c1).mp z),(fun k who z _=>(Ao.keep fI c1).mpr z),(fun later z=>by rw [List.take_zero] at z; cases z),fun k=>⟨(fun z=>by cases z),fun z=>?_⟩⟩ (by rintro i σ H' _ ⟨_,_,_,_,_,_,_,ch,_⟩; exact Bg.of (ch.keep jZ hR (fun cs z=>nomatch z))) ?_ ?_
  ·obtain ⟨⟨who,z1⟩,z2⟩ := z
   exact absurd ((Ao.keep fI c1).mpr z1) (z2 who)
  ·rintro i u σ H' hu ⟨bs,beta,v4,v5,v6,v7,rfl,ch,eU,QP,WI,WJ,nb,l1,l2,l3,l4⟩
   obtain ⟨lk,tV,lb,lu,rfl,WK,WL⟩ := vQ.get hu
   have VT:Ds H lb lk:=⟨lu,WK,WL⟩
   have tY:=eU.ok
   have lt':=ch.lt jZ
   have vP:=ch.keep jZ hW (fun cs z=>nomatch z)
   have WM:=tS.up lt' (Nat.le_refl _)
   refine ⟨(fun v H7=>Zz fun (la:Addr) (gK:List V)=>Mz (v = .ref la) (H7 la = some (.lst gK)) (la ≠ B) ((∀ u ∈ gK,Pk ws cm kvs H7 lk u)) ((∀ lx,Ae wv lk = some (.ref lx) -> lx = la)) (A9 H' H7)),⟨_,rfl,W,rfl,.inr ⟨wv,.inl vP⟩,_,rfl,Bm,fun E hE=>?_⟩,?_⟩
   ·have s6:A9 H' (upd H' E (.lst [])):=A9.upd hE
    refine ⟨_,Cv.t (s6 _ _ vP) ((VT.up lt'.2).up (An.of s6)),?_⟩
    cases hv:Ae wv lk with
    | none=>exact ⟨E,[],rfl,A5,(Ad QP hE).symm,(fun u hu=>by cases hu),(fun lx z=>by cases z),s6⟩
    | some v =>
     obtain ⟨la,gK,e2,h0,h1,h2,h3⟩ := tS.1 _ (Bi hv)
     obtain ⟨lc,us3,e3,_,g1,_,g3⟩ := WM.1 _ (Bi hv)
     have e23:V.ref la = V.ref lc:=e2.symm.trans e3
     cases e23
     have e3':v = .ref la:=e3
     exact ⟨la,us3,e3,s6 _ _ g1,Ad h1 hB,(fun u hu=>(g3 u hu).up (An.of s6)),(fun lx z=>by rw [e3'] at z; cases z; rfl),s6⟩
   rintro v H7 ⟨la,gK,rfl,WN,WO,WQ,hlx,s7⟩
   refine ⟨la,rfl,.inl ⟨⟨_,Bg.of WN⟩,?_⟩⟩
   have c7:∀ c cs,H' c = some (.dK cs) -> H7 c = some (.dK cs):=fun c cs e=>s7 _ _ e
   have WR:=eU.keep (LT.of s7) c7
   have lt7:LT H H7:=lt'.trans (LT.of s7)
   refine D3 (K:=K) (a:=la) (xs:=gK) (fun j σ H8=>kd fun (bs:List V) (beta:List (List Int × Int)) (v5 v6 v7:Option V)=>Z1 (σ = [some (.ref D),some (.ref W),some (.ref R),some (.ref B),some (.ref lb),v5,v6,v7]) (Ei kvs H H8) (Cl ws cm H8 kvs) (H8 B = some (.lst bs)) (Ah (Gi H8) beta bs) (Ci H8 kvs + bs.length <= Ci H kvs) (Vd B H8 kvs) ((af kvs H8 H)) ((gj ws cm kvs bG (i + 1) H H8)) ((ie ws cm kvs bG i H8)) ((nc kvs H H8 beta)) (An H7 H8) (H8 la = some (.lst gK)) ((af kvs H8 H7)) (vz H7 gK j H8 kvs))
    ⟨bs,beta,_,_,_,rfl,ch.trans (Ei.of s7),WR,s7 _ _ QP,WI.imp (fun _ _ z=>Gi.up (An.of s7) z),by rw [Ed tY c7]; exact WJ,nb.keep tY c7,(fun k who z=>l1 k who ((Ao.keep eU c7).mp z)),(fun k who z1 z2=>(Ao.keep eU c7).mpr (l2 k who z1 fun later hl=>z2 later (List.take_subset_take_left _ (Nat.le_succ i) hl))),(fun later hl k who z1 z2=>l3 later hl k who z1 ((Ao.keep eU c7).mp z2)),(fun k=>(l4 k).trans ⟨fun z=>⟨z.1,fun who y=>z.2 who ((Ao.keep eU c7).mp y)⟩,fun z=>⟨z.1,fun who y=>z.2 who ((Ao.keep eU c7).mpr y)⟩⟩),(fun _ _ z=>z),WN,(fun k who z=>z),(fun t b who k z=>by rw [List.take_zero] at z; cases z)⟩ (by rintro j σ H8 _ ⟨_,_,_,_,_,_,_,_,_,_,_,_,_,_,_,_,_,e,_⟩; exact Bg.of e) ?_ ?_
   ·rintro j u σ H8 hu2 ⟨sM,iE,v5,v6,v7,rfl,FW,kP,QQ,pB,y0,QR,m1,m2,m3,m4,FX,tZ,m5,m6⟩
    have hpo8:=kP.ok
    obtain ⟨t,b,who,k,rfl,ht7,hb7,⟨v,aK⟩,WS⟩ := WQ u (List.mem_of_getElem? hu2)
    have ht:=FX _ _ ht7
    have hb:=hb7.up FX
    refine ⟨t,_,rfl,Bw.of ht,rfl,_,_,rfl,_,_,rfl,rfl,?_⟩
    have hD8:=FW.keep jZ hD (fun cs z=>nomatch z)
    have bW:=Bi aK
    obtain ⟨c,cs,ev,hc,mB,tR⟩ := kP.1 _ bW
    have ev':v = .ref c:=ev
    subst ev'
    have taken:∀ (HX:Hp),(∀ k' aI,Ao HX kvs k' aI -> Ao H8 kvs k' aI) -> ¬ Ao HX kvs k who -> ∀ t' b' aI k',V.ref t' ∈ gK.take (j + 1) -> H7 t' = some (.tup [.ref b',.int ((aI:Nat):Int)]) -> Ds H7 b' k' -> ¬ Ao HX kvs k' aI:=fun HX xK hx2 t' b' aI k' z1 z2 z3 z4=>by
     rw [List.take_add_one,hu2] at z1
     rcases List.mem_append.mp z1 with y | y
     ·exact m6 t' b' aI k' y z2 z3 (xK _ _ z4)
     ·have e1:t' = t:=by simpa using y
      subst e1
      rw [ht7] at z2
      cases z2
      obtain ⟨u1,f1,f2⟩ := hb7
      obtain ⟨u2,g1,g2⟩ := z3
      rw [f1] at g1
      injection g1 with g1
      injection g1 with g1
      injection g1 with WT JN
      injection JN with JN
      injection WT with WT
      injection JN with JN
      subst WT
      rw [f2] at g2
      have ek:k = k':=by
       have h1:k.1 = k'.1:=by
        have:=Option.some.inj g2
        injection this with this
        exact K1 this
       exact Prod.ext h1 JN
      subst ek
      exact hx2 z4
    refine ⟨_,rfl,_,rfl,D,.ref c,rfl,(by rw [<- aK]; exact Cv.t hD8 hb),?_⟩
    refine ⟨_,rfl,_,rfl,c,_,rfl,Cv.k (k := .inl (who:Int)) hc,_,rfl,_,fun kA=>?_,fun kA=>?_,fun _ _ z=>z⟩
    ·obtain ⟨w',hw⟩ := Option.isSome_iff_exists.mp kA
     have vR:Ao H8 kvs k who:=⟨c,cs,aK,hc,by rw [hw]; rfl⟩
     refine ⟨_,rfl,c,rfl,.inl ⟨cs,.inl hc⟩,_,rfl,cs,.inl (who:Int),w',hc,rfl,hw,?_⟩
     have WU:Ei kvs H8 (upd H8 c (.dK (Bx cs (.inl (who:Int))))):=Ei.pop bW rfl
     have pC:Cl ws cm (upd H8 c (.dK (Bx cs (.inl (who:Int))))) kvs:=kP.pop hc
     have uA:LT H8 (upd H8 c (.dK (Bx cs (.inl (who:Int))))):=LT.dK hc
     have QS:(upd H8 c (.dK (Bx cs (.inl (who:Int))))) c = some (.dK (Bx cs (.inl (who:Int)))):=A5
     have QT:Vd B (upd H8 c (.dK (Bx cs (.inl (who:Int))))) kvs:=QR.pop hc
     have hl9:=(No hc (ah hw) (kvs:=kvs)).2 ⟨_,bW,rfl⟩
     have y4:∀ k' aI,Ao (upd H8 c (.dK (Bx cs (.inl (who:Int))))) kvs k' aI ↔ Ao H8 kvs k' aI /\ ¬ (k' = k /\ aI = who):=fun k' aI=>Ao.pop kP aK hc
     generalize upd H8 c (.dK (Bx cs (.inl (who:Int)))) = H9 at WU pC uA QS QT hl9 y4 ⊢
     have JO:=pC.ok
     have y6:=uA.1 _ _ QQ
     have hb9:=hb.up uA.2
     have n1:∀ k' aI,Ao H9 kvs k' aI -> Ao H kvs k' aI:=fun k' aI z=>m1 _ _ ((y4 k' aI).mp z).1
     have n2:∀ k' aI,Ao H kvs k' aI -> (∀ later ∈ bG.take (i + 1),some later ∉ Bc ws k'.1 cm k'.2 aI) -> Ao H9 kvs k' aI:=fun k' aI z1 z2=>(y4 k' aI).mpr ⟨m2 _ _ z1 z2,fun e=>by
      refine z2 lk ?_ (by rw [e.1,e.2]; exact WS)
      rw [List.take_add_one,tV]
      simp⟩
     have n3:∀ later ∈ bG.take i,∀ k' aI,some later ∈ Bc ws k'.1 cm k'.2 aI -> ¬ Ao H9 kvs k' aI:=fun later hl k' aI z1 z2=>m3 later hl k' aI z1 ((y4 k' aI).mp z2).1
     have n5:∀ k' aI,Ao H9 kvs k' aI -> Ao H8 kvs k' aI:=fun k' aI z=>((y4 k' aI).mp z).1
     have n6:=taken H9 n5 (fun z=>((y4 k who).mp z).2 ⟨rfl,rfl⟩)
     have other:∀ k',k' ≠ k -> ((∀ aI,¬ Ao H9 kvs k' aI) ↔ ∀ aI,¬ Ao H8 kvs k' aI):=fun k' eK=>⟨fun z aI y=>z aI ((y4 k' aI).mpr ⟨y,fun e=>eK e.1⟩),fun z aI y=>z aI (n5 _ _ y)⟩
     have hkb:k ∉ iE:=fun z=>((m4 k).mp z).2 who vR
     refine ⟨_,rfl,c,_,rfl,.inl QS,_,fun he=>?_,fun he=>?_,fun _ _ z=>z⟩
     ·have kQ : Bx cs (.inl (who : Int)) = [] := by
       have:(Bx cs (.inl (who:Int))).isEmpty = true:=by simpa using he
       exact List.isEmpty_iff.mp this
      have JP:∀ aI,¬ Ao H9 kvs k aI:=fun aI z=>by
       obtain ⟨c',iR,g1,g2,g3⟩ := z
       rw [aK] at g1
       cases g1
       rw [QS] at g2
       cases g2
       rw [kQ] at g3
       cases g3
      refine ⟨_,rfl,.inl ⟨rfl,_,Bg.of y6⟩,_,rfl,B,_,_,rfl,rfl,y6,Ce (by omega),?_⟩
      have kR:An H9 (upd H9 B (.lst (sM ++ [.ref b]))):=An.lst y6
      have QU:∀ c' iR,H9 c' = some (.dK iR) -> (upd H9 B (.lst (sM ++ [.ref b]))) c' = some (.dK iR):=fun c' iR e=>by
       rw [Aa (Bn e y6 (by intro z; cases z))]
       exact e
      have kl:∀ x xs,x ≠ B -> H9 x = some (.lst xs) -> (upd H9 B (.lst (sM ++ [.ref b]))) x = some (.lst xs):=fun x xs n e=>(Aa n).trans e
      have kS:∀ k' aI,Ao (upd H9 B (.lst (sM ++ [.ref b]))) kvs k' aI ↔ Ao H9 kvs k' aI:=fun k' aI=>Ao.keep pC QU
      obtain ⟨ub,WV,WW⟩ := hb9
      refine ⟨sM ++ [.ref b],iE ++ [k],_,_,_,rfl,(FW.trans WU).new hB,pC.vI QT kR kl QU,A5,(pB.imp fun _ _ z=>Gi.up kR (Gi.up uA.2 z)).append (Ah.one ⟨b,ub,rfl,kR _ _ WV,kR _ _ WW⟩),?_,QT.keep JO QU,(fun k' aI z=>n1 _ _ ((kS k' aI).mp z)),(fun k' aI z1 z2=>(kS k' aI).mpr (n2 _ _ z1 z2)),(fun later hl k' aI z1 z2=>n3 later hl k' aI z1 ((kS k' aI).mp z2)),(fun k'=>?_),(FX.trans uA.2).trans kR,kl _ _ WO (uA.1 _ _ tZ),(fun k' aI z=>m5 _ _ (n5 _ _ ((kS k' aI).mp z))),(fun t' b' aI k' z1 z2 z3 z4=>n6 t' b' aI k' z1 z2 z3 ((kS k' aI).mp z4))⟩
      ·rw [Ed JO QU,List.length_append,List.length_singleton]
       omega
      ·have e10:(∀ aI,¬ Ao (upd H9 B (.lst (sM ++ [.ref b]))) kvs k' aI) ↔ ∀ aI,¬ Ao H9 kvs k' aI:=⟨fun z aI y=>z aI ((kS k' aI).mpr y),fun z aI y=>z aI ((kS k' aI).mp y)⟩
       rw [e10]
       by_cases eK:k' = k
       ·subst eK
        exact ⟨fun _=>⟨⟨who,m1 _ _ vR⟩,JP⟩,fun _=>by simp⟩
       ·rw [other k' eK,<- m4 k']
        simp [eK]
     ·have bP : Bx cs (.inl (who : Int)) ≠ [] := fun z => by
       rw [z] at he
       exact absurd he (by decide)
      refine ⟨sM,iE,_,_,_,rfl,FW.trans WU,pC,y6,pB.imp (fun _ _ z=>Gi.up uA.2 z),by omega,QT,n1,n2,n3,(fun k'=>?_),FX.trans uA.2,uA.1 _ _ tZ,(fun k' aI z=>m5 _ _ (n5 _ _ z)),n6⟩
      by_cases eK:k' = k
      ·subst eK
       refine ⟨fun z=>absurd z hkb,fun z=>?_⟩
       obtain ⟨x,hx⟩ := List.exists_mem_of_ne_nil _ bP
       obtain ⟨oJ,l9,us9,g1,_⟩ := tR x (Kv hx)
       have hs:(Ae (Bx cs (.inl (who:Int))) (.inl (oJ:Int))).isSome = true:=by
        obtain ⟨y,hy⟩ := K4 (k:=x.1) (v:=x.2) hx
        rw [<- g1,hy]
        rfl
       exact absurd ⟨c,_,aK,QS,hs⟩ (z.2 oJ)
      ·rw [other k' eK]
       exact m4 k'
    ·have mY : ¬ Ao H8 kvs k who := fun z => by
      obtain ⟨c',iR,g1,g2,g3⟩ := z
      rw [aK] at g1
      cases g1
      rw [hc] at g2
      cases g2
      rw [kA] at g3
      cases g3
     exact ⟨sM,iE,_,_,_,rfl,FW,kP,QQ,pB,y0,QR,m1,m2,m3,m4,FX,tZ,m5,taken H8 (fun _ _ z=>z) mY⟩
   rintro σ H8 ⟨sM,iE,v5,v6,v7,rfl,FW,kP,QQ,pB,y0,QR,m1,m2,m3,m4,FX,tZ,m5,m6⟩
   refine ⟨sM,iE,_,_,_,_,rfl,FW,kP,QQ,pB,y0,QR,m1,m2,(fun later hl k who z1 z2=>?_),m4⟩
   rw [List.take_add_one,tV] at hl
   rcases List.mem_append.mp hl with y | y
   ·exact m3 later y k who z1 z2
   ·have e1:later = lk:=by simpa using y
    subst e1
    obtain ⟨lx,ux,tx,bx,f1,f2,f3,f4,f5⟩ := (sI k who later (m1 _ _ z2) z1).up lt7
    have ex:=hlx lx f1
    subst ex
    rw [WN] at f2
    cases f2
    refine m6 tx bx who k ?_ f4 f5 z2
    rw [List.take_length]
    exact f3
  rintro σ H' ⟨bs,beta,v4,v5,v6,v7,rfl,ch,eU,QP,WI,WJ,nb,l1,l2,l3,l4⟩
  unfold gj at l2
  unfold ie at l3
  rw [vQ.1,List.take_length] at l2 l3
  exact ⟨_,rfl,q B bs beta H' hB ch eU QP WI WJ (fun k who=>⟨fun z=>⟨l1 k who z,fun later hl y=>l3 later hl k who y z⟩,fun z=>l2 k who z.1 z.2⟩) l4⟩
def P1 (K:PySem.W.Frag):Sp:=fun vs H Q _=>Wi fun (a:Addr) (ws:List Int) (cm:Option Int)=>Ss (vs = [.ref a]) (B0 H a ws cm) ((∀ w ∈ ws,1 <= w)) (1 <= qv cm) ((∀ w ∈ ws,intBits w <= 256)) (intBits (qv cm) <= 256) (ws.length <= 8) (Bv (qv cm) ws <= 3000) (∀ (T:Addr) (tv:List ((List Int × Int) × V)) (H':Hp),H T = none -> A9 H H' -> H' T = some (.dT tv) -> C8 ws cm tv -> (tv.map (·.1)).Nodup -> tv.length <= 60000 -> Q (.ref T) H')
theorem jq {fd vS pD vT:FuncData} (T:Txt K mg ad aC aA aB) (F:Fn K "ranks" "ranks" Lw ad.cK fd) (y8:Af P w K mg base Bd 6 ad.gQ vS ["hall"] (Zy K)) (y9:Ap K vS ["hall"] []) (pE:Af P w K mg base Bd 1 ad.cW pD ["pending"] (Tm K)) (pF:Ap K pD ["pending"] []) (ya:Af P w K mg base Bd 1 ad.gR vT ["pending","ways","ranked"] (Yk K)) (yb:Ap K vT ["pending","ways","ranked"] []):Af P w K mg base Bd 7 ad.cK fd ["hall"] (P1 K):=by
 refine F.ok Fr (fun vs H Q E h=>?_) (fun aS A outer s H vs Q E hr h=>?_)
 ·rcases h with ⟨a,ws,cm,rfl,ha,cQ,vM,mH,mI,kK,hp,q⟩ <;> rfl
 ·obtain ⟨a,ws,cm,rfl,ha,cQ,vM,mH,mI,kK,hp,q⟩ := h
  refine ⟨_,(A7 (Am (i:=1) Fr.nd rfl (Or.inl rfl) (Ag y8 (hr.mono (by decide)) rfl T.UH T.k_x4 y9 .nil As (A0 (pv 0) A8))) (A7 (Am (i:=2) Fr.nd rfl (Or.inl rfl) (Ag pE (hr.mono (by decide)) rfl T.IG T.k_x30 pF .nil As (A0 (pv 1) A8))) (A7 (Am (i:=3) Fr.nd rfl (Or.inl rfl) Gp) (A7 (Am (i:=4) Fr.nd rfl (Or.inl rfl) Ab) (A7 (Ps (Ee (i:=5) Fr.nd rfl (Hu (pv 1)) _ rfl Ta rfl rfl (fun _ _ _ _=>(De K (n:=2) rfl (Ay (Al (i:=0) Lo rfl (Or.inl rfl)) (Ay (Al (i:=1) Lo rfl (Or.inl rfl)) Dg)))) (fun _ _ _ _=>(Kp (Ey (Ur (pv 1))))) (fun _ _ _ _=>(pv 0)) rfl rfl)) (A7 (Ii PassesOwn.never (Li (pv 5) (by intro _; rfl)) (A7 (D6 PassesOwn.never rfl (E2 (w':=Ra K _) (E3 (pv 5))) (Al (i:=6) Fr.nd rfl (Or.inl rfl)) (Ac (Ie (E8 hr) (pv 3) (pv 6) (pv 4) rfl))) (A7 (Am (i:=5) Fr.nd rfl (Or.inl rfl) (Ag ya (hr.mono (by decide)) rfl T.UI T.k_x0 yb .nil As (A0 (pv 1) (A0 (pv 2) (A0 (pv 5) A8))))) (Ac (Am (i:=4) Fr.nd rfl (Or.inl rfl) (B6 Cy (pv 4) Ab)))))) (Ac (Aq (pv 3))))))))),?_⟩
  refine ⟨_,rfl,a,ws,cm,rfl,ha,cQ,vM,mH,mI,kK,hp,fun D kvs H1 hD s1 eD fI fG pA jI lR=>?_⟩
  have jZ:=fI.ok
  refine ⟨_,rfl,D,kvs,ws,cm,rfl,eD,fI,lR,fun W wv H2 hW s2 eW tS WX FP=>?_⟩
  refine fun T hT=>?_
  have s3:A9 H2 (upd H2 T (.dT [])):=A9.upd hT
  have e3:(upd H2 T (.dT [])) T = some (.dT []):=A5
  generalize upd H2 T (.dT []) = H3 at s3 e3 ⊢
  have FY:=s2.trans s3
  have FZ:=FY _ _ eD
  have hTD:T ≠ D:=(Ad (s2 _ _ eD) hT).symm
  refine ⟨D,.dT kvs,trivial,FZ,_,rfl,D,.dT kvs,rfl,trivial,FZ,fun o=>?_⟩
  have uB:=fI.keep (LT.of FY) (fun c cs e=>FY _ _ e)
  have WY:=uB.ok
  have JQ:=pA.keep fI (fun c cs e=>FY _ _ e)
  have tF:LT H3 (upd H3 D (.bE o (.dT kvs))):=LT.dT FZ
  have kF:∀ c cs,H3 c = some (.dK cs) -> (upd H3 D (.bE o (.dT kvs))) c = some (.dK cs):=fun c cs e=>by
   rw [Aa (Bn e FZ (by intro z; cases z))]
   exact e
  have bF:∀ b ob,b ≠ D -> H3 b = some ob -> (upd H3 D (.bE o (.dT kvs))) b = some ob:=fun b ob n e=>(Aa n).trans e
  have dF:(upd H3 D (.bE o (.dT kvs))) D = some (.bE o (.dT kvs)):=A5
  have uC:=uB.keep tF kF
  have vU:=JQ.keep uB kF
  generalize upd H3 D (.bE o (.dT kvs)) = HF at tF kF bF dF uC vU ⊢
  refine fun R hR=>?_
  refine Ly (K:=K) (d:=D) (o:=o) (u := .dT kvs) (fun i zs H'=>∃ (bG:List (List Int × Int)),Mn (H' R = some (.lst zs)) (zs.length <= i) (Ah (Gi H') bG zs) (A9 HF H') (∀ k,k ∈ bG ↔ ∃ v,(k,v) ∈ kvs.take i /\ Y4 HF v)) ⟨[],A5,Nat.le_refl _,Ah.nil,A9.upd hR,fun k=>⟨(fun z=>by cases z),fun ⟨v,z,_⟩=>by rw [List.take_zero] at z; cases z⟩⟩ (by rintro i zs H' _ ⟨_,_,_,_,s,_⟩; exact s _ _ dF) ?_ ?_ ?_ ?_
  ·rintro i x y T2 zs H' hi hit ⟨bG,vV,nB,dQ,s',JR⟩ JJ
   have hi3:i < 3000:=Nat.lt_of_lt_of_le hi lR
   obtain ⟨kk,bb,aK,rfl,nA⟩ := hit
   obtain ⟨c,cs,ey,hc,mB,tR⟩ := uC.1 _ (List.mem_of_getElem? aK)
   have VI:y = .ref c:=ey
   subst VI
   have s4:A9 H' (upd H' T2 (.tup [.ref bb,.ref c])):=A9.upd JJ
   have e4:(upd H' T2 (.tup [.ref bb,.ref c])) T2 = some (.tup [.ref bb,.ref c]):=A5
   generalize upd H' T2 (.tup [.ref bb,.ref c]) = H4 at s4 e4 ⊢
   have uD:=s4 _ _ vV
   refine ⟨_,rfl,c,cs,rfl,.inl (s4 _ _ (s' _ _ hc)),?_⟩
   obtain ⟨ku,tO,tH⟩ := nA.up (An.of s4)
   refine Hi (fun QV=>?_) (fun QV=>?_)
   ·have kQ : cs = [] := by
     have:cs.isEmpty = true:=by simpa using QV
     exact List.isEmpty_iff.mp this
    subst kQ
    have tt:An H4 (upd H4 R (.lst (zs ++ [.ref bb]))):=An.lst uD
    refine ⟨_,rfl,uD,Ce (by omega),bG ++ [kk],A5,by rw [List.length_append,List.length_singleton]; omega,(dQ.imp fun _ _ z=>Gi.up tt (Gi.up (An.of s4) z)).append (Ah.one ⟨bb,ku,rfl,tt _ _ tO,tt _ _ tH⟩),(s'.trans s4).new hR,fun k=>?_⟩
    rw [List.mem_append,JR,List.mem_singleton,List.take_add_one,aK]
    constructor
    ·rintro (⟨v,z1,z2⟩ | z)
     ·exact ⟨v,List.mem_append_left _ z1,z2⟩
     ·subst z
      exact ⟨.ref c,by simp,c,rfl,hc⟩
    ·rintro ⟨v,z1,z2⟩
     rcases List.mem_append.mp z1 with y | y
     ·exact .inl ⟨v,y,z2⟩
     ·have e1:(k,v) = (kk,.ref c):=by simpa using y
      cases e1
      exact .inr rfl
   ·have bP : cs ≠ [] := fun z => by
     rw [z] at QV
     exact absurd QV (by decide)
    refine ⟨bG,uD,by omega,dQ.imp fun _ _ z=>Gi.up (An.of s4) z,s'.trans s4,fun k=>?_⟩
    rw [JR,List.take_add_one,aK]
    constructor
    ·rintro ⟨v,z1,z2⟩
     exact ⟨v,List.mem_append_left _ z1,z2⟩
    ·rintro ⟨v,z1,z2⟩
     rcases List.mem_append.mp z1 with y | y
     ·exact ⟨v,y,z2⟩
     ·have e1:(k,v) = (kk,.ref c):=by simpa using y
      cases e1
      obtain ⟨c',e2,e3⟩ := z2
      cases e2
      rw [hc] at e3
      cases e3
      exact absurd rfl bP
  ·rintro σ H1 Q1 Q2 hQ ⟨v,e1,c,cs,e2,r,z⟩
   exact ⟨v,e1,c,cs,e2,r,hQ _ _ z⟩
  ·rintro σ H1 Q1 Q2 hQ ⟨v,e1,z⟩
   exact ⟨v,e1,hQ _ _ z⟩
  rintro zs HG ⟨yc,JS,nB,dQ,sG,vW⟩
  rw [show kvs.take (Da (.dT kvs)) = kvs from List.take_length] at vW
  have yd:=Fy.start uC fG vU vW
  have uE:=sG _ _ dF
  have WH:Da (.dT kvs) <= 3000:=lR
  have tG:LT HG (upd HG D (.dT kvs)):=⟨fun b xs e=>by rw [Aa (Bn e uE (by intro z; cases z))]; exact e,fun b xs e=>by rw [Aa (Bn e uE (by intro z; cases z))]; exact e⟩
  have jQ:A9 H3 (upd HG D (.dT kvs)):=fun b ob e=>by
   by_cases z:b = D
   ·subst z
    rw [FZ] at e
    cases e
    exact A5
   ·exact (Aa z).trans (sG _ _ (bF b ob z e))
  refine ⟨o,uE,?_⟩
  have uD:=tG.1 _ _ JS
  have mO:Ah (Gi (upd HG D (.dT kvs))) yc zs:=dQ.imp fun _ _ z=>Gi.up tG.2 z
  have cG:∀ c cs,HF c = some (.dK cs) -> (upd HG D (.dT kvs)) c = some (.dK cs):=fun c cs e=>by
   rw [Aa (Bn (sG _ _ e) uE (by intro z; cases z))]
   exact sG _ _ e
  have hR3:H3 R = none:=by
   cases hx:H3 R with
   | none=>rfl
   | some ob =>
    by_cases z:R = D
    ·rw [z,dF] at hR
     cases hR
    ·rw [bF R ob z hx] at hR
     cases hR
  generalize upd HG D (.dT kvs) = H4 at tG jQ uD mO cG ⊢
  clear tG JS dQ sG uE
  have JT:=uB.keep (LT.of jQ) (fun c cs e=>jQ _ _ e)
  have ye:=JT.ok
  have WZ:Fy ws cm [] yc 1 (Ao H4 kvs):=by
   have e:Ao H4 kvs = Ao HF kvs:=by
    funext k who
    exact propext (Ao.keep uC cG)
   rw [e]
   exact yd
  have XA:∀ k who later,Ao H4 kvs k who -> some later ∈ Bc ws k.1 cm k.2 who -> Cm H4 wv later k who:=fun k who later z1 z2=>((WX k who later ((Ao.keep fI (fun c cs e=>jQ _ _ (FY _ _ e))).mp z1) z2).up (LT.of s3)).up (LT.of jQ)
  have eD4:=jQ _ _ FZ
  have eW4:=jQ _ _ (s3 _ _ eW)
  have XB:=jQ _ _ e3
  have XC:=tS.up ((LT.of s3).trans (LT.of jQ)) (Nat.le_refl _)
  have hl4:Ci H4 kvs <= 24000:=by
   have:=Lr ye
   omega
  have hTv:∀ kv ∈ kvs,kv.2 ≠ .ref T:=fun kv aK z=>by
   obtain ⟨c,cs,e1,e2,_⟩ := WY kv aK
   rw [z] at e1
   cases e1
   rw [e3] at e2
   cases e2
  dsimp only
  refine Ic (fun σ' H'=>mw fun (R:Addr) (rs:List V) (bG:List (List Int × Int)) (tv:List ((List Int × Int) × V)) (rank:Int) (v6:Option V)=>Ol (σ' = [some (.ref a),some (.ref D),some (.ref W),some (.ref T),some (.int rank),some (.ref R),v6]) ((va T kvs H4 H')) (Cl ws cm H' kvs) (H' T = some (.dT tv)) ((tv.map (·.1)).Nodup) (H' R = some (.lst rs)) (Ah (Gi H') bG rs) (Fy ws cm tv bG rank (Ao H' kvs)) ((af kvs H' H4)) (tv.length + rs.length + Ci H' kvs <= 27000))
   (fun σ' H'=>2 * Ci H' kvs + match σ' with
    | [_,_,_,_,_,some (.ref R),_]=>(match H' R with
     | some (.lst [])=>0
     | _=>1)
    | _=>0) ⟨R,zs,yc,[],1,_,rfl,(fun b ob _ e _=>e),JT,XB,List.Pairwise.nil,uD,mO,WZ,(fun _ _ z=>z),by show 0 + zs.length + _ <= _; omega⟩ ?_ ?_
  ·rintro σ' H' ⟨R,rs,bG,tv,rank,v6,rfl,kp,eU,sO,htv,vV,vQ,JU,tE,hsum⟩
   have tY:=eU.ok
   refine ⟨_,rfl,_,.inl ⟨_,Bg.of vV,rfl⟩,?_⟩
   have jO:=kp D _ hTD.symm eD4 (fun kv aK z=>by
    obtain ⟨c,cs,e1,e2,_⟩ := ye kv aK
    rw [z] at e1
    cases e1
    rw [eD4] at e2
    cases e2)
   refine Hi (fun bP=>?_) (fun kQ=>?_)
   ·have XD : 0 < rs.length := by
     cases rs with
     | nil=>exact absurd bP (by decide)
     | cons x xs=>simp
    have hRT:R ≠ T:=Bn vV sO (by intro z; cases z)
    have mu0:(match H' R with
     | some (.lst [])=>0
     | _=>1) = 1:=by
     rw [vV]
     cases rs with
     | nil=>exact absurd XD (by decide)
     | cons x xs=>rfl
    refine ⟨_,rfl,R,rfl,.inl ⟨⟨_,Bg.of vV⟩,?_⟩⟩
    refine D3 (K:=K) (a:=R) (xs:=rs) (fun i σ H5=>Zz fun (pG:List ((List Int × Int) × V)) (v6:Option V)=>X7 (σ = [some (.ref a),some (.ref D),some (.ref W),some (.ref T),some (.int rank),some (.ref R),v6]) ((∀ b,b ≠ T -> H5 b = H' b)) (H5 T = some (.dT pG)) ((pG.map (·.1)).Nodup) ((∀ kv ∈ pG,∃ n:Int,kv.2 = .int n /\ 1 <= n /\ n < rank + 1)) ((∀ k,Ae pG k = if k ∈ bG.take i then some (.int rank) else Ae tv k)) (pG.length <= tv.length + i))
     ⟨tv,_,rfl,(fun _ _=>rfl),sO,htv,(fun kv aK=>by obtain ⟨n,e1,e2,e3⟩ := JU.2.1 kv aK; exact ⟨n,e1,e2,by omega⟩),(fun k=>by rw [List.take_zero,if_neg (by simp)]),Nat.le_refl _⟩ (by rintro i σ H5 _ ⟨_,_,_,e,_⟩; exact Bg.of ((e R hRT).trans vV)) ?_ ?_
    ·rintro i u σ H5 hu ⟨pG,v6,rfl,k5,XE,yf,yg,uF,hl5⟩
     have hi:=(List.getElem?_eq_some_iff.mp hu).1
     obtain ⟨k,JV,b,u1,rfl,mH,mI⟩ := vQ.get hu
     have hbk:Ds H5 b k:=⟨u1,(k5 b (Bn mH sO (by intro z; cases z))).trans mH,(k5 u1 (Bn mI sO (by intro z; cases z))).trans mI⟩
     refine ⟨_,rfl,_,rfl,_,rfl,T,_,rfl,Lk.t XE hbk (Ce (by omega)),?_⟩
     refine ⟨Bl pG k (.int rank),_,rfl,(fun x n=>(Aa n).trans (k5 x n)),A5,gv yf,S8 (P:=fun v=>∃ n:Int,v = .int n /\ 1 <= n /\ n < rank + 1) yg ⟨rank,rfl,JU.1,by omega⟩,(fun k'=>?_),Nat.le_trans (Cp _ _ _) (by omega)⟩
     rw [Ec,uF,List.take_add_one,JV]
     by_cases z:k' = k
     ·rw [if_pos z,if_pos (by rw [z]; simp)]
     ·rw [if_neg z]
      have e:(k' ∈ bG.take i ++ (some k).toList) ↔ k' ∈ bG.take i:=by simp [z]
      by_cases y:k' ∈ bG.take i
      ·rw [if_pos y,if_pos (e.mpr y)]
      ·rw [if_neg y,if_neg (fun x=>y (e.mp x))]
    rintro σ H5 ⟨pG,v65,rfl,k5,XE,yf,yg,uF,hl5⟩
    rw [vQ.1,List.take_length] at uF
    have c5:∀ c cs,H' c = some (.dK cs) -> H5 c = some (.dK cs):=fun c cs e=>(k5 c (Bn e sO (by intro z; cases z))).trans e
    have t5:LT H' H5:=⟨fun b xs e=>(k5 b (Bn e sO (by intro z; cases z))).trans e,fun b xs e=>(k5 b (Bn e sO (by intro z; cases z))).trans e⟩
    have JW:=eU.keep t5 c5
    have kL:=JW.ok
    have QW:∀ k who,Ao H5 kvs k who ↔ Ao H' kvs k who:=fun k who=>Ao.keep eU c5
    have XF:Ao H5 kvs = Ao H' kvs:=by
     funext k who
     exact propext (QW k who)
    have hl5e:=Ed tY c5
    have kp5:∀ b ob,b ≠ T -> H4 b = some ob -> (∀ kv ∈ kvs,kv.2 ≠ .ref b) -> H5 b = some ob:=fun b ob n e m=>(k5 b n).trans (kp b ob n e m)
    have pH:∀ b ob,b ≠ T -> H4 b = some ob -> (∀ cs,ob ≠ .dK cs) -> H5 b = some ob:=fun b ob n e m=>kp5 b ob n e fun kv aK z=>by
     obtain ⟨c,cs,e1,e2,_⟩ := ye kv aK
     rw [z] at e1
     cases e1
     rw [e] at e2
     exact m cs (Option.some.inj e2)
    have hWT:W ≠ T:=Ad eW hT
    have t45:LT H4 H5:=⟨fun b xs e=>pH b _ (Bn e XB (by intro z; cases z)) e (fun cs z=>nomatch z),fun b xs e=>pH b _ (Bn e XB (by intro z; cases z)) e (fun cs z=>nomatch z)⟩
    refine ⟨_,rfl,_,rfl,_,rfl,D,W,R,kvs,wv,rs,bG,H1,ws,cm,rfl,(k5 D hTD.symm).trans jO,JW,pH W _ hWT eW4 (fun cs z=>nomatch z),XC.up t45 (Nat.le_refl _),(fun k who later z1 z2=>(XA k who later (tE k who ((QW k who).mp z1)) z2).up t45),(k5 R hRT).trans vV,vQ.imp (fun _ _ z=>Gi.up t5.2 z),Nat.le_trans (Lr kL) (by omega),fun B bs beta H6 hB ch6 XG hB6 XH JX JY XI=>?_⟩
    have XJ:Fy ws cm pG beta (rank + 1) (Ao H6 kvs):=Fy.step JU uF yg (fun k who=>by rw [JY,QW]) (fun k=>by rw [XI,XF])
    have hT6:H6 T = some (.dT pG):=ch6 T _ XE hTv
    refine ⟨_,rfl,_,_,rfl,rfl,⟨B,bs,beta,pG,rank + 1,_,rfl,(fun b ob n e m=>ch6 b ob (kp5 b ob n e m) m),XG,hT6,yf,hB6,XH,XJ,(fun k who z=>tE k who ((QW k who).mp ((JY k who).mp z).1)),by omega⟩,?_⟩
    show 2 * Ci H6 kvs + (match H6 B with
     | some (.lst [])=>0
     | _=>1) < 2 * Ci H' kvs + (match H' R with
     | some (.lst [])=>0
     | _=>1)
    rw [mu0,hB6]
    cases bs with
    | nil =>
     show 2 * Ci H6 kvs + 0 < _
     have:Ci H6 kvs + 0 <= Ci H5 kvs:=JX
     omega
    | cons x xs =>
     show 2 * Ci H6 kvs + 1 < _
     rw [List.length_cons] at JX
     omega
   ·have XM : rs = [] := by
     cases rs with
     | nil=>rfl
     | cons x xs=>exact absurd rfl kQ
    have JZ:bG = []:=by
     have:=vQ.1
     rw [XM] at this
     exact List.length_eq_zero_iff.mp this.symm
    rw [JZ] at JU
    refine ⟨_,rfl,q T tv H' (s1.free (s2.free hT)) (fun b ob e=>?_) sO JU.done htv (by omega)⟩
    have e4:=jQ _ _ (FY _ _ (s1 _ _ e))
    refine kp b ob (fun z=>?_) e4 (fun kv aK z=>?_)
    ·have:=s1.free (s2.free hT)
     rw [z,this] at e
     cases e
    ·rw [jI kv aK b z] at e
     cases e
  ·intro σ H0 Q1 Q2 z h1
   obtain ⟨_,e,k,t,h2⟩ := h1
   exact ⟨_,e,k,t,z _ _ h2⟩
def Ox (K:PySem.W.Frag):Sp:=fun vs H Q _=>Yo fun (TB:Addr) (v:V) (o:Option (List Int × Int)) (tv:List ((List Int × Int) × V))=>Mn (vs = [.ref TB,v]) (H TB = some (.dT tv)) (Ex H o v) (So tv) (∀ (p:Addr) (H':Hp),A9 H H' -> H' p = some (.tup [.int (told tv o).1,.int (told tv o).2]) -> Q (.ref p) H')
theorem ir {fd  : FuncData} (T:Txt K mg ad aC aA aB) (F:Fn K "worth" "worth" Nn ad.cL fd):Af P w K mg base Bd 1 ad.cL fd ["table","behind"] (Ox K):=by
 refine F.ok iz (fun vs H Q E h=>?_) (fun aS A outer s H vs Q E hr h=>?_)
 ·rcases h with ⟨TB,v,o,tv,rfl,hT,hv,iG,q⟩ <;> rfl
 ·obtain ⟨TB,v,o,tv,rfl,hT,hv,iG,q⟩ := h
  refine ⟨_,(A7 (D1 (Bk Pp (pv 1) Dj (Bh _)) (Ac (Aq (C4 (A0 Ab (A0 Ab A8))))) Bb) (A7 (D1 (Iz (Su (E8 hr) (pv 1) (pv 0)) rfl) (Ac (Aq (C4 (A0 Ab (A0 (Dq (E8 hr) (pv 0) (pv 1) (fun _ _=>rfl)) A8))))) Bb) (Ac (Aq (C4 (A0 Ab (A0 Ab A8))))))),?_⟩
  cases o with
  | none =>
   have ev:v = .aR:=hv
   subst ev
   exact ⟨_,rfl,rfl,_,rfl,Nh rfl ⟨Bm,fun p hp=>q p _ (A9.upd hp) A5⟩⟩
  | some k =>
   obtain ⟨p,ev,bQ⟩ := hv
   subst ev
   refine ⟨_,rfl,rfl,_,rfl,Ek rfl ?_⟩
   refine ⟨_,rfl,_,rfl,TB,_,rfl,Cv.t hT (show Ds H p k from bQ),_,rfl,Hi (fun hn=>?_) (fun hn=>?_)⟩
   ·obtain ⟨v,hv⟩ := Option.isSome_iff_exists.mp hn
    obtain ⟨m,e⟩ := iG k v hv
    subst e
    have dg:Cv H TB (.ref p) (some (.int m)):=by
     rw [<- hv]
     exact Cv.t hT bQ
    refine ⟨_,rfl,_,rfl,TB,_,rfl,dg,Bm,fun p2 xD=>q p2 _ (A9.upd xD) ?_⟩
    have e:told tv (some k) = (0,m):=by
     show Of (Ae tv k) = _
     rw [hv]
     rfl
    rw [e]
    exact A5
   ·refine ⟨Bm,fun p2 xD=>q p2 _ (A9.upd xD) ?_⟩
    have e:told tv (some k) = (1,0):=by
     show Of (Ae tv k) = _
     cases hv:Ae tv k with
     | none=>rfl
     | some v=>rw [hv] at hn; exact absurd rfl hn
    rw [e]
    exact A5
def Sy (K:PySem.W.Frag):Sp:=fun vs H Q _=>Yi fun (a TB b:Addr) (ws ls:List Int) (cm:Option Int) (q w:Int) (who:Nat) (tv:List ((List Int × Int) × V))=>Qw (vs = [.ref a,.ref TB,.ref b,.int w]) (w = (who:Int)) (B0 H a ws cm) (Cg H b ls q) (H TB = some (.dT tv)) (So tv) (who < ws.length) (ls.length = ws.length) (ws.length <= 8) ((∀ x ∈ ws,1 <= x)) (∀ (p:Addr) (H':Hp),A9 H H' -> H' p = some (.tup [.int (Ki tv ws ls cm q who).1,.int (Ki tv ws ls cm q who).2]) -> Q (.ref p) H')
theorem g0 {fd fV fU:FuncData} (T:Txt K mg ad aC aA aB) (F:Fn K "call_worth" "call_worth" M9 ad.cX fd) (fW:Af P w K mg base Bd 1 ad.cL fV ["table","behind"] (Ox K)) (fX:Ap K fV ["table","behind"] []) (iC:Af P w K mg base Bd 5 ad.cH fU ["hall","standing","who"] (P8 K)) (iD:Ap K fU ["hall","standing","who"] []):Af P w K mg base Bd 6 ad.cX fd ["hall","table","standing","who"] (Sy K):=by
 refine F.ok il (fun vs H Q E h=>?_) (fun aS A outer s H vs Q E hr h=>?_)
 ·rcases h with ⟨a,TB,b,ws,ls,cm,n,w0,who,tv,rfl,rfl,ha,hb,hT,iG,hw,hl,h8,cQ,q⟩ <;> rfl
 ·obtain ⟨a,TB,b,ws,ls,cm,n,w0,who,tv,rfl,rfl,ha,hb,hT,iG,hw,hl,h8,cQ,q⟩ := h
  refine ⟨_,(Ac (Aq (Bf (Ws K hr rfl) (by rfl) T.vF boot_min (A0 (En (E2 (w':=Ra K _) (E3 (Ag iC (hr.mono (by decide)) rfl T.vB T.k_x18 iD .nil As (A0 (pv 0) (A0 (pv 2) (A0 (pv 3) A8)))))) _ rfl K5 rfl rfl (fun _ _ _ _=>(Al (i:=0) Kf rfl (Or.inl rfl))) (fun _ _ _ _=>E6) (fun _ _ _ _=>(Ag fW (hr.mono (by decide)) rfl T.nY T.k_x34 fX .nil As (A0 (pv 1) (A0 (pv 0) A8))))) A8)))),?_⟩
  have QJ:(Bc ws ls cm n who).length <= 2:=by
   unfold Bc
   split <;> simp
  refine ⟨_,rfl,_,rfl,_,rfl,a,b,ws,ls,cm,n,_,who,rfl,rfl,ha,hb,hw,hl,h8,fun l us H1 tQ s1 el lT=>⟨l,rfl,.inl ⟨⟨_,Bg.of el⟩,fun W hW=>?_⟩⟩⟩
  have GA:=lT.1
  refine W0 (K:=K) (a:=l) (xs:=us) (fun i zs H'=>zs.length = i /\ Tl H' (fun j=>told tv ((Bc ws ls cm n who).getD j none)) zs /\ H' W = some (.lst zs) /\ A9 H1 H') ⟨rfl,(fun j u h=>by simp at h),A5,A9.upd hW⟩ (by rintro i zs H' _ ⟨_,_,_,s⟩; exact Bg.of (s _ _ el)) ?_ ?_
  ·rintro i y zs H' hy ⟨nB,dQ,vP,s'⟩ Qe hQ
   obtain ⟨o,ho,hyo⟩ := lT.get hy
   have hi:=(List.getElem?_eq_some_iff.mp hy).1
   refine ⟨_,rfl,_,rfl,TB,y,o,tv,rfl,(s1.trans s') _ _ hT,hyo.up (An.of s'),iG,fun p H2 s2 e2=>?_⟩
   have QX:=s2 _ _ vP
   have tt:An H2 (upd H2 W (.lst (zs ++ [.ref p]))):=An.lst QX
   refine hQ _ _ QX (Bj (by omega)) ⟨by rw [List.length_append,List.length_singleton]; omega,dQ.snoc ((An.of s2).trans tt) nB (tt _ _ ?_),A5,(s'.trans s2).new hW⟩
   have eo:(Bc ws ls cm n who).getD i none = o:=by rw [List.getD_eq_getElem?_getD,ho]; rfl
   show H2 p = some (.tup [.int (told tv ((Bc ws ls cm n who).getD i none)).1,.int (told tv ((Bc ws ls cm n who).getD i none)).2])
   rw [eo]
   exact e2
  rintro zs H2 ⟨nB,dQ,QX,s2⟩
  have XN:zs.length = (Bc ws ls cm n who).length:=by omega
  have cR:=s1.trans s2
  have mH:0 < (Bc ws ls cm n who).length:=by
   unfold Bc
   simp
  refine ⟨W,_,_,rfl,Bg.of QX,dQ.rp XN,by omega,Vc _ _,Vg _ _,fun v hv=>?_⟩
  obtain ⟨p,e1,e2⟩ := dQ _ v hv
  subst e1
  refine q p H2 cR ?_
  rw [e2]
  have key:told tv ((Bc ws ls cm n who).getD (Km ((List.range (Bc ws ls cm n who).length).map fun i=>wd (told tv ((Bc ws ls cm n who).getD i none)))) none) = Ki tv ws ls cm n who:=by
   by_cases hm:Dl cm n = true
   ·have eb : Bc ws ls cm n who = [D0 ws ls cm n who false, D0 ws ls cm n who true] := by
     unfold Bc
     rw [if_pos hm]
    rw [eb]
    unfold Ki ik
    rw [if_pos hm]
    have el2:Km ((List.range [D0 ws ls cm n who false,D0 ws ls cm n who true].length).map fun i=>wd (told tv ([D0 ws ls cm n who false,D0 ws ls cm n who true].getD i none))) = if Fm (told tv (D0 ws ls cm n who false)) (told tv (D0 ws ls cm n who true)) = true then 1 else 0:=by
     rw [<- Y7]
     unfold Km
     rw [show ((List.range [D0 ws ls cm n who false,D0 ws ls cm n who true].length).map fun i=>wd (told tv ([D0 ws ls cm n who false,D0 ws ls cm n who true].getD i none))).length - 1 = 0 + 1 from rfl,E9]
     rfl
    rw [el2]
    by_cases y:Fm (told tv (D0 ws ls cm n who false)) (told tv (D0 ws ls cm n who true)) = true
    ·rw [if_pos y,if_pos y]
     rfl
    ·rw [if_neg y,if_neg y]
     rfl
   ·have eb : Bc ws ls cm n who = [D0 ws ls cm n who false] := by
     unfold Bc
     rw [if_neg hm]
    rw [eb]
    unfold Ki
    rw [if_neg hm]
    rfl
  rw [<- key]
def Uk (K:PySem.W.Frag):Sp:=fun vs H Q _=>cr fun (a TB b:Addr) (ws ls:List Int) (cm:Option Int) (q:Int) (tv:List ((List Int × Int) × V))=>Ol (vs = [.ref a,.ref TB,.ref b]) (B0 H a ws cm) (Cg H b ls q) (H TB = some (.dT tv)) (So tv) (0 < ws.length) (ls.length = ws.length) (ws.length <= 8) ((∀ x ∈ ws,1 <= x)) (∀ (j:Nat) (H':Hp),A9 H H' -> O4 (fun i=>Ki tv ws ls cm q i) ws.length j -> Q (.int (j:Int)) H')
theorem f8 {fd pI:FuncData} (T:Txt K mg ad aC aA aB) (F:Fn K "best_call" "best_call" Me ad.cY fd) (pJ:Af P w K mg base Bd 6 ad.cX pI ["hall","table","standing","who"] (Sy K)) (pK:Ap K pI ["hall","table","standing","who"] []):Af P w K mg base Bd 7 ad.cY fd ["hall","table","standing"] (Uk K):=by
 refine F.ok Yr (fun vs H Q E h=>?_) (fun aS A outer s H vs Q E hr h=>?_)
 ·rcases h with ⟨a,TB,b,ws,ls,cm,n,tv,rfl,ha,hb,hT,iG,FU,hl,h8,cQ,q⟩ <;> rfl
 ·obtain ⟨a,TB,b,ws,ls,cm,n,tv,rfl,ha,hb,hT,iG,FU,hl,h8,cQ,q⟩ := h
  refine ⟨_,(A7 (Ee (i:=3) Yr.nd rfl (F4 (by rfl) T.cP (A0 (Bf (Bz K) (by rfl) T.bN PySem.boot_len (A0 (Ba (B9 K) (pv 0) Ab (fun _ _=>rfl)) A8)) A8)) _ rfl Mm rfl rfl (fun _ _ _ _=>(Al (i:=0) Lc rfl (Or.inl rfl))) (fun _ _ _ _=>E6) (fun _ _ _ _=>(Ag pJ (hr.mono (by decide)) rfl T.IH T.k_x19 pK .nil As (A0 (pv 1) (A0 (pv 2) (A0 (pv 3) (A0 (pv 0) A8)))))) rfl rfl) (Ac (Aq (F7 (u':=X0 K _ _ _ _) (G3 PySem.F.plainAttrs_list PySem.F.slot_list_index PySem.F.type_list_index (W5 hr) (pv 3) (A0 (Bf (W7 K hr rfl) (by rfl) T.vE boot_max (A0 (pv 3) A8)) A8)))))),?_⟩
  obtain ⟨wt,dR,eM⟩ := id ha
  refine ⟨_,rfl,a,_,_,_,rfl,rfl,.inr (Bw.of dR),rfl,wt,_,rfl,.inr (Bw.of eM),_,rfl,by omega,by rw [List.length_map]; omega,fun D hD=>?_⟩
  refine Fu (cnt:=((ws.map V.int).length:Int).toNat) (fun j ys H'=>ys.length = j /\ Tl H' (fun i=>Ki tv ws ls cm n i) ys /\ H' D = some (.lst ys) /\ A9 H H') ⟨rfl,(fun i u h=>by simp at h),A5,A9.upd hD⟩ ?_ ?_
  ·rintro j ys H5 hj ⟨vX,nC,iT,s5⟩ Qe hQ
   rw [List.length_map] at hj
   have vJ:j < ws.length:=by omega
   refine ⟨_,rfl,_,rfl,_,rfl,_,rfl,a,TB,b,ws,ls,cm,n,_,j,tv,rfl,Int.zero_add _,ha.same s5,hb.same s5,s5 _ _ hT,iG,vJ,hl,h8,cQ,fun p2 H6 s6 e6=>?_⟩
   have sQ:=s6 _ _ iT
   have tt:An H6 (upd H6 D (.lst (ys ++ [.ref p2]))):=An.lst sQ
   exact hQ _ _ sQ (Bj (by omega)) ⟨by rw [List.length_append,List.length_singleton]; omega,nC.snoc ((An.of s6).trans tt) vX (tt _ _ e6),A5,(s5.trans s6).new hD⟩
  rintro ys H5 ⟨vX,nC,iT,s5⟩
  have KA:ys.length = ws.length:=by
   rw [vX,List.length_map]
   omega
  refine ⟨_,rfl,.inl ⟨rfl,_,Bg.of iT⟩,_,rfl,D,_,_,rfl,Bg.of iT,nC.rp KA,by omega,Vc _ _,Vg _ _,fun vb nQ=>?_⟩
  obtain ⟨pb,eb1,eb2⟩ := nC _ vb nQ
  subst eb1
  obtain ⟨j,j1,j2,j3⟩ := least (Pr:=fun m=>Ki tv ws ls cm n m = Ki tv ws ls cm n (Dr ((List.range ws.length).map fun i=>wd (Ki tv ws ls cm n i)))) _ rfl
  have hbi:O4 (fun i=>Ki tv ws ls cm n i) ws.length j:=O4.of FU j1 j2 j3
  refine ⟨D,ys,_,wd (Ki tv ws ls cm n (Dr ((List.range ws.length).map fun i=>wd (Ki tv ws ls cm n i)))),_,j,rfl,rfl,Bg.of iT,Vb eb2,nC.rp KA,Kx _,⟨_,cc _ hbi.1,by rw [Zi]; exact decide_eq_true j2⟩,(fun m e hm he=>by rw [Ys he,Zi]; exact decide_eq_false (j3 m hm)),?_⟩
  exact q j H5 s5 hbi
def Sl (K:PySem.W.Frag):Sp:=fun vs H Q _=>Yi fun (a TB b:Addr) (ws ls:List Int) (cm:Option Int) (q w:Int) (who:Nat) (tv:List ((List Int × Int) × V))=>Ol (vs = [.ref a,.ref TB,.ref b,.int w]) (w = (who:Int)) (B0 H a ws cm) (Cg H b ls q) (H TB = some (.dT tv)) (So tv) (who < ws.length) (ls.length = ws.length) (ws.length <= 8) (∀ (H':Hp),A9 H H' -> Q (.bl (Bt tv ws ls cm q who)) H')
theorem jb {fd fV aQ bI:FuncData} (T:Txt K mg ad aC aA aB) (F:Fn K "worst_answer" "worst_answer" O2 ad.cZ fd) (fW:Af P w K mg base Bd 1 ad.cL fV ["table","behind"] (Ox K)) (fX:Ap K fV ["table","behind"] []) (bC:Af P w K mg base Bd 4 ad.bH aQ ["hall","standing","who","lost"] (Hj K)) (bJ:Ap K aQ ["hall","standing","who","lost"] []) (aM:Ap K aQ ["hall","standing","who","lost"] [Value.bool false]) (bZ:Af P w K mg base Bd 1 ad.bS bI ["hall","standing"] (J1 K)) (cA:Ap K bI ["hall","standing"] []):Af P w K mg base Bd 5 ad.cZ fd ["hall","table","standing","who"] (Sl K):=by
 refine F.ok Zm (fun vs H Q E h=>?_) (fun aS A outer s H vs Q E hr h=>?_)
 ·rcases h with ⟨a,TB,b,ws,ls,cm,n,w0,who,tv,rfl,rfl,ha,hb,hT,iG,hw,hl,h8,q⟩ <;> rfl
 ·obtain ⟨a,TB,b,ws,ls,cm,n,w0,who,tv,rfl,rfl,ha,hb,hT,iG,hw,hl,h8,q⟩ := h
  refine ⟨_,(A7 (Am (i:=4) Zm.nd rfl (Or.inl rfl) (Ag fW (hr.mono (by decide)) rfl T.nY T.k_x34 fX .nil As (A0 (pv 1) (A0 (U1 (Ag bC (hr.mono (by decide)) rfl T.fS T.k_x32 aM (Io) As (A0 (pv 0) (A0 (pv 2) (A0 (pv 3) A8))))) A8)))) (A7 (D1 (Ey (Dz (Ag bZ (hr.mono (by decide)) rfl T.lN T.k_x25 cA .nil As (A0 (pv 0) (A0 (pv 2) A8))))) (Ac (Aq Ia)) Bb) (Ac (Aq (E5 (fw hr) (Ag fW (hr.mono (by decide)) rfl T.nY T.k_x34 fX .nil As (A0 (pv 1) (A0 (U1 (Ag bC (hr.mono (by decide)) rfl T.fS T.k_x32 bJ .nil As (A0 (pv 0) (A0 (pv 2) (A0 (pv 3) (A0 Ia A8)))))) A8))) (pv 4) (Bh _)))))),?_⟩
  refine ⟨_,rfl,(fun v H9=>Ex H9 (D0 ws ls cm n who false) v /\ A9 H H9),⟨_,rfl,_,rfl,_,rfl,a,b,ws,ls,cm,n,who,false,rfl,ha,hb,hw,hl,h8,(fun z=>nomatch z),(fun hz H2 s2=>⟨by unfold D0; rw [if_pos hz]; rfl,s2⟩),fun hz p H2 s2 bQ=>⟨by unfold D0; rw [if_neg hz]; exact ⟨p,rfl,bQ⟩,s2⟩⟩,?_⟩
  rintro v H1 ⟨hv,s1⟩
  refine ⟨TB,v,_,tv,rfl,s1 _ _ hT,hv,iG,fun p1 H2 s2 e2=>?_⟩
  have cR:=s1.trans s2
  refine ⟨_,rfl,_,rfl,a,b,ws,ls,cm,n,rfl,ha.same cR,hb.same cR,_,rfl,?_⟩
  have em:(!decide (cm = none) && decide (n = 0)) = Dl cm n:=rfl
  rw [em]
  refine Hi (fun hm=>?_) (fun hm=>?_)
  ·have dX:Dl cm n = false:=by simpa using hm
   have e:Bt tv ws ls cm n who = false:=by
    unfold Bt
    rw [dX]
    rfl
   rw [<- e]
   exact q H2 cR
  ·have dX:Dl cm n = true:=by simpa using hm
   have gX:My cm n true:=fun _=>by
    unfold Dl at dX
    simp only [Bool.and_eq_true,Bool.not_eq_true',decide_eq_false_iff_not,decide_eq_true_eq] at dX
    exact dX
   refine ⟨_,rfl,(fun v H9=>Ex H9 (D0 ws ls cm n who true) v /\ A9 H2 H9),⟨_,rfl,_,rfl,_,rfl,a,b,ws,ls,cm,n,who,true,rfl,ha.same cR,hb.same cR,hw,hl,h8,gX,(fun hz H2 s2=>⟨by unfold D0; rw [if_pos hz]; rfl,s2⟩),fun hz p H2 s2 bQ=>⟨by unfold D0; rw [if_neg hz]; exact ⟨p,rfl,bQ⟩,s2⟩⟩,?_⟩
   rintro v3 H3 ⟨hv3,s3⟩
   refine ⟨TB,v3,_,tv,rfl,s3 _ _ (cR _ _ hT),hv3,iG,fun p4 H4 s4 e4=>?_⟩
   have jQ:=s3.trans s4
   refine ⟨_,rfl,wd (told tv (D0 ws ls cm n who true)),wd (told tv (D0 ws ls cm n who false)),Vb e4,Vb (jQ _ _ e2),Zw _ _,Nat.le_trans (Kx _) (by decide),?_⟩
   rw [Y7]
   have e:Bt tv ws ls cm n who = Fm (told tv (D0 ws ls cm n who false)) (told tv (D0 ws ls cm n who true)):=by
    unfold Bt
    rw [dX]
    rfl
   rw [<- e]
   exact q H4 (cR.trans jQ)
def Tt (K:PySem.W.Frag):Sp:=fun vs H Q _=>cr fun (a TB b:Addr) (ws ls:List Int) (cm:Option Int) (q:Int) (tv:List ((List Int × Int) × V))=>Wu (vs = [.ref a,.ref TB,.ref b]) (B0 H a ws cm) (Cg H b ls q) (H TB = some (.dT tv)) (So tv) (ls.length = ws.length) (ws.length <= 8) (∀ (p:Addr) (H':Hp),A9 H H' -> H' p = some (.tup ((Er tv ws ls cm q).map V.bl)) -> Q (.ref p) H')
theorem fh {fd pL:FuncData} (T:Txt K mg ad aC aA aB) (F:Fn K "all_answers" "all_answers" Mo ad.dA fd) (pM:Af P w K mg base Bd 5 ad.cZ pL ["hall","table","standing","who"] (Sl K)) (pN:Ap K pL ["hall","table","standing","who"] []):Af P w K mg base Bd 6 ad.dA fd ["hall","table","standing"] (Tt K):=by
 refine F.ok ju (fun vs H Q E h=>?_) (fun aS A outer s H vs Q E hr h=>?_)
 ·rcases h with ⟨a,TB,b,ws,ls,cm,n,tv,rfl,ha,hb,hT,iG,hl,h8,q⟩ <;> rfl
 ·obtain ⟨a,TB,b,ws,ls,cm,n,tv,rfl,ha,hb,hT,iG,hl,h8,q⟩ := h
  refine ⟨_,(Ac (Aq (Ea (Hb K) (by rfl) T.dZ boot_tuple (A0 (En (F4 (by rfl) T.cP (A0 (Bf (Bz K) (by rfl) T.bN PySem.boot_len (A0 (Ba (B9 K) (pv 0) Ab (fun _ _=>rfl)) A8)) A8)) _ rfl Ix rfl rfl (fun _ _ _ _=>(Al (i:=0) Jc rfl (Or.inl rfl))) (fun _ _ _ _=>E6) (fun _ _ _ _=>(Ag pM (hr.mono (by decide)) rfl T.IJ T.k_x10 pN .nil As (A0 (pv 1) (A0 (pv 2) (A0 (pv 3) (A0 (pv 0) A8))))))) A8)))),?_⟩
  obtain ⟨wt,dR,eM⟩ := id ha
  refine ⟨_,rfl,a,_,_,_,rfl,rfl,.inr (Bw.of dR),rfl,wt,_,rfl,.inr (Bw.of eM),_,rfl,by omega,by rw [List.length_map]; omega,fun D hD=>?_⟩
  refine Fu (cnt:=((ws.map V.int).length:Int).toNat) (fun j ys H'=>ys = ((Er tv ws ls cm n).take j).map V.bl /\ H' D = some (.lst ys) /\ A9 H H') ⟨rfl,A5,A9.upd hD⟩ ?_ ?_
  ·rintro j ys H5 hj ⟨rfl,iT,s5⟩ Qe hQ
   rw [List.length_map] at hj
   have vJ:j < ws.length:=by omega
   have uG:=D8 tv ws ls cm n
   refine ⟨_,rfl,_,rfl,_,rfl,_,rfl,a,TB,b,ws,ls,cm,n,_,j,tv,rfl,Int.zero_add _,ha.same s5,hb.same s5,s5 _ _ hT,iG,vJ,hl,h8,fun H6 s6=>?_⟩
   have sQ:=s6 _ _ iT
   refine hQ _ _ sQ (Bj (by rw [List.length_map,List.length_take]; omega)) ⟨?_,A5,(s5.trans s6).new hD⟩
   rw [List.take_add_one,Hx vJ,List.map_append]
   rfl
  rintro ys H5 ⟨rfl,iT,s5⟩
  have e:(Er tv ws ls cm n).take ((ws.map V.int).length:Int).toNat = Er tv ws ls cm n:=List.take_of_length_le (by rw [D8,List.length_map]; omega)
  rw [e] at iT
  refine ⟨D,_,rfl,.inl ⟨Bg.of iT,fun p hp=>?_⟩⟩
  exact q p _ (s5.trans (A9.upd hp)) A5
def Xo (K:PySem.W.Frag):Sp:=fun vs H Q _=>qk fun (a b A:Addr) (ws:List Int) (cm:Option Int) (k:List Int × Int) (tv:List ((List Int × Int) × V))=>X7 (vs = [.ref a,.ref b,.ref A]) (B0 H a ws cm) (Cg H b k.1 k.2) (H A = some (.tup ((Er tv ws k.1 cm k.2).map V.bl))) (k.1.length = ws.length) (ws.length <= 8) (∀ (l:Addr) (us:List V) (H':Hp),H l = none -> A9 H H' -> H' l = some (.lst us) -> Ah (Gi H') ((List.range ws.length).filterMap (Iv tv ws cm k)) us -> Q (.ref l) H')
theorem oh {fd aQ:FuncData} (T:Txt K mg ad aC aA aB) (F:Fn K "unbroken_behind" "unbroken_behind" S3 ad.gS fd) (bC:Af P w K mg base Bd 4 ad.bH aQ ["hall","standing","who","lost"] (Hj K)) (bJ:Ap K aQ ["hall","standing","who","lost"] []) (aM:Ap K aQ ["hall","standing","who","lost"] [Value.bool false]):Af P w K mg base Bd 5 ad.gS fd ["hall","standing","answers"] (Xo K):=by
 refine F.ok dy (fun vs H Q E h=>?_) (fun aS A outer s H vs Q E hr h=>?_)
 ·rcases h with ⟨a,b,A,ws,cm,k,tv,rfl,ha,hb,hA,hl,h8,q⟩ <;> rfl
 ·obtain ⟨a,b,A,ws,cm,k,tv,rfl,ha,hb,hA,hl,h8,q⟩ := h
  refine ⟨_,(A7 (Ee (i:=3) dy.nd rfl (Rc (by rfl) T.fA (A0 (pv 2) A8)) _ rfl Gj rfl rfl (fun _ _ _ _=>(De K (n:=2) rfl (Ay (Al (i:=0) Du rfl (Or.inl rfl)) (Ay (Al (i:=1) Du rfl (Or.inl rfl)) Dg)))) (fun _ _ _ _=>E6) (fun _ _ _ _=>(Ag bC (hr.mono (by decide)) rfl T.fS T.k_x32 bJ .nil As (A0 (pv 2) (A0 (pv 3) (A0 (pv 0) (A0 (pv 1) A8)))))) rfl rfl) (Ac (Aq (En (E2 (w':=Ra K _) (E3 (pv 3))) _ rfl Gm rfl rfl (fun _ _ _ _=>(Al (i:=0) Gc rfl (Or.inl rfl))) (fun _ _ _ _=>(Kp (Bk Pm (pv 0) Dj (Bh _)))) (fun _ _ _ _=>(pv 0)))))),?_⟩
  have uG:=D8 tv ws k.1 cm k.2
  refine ⟨_,rfl,true,A,rfl,⟨_,Bw.of hA⟩,fun D hD=>?_⟩
  refine Mc (K:=K) (b1:=true) (c:=A) (xs:=(Er tv ws k.1 cm k.2).map V.bl) (fun i ys H'=>Ah (Ex H') ((List.range i).map (Iv tv ws cm k)) ys /\ H' D = some (.lst ys) /\ A9 H H') ⟨Ah.nil,A5,A9.upd hD⟩ (by rintro i ys H' _ ⟨_,_,s⟩; exact Bw.of (s _ _ hA)) ?_ ?_ ?_ ?_
  ·rintro i x T ys H2 hx ⟨nC,hX,s2⟩ hT
   have hi:=(List.getElem?_eq_some_iff.mp hx).1
   rw [List.length_map,uG] at hi
   rw [List.getElem?_map,Hx hi] at hx
   cases hx
   have vX:=nC.1
   rw [List.length_map,List.length_range] at vX
   have s3:A9 H2 (upd H2 T (.tup [V.int (i:Nat),V.bl (Bt tv ws k.1 cm k.2 i)])):=A9.upd hT
   have e3:(upd H2 T (.tup [V.int (i:Nat),V.bl (Bt tv ws k.1 cm k.2 i)])) T = some (.tup [V.int (i:Nat),V.bl (Bt tv ws k.1 cm k.2 i)]):=A5
   generalize upd H2 T (.tup [V.int (i:Nat),V.bl (Bt tv ws k.1 cm k.2 i)]) = H3 at s3 e3 ⊢
   have XO:=s2.trans s3
   simp only [Mu,↓reduceIte]
   have fin:∀ (v:V) (H4:Hp),A9 H3 H4 -> Ex H4 (Iv tv ws cm k i) v -> H4 D = some (.lst ys) /\ ys.length < sizeLine /\ Ah (Ex (upd H4 D (.lst (ys ++ [v])))) ((List.range (i + 1)).map (Iv tv ws cm k)) (ys ++ [v]) /\ (upd H4 D (.lst (ys ++ [v]))) D = some (.lst (ys ++ [v])) /\ A9 H (upd H4 D (.lst (ys ++ [v]))):=fun v H4 s4 hv=>by
    have vN:=s4 _ _ (s3 _ _ hX)
    have tt:An H4 (upd H4 D (.lst (ys ++ [v]))):=An.lst vN
    refine ⟨vN,Bj (by omega),?_,A5,(XO.trans s4).new hD⟩
    rw [List.range_succ,List.map_append]
    exact (nC.imp fun _ _ y=>Ex.up (((An.of s3).trans (An.of s4)).trans tt) y).append (Ah.one (Ex.up tt hv))
   refine ⟨_,rfl,_,rfl,_,rfl,_,rfl,a,b,ws,k.1,cm,k.2,i,Bt tv ws k.1 cm k.2 i,rfl,ha.same XO,hb.same XO,hi,hl,h8,Ha,fun h H4 s4=>?_,fun h p H4 s4 hp=>?_⟩
   ·refine fin _ H4 s4 ?_
    have e:Iv tv ws cm k i = none:=by unfold Iv D0; rw [if_pos h]
    rw [e]
    rfl
   ·refine fin _ H4 s4 ?_
    have e:Iv tv ws cm k i = some (Ax ws k.1 i (Bt tv ws k.1 cm k.2 i),Cj cm k.2 (Bt tv ws k.1 cm k.2 i)):=by unfold Iv D0; rw [if_neg h]
    rw [e]
    exact ⟨p,rfl,hp⟩
  ·rintro σ H' Q1 Q2 hQ z
   exact hQ _ _ z
  ·rintro σ H' Q1 Q2 hQ ⟨v1,e1,v2,e2,v3,e3,v4,e4,a',b',ws',ls',cm',q',aI,KC,hv,h1,h2,h3,h4,h5,h6,q1,q2⟩
   exact ⟨v1,e1,v2,e2,v3,e3,v4,e4,a',b',ws',ls',cm',q',aI,KC,hv,h1,h2,h3,h4,h5,h6,fun h H2 s2=>hQ _ _ (q1 h H2 s2),fun h p H2 s2 hp=>hQ _ _ (q2 h p H2 s2 hp)⟩
  rintro ys H2 ⟨nC,hX,s2⟩
  rw [List.length_map,uG] at nC
  refine ⟨_,rfl,D,rfl,.inl ⟨⟨_,Bg.of hX⟩,fun C hC=>?_⟩⟩
  have vX:=nC.1
  rw [List.length_map,List.length_range] at vX
  refine Sr (K:=K) (a:=D) (xs:=ys) (fun i zs H'=>Ah (Gi H') ((List.range i).filterMap (Iv tv ws cm k)) zs /\ H' C = some (.lst zs) /\ A9 H2 H') ⟨Ah.nil,A5,A9.upd hC⟩ (by rintro i zs H' _ ⟨_,_,s⟩; exact Bg.of (s _ _ hX)) ?_ ?_ ?_ ?_
  ·rintro i x zs H3 hx ⟨dQ,KD,s3⟩
   obtain ⟨r,hV,hv⟩ := nC.get hx
   have hi:=(List.getElem?_eq_some_iff.mp hV).1
   rw [List.length_map,List.length_range] at hi
   rw [List.getElem?_map,List.getElem?_range hi] at hV
   have er:Iv tv ws cm k i = r:=by simpa using hV
   have nB:zs.length <= i:=by
    rw [dQ.1]
    exact Nat.le_trans (List.length_filterMap_le _ _) (by rw [List.length_range]; exact Nat.le_refl _)
   cases r with
   | none =>
    obtain rfl:x = .aR:=hv
    refine ⟨_,rfl,rfl,_,rfl,Ek (by simp) ⟨?_,KD,s3⟩⟩
    rw [List.range_succ,List.filterMap_append]
    have e0:[i].filterMap (Iv tv ws cm k) = []:=by simp [er]
    rw [e0,List.append_nil]
    exact dQ
   | some k' =>
    obtain ⟨p,rfl,u,VD,xD⟩ := hv
    have tt:An H3 (upd H3 C (.lst (zs ++ [.ref p]))):=An.lst KD
    refine ⟨_,rfl,rfl,_,rfl,Nh (by simp) ⟨_,rfl,KD,Bj (by omega),?_,A5,s3.new hC⟩⟩
    rw [List.range_succ,List.filterMap_append]
    have e0:[i].filterMap (Iv tv ws cm k) = [k']:=by simp [er]
    rw [e0]
    exact (dQ.imp fun _ _ y=>Gi.up tt y).append (Ah.one ⟨p,u,rfl,tt _ _ (s3 _ _ VD),tt _ _ (s3 _ _ xD)⟩)
  ·rintro σ H' Q1 Q2 hQ ⟨v,e1,e2,c,e3,z⟩
   exact ⟨v,e1,e2,c,e3,hQ _ _ z⟩
  ·rintro σ H' Q1 Q2 hQ ⟨v,e1,z⟩
   exact ⟨v,e1,hQ _ _ z⟩
  rintro zs H3 ⟨dQ,KD,s3⟩
  rw [vX] at dQ
  refine q C zs H3 ?_ (s2.trans s3) KD dQ
  cases e:H C with
  | none=>rfl
  | some o=>rw [s2 _ _ e] at hC; cases hC
def Tc (K:PySem.W.Frag):Sp:=fun vs H Q _=>Wi fun (a:Addr) (ws:List Int) (cm:Option Int)=>Mn (vs = [.ref a]) (B0 H a ws cm) (Ef ws cm) ((∀ (tv:List ((List Int × Int) × V)) (H':Hp),A9 H H' -> C8 ws cm tv -> (tv.map (·.1)).Nodup -> Ae tv (ws,0) = none -> Q .aR H')) (∀ (p:Addr) (us:List V) (ps tv:List ((List Int × Int) × V)) (H':Hp),A9 H H' -> H p = none -> H' p = some (.lst us) -> C8 ws cm tv -> (tv.map (·.1)).Nodup -> (Ae tv (ws,0)).isSome = true -> Gh ws cm tv ps -> Ah (Kc tv ws cm H') ps us -> Q (.ref p) H')
theorem gh {fd fY fZ pO vY:FuncData} (T:Txt K mg ad aC aA aB) (F:Fn K "broken_paper" "broken_paper" L3 ad.dB fd) (iH:Af P w K mg base Bd 7 ad.cK fY ["hall"] (P1 K)) (iI:Ap K fY ["hall"] []) (gA:Af P w K mg base Bd 1 ad.cE fZ ["hall"] (Pd K)) (gB:Ap K fZ ["hall"] []) (pP:Af P w K mg base Bd 6 ad.dA pO ["hall","table","standing"] (Tt K)) (pQ:Ap K pO ["hall","table","standing"] []) (yh:Af P w K mg base Bd 5 ad.gS vY ["hall","standing","answers"] (Xo K)) (yi:Ap K vY ["hall","standing","answers"] []):Af P w K mg base Bd 8 ad.dB fd ["hall"] (Tc K):=by
 refine F.ok La (fun vs H Q E h=>?_) (fun aS A outer s H vs Q E hr h=>?_)
 ·rcases h with ⟨a,ws,cm,rfl,ha,aF,q0,q⟩ <;> rfl
 ·obtain ⟨a,ws,cm,rfl,ha,aF,q0,q⟩ := h
  refine ⟨_,(A7 (Am (i:=1) La.nd rfl (Or.inr rfl) (Ag iH (hr.mono (by decide)) rfl T.vC T.k_x33 iI .nil As (A0 (pv 0) A8))) (A7 (D1 (Iz (Gy (E8 hr) (Ag gA (hr.mono (by decide)) rfl T.nX T.k_x22 gB .nil As (A0 (pv 0) A8)) (pv 1)) rfl) (Ac (Aq Dj)) Bb) (A7 (Am (i:=2) La.nd rfl (Or.inl rfl) Gp) (A7 (Am (i:=3) La.nd rfl (Or.inl rfl) (D5 (A0 (Ag gA (hr.mono (by decide)) rfl T.nX T.k_x22 gB .nil As (A0 (pv 0) A8)) A8))) (A7 (Ii PassesOwn.never (Li (pv 3) (by intro _; rfl)) (A7 (Am (i:=4) La.nd rfl (Or.inl rfl) (F7 (u':=lr K _ _ _) (jk PySem.F.plainAttrs_list PySem.F.slot_list_pop PySem.F.type_list_pop i4 (pv 3)))) (Ac (Hh (Iz (Gy (E8 hr) (pv 4) (pv 2)) rfl) (A7 (Ie (E8 hr) (pv 2) (pv 4) (Ag pP (hr.mono (by decide)) rfl T.IK T.k_x15 pQ .nil As (A0 (pv 0) (A0 (pv 1) (A0 (pv 4) A8)))) rfl) (Ac (D4 (F7 (u':=X0 K _ _ _ _) (G3 PySem.F.plainAttrs_list PySem.F.slot_list_extend PySem.F.type_list_extend J0 (pv 3) (A0 (Ag yh (hr.mono (by decide)) rfl T.UJ T.k_x5 yi .nil As (A0 (pv 0) (A0 (pv 4) (A0 (Dq (E8 hr) (pv 2) (pv 4) (fun _ _=>rfl)) A8)))) A8)))))) Bb)))) (Ac (Aq (Bf (Q6 hr) (by rfl) T.oB boot_sorted (A0 (c0 (En (Hu (pv 2)) _ rfl Ih rfl rfl (fun _ _ _ _=>(De K (n:=2) rfl (Ay (Al (i:=0) Eo rfl (Or.inl rfl)) (Ay (Al (i:=1) Eo rfl (Or.inl rfl)) Dg)))) (fun _ _ _ _=>E6) (fun _ _ _ _=>(C4 (A0 (pv 0) (A0 (Dq (E8 hr) (pv 2) (pv 0) (fun _ _=>rfl)) (A0 (pv 1) A8))))))) A8))))))))),?_⟩
  obtain ⟨wt,dR,eM⟩ := id ha
  have hq:=aF.qv
  have cQ:∀ x ∈ ws,1 <= x:=fun x hx=>(aF.1 x hx).1
  have h8:=aF.2.2.2.1
  have FU:=aF.2.2.1
  refine ⟨_,rfl,a,ws,cm,rfl,ha,(fun w hw=>(aF.1 w hw).1),hq.1,(fun w hw=>Hw (by have:=aF.1 w hw; omega) (aF.1 w hw).2),Hw (by omega) hq.2,aF.2.2.2.1,(by have:=aF.2.2.2.2; omega),fun TB tv H1 hTB s1 GB fE GC htl=>?_⟩
  have iG:So tv:=fun k v hv=>by
   obtain ⟨m,e,_⟩ := fE.1 k v hv
   exact ⟨m,e⟩
  refine ⟨_,rfl,a,ws,cm,rfl,ha.same s1,fun b0 H2 s2 sJ=>?_⟩
  have cR:=s1.trans s2
  refine ⟨_,rfl,TB,_,rfl,Cv.t (s2 _ _ GB) (show Ds H2 b0 (ws,0) from sJ),_,rfl,?_⟩
  refine Hi (fun h=>q0 tv H2 cR fE GC ?_) (fun hnv=>?_)
  ·cases e:Ae tv (ws,0) with
   | none=>rfl
   | some v=>rw [e] at h; cases h
  have lS:(Ae tv (ws,0)).isSome = true:=by
   cases e:Ae tv (ws,0) with
   | none=>rw [e] at hnv; exact absurd rfl hnv
   | some v=>rfl
  have XQ:Uf ws cm tv (ws,0):=by
   refine ⟨Ru rfl (fun i hi=>⟨cQ _ (by rw [List.getD_eq_getElem?_getD,List.getElem?_eq_getElem hi]; exact List.getElem_mem hi),Int.le_refl _⟩) (Int.le_refl _) (by have:=hq.1; show (0:Int) < qv cm; omega),?_,.base⟩
   obtain ⟨v,hv⟩ := Option.isSome_iff_exists.mp lS
   obtain ⟨m,e⟩ := iG _ v hv
   exact ⟨m,by rw [hv,e]⟩
  refine fun C hC=>?_
  have s3:A9 H2 (upd H2 C (.dT [])):=A9.upd hC
  have e3:(upd H2 C (.dT [])) C = some (.dT []):=A5
  generalize upd H2 C (.dT []) = H3 at s3 e3 ⊢
  refine ⟨_,rfl,a,ws,cm,rfl,(ha.same cR).same s3,fun b1 H4 s4 mH=>?_⟩
  refine ⟨Bm,fun L hL=>?_⟩
  have s5:A9 H4 (upd H4 L (.lst [.ref b1])):=A9.upd hL
  have e5:(upd H4 L (.lst [.ref b1])) L = some (.lst [.ref b1]):=A5
  generalize upd H4 L (.lst [.ref b1]) = H5 at s5 e5 ⊢
  have hC2:H2 C = none:=hC
  have hL2:H2 L = none:=by
   cases e:H2 L with
   | none=>rfl
   | some o=>rw [s4 _ _ (s3 _ _ e)] at hL; cases hL
  have s25:A9 H2 H5:=(s3.trans s4).trans s5
  obtain ⟨bu,XR,XS⟩ := mH.same s5
  dsimp only
  refine n0 ?_
  refine m8 ?_
  refine Ic (fun σ' H'=>Yo fun (es:List V) (E:List (List Int × Int)) (cv:List ((List Int × Int) × V)) (v4:Option V)=>Wu (σ' = [some (.ref a),some (.ref TB),some (.ref C),some (.ref L),v4]) (A9 H2 H') (H' L = some (.lst es)) (Ah (Gi H') E es) (H' C = some (.dT cv)) (Qa ws cm tv cv E) (E.length <= 8 * cv.length + 1) ((∀ kv ∈ cv,∃ t,kv.2 = .ref t /\ H' t = some (.tup ((Er tv ws kv.1.1 cm kv.1.2).map V.bl)))))
   (fun _ H'=>9 * (301 - O5 (H' C)) + Wa (H' L)) ⟨[.ref b1],[(ws,0)],[],none,rfl,s25,e5,Ah.one ⟨b1,bu,rfl,XR,XS⟩,s5 _ _ (s4 _ _ e3),Qa.start XQ,by simp,fun kv aK=>by cases aK⟩ ?_ ?_
  ·rintro σ' H' ⟨es,E,cv,v4,rfl,s',pR,QY,yj,sR,hEl,gC⟩
   have mB:=sR.len aF
   refine ⟨_,rfl,_,.inl ⟨_,Bg.of pR,rfl⟩,?_⟩
   refine Hi (fun bP=>?_) (fun kQ=>?_)
   ·have XT : 0 < es.length := by
     cases es with
     | nil=>exact absurd bP (by decide)
     | cons x xs=>simp
    have hel:=QY.1
    obtain ⟨y,hy⟩ := cg XT
    refine ⟨_,rfl,.inl ⟨rfl,_,Bg.of pR⟩,L,es,y,rfl,rfl,pR,hy,?_⟩
    obtain ⟨k,JV,b,b2,rfl,XU,XW⟩ := QY.get hy
    have eE:E = E.take (es.length - 1) ++ [k]:=by
     have h1:=List.take_append_drop (es.length - 1) E
     have h2:E.drop (es.length - 1) = [k]:=by
      rw [List.drop_eq_getElem_cons (by omega),(List.getElem?_eq_some_iff.mp JV).2,List.drop_of_length_le (by omega)]
     rw [h2] at h1
     exact h1.symm
    have XX:C ≠ L:=Bn yj pR (by intro z; cases z)
    have t4:An H' (upd H' L (.lst es.dropLast)):=An.lst pR
    have QZ:(upd H' L (.lst es.dropLast)) L = some (.lst es.dropLast):=A5
    have KG:(upd H' L (.lst es.dropLast)) C = some (.dT cv):=(Aa XX).trans yj
    have KH:A9 H2 (upd H' L (.lst es.dropLast)):=s'.new hL2
    generalize upd H' L (.lst es.dropLast) = H6 at t4 QZ KG KH ⊢
    have gD:(∀ kv ∈ cv,∃ t,kv.2 = .ref t /\ H6 t = some (.tup ((Er tv ws kv.1.1 cm kv.1.2).map V.bl))):=fun kv aK=>by
     obtain ⟨t,e1,e2⟩ := gC kv aK
     exact ⟨t,e1,t4 _ _ e2⟩
    have uH:Cg H6 b k.1 k.2:=⟨b2,t4 _ _ XU,t4 _ _ XW⟩
    have uI:Ah (Gi H6) (E.take (es.length - 1)) es.dropLast:=by
     rw [List.dropLast_eq_take]
     exact (QY.imp (fun _ _ y=>Gi.up t4 y)).take _
    have hl6:(E.take (es.length - 1)).length = E.length - 1:=by rw [List.length_take]; omega
    rw [eE] at sR
    generalize E.take (es.length - 1) = E0 at sR uI hl6 eE
    have hm0:Wa (H' L) = es.length:=by rw [pR]; rfl
    have jY:O5 (H' C) = cv.length:=by rw [yj]; rfl
    refine ⟨_,rfl,_,rfl,C,_,rfl,Cv.t KG (show Ds H6 b k from uH),_,rfl,(fun σ'' H7=>Yo fun (es:List V) (E:List (List Int × Int)) (RA:List ((List Int × Int) × V)) (v4:Option V)=>Ss (σ'' = [some (.ref a),some (.ref TB),some (.ref C),some (.ref L),v4]) (A9 H2 H7) (H7 L = some (.lst es)) (Ah (Gi H7) E es) (H7 C = some (.dT RA)) (Qa ws cm tv RA E) (E.length <= 8 * RA.length + 1) ((∀ kv ∈ RA,∃ t,kv.2 = .ref t /\ H7 t = some (.tup ((Er tv ws kv.1.1 cm kv.1.2).map V.bl)))) (9 * (301 - O5 (H7 C)) + Wa (H7 L) < 9 * (301 - O5 (H' C)) + Wa (H' L))),fun h=>?_,fun h=>?_,?_⟩
    ·have XY : Ae cv k = none := by
      cases e:Ae cv k with
      | none=>rfl
      | some v=>rw [e] at h; cases h
     have KI:Uf ws cm tv k:=sR.sf k (by simp)
     have lR:k.1.length = ws.length:=(Jo KI.1).1
     refine ⟨_,rfl,_,rfl,_,rfl,a,TB,b,ws,k.1,cm,k.2,tv,rfl,(ha.same cR).same KH,uH,KH _ _ (s2 _ _ GB),iG,lR,h8,fun A H7 s7 eA=>?_⟩
     have hC7:=s7 _ _ KG
     have hL7:=s7 _ _ QZ
     refine ⟨_,rfl,_,rfl,C,_,rfl,Lk.t hC7 (show Ds H7 b k from uH.same s7) (Ce (by omega)),?_⟩
     have SI:L ≠ C:=fun z=>XX z.symm
     have k8:∀ b o,b ≠ C -> H7 b = some o -> (upd H7 C (.dT (Bl cv k (.ref A)))) b = some o:=fun b o n e=>(Aa n).trans e
     have XZ:(upd H7 C (.dT (Bl cv k (.ref A)))) C = some (.dT (Bl cv k (.ref A))):=A5
     generalize upd H7 C (.dT (Bl cv k (.ref A))) = H8 at k8 XZ ⊢
     have t8:An H7 H8:=fun b xs e=>k8 b _ (Bn e hC7 (by intro z; cases z)) e
     have s8:A9 H2 H8:=fun b o e=>k8 b o (Ad e hC2) (s7 _ _ (KH _ _ e))
     have hL8:=k8 _ _ SI hL7
     have KJ:Cg H8 b k.1 k.2:=(uH.same s7).up t8
     have ev:Ae (Bl cv k (.ref A)) k = some (.ref A):=by rw [Ec,if_pos rfl]
     refine ⟨_,rfl,.inl ⟨rfl,_,Bg.of hL8⟩,_,rfl,_,rfl,_,rfl,_,rfl,C,.ref A,rfl,(by rw [<- ev]; exact Cv.t XZ (show Ds H8 b k from KJ)),a,b,A,ws,cm,k,tv,rfl,(ha.same cR).same s8,KJ,t8 _ _ eA,lR,h8,fun l us H9 hl9 s9 YA jW=>?_⟩
     have huf:=gm fE aF KI
     have hL9:=s9 _ _ hL8
     have hel6:=uI.1
     have GA:=jW.1
     have hfl:((List.range ws.length).filterMap (Iv tv ws cm k)).length <= ws.length:=Nat.le_trans (List.length_filterMap_le _ _) (by rw [List.length_range]; exact Nat.le_refl _)
     refine ⟨L,l,es.dropLast,us,rfl,rfl,hL9,YA,Nat.le_of_lt (Ce (by omega)),?_⟩
     have kR:An H9 (upd H9 L (.lst (es.dropLast ++ us))):=An.lst hL9
     have KL:(upd H9 L (.lst (es.dropLast ++ us))) C = some (.dT (Bl cv k (.ref A))):=(Aa XX).trans (s9 _ _ XZ)
     have lK:(Bl cv k (.ref A)).length = cv.length + 1:=by rw [Dc _ XY,List.length_append,List.length_singleton]
     have yk:An H7 (upd H9 L (.lst (es.dropLast ++ us))):=t8.trans ((An.of s9).trans kR)
     refine ⟨es.dropLast ++ us,E0 ++ (List.range ws.length).filterMap (Iv tv ws cm k),Bl cv k (.ref A),_,rfl,(s8.trans s9).new hL2,A5,((uI.imp fun _ _ y=>Gi.up ((An.of s7).trans yk) y).append (jW.imp fun _ _ y=>Gi.up kR y)),KL,sR.put XY huf,?_,(fun kv aK=>?_),?_⟩
     ·rw [List.length_append,lK,hl6]
      omega
     ·rw [Dc _ XY] at aK
      rcases List.mem_append.mp aK with z | z
      ·obtain ⟨t,e1,e2⟩ := gD kv z
       exact ⟨t,e1,yk _ _ (s7 _ _ e2)⟩
      ·rw [List.mem_singleton.mp z]
       exact ⟨A,rfl,yk _ _ eA⟩
     ·have m1:Wa ((upd H9 L (.lst (es.dropLast ++ us))) L) = (es.dropLast ++ us).length:=by rw [A5]; rfl
      have m2:O5 ((upd H9 L (.lst (es.dropLast ++ us))) C) = cv.length + 1:=by rw [KL]; exact lK
      rw [m1,m2,hm0,jY,List.length_append,List.length_dropLast]
      omega
    ·have gN : k ∈ cv.map (·.1) := by
      cases e:Ae cv k with
      | none=>rw [e] at h; cases h
      | some v=>exact bm e
     refine ⟨es.dropLast,E0,cv,_,rfl,KH,QZ,uI,KG,sR.skip gN,by omega,gD,?_⟩
     have m1:Wa (H6 L) = es.dropLast.length:=by rw [QZ]; rfl
     have m2:O5 (H6 C) = cv.length:=by rw [KG]; rfl
     rw [m1,m2,hm0,jY,List.length_dropLast]
     omega
    ·rintro σ'' H7 ⟨es7,E7,cv7,v47,rfl,a1,a2,a3,a4,a5,a6,a7,a8⟩
     exact ⟨⟨es7,E7,cv7,v47,rfl,a1,a2,a3,a4,a5,a6,a7⟩,a8⟩
   ·have YB : es = [] := by
     cases es with
     | nil=>rfl
     | cons x xs=>exact absurd rfl kQ
    have hE1:E = []:=by
     have h1:=QY.1
     rw [YB] at h1
     exact List.length_eq_zero_iff.mp h1.symm
    subst hE1
    refine ⟨C,.dT cv,trivial,yj,_,rfl,C,.dT cv,rfl,trivial,yj,fun o=>?_⟩
    have bF:∀ b ob,b ≠ C -> H' b = some ob -> (upd H' C (.bE o (.dT cv))) b = some ob:=fun b ob n e=>(Aa n).trans e
    have dF:(upd H' C (.bE o (.dT cv))) C = some (.bE o (.dT cv)):=A5
    have fF:∀ b,(upd H' C (.bE o (.dT cv))) b = none -> H' b = none:=fun b hb=>by
     by_cases z:b = C
     ·rw [z,dF] at hb; cases hb
     ·rw [Aa z] at hb; exact hb
    generalize upd H' C (.bE o (.dT cv)) = HF at bF dF fF ⊢
    have tF:An H' HF:=fun b xs e=>bF b _ (Bn e yj (by intro z; cases z)) e
    have YC:TB ≠ C:=Ad (s2 _ _ GB) hC2
    have YD:HF TB = some (.dT tv):=bF _ _ YC (s' _ _ (s2 _ _ GB))
    refine fun R hR=>?_
    refine Ly (K:=K) (d:=C) (o:=o) (u := .dT cv) (fun i zs H5=>Ah (Kc tv ws cm H5) (cv.take i) zs /\ zs.Nodup /\ H5 R = some (.lst zs) /\ A9 HF H5) ⟨Ah.nil,List.nodup_nil,A5,A9.upd hR⟩ (by rintro i zs H5 _ ⟨_,_,_,s⟩; exact s _ _ dF) ?_ ?_ ?_ ?_
    ·rintro i x y T2 zs H5 hi hit ⟨dQ,YE,hR5,s5'⟩ JJ
     have hi3:i < cv.length:=hi
     obtain ⟨kk,bb,aK,rfl,nA⟩ := hit
     obtain ⟨t,et,ht⟩ := gC _ (List.mem_of_getElem? aK)
     have ey:y = .ref t:=et
     subst ey
     obtain ⟨⟨gN,⟨m,hm⟩,_⟩,_⟩ := sR.ent _ (List.mem_of_getElem? aK)
     have nB:=dQ.1
     rw [List.length_take] at nB
     have s6:A9 H5 (upd H5 T2 (.tup [.ref bb,.ref t])):=A9.upd JJ
     have e6:(upd H5 T2 (.tup [.ref bb,.ref t])) T2 = some (.tup [.ref bb,.ref t]):=A5
     generalize upd H5 T2 (.tup [.ref bb,.ref t]) = H6 at s6 e6 ⊢
     have GD:=s5'.trans s6
     have hR6:=s6 _ _ hR5
     simp only [Mu,↓reduceIte]
     refine ⟨_,rfl,_,rfl,_,rfl,TB,.int m,rfl,(by rw [<- hm]; exact Cv.t (GD _ _ YD) (show Ds H6 bb kk from nA.up (An.of s6))),_,rfl,Bm,fun p hp=>?_⟩
     have s7:A9 H6 (upd H6 p (.tup [.ref bb,.int m,.ref t])):=A9.upd hp
     have e7:(upd H6 p (.tup [.ref bb,.int m,.ref t])) p = some (.tup [.ref bb,.int m,.ref t]):=A5
     generalize upd H6 p (.tup [.ref bb,.int m,.ref t]) = H7 at s7 e7 ⊢
     have hR7:=s7 _ _ hR6
     have tt:An H7 (upd H7 R (.lst (zs ++ [.ref p]))):=An.lst hR7
     refine ⟨hR7,Ce (by omega),?_,?_,A5,(GD.trans s7).new hR⟩
     ·rw [List.take_add_one,aK]
      exact (dQ.imp fun _ _ y=>Kc.up (((An.of s6).trans (An.of s7)).trans tt) y).append (Ah.one ⟨p,bb,t,m,rfl,tt _ _ e7,((nA.up (An.of s6)).up (An.of s7)).up tt,hm,rfl,tt _ _ (s7 _ _ (GD _ _ (tF _ _ ht)))⟩)
     ·refine List.nodup_append.mpr ⟨YE,by simp,fun u hu v hv z=>?_⟩
      cases List.mem_singleton.mp hv
      subst z
      obtain ⟨i',mV⟩ := List.mem_iff_getElem?.mp hu
      obtain ⟨_,_,p',_,_,_,e1,e2,_⟩ := dQ.get mV
      cases e1
      rw [s6 _ _ e2] at hp
      cases hp
    ·rintro σ H1 Q1 Q2 hQ z
     exact hQ _ _ z
    ·rintro σ H1 Q1 Q2 hQ ⟨v,e1,v2,e2,v3,e3,a',w',e4,g,v5,e5,l,f⟩
     exact ⟨v,e1,v2,e2,v3,e3,a',w',e4,g,v5,e5,l,fun p hp=>hQ _ _ (f p hp)⟩
    rintro zs HG ⟨dQ,YE,JS,sG⟩
    rw [show cv.take (Da (.dT cv)) = cv from List.take_length] at dQ
    have uE:=sG _ _ dF
    refine ⟨o,uE,?_⟩
    have hRC:R ≠ C:=Bn JS uE (by intro z; cases z)
    have jQ:A9 H' (upd HG C (.dT cv)):=fun b ob e=>by
     by_cases z:b = C
     ·subst z
      rw [yj] at e
      cases e
      exact A5
     ·exact (Aa z).trans (sG _ _ (bF b ob z e))
    have tG:An HG (upd HG C (.dT cv)):=fun b xs e=>by rw [Aa (Bn e uE (by intro z; cases z))]; exact e
    have mO:Ah (Kc tv ws cm (upd HG C (.dT cv))) cv zs:=dQ.imp fun _ _ y=>Kc.up tG y
    have uD:(upd HG C (.dT cv)) R = some (.lst zs):=(Aa hRC).trans JS
    generalize upd HG C (.dT cv) = HI at jQ mO uD ⊢
    have nB:=mO.1
    let kO:V -> (List Int × Int) × V:=fun u=>cv.getD (zs.idxOf u) (([],0),.aR)
    have kAt:∀ (i:Nat) (u:V),zs[i]? = some u -> cv[i]? = some (kO u):=fun i u hu=>by
     obtain ⟨h1,e1⟩ := List.getElem?_eq_some_iff.mp hu
     have e2:zs.idxOf u = i:=by rw [<- e1]; exact List.Nodup.idxOf_getElem YE i h1
     show _ = some (cv.getD (zs.idxOf u) _)
     rw [e2,List.getD_eq_getElem?_getD,List.getElem?_eq_getElem (by omega)]
     rfl
    have pS:∀ u ∈ zs,kO u ∈ cv /\ Kc tv ws cm HI (kO u) u:=fun u hu=>by
     obtain ⟨i,hi⟩ := List.mem_iff_getElem?.mp hu
     have h1:=kAt i u hi
     exact ⟨List.mem_of_getElem? h1,mO.2 i _ _ h1 hi⟩
    have YF:zs.map kO = cv:=by
     apply List.ext_getElem?
     intro i
     rw [List.getElem?_map]
     cases hi:zs[i]? with
     | none =>
      have:=List.getElem?_eq_none_iff.mp hi
      rw [List.getElem?_eq_none (by omega)]
      rfl
     | some u=>rw [kAt i u hi]; rfl
    refine ⟨R,zs,false,(fun u=>Jj tv ws cm (kO u)),(fun u=>(Az ws (qv cm)).idxOf (kO u).1),rfl,Bg.of uD,by omega,⟨fun u hu=>⟨(pS u hu).2.rp,⟨dS (kO u).1,_,rfl,by rw [if_neg (by decide)]; exact ⟨_,rfl⟩⟩,Ug _ _ _ _⟩,fun u hu v hv=>Vt (pS u hu).2.rp (sR.ent _ (pS u hu).1).1.1 (sR.ent _ (pS v hv).1).1.1⟩,fun p jC hp eY nW=>?_⟩
    have sP:A9 HI (upd HI p (.lst jC)):=A9.upd hp
    have hpH:H p = none:=by
     cases e:H p with
     | none=>rfl
     | some o=>rw [jQ _ _ (s' _ _ (cR _ _ e))] at hp; cases hp
    have hcp:(jC.map kO).Perm cv:=by
     have:=eY.map kO
     rw [YF] at this
     exact this
    refine q p jC (jC.map kO) tv _ (((cR.trans s').trans jQ).trans sP) hpH A5 fE GC lS (W6 sR hcp (by rw [List.pairwise_map]; exact nW)) ⟨by rw [List.length_map],fun i r v e1 e2=>?_⟩
    rw [List.getElem?_map,e2] at e1
    cases e1
    exact Kc.up (An.of sP) (pS v (eY.mem_iff.mp (List.mem_of_getElem? e2))).2
  ·intro σ H0 Q1 Q2 z h1
   obtain ⟨_,e,k,t,h2⟩ := h1
   exact ⟨_,e,k,t,z _ _ h2⟩
def Ot (K:PySem.W.Frag):Sp:=fun vs H Q _=>Wi fun (b:Addr) (ls:List Int) (q:Int)=>Sz (vs = [.ref b]) (Cg H b ls q) (0 < ls.length) (∀ j:Nat,Ir ls j -> Q (.int j) H)
theorem fz {fd  : FuncData} (T:Txt K mg ad aC aA aB) (F:Fn K "least_left" "least_left" Nf ad.cM fd):Af P w K mg base Bd 1 ad.cM fd ["standing"] (Ot K):=by
 refine F.ok jc (fun vs H Q E h=>?_) (fun aS A outer s H vs Q E hr h=>?_)
 ·rcases h with ⟨b,ls,n,rfl,⟨u,hb,hu⟩,oO,q⟩ <;> rfl
 ·obtain ⟨b,ls,n,rfl,⟨u,hb,hu⟩,oO,q⟩ := h
  refine ⟨_,(Ac (Aq (F7 (u':=X0 K _ _ _ _) (G3 PySem.F.plainAttrs_tuple PySem.F.slot_tuple_index PySem.F.type_tuple_index Wo (Ba (B9 K) (pv 0) Ab (fun _ _=>rfl)) (A0 (Bf (Vu K rfl) (by rfl) T.vF boot_min (A0 (Ba (B9 K) (pv 0) Ab (fun _ _=>rfl)) A8)) A8))))),?_⟩
  refine ⟨_,rfl,b,_,_,_,rfl,rfl,.inr (Bw.of hb),rfl,.inr (.inl ⟨rfl,.inr ⟨_,hu⟩⟩),_,rfl,b,_,_,_,rfl,rfl,.inr (Bw.of hb),rfl,u,ls,rfl,.inr (Bw.of hu),oO,fun m hm YG=>?_⟩
  obtain ⟨j,h1,h2⟩ := Rx hm
  exact ⟨u,ls,m,j,rfl,rfl,Bw.of hu,h1,h2,q j (Xt YG h1 h2)⟩
def Zt (K:PySem.W.Frag) (aC aA aB:Addr):Sp:=fun vs H Q _=>uk fun (x dx r b:Addr) (us:List Int) (k:Nat) (hv:V) (ls:List Int) (q:Int)=>Mz (vs = [.ref x,hv,.ref b]) (H x = some (.ins aA dx (Jp r k))) (H r = some (.lst (us.map V.int))) (Cg H b ls q) (0 < ls.length) (∀ v:Int,Ge us k ls v -> Q (.int v) (upd H x (.ins aA dx (Jp r (k + 1)))))
theorem ol {fd gE:FuncData} (T:Txt K mg ad aC aA aB) (F:Fn K "call" "RowCaller.call" Vr ad.gT fd) (iJ:Af P w K mg base Bd 1 ad.cM gE ["standing"] (Ot K)) (iK:Ap K gE ["standing"] []):Af P w K mg base Bd 2 ad.gT fd ["self","hall","standing"] (Zt K aC aA aB):=by
 refine F.ok d8 (fun vs H Q E h=>?_) (fun aS A outer s H vs Q E hr h=>?_)
 ·rcases h with ⟨x,dx,r,b,us,k,hv,ls,n,rfl,hx,iU,hb,oO,q⟩ <;> rfl
 ·obtain ⟨x,dx,r,b,us,k,hv,ls,n,rfl,hx,iU,hb,oO,q⟩ := h
  refine ⟨_,(A7 (Am (i:=3) d8.nd rfl (Or.inl rfl) (Mi (pv 0) rfl)) (A7 (Oo (pv 0) (B6 Cy (pv 3) Ab) rfl) (A7 (D1 (Bk L5 (pv 3) (Bf (Bz K) (by rfl) T.bN PySem.boot_len (A0 (Mi (pv 0) rfl) A8)) (Bh _)) (Ac (Aq (Ba (B9 K) (Mi (pv 0) rfl) (pv 3) (fun _ _=>rfl)))) Bb) (Ac (Aq (Ag iJ (hr.mono (by decide)) rfl T.vD T.k_x20 iK .nil As (A0 (pv 2) A8))))))),?_⟩
  have s1:Bp H (upd H x (.ins aA dx (Jp r (k + 1)))):=Bp.ins hx
  have e1:(upd H x (.ins aA dx (Jp r (k + 1)))) x = some (.ins aA dx (Jp r (k + 1))):=A5
  refine ⟨_,rfl,x,_,dx,_,.int k,rfl,hx,T.aO,T.aW,rfl,?_⟩
  refine ⟨_,rfl,_,_,rfl,rfl,_,rfl,x,_,dx,_,rfl,hx,T.aO,T.aW,(by show 2 < 1000; decide),?_⟩
  rw [X8 r k ((k:Int) + 1) (by omega)]
  generalize upd H x (.ins aA dx (Jp r (k + 1))) = H1 at s1 e1 q ⊢
  have er:=s1.lst iU
  refine ⟨_,rfl,_,rfl,x,_,dx,_,.ref r,rfl,e1,T.aO,T.bB,rfl,r,_,rfl,.inl (Bg.of er),_,_,rfl,rfl,_,rfl,?_⟩
  refine Hi (fun h0=>?_) (fun h0=>?_)
  ·have hk:k < us.length:=by simpa using h0
   exact ⟨_,rfl,x,_,dx,_,.ref r,rfl,e1,T.aO,T.bB,rfl,_,rfl,r,_,_,_,rfl,rfl,.inl (Bg.of er),Q3 hk,q _ (Ge.at hk)⟩
  have hk:us.length <= k:=by
   have:¬ ((k:Int) < us.length):=by simpa using h0
   omega
  exact ⟨_,rfl,b,ls,n,rfl,hb.aJ s1,oO,fun j hj=>q _ (Ge.least hk hj)⟩
def Tx (K:PySem.W.Frag) (aC aA aB:Addr):Sp:=fun vs H Q _=>kd fun (v0 v1:V) (b:Addr) (ls:List Int) (q:Int)=>Sz (vs = [v0,v1,.ref b]) (Cg H b ls q) (0 < ls.length) (∀ j:Nat,Ir ls j -> Q (.int j) H)
theorem g9 {fd gE:FuncData} (T:Txt K mg ad aC aA aB) (F:Fn K "call" "Caller.call" Np ad.dC fd) (iJ:Af P w K mg base Bd 1 ad.cM gE ["standing"] (Ot K)) (iK:Ap K gE ["standing"] []):Af P w K mg base Bd 2 ad.dC fd ["self","hall","standing"] (Tx K aC aA aB):=by
 refine F.ok jt (fun vs H Q E h=>?_) (fun aS A outer s H vs Q E hr h=>?_)
 ·rcases h with ⟨v0,v1,b,ls,n,rfl,hb,oO,q⟩ <;> rfl
 ·obtain ⟨v0,v1,b,ls,n,rfl,hb,oO,q⟩ := h
  refine ⟨_,(Ac (Aq (Ag iJ (hr.mono (by decide)) rfl T.vD T.k_x20 iK .nil As (A0 (pv 2) A8)))),?_⟩
  exact ⟨_,rfl,b,ls,n,rfl,hb,oO,q⟩
def Vf (K:PySem.W.Frag) (aC aA aB:Addr):Sp:=fun vs H Q _=>n9 fun (x dx d a b:Addr) (kvs:List ((List Int × Int) × V)) (ws ls:List Int) (calm:Option Int) (q:Int) (who:Nat)=>X7 (vs = [.ref x,.ref a,.ref b,.int who]) (H x = some (.ins aB dx [("paper",.ref d)])) (H d = some (.dT kvs)) (B0 H a ws calm) (Cg H b ls q) ((Ae kvs (ls,q) = none -> Q (.bl false) H)) ((∀ v,Ae kvs (ls,q) = some v -> ∃ (t:Addr) (bs:List Bool),v = .ref t /\ H t = some (.tup (bs.map V.bl)) /\ who < bs.length /\ Q (.bl ((!decide (calm = none) && decide (q = 0)) && bs.getD who false)) H))
theorem o9 {fd bI:FuncData} (T:Txt K mg ad aC aA aB) (F:Fn K "loses" "PaperRoad.loses" X6 ad.fR fd) (bZ:Af P w K mg base Bd 1 ad.bS bI ["hall","standing"] (J1 K)) (cA:Ap K bI ["hall","standing"] []):Af P w K mg base Bd 2 ad.fR fd ["self","hall","standing","who"] (Vf K aC aA aB):=by
 refine F.ok mo (fun vs H Q E h=>?_) (fun aS A outer s H vs Q E hr h=>?_)
 ·rcases h with ⟨x,dx,d,a,b,kvs,ws,ls,calm,n,who,rfl,hx,hd,ha,hb,q1,q2⟩ <;> rfl
 ·obtain ⟨x,dx,d,a,b,kvs,ws,ls,calm,n,who,rfl,hx,hd,ha,hb,q1,q2⟩ := h
  refine ⟨_,(Ac (Aq (Ib (Ag bZ (hr.mono (by decide)) rfl T.lN T.k_x25 cA .nil As (A0 (pv 1) (A0 (pv 2) A8))) (Ib (i6 (Su (E8 hr) (pv 2) (Mi (pv 0) rfl)) rfl) (Jd (Ba (B9 K) (Dq (E8 hr) (Mi (pv 0) rfl) (pv 2) (fun _ _=>rfl)) (pv 3) (fun _ _=>rfl))))))),?_⟩
  refine ⟨_,rfl,_,rfl,a,b,ws,ls,calm,n,rfl,ha,hb,?_⟩
  cases lS:Ae kvs (ls,n) with
  | none =>
   refine ⟨_,false,rfl,fun _ Q' z=>⟨_,rfl,_,rfl,x,_,dx,_,.ref d,rfl,hx,T.aU,T.aP,rfl,d,_,rfl,Cv.t hd (Ds.of hb),_,false,rfl,?_,?_⟩,?_⟩
   ·intro h
    rw [lS] at h
    exact absurd h (by decide)
   ·rw [lS]
    exact z
   ·rw [Bool.and_false]
    exact q1 lS
  | some v =>
   obtain ⟨t,bs,rfl,ht,hw,q3⟩ := q2 v lS
   refine ⟨_,bs.getD who false,rfl,fun _ Q' z=>⟨_,rfl,_,rfl,x,_,dx,_,.ref d,rfl,hx,T.aU,T.aP,rfl,d,_,rfl,Cv.t hd (Ds.of hb),_,bs.getD who false,rfl,fun _ Q2 z2=>⟨_,rfl,x,_,dx,_,.ref d,rfl,hx,T.aU,T.aP,rfl,_,rfl,d,.ref t,rfl,?_,_,rfl,t,_,_,_,rfl,rfl,.inr (Bw.of ht),d9 hw,z2⟩,?_⟩,q3⟩
   ·rw [<- lS]
    exact Cv.t hd (Ds.of hb)
   ·rw [lS]
    exact z
def Um (K : PySem.W.Frag) (aC aA aB : Addr) : Sp := fun vs H Q _ => l6 fun (h c g Cc dc dg d : Addr) (fc : List (Str × V)) (ws : List Int) (cm : Option Int) (tv ps : List ((List Int × Int) × V)) (T r : Int) (N : Nat) => ef (vs = [.ref h, .ref c, .ref g, .int T]) (T = (N : Int)) (B0 H h ws cm) (c ≠ g) (H c = some (.ins Cc dc fc)) (Qp aC aA ws.length H Cc fc) (H g = some (.ins aB dg [("paper", .ref d)])) (H d = some (.dT ps)) (Sm tv ws cm ps H) (Gh ws cm tv ps) (C8 ws cm tv) (0 < ws.length) (ws.length <= 8) ((∀ x ∈ ws, 1 <= x)) (Ae tv (ws, 0) = some (.int r)) (r < (N : Int)) (ps.length <= 300) (∀ (p l b : Addr) (us : List V) (rs : List PR) (r0 : PR) (H' : Hp), (∀ xs, H l ≠ some (.lst xs)) -> Bp H H' -> H' g = some (.ins aB dg [("paper", .ref d)]) ->
  H' p = some (.tup [.ref l,.ref b]) -> H' l = some (.lst us) -> Ah (P2 H') (rs ++ [r0]) us -> H' b = some (.lst ((Di (Ax ws r0.1.1 r0.2.1 r0.2.2) ws.length).map V.int)) -> Di (Ax ws r0.1.1 r0.2.1 r0.2.2) ws.length ≠ [] -> a9 ws cm tv ps (rs ++ [r0]) -> ((rs.length:Int) + 1 <= r) -> Q (.ref p) H')
theorem gf {fd fZ vZ pT jR kT aQ:FuncData} (T:Txt K mg ad aC aA aB) (F:Fn K "play" "play" Nw ad.dD fd) (gA:Af P w K mg base Bd 1 ad.cE fZ ["hall"] (Pd K)) (gB:Ap K fZ ["hall"] []) (yl:Af P w K mg base Bd 2 ad.gT vZ ["self","hall","standing"] (Zt K aC aA aB)) (ym:Ap K vZ ["self","hall","standing"] []) (pU:Af P w K mg base Bd 2 ad.dC pT ["self","hall","standing"] (Tx K aC aA aB)) (pV:Ap K pT ["self","hall","standing"] []) (mP:Af P w K mg base Bd 2 ad.fR jR ["self","hall","standing","who"] (Vf K aC aA aB)) (mQ:Ap K jR ["self","hall","standing","who"] []) (pW:Af P w K mg base Bd 4 ad.cJ kT ["hall","standing","who","lost"] (Tf K)) (pX:Ap K kT ["hall","standing","who","lost"] []) (cB:Ap K kT ["hall","standing","who","lost"] [Value.bool false]) (bC:Af P w K mg base Bd 4 ad.bH aQ ["hall","standing","who","lost"] (Hj K)) (bJ:Ap K aQ ["hall","standing","who","lost"] []) (aM:Ap K aQ ["hall","standing","who","lost"] [Value.bool false]):Af P w K mg base Bd 5 ad.dD fd ["hall","caller","road","turns"] (Um K aC aA aB):=by
 refine F.ok Hm (fun vs H Q E h=>?_) (fun aS A outer s H vs Q E hr h=>?_)
 ·rcases h with ⟨h,c,g,Cc,dc,dg,d,fc,ws,cm,tv,ps,TT,r,N,rfl,rfl,hh,KN,hc,sL,hg,hd0,gC,sJ,fE,tP,kK,cQ,iU,hrN,fI,q⟩ <;> rfl
 ·obtain ⟨h,c,g,Cc,dc,dg,d,fc,ws,cm,tv,ps,TT,r,N,rfl,rfl,hh,KN,hc,sL,hg,hd0,gC,sJ,fE,tP,kK,cQ,iU,hrN,fI,q⟩ := h
  refine ⟨_,(A7 (Am (i:=4) Hm.nd rfl (Or.inl rfl) (D5 A8)) (A7 (Am (i:=5) Hm.nd rfl (Or.inl rfl) (Ag gA (hr.mono (by decide)) rfl T.nX T.k_x22 gB .nil As (A0 (pv 0) A8))) (A7 (Ii PassesOwn.never (Bk L5 (Bf (Bz K) (by rfl) T.bN PySem.boot_len (A0 (pv 4) A8)) (pv 3) (Bh _)) (A7 (Am (i:=6) Hm.nd rfl (Or.inl rfl) (U1 (Xd (Kq (pv 1) T.aO T.UK yl (hr.mono (by decide)) ym .nil As (A0 (pv 0) (A0 (pv 5) A8))) (Kq (pv 1) T.mF T.IU pU (hr.mono (by decide)) pV .nil As (A0 (pv 0) (A0 (pv 5) A8)))))) (A7 (Am (i:=7) Hm.nd rfl (Or.inl rfl) (Kq (pv 2) T.aU T.IV mP (hr.mono (by decide)) mQ .nil As (A0 (pv 0) (A0 (pv 5) (A0 (pv 6) A8))))) (A7 (D4 (F7 (u':=X0 K _ _ _ _) (G3 PySem.F.plainAttrs_list PySem.F.slot_list_append PySem.F.type_list_append Dp (pv 4) (A0 (C4 (A0 (pv 5) (A0 (pv 6) (A0 (pv 7) A8)))) A8)))) (A7 (Am (i:=8) Hm.nd rfl (Or.inl rfl) (Ag pW (hr.mono (by decide)) rfl T.IA T.k_x14 pX .nil As (A0 (pv 0) (A0 (pv 5) (A0 (pv 6) (A0 (pv 7) A8)))))) (A7 (D1 (Li (pv 8) (by intro _; rfl)) (Ac (Aq (C4 (A0 (pv 4) (A0 (pv 8) A8))))) Bb) (Ac (Am (i:=5) Hm.nd rfl (Or.inl rfl) (Ag bC (hr.mono (by decide)) rfl T.fS T.k_x32 bJ .nil As (A0 (pv 0) (A0 (pv 5) (A0 (pv 6) (A0 (pv 7) A8))))))))))))) (Ac (Aq (C4 (A0 (pv 4) (A0 (D5 A8) A8)))))))),?_⟩
  refine ⟨Bm,fun L hL=>?_⟩
  have s1:A9 H (upd H L (.lst [])):=A9.upd hL
  have e1:(upd H L (.lst [])) L = some (.lst []):=A5
  generalize upd H L (.lst []) = H1 at s1 e1 ⊢
  refine ⟨_,rfl,h,ws,cm,rfl,hh.same s1,fun b0 H2 s2 yd=>?_⟩
  have cR:=s1.trans s2
  have iV:(ws,(0:Int)) ∈ ps.map (·.1):=sJ.1.xJ.resolve_right fun y=>by cases y
  refine Ic (fun σ' H'=>cr fun (us:List V) (b:Addr) (done:List PR) (fc:List (Str × V)) (m:Int) (v6 v7 v8:Option V)=>Z1 (σ' = [some (.ref h),some (.ref c),some (.ref g),some (.int N),some (.ref L),some (.ref b),v6,v7,v8]) (Bp H H') (H' L = some (.lst us)) (Ah (P2 H') done us) (Cg H' b (Dk ws cm done).1 (Dk ws cm done).2) (H' c = some (.ins Cc dc fc)) (Qp aC aA ws.length H Cc fc) (H' g = some (.ins aB dg [("paper",.ref d)])) (a9 ws cm tv ps done) ((∀ r,done[done.length - 1]? = some r -> (0:Int) ∉ Ax ws r.1.1 r.2.1 r.2.2)) (Dk ws cm done ∈ ps.map (·.1)) (Ae tv (Dk ws cm done) = some (.int m)) (m + (done.length:Int) <= r) ((done.map (·.1)).Nodup) (∀ x ∈ done,∃ mx:Int,Ae tv x.1 = some (.int mx) /\ m < mx))
   (fun (_:L2.St) (H':L2.Hp)=>match H' L with | some (.lst xs)=>N - xs.length | _=>0) ⟨[],b0,[],fc,r,none,none,none,rfl,A9.aJ cR,s2 _ _ e1,Ah.nil,yd,cR _ _ hc,sL,cR _ _ hg,a9.nil,(fun r h=>by simp at h),iV,iU,(by show r + ((0:Nat):Int) <= r; omega),List.nodup_nil,(fun x hx=>by cases hx)⟩ ?_ ?_
  ·rintro σ' H' ⟨us,b,done,fc',m,v6,v7,v8,rfl,st,pR,jW,bQ,fN,YH,hg',go,VF,kA,hm,hmr,GC,hgt⟩
   have PX:done.length <= 300:=by
    have h1:=List.Nodup.length_le_of_subset GC (show done.map (·.1) ⊆ ps.map (·.1) from fun x hx=>by
     obtain ⟨y,hy,rfl⟩ := List.mem_map.mp hx
     obtain ⟨i,hi,e⟩ := List.getElem_of_mem hy
     exact (go i y (by rw [List.getElem?_eq_getElem hi,e])).2.1.1)
    rw [List.length_map,List.length_map] at h1
    omega
   have GA:=jW.1
   have mu:∀ H2:Hp,∀ zs:List V,H2 L = some (.lst zs) -> (match H2 L with | some (.lst xs)=>N - xs.length | _=>0) = N - zs.length:=by
    intro H2 zs e
    rw [e]
   obtain ⟨m0,KO,jY,tX,tQ⟩ := Pq sJ fE kA
   rw [hm] at KO
   cases KO
   refine ⟨_,rfl,L,_,rfl,.inl (Bg.of pR),_,rfl,_,_,rfl,rfl,_,rfl,?_⟩
   refine Hi (fun aN=>?_) (fun PQ=>?_)
   ·refine ⟨fun v H3=>∃ (who:Nat) (fs:List (Str × V)),v = .int who /\ who < ws.length /\ Bp H' H3 /\ H3 c = some (.ins Cc dc fs) /\ Qp aC aA ws.length H Cc fs /\ H3 g = H' g,?_,?_⟩
    ·rcases YH with ⟨eC,qc,k,row,rfl,RB,mR⟩ | ⟨eC,rfl⟩
     ·rw [eC] at fN
      refine .inl ⟨_,rfl,c,dc,_,rfl,fN,rfl,_,rfl,_,rfl,c,dc,qc,b,row,k,_,(Dk ws cm done).1,(Dk ws cm done).2,rfl,fN,st.lst RB,bQ,by omega,fun v hv=>?_⟩
      obtain ⟨who,rfl,cC⟩ := Xp hv mR tX
      exact ⟨who,Jp qc (k + 1),rfl,cC,Bp.ins fN,by rw [eC]; exact A5,.inl ⟨eC,qc,k + 1,row,rfl,RB,mR⟩,Aa KN.symm⟩
     ·have gL:=fN
      rw [eC] at gL
      refine .inr ⟨_,rfl,c,dc,_,rfl,gL,rfl,_,rfl,_,rfl,_,_,b,(Dk ws cm done).1,(Dk ws cm done).2,rfl,bQ,by omega,fun j hj=>?_⟩
      have hj1:j < (Dk ws cm done).1.length:=hj.1
      exact ⟨j,_,rfl,by omega,Bp.refl _,fN,.inr ⟨eC,rfl⟩,rfl⟩
    rintro v H3 ⟨who,fc3,rfl,cC,t3,c3,YI,eg3⟩
    have g3:=eg3.trans hg'
    have bX:=st.trans t3
    obtain ⟨kv,aK,yn⟩ := List.mem_map.mp kA
    obtain ⟨t,et,ht⟩ := gC kv aK
    have pY:Ae ps (Dk ws cm done) = some (.ref t):=by
     rw [<- yn,<- et]
     exact Ct sJ.1.nd (show (kv.1,kv.2) ∈ ps from aK)
    have uG:=D8 tv ws kv.1.1 cm kv.1.2
    refine ⟨_,rfl,g,dg,_,rfl,g3,rfl,_,rfl,_,rfl,_,rfl,g,dg,d,h,b,ps,ws,(Dk ws cm done).1,cm,(Dk ws cm done).2,who,rfl,g3,bX.dT hd0,hh.aJ bX,bQ.aJ t3,(fun z=>by rw [show ((Dk ws cm done).1,(Dk ws cm done).2) = Dk ws cm done from rfl,pY] at z; cases z),fun v hv=>?_⟩
    have ev:v = .ref t:=by
     have jV:Ae ps (Dk ws cm done) = some v:=hv
     rw [pY] at jV
     exact (Option.some.inj jV).symm
    refine ⟨t,_,ev,bX.tup ht,(by rw [uG]; exact cC),?_⟩
    have pZ:((!decide (cm = none) && decide ((Dk ws cm done).2 = 0)) && (Er tv ws kv.1.1 cm kv.1.2).getD who false) = Bt tv ws (Dk ws cm done).1 cm (Dk ws cm done).2 who:=by
     rw [List.getD_eq_getElem?_getD,Hx cC,yn]
     show (Dl cm (Dk ws cm done).2 && Bt tv ws (Dk ws cm done).1 cm (Dk ws cm done).2 who) = _
     unfold Bt
     cases Dl cm (Dk ws cm done).2 <;> rfl
    rw [pZ]
    have gX:My cm (Dk ws cm done).2 (Bt tv ws (Dk ws cm done).1 cm (Dk ws cm done).2 who):=Ha
    generalize qA:Bt tv ws (Dk ws cm done).1 cm (Dk ws cm done).2 who = lost at gX ⊢
    have wb:V2 ws cm tv ps (Dk ws cm done,who,lost):=⟨kA,cC,qA.symm⟩
    have go2:=go.snoc VF rfl wb
    refine ⟨_,rfl,.inl ⟨rfl,_,Bg.of (t3.lst pR)⟩,_,rfl,_,rfl,_,rfl,Bm,fun t ht=>?_⟩
    have s5:A9 H3 (upd H3 t (.tup [.ref b,.int (who:Nat),.bl lost])):=A9.upd ht
    have e5:(upd H3 t (.tup [.ref b,.int (who:Nat),.bl lost])) t = some (.tup [.ref b,.int (who:Nat),.bl lost]):=A5
    have GF:=s5 _ _ (t3.lst pR)
    have uJ:done.length < N:=by
     have:((us.length:Nat):Int) < (N:Int):=by simpa using aN
     omega
    refine ⟨L,us,_,rfl,rfl,GF,Bj (by omega),?_⟩
    have RC:=s5 _ _ c3
    have RE:=s5 _ _ g3
    generalize upd H3 t (.tup [.ref b,.int (who:Nat),.bl lost]) = H5 at s5 e5 GF RC RE ⊢
    have xm:=bX.trans (A9.aJ s5)
    have YJ:Bp H (upd H5 L (.lst (us ++ [.ref t]))):=xm.new hL
    have YK:(upd H5 L (.lst (us ++ [.ref t]))) L = some (.lst (us ++ [.ref t])):=A5
    have t6:Fj H' (upd H5 L (.lst (us ++ [.ref t]))):=(t3.trans (A9.aJ s5)).aX.trans (Fj.lst GF)
    have e6t:(upd H5 L (.lst (us ++ [.ref t]))) t = _:=Fj.lst (o := .lst (us ++ [.ref t])) GF _ _ e5
    have c6:(upd H5 L (.lst (us ++ [.ref t]))) c = _:=(Aa (fun z=>by rw [z,GF] at RC; cases RC)).trans RC
    have g6:(upd H5 L (.lst (us ++ [.ref t]))) g = _:=(Aa (fun z=>by rw [z,GF] at RE; cases RE)).trans RE
    generalize upd H5 L (.lst (us ++ [.ref t])) = H6 at YJ YK t6 e6t c6 g6 ⊢
    have aE:=bQ.aX t6
    have YL:Ah (P2 H6) (done ++ [(Dk ws cm done,who,lost)]) (us ++ [.ref t]):=(F8 t6 jW).append (Ah.one ⟨t,b,rfl,e6t,aE⟩)
    refine ⟨_,rfl,_,rfl,_,rfl,_,rfl,h,b,ws,(Dk ws cm done).1,cm,(Dk ws cm done).2,who,lost,rfl,hh.aJ YJ,aE,cC,tX,kK,gX,fun l H7 oO s7 el=>?_⟩
    have hlb:(Ax ws (Dk ws cm done).1 who lost).length = ws.length:=(Fs _ _ _ _).trans tX
    have xw:=YJ.trans (A9.aJ s7)
    have KP:=F8 (A9.aX s7) YL
    refine ⟨_,rfl,_,.inl ⟨_,Bg.of el,rfl⟩,?_⟩
    refine Hi (fun hb=>?_) (fun hb=>?_)
    ·have bP : Di (Ax ws (Dk ws cm done).1 who lost) ws.length ≠ [] := fun z => by
      rw [z] at hb
      exact absurd hb (by decide)
     refine ⟨_,rfl,_,rfl,Bm,fun p hp=>?_⟩
     have s8:=A9.upd (o := .tup [.ref L,.ref l]) hp
     exact q p L l _ done (Dk ws cm done,who,lost) _ (fun xs z=>by rw [hL] at z; cases z) (xw.trans (A9.aJ s8)) (s8 _ _ (s7 _ _ g6)) A5 (s8 _ _ (s7 _ _ YK)) (F8 (A9.aX s8) KP) (s8 _ _ el) bP go2 (by omega)
    ·have he : Di (Ax ws (Dk ws cm done).1 who lost) ws.length = [] := by
      cases hx:Di (Ax ws (Dk ws cm done).1 who lost) ws.length with
      | nil=>rfl
      | cons a r=>exact absurd (by rw [hx]; rfl) hb
     have hz:(0:Int) ∉ Ax ws (Dk ws cm done).1 who lost:=by
      have:=(Tq (show ws.length <= (Ax ws (Dk ws cm done).1 who lost).length by omega)).mp he
      rw [<- hlb,List.take_length] at this
      exact this
     obtain ⟨m',a1,a2,a3,a4⟩ := Xu sJ fE wb hm hz
     refine ⟨_,rfl,_,rfl,_,rfl,_,rfl,h,b,ws,(Dk ws cm done).1,cm,(Dk ws cm done).2,who,lost,rfl,hh.aJ xw,aE.same s7,cC,tX,kK,gX,(fun z=>absurd z hz),fun _ b2 H8 s8 KQ=>?_⟩
     have hlen:(done ++ [(Dk ws cm done,who,lost)]).length = done.length + 1:=by rw [List.length_append]; rfl
     have e8L:=s8 _ _ (s7 _ _ YK)
     have YM:Dk ws cm (done ++ [(Dk ws cm done,who,lost)]) = (Ax ws (Dk ws cm done).1 who lost,Cj cm (Dk ws cm done).2 lost):=Qs
     refine ⟨⟨us ++ [.ref t],b2,done ++ [(Dk ws cm done,who,lost)],_,m',_,_,_,rfl,xw.trans (A9.aJ s8),e8L,F8 (A9.aX s8) KP,?_,s8 _ _ (s7 _ _ c6),YI,s8 _ _ (s7 _ _ g6),go2,(fun r hr=>?_),?_,?_,?_,?_,?_⟩,?_⟩
     ·rw [YM]
      exact KQ
     ·rw [hlen,Nat.add_sub_cancel,List.getElem?_append_right (Nat.le_refl _),Nat.sub_self] at hr
      have hr':r = (Dk ws cm done,who,lost):=(Option.some.inj hr).symm
      rw [hr']
      exact hz
     ·rw [YM]
      exact a4
     ·rw [YM]
      exact a1
     ·rw [hlen]
      omega
     ·rw [List.map_append]
      refine Dv GC fun z=>?_
      obtain ⟨x,hx,e⟩ := List.mem_map.mp z
      obtain ⟨mx,h1,h2⟩ := hgt x hx
      have e':x.1 = Dk ws cm done:=e
      rw [e',hm] at h1
      injection h1 with z1
      injection z1 with z1
      omega
     ·intro x hx
      rcases List.mem_append.mp hx with z | z
      ·obtain ⟨mx,h1,h2⟩ := hgt x z
       exact ⟨mx,h1,by omega⟩
      ·rw [List.mem_singleton.mp z]
       exact ⟨m,hm,by omega⟩
     ·rw [mu _ _ e8L,mu _ _ pR,List.length_append,List.length_singleton]
      omega
   ·have:¬ ((us.length:Nat):Int) < (N:Int):=by simpa using PQ
    omega
  ·intro σ H0 Q1 Q2 z h1
   obtain ⟨_,e,L',us,e1,e2,v,e3,i,j,e4,e5,b,e6,h2⟩ := h1
   exact ⟨_,e,L',us,e1,e2,v,e3,i,j,e4,e5,b,e6,z _ _ h2⟩
def Xy (K:PySem.W.Frag) (aC aA aB:Addr):Sp:=fun vs H Q _=>Yo fun (x dx a:Addr) (us:List V)=>Sz (vs = [.ref x,.ref a]) (H x = some (.ins aA dx [])) (H a = some (.lst us)) (∀ (r:Addr) (H':Hp),H r = none -> H' x = some (.ins aA dx (Jp r 0)) -> H' r = some (.lst us) -> (∀ b o,b ≠ x -> H b = some o -> H' b = some o) -> Q .aR H')
theorem nz {fd  : FuncData} (T:Txt K mg ad aC aA aB) (F:Fn K "__init__" "RowCaller.__init__" Xe ad.gU fd):Af P w K mg base Bd 1 ad.gU fd ["self","row"] (Xy K aC aA aB):=by
 refine F.ok og (fun vs H Q E h=>?_) (fun aS A outer s H vs Q E hr h=>?_)
 ·rcases h with ⟨x,dx,a,us,rfl,hx,ha,q⟩ <;> rfl
 ·obtain ⟨x,dx,a,us,rfl,hx,ha,q⟩ := h
  refine ⟨_,(A7 (Oo (pv 0) (Ea P0 (by rfl) T.oC boot_list (A0 (pv 1) A8)) rfl) (Ac (Oo (pv 0) Ab rfl))),?_⟩
  refine ⟨_,rfl,a,us,rfl,.inl (Bg.of ha),fun r iU=>?_⟩
  have YN:x ≠ r:=Ad hx iU
  have e1:(upd H r (.lst us)) x = some (.ins aA dx []):=by rw [Aa YN]; exact hx
  refine ⟨_,rfl,x,_,dx,_,rfl,e1,T.aO,T.bB,(by show 0 < 1000; decide),?_⟩
  refine ⟨_,rfl,x,_,dx,_,rfl,A5,T.aO,T.aW,(by show 1 < 1000; decide),?_⟩
  show Q .aR (upd (upd (upd H r (.lst us)) x (.ins aA dx [("row",.ref r)])) x (.ins aA dx (Eh "asked" (.int 0) [("row",.ref r)])))
  rw [Zr]
  refine q r _ iU A5 ?_ fun b o hb e=>?_
  ·rw [Aa (Ne.symm YN),Aa (Ne.symm YN),A5]
  ·rw [Aa hb,Aa hb,Aa (Ad e iU)]
   exact e
def Yd (K:PySem.W.Frag) (aC aA aB:Addr):Sp:=fun vs H Q _=>kd fun (x dx l:Addr) (us:List V) (ps:List ((List Int × Int) × V))=>Mz (vs = [.ref x,.ref l]) (H x = some (.ins aB dx [])) (H l = some (.lst us)) (us.length <= 300) (Ah (Js H) ps us) (∀ (d:Addr) (H':Hp),H d = none -> H' x = some (.ins aB dx [("paper",.ref d)]) -> H' d = some (.dT (Df [] ps)) -> (∀ b o,b ≠ x -> H b = some o -> H' b = some o) -> Q .aR H')
theorem nj {fd  : FuncData} (T:Txt K mg ad aC aA aB) (F:Fn K "__init__" "PaperRoad.__init__" Sc ad.gW fd):Af P w K mg base Bd 1 ad.gW fd ["self","paper"] (Yd K aC aA aB):=by
 refine F.ok mj (fun vs H Q E h=>?_) (fun aS A outer s H vs Q E hr h=>?_)
 ·rcases h with ⟨x,dx,l,us,ps,rfl,hx,hl,GA,fI,q⟩ <;> rfl
 ·obtain ⟨x,dx,l,us,ps,rfl,hx,hl,GA,fI,q⟩ := h
  refine ⟨_,(Ac (Oo (pv 0) (Ea (Sk K (qy hr) rfl) (by rfl) T.xI boot_dict (A0 (En (E2 (w':=Ra K _) (E3 (pv 1))) _ rfl Fb rfl rfl (fun _ _ _ _=>(De K (n:=3) rfl (Ay (Al (i:=0) Cf rfl (Or.inl rfl)) (Ay (Al (i:=1) Cf rfl (Or.inl rfl)) (Ay (Al (i:=2) Cf rfl (Or.inl rfl)) Dg))))) (fun _ _ _ _=>E6) (fun _ _ _ _=>(C4 (A0 (pv 0) (A0 (pv 2) A8))))) A8)) rfl)),?_⟩
  refine ⟨_,rfl,l,rfl,.inl ⟨⟨_,Bg.of hl⟩,fun D hD=>?_⟩⟩
  refine U8 (K:=K) (a:=l) (xs:=us) (fun i zs H'=>H' D = some (.lst zs) /\ A9 H H' /\ Ah (Ll H') (ps.take i) zs) ⟨A5,A9.upd hD,Ah.nil⟩ (by rintro i zs H' _ ⟨_,s,_⟩; exact Bg.of (s _ _ hl)) ?_ ?_ ?_ ?_
  ·rintro i u zs H' hu ⟨jO,s',dQ⟩
   obtain ⟨p,hp,t,b,w,rfl,ht,hb⟩ := fI.get hu
   have hi:=(List.getElem?_eq_some_iff.mp hu).1
   have nB:=dQ.1
   rw [List.length_take] at nB
   refine ⟨t,.ref b,w,p.2,rfl,Bw.of (s' _ _ ht),?_⟩
   simp only [Mu,↓reduceIte]
   refine ⟨_,rfl,_,rfl,Bm,fun T0 KR=>?_⟩
   have s2:A9 H' (upd H' T0 (.tup [.ref b,p.2])):=A9.upd KR
   have e2:(upd H' T0 (.tup [.ref b,p.2])) T0 = some (.tup [.ref b,p.2]):=A5
   generalize upd H' T0 (.tup [.ref b,p.2]) = H2 at s2 e2 ⊢
   have hX:=s2 _ _ jO
   have t3:Fj H2 (upd H2 D (.lst (zs ++ [.ref T0]))):=Fj.lst hX
   refine ⟨hX,Bj (by omega),A5,(s'.trans s2).new hD,?_⟩
   rw [Oy hp]
   exact (dQ.imp fun _ _ z=>(z.same s2).aX t3).append (Ah.one ⟨T0,b,rfl,t3 _ _ e2,(Mf (s'.trans s2) hb).up t3⟩)
  ·intro σ H1 Q1 Q2 hQ z
   exact hQ _ _ z
  ·rintro σ H1 Q1 Q2 hQ ⟨v,e1,v2,e2,z1,z2⟩
   exact ⟨v,e1,v2,e2,z1,fun p hp=>hQ _ _ (z2 p hp)⟩
  rintro zs H1 ⟨QL,s1,dQ⟩
  rw [fI.1,List.take_length] at dQ
  refine ⟨D,zs,ps,rfl,Bg.of QL,dQ.1,(fun j u p e1 e2=>dQ.2 j p u e2 e1),fun d hd=>?_⟩
  have xK:=s1 _ _ hx
  have hxd:x ≠ d:=Ad xK hd
  have e1:(upd H1 d (.dT (Df [] ps))) x = some (.ins aB dx []):=(Aa hxd).trans xK
  refine ⟨_,rfl,x,_,dx,_,rfl,e1,T.aU,T.aP,(by show 0 < 1000; decide),?_⟩
  refine q d _ (s1.free hd) A5 ((Aa hxd.symm).trans A5) fun b o hb e=>?_
  rw [Aa hb,Aa (Ad (s1 _ _ e) hd)]
  exact s1 _ _ e
def Pg (K:PySem.W.Frag):Sp:=fun vs H Q _=>Wi fun (a:Addr) (ns:List Int) (k:Int)=>Sz (vs = [.ref a,.int k]) (Bg K H a (ns.map V.int)) (0 <= k) (Q (.int (Jt ns k)) H)
theorem jr {fd  : FuncData} (T:Txt K mg ad aC aA aB) (F:Fn K "_law_cell_at" "_law_cell_at" Oa ad.cN fd):Af P w K mg base Bd 1 ad.cN fd ["script","k"] (Pg K):=by
 refine F.ok ii (fun vs H Q E h=>?_) (fun aS A outer s H vs Q E hr h=>?_)
 ·rcases h with ⟨a,ns,k,rfl,hS,hk,q⟩ <;> rfl
 ·obtain ⟨a,ns,k,rfl,hS,hk,q⟩ := h
  refine ⟨_,(A7 (D1 (Bk L5 (pv 1) (Bf (Bz K) (by rfl) T.bN PySem.boot_len (A0 (pv 0) A8)) (Bh _)) (Ac (Aq (Ba (B9 K) (pv 0) (pv 1) (fun _ _=>rfl)))) Bb) (Ac (Aq Ab))),?_⟩
  refine ⟨_,rfl,_,rfl,a,_,rfl,.inl hS,_,_,rfl,rfl,_,rfl,?_⟩
  refine Hi (fun aN=>?_) (fun aN=>?_)
  ·have uJ:k < ns.length:=by simpa using aN
   exact ⟨_,rfl,_,rfl,a,_,_,_,rfl,rfl,.inl hS,ag hk uJ,q⟩
  ·have uJ:¬ k < ns.length:=by simpa using aN
   rw [We hk uJ] at q
   exact q
def Uc (K:PySem.W.Frag):Sp:=fun vs H Q _=>Zz fun (a:Addr) (ns:List Int)=>W9 (vs = [.ref a]) (Bg K H a (ns.map V.int)) (∀ (p:Addr) (ws:List Int) (cm:Option Int) (H':Hp),A9 H H' -> B0 H' p ws cm -> Ef ws cm -> Q (.ref p) H')
theorem ji {fd gF:FuncData} (T:Txt K mg ad aC aA aB) (F:Fn K "_law_hall" "_law_hall" Oj ad.dE fd) (gG:Af P w K mg base Bd 1 ad.cN gF ["script","k"] (Pg K)) (gH:Ap K gF ["script","k"] []):Af P w K mg base Bd 2 ad.dE fd ["script"] (Uc K):=by
 refine F.ok Ma (fun vs H Q E h=>?_) (fun aS A outer s H vs Q E hr h=>?_)
 ·rcases h with ⟨a,ns,rfl,hS,q⟩ <;> rfl
 ·obtain ⟨a,ns,rfl,hS,q⟩ := h
  refine ⟨_,(A7 (Am (i:=1) Ma.nd rfl (Or.inl rfl) (B6 Cw (Ag gG (hr.mono (by decide)) rfl T.nZ T.k_x17 gH .nil As (A0 (pv 0) (A0 Ab A8))) Ab)) (A7 (Am (i:=2) Ma.nd rfl (Or.inl rfl) (Ag gG (hr.mono (by decide)) rfl T.nZ T.k_x17 gH .nil As (A0 (pv 0) (A0 Ab A8)))) (A7 (D1 (Bk O7 (pv 1) Ab (Bh _)) (Ac (Aq (C4 (A0 (C4 (A0 Ab A8)) (A0 (B6 Cy Ab (B6 Cw (pv 2) Ab)) A8))))) Bb) (A7 (D1 (Bk L5 (pv 1) Ab (Bh _)) (A7 (Am (i:=3) Ma.nd rfl (Or.inl rfl) (D5 (A0 (B6 Cy Ab (B6 Cw (pv 2) Ab)) (A0 (B6 Cy Ab (B6 Cw (B6 E4 (pv 2) Ab) Ab)) A8)))) (A7 (Sx (B6 Cy Ab (B6 Cw (B6 E4 (pv 2) Ab) Ab)) (Z0 (pv 3) (B6 Cw (B6 E4 (pv 2) Ab) Ab) Qo)) (Ac (Aq (C4 (A0 (Ea (Hb K) (by rfl) T.dZ boot_tuple (A0 (pv 3) A8)) (A0 (Ba (B9 K) (D5 (A0 Dj (A0 Ab A8))) (B6 Ou (pv 1) Ab) (fun _ _=>rfl)) A8))))))) Bb) (A7 (D1 (Bk L5 (pv 1) Ab (Bh _)) (Ac (Aq (C4 (A0 (C4 (A0 (B6 Cy Ab (B6 Cw (pv 2) Ab)) (A0 (B6 Cy Ab (B6 Cw (B6 E4 (pv 2) Ab) Ab)) (A0 (B6 Cy Ab (B6 Cw (B6 E4 (pv 2) Ab) Ab)) A8)))) (A0 Dj A8))))) Bb) (A7 (Am (i:=3) Ma.nd rfl (Or.inl rfl) (D5 (A0 (B6 Cy Ab (B6 Cw (B6 E4 (pv 2) Ab) Ab)) (A0 Ab A8)))) (A7 (D4 (F7 (u':=X0 K _ _ _ _) (G3 PySem.F.plainAttrs_list PySem.F.slot_list_insert PySem.F.type_list_insert Wp (pv 3) (A0 (B6 Cw (pv 2) Ab) (A0 Ab A8))))) (Ac (Aq (C4 (A0 (Ea (Hb K) (by rfl) T.dZ boot_tuple (A0 (pv 3) A8)) (A0 Dj A8)))))))))))),?_⟩
  refine ⟨_,rfl,a,ns,_,rfl,hS,by decide,_,_,rfl,rfl,(by first | (show (0:Int) < _; decide) | simp),?_⟩
  refine ⟨_,rfl,a,ns,_,rfl,hS,by decide,?_⟩
  have m6:=Bq (Jt ns 0) (show (0:Int) < 6 by decide)
  dsimp only
  generalize Jt ns 0 % 6 = kind at m6 ⊢
  generalize Jt ns 1 = cell
  refine ⟨_,rfl,rfl,_,rfl,?_⟩
  refine Hi (fun _=>?_) (fun JV=>?_)
  ·refine ⟨Bm,fun t ht=>?_⟩
   have s1:A9 H (upd H t (.tup [.int 1])):=A9.upd ht
   have e1:(upd H t (.tup [.int 1])) t = some (.tup [.int 1]):=A5
   generalize upd H t (.tup [.int 1]) = H1 at s1 e1 ⊢
   refine ⟨_,rfl,_,_,rfl,rfl,(by first | (show (0:Int) < _; decide) | simp),_,_,rfl,rfl,Bm,fun p hp=>?_⟩
   exact q p [1] (some (1 + cell % 20)) _ (s1.trans (A9.upd hp)) ⟨t,A5,(A9.upd hp) _ _ e1⟩ (Y5 cell)
  have tO:kind ≠ 0:=fun z=>JV (by rw [z]; rfl)
  refine ⟨_,rfl,_,_,rfl,rfl,_,rfl,?_⟩
  refine Hi (fun hk3=>?_) (fun hk3=>?_)
  ·have hk3':kind < 3:=of_decide_eq_true hk3
   have a1:=Bq cell (show (0:Int) < 4 by decide)
   have a2:=Bq (cell / 4) (show (0:Int) < 4 by decide)
   have a3:=Bq (cell / 16) (show (0:Int) < 2 by decide)
   have a4:=Bq (cell / 32) (show (0:Int) < 2 by decide)
   refine ⟨_,rfl,_,_,rfl,rfl,(by first | (show (0:Int) < _; decide) | simp),_,_,rfl,rfl,_,rfl,_,_,rfl,rfl,⟨by decide,by decide⟩,_,_,rfl,rfl,(by first | (show (0:Int) < _; decide) | simp),_,_,rfl,rfl,Bm,fun W hW=>?_⟩
   have s1:A9 H (upd H W (.lst [.int (1 + cell % 4),.int (1 + cell / 4 % 4)])):=A9.upd hW
   have e1:(upd H W (.lst [.int (1 + cell % 4),.int (1 + cell / 4 % 4)])) W = some (.lst [.int (1 + cell % 4),.int (1 + cell / 4 % 4)]):=A5
   generalize upd H W (.lst [.int (1 + cell % 4),.int (1 + cell / 4 % 4)]) = H1 at s1 e1 ⊢
   refine ⟨_,rfl,_,_,rfl,rfl,⟨by decide,by decide⟩,_,_,rfl,rfl,(by first | (show (0:Int) < _; decide) | simp),_,_,rfl,rfl,_,rfl,_,rfl,_,_,rfl,rfl,⟨by decide,by decide⟩,_,_,rfl,rfl,(by first | (show (0:Int) < _; decide) | simp),W,_,_,(cell / 16 % 2).toNat,rfl,rfl,e1,l0 a3.1 (by show cell / 16 % 2 < 2; omega),?_⟩
   have YO:∃ x y:Int,(1 <= x /\ x <= 4) /\ (1 <= y /\ y <= 4) /\ [V.int (1 + cell % 4),V.int (1 + cell / 4 % 4)].set (cell / 16 % 2).toNat (.int (1 + cell / 32 % 2)) = [x,y].map V.int:=by
    have:cell / 16 % 2 = 0 \/ cell / 16 % 2 = 1:=by omega
    rcases this with e | e <;> rw [e]
    ·exact ⟨1 + cell / 32 % 2,1 + cell / 4 % 4,by omega,by omega,rfl⟩
    ·exact ⟨1 + cell % 4,1 + cell / 32 % 2,by omega,by omega,rfl⟩
   obtain ⟨x,y,hx,hy,YQ⟩ := YO
   rw [YQ]
   have s2:A9 H (upd H1 W (.lst ([x,y].map V.int))):=s1.new hW
   have e2:(upd H1 W (.lst ([x,y].map V.int))) W = some (.lst ([x,y].map V.int)):=A5
   generalize upd H1 W (.lst ([x,y].map V.int)) = H2 at s2 e2 ⊢
   refine ⟨_,rfl,W,_,rfl,.inl ⟨Bg.of e2,fun t ht=>?_⟩⟩
   have s3:A9 H2 (upd H2 t (.tup ([x,y].map V.int))):=A9.upd ht
   have e3:(upd H2 t (.tup ([x,y].map V.int))) t = some (.tup ([x,y].map V.int)):=A5
   generalize upd H2 t (.tup ([x,y].map V.int)) = H3 at s3 e3 ⊢
   refine ⟨Bm,fun L hL=>?_⟩
   have s4:A9 H3 (upd H3 L (.lst [.aR,.int 1])):=A9.upd hL
   have e4:(upd H3 L (.lst [.aR,.int 1])) L = some (.lst [.aR,.int 1]):=A5
   generalize upd H3 L (.lst [.aR,.int 1]) = H4 at s4 e4 ⊢
   have nA:kind = 1 \/ kind = 2:=by omega
   rcases nA with e | e <;> subst e
   ·refine ⟨_,rfl,_,_,rfl,rfl,L,_,_,_,rfl,rfl,.inl (Bg.of e4),rfl,Bm,fun p hp=>?_⟩
    exact q p [x,y] none _ (((s2.trans s3).trans s4).trans (A9.upd hp)) ⟨t,A5,(A9.upd hp) _ _ (s4 _ _ e3)⟩ (Qi hx hy (.inl rfl))
   ·refine ⟨_,rfl,_,_,rfl,rfl,L,_,_,_,rfl,rfl,.inl (Bg.of e4),rfl,Bm,fun p hp=>?_⟩
    exact q p [x,y] (some 1) _ (((s2.trans s3).trans s4).trans (A9.upd hp)) ⟨t,A5,(A9.upd hp) _ _ (s4 _ _ e3)⟩ (Qi hx hy (.inr rfl))
  refine ⟨_,rfl,_,_,rfl,rfl,_,rfl,?_⟩
  refine Hi (fun _=>?_) (fun _=>?_)
  ·have a1:=Bq cell (show (0:Int) < 3 by decide)
   have a2:=Bq (cell / 3) (show (0:Int) < 3 by decide)
   have a3:=Bq (cell / 9) (show (0:Int) < 3 by decide)
   refine ⟨_,rfl,_,_,rfl,rfl,(by first | (show (0:Int) < _; decide) | simp),_,_,rfl,rfl,_,rfl,_,_,rfl,rfl,⟨by decide,by decide⟩,_,_,rfl,rfl,(by first | (show (0:Int) < _; decide) | simp),_,_,rfl,rfl,_,rfl,_,_,rfl,rfl,⟨by decide,by decide⟩,_,_,rfl,rfl,(by first | (show (0:Int) < _; decide) | simp),_,_,rfl,rfl,Bm,fun t ht=>?_⟩
   have s1:A9 H (upd H t (.tup [.int (1 + cell % 3),.int (1 + cell / 3 % 3),.int (1 + cell / 9 % 3)])):=A9.upd ht
   have e1:(upd H t (.tup [.int (1 + cell % 3),.int (1 + cell / 3 % 3),.int (1 + cell / 9 % 3)])) t = some (.tup [.int (1 + cell % 3),.int (1 + cell / 3 % 3),.int (1 + cell / 9 % 3)]):=A5
   generalize upd H t (.tup [.int (1 + cell % 3),.int (1 + cell / 3 % 3),.int (1 + cell / 9 % 3)]) = H1 at s1 e1 ⊢
   refine ⟨Bm,fun p hp=>?_⟩
   exact q p [1 + cell % 3,1 + cell / 3 % 3,1 + cell / 9 % 3] none _ (s1.trans (A9.upd hp)) ⟨t,A5,(A9.upd hp) _ _ e1⟩ (bq (a:=3) (b:=3) (c:=3) (by omega) (by omega) (by omega) (by decide) (by decide) (by decide) (by decide)).all
  have a1:=Bq (cell / 6) (show (0:Int) < 5 by decide)
  have a2:=Bq cell (show (0:Int) < 3 by decide)
  refine ⟨_,rfl,_,_,rfl,rfl,⟨by decide,by decide⟩,_,_,rfl,rfl,(by first | (show (0:Int) < _; decide) | simp),_,_,rfl,rfl,Bm,fun W hW=>?_⟩
  have s1:A9 H (upd H W (.lst [.int (2 + cell / 6 % 5),.int 3])):=A9.upd hW
  have e1:(upd H W (.lst [.int (2 + cell / 6 % 5),.int 3])) W = some (.lst [.int (2 + cell / 6 % 5),.int 3]):=A5
  generalize upd H W (.lst [.int (2 + cell / 6 % 5),.int 3]) = H1 at s1 e1 ⊢
  refine ⟨_,rfl,.inl ⟨rfl,_,Bg.of e1⟩,_,rfl,_,_,rfl,rfl,(by first | (show (0:Int) < _; decide) | simp),W,_,_,_,rfl,rfl,e1,a2.1,(by show cell % 3 <= 2; omega),Bj (by simp),?_⟩
  have YO:∃ ws:List Int,ow ws /\ [V.int (2 + cell / 6 % 5),V.int 3].take (cell % 3).toNat ++ V.int 2 :: [V.int (2 + cell / 6 % 5),V.int 3].drop (cell % 3).toNat = ws.map V.int:=by
   have:cell % 3 = 0 \/ cell % 3 = 1 \/ cell % 3 = 2:=by omega
   rcases this with e | e | e <;> rw [e]
   ·exact ⟨[2,2 + cell / 6 % 5,3],bq (a:=2) (b:=6) (c:=3) (by omega) (by omega) (by omega) (by decide) (by decide) (by decide) (by decide),rfl⟩
   ·exact ⟨[2 + cell / 6 % 5,2,3],bq (a:=6) (b:=2) (c:=3) (by omega) (by omega) (by omega) (by decide) (by decide) (by decide) (by decide),rfl⟩
   ·exact ⟨[2 + cell / 6 % 5,3,2],bq (a:=6) (b:=3) (c:=2) (by omega) (by omega) (by omega) (by decide) (by decide) (by decide) (by decide),rfl⟩
  obtain ⟨ws,hwk,YQ⟩ := YO
  rw [YQ]
  have s2:A9 H (upd H1 W (.lst (ws.map V.int))):=s1.new hW
  have e2:(upd H1 W (.lst (ws.map V.int))) W = some (.lst (ws.map V.int)):=A5
  generalize upd H1 W (.lst (ws.map V.int)) = H2 at s2 e2 ⊢
  refine ⟨_,rfl,W,_,rfl,.inl ⟨Bg.of e2,fun t ht=>?_⟩⟩
  have s3:A9 H2 (upd H2 t (.tup (ws.map V.int))):=A9.upd ht
  have e3:(upd H2 t (.tup (ws.map V.int))) t = some (.tup (ws.map V.int)):=A5
  generalize upd H2 t (.tup (ws.map V.int)) = H3 at s3 e3 ⊢
  refine ⟨Bm,fun p hp=>?_⟩
  exact q p ws none _ ((s2.trans s3).trans (A9.upd hp)) ⟨t,A5,(A9.upd hp) _ _ e3⟩ hwk.all
def Ub (K:PySem.W.Frag):Sp:=fun vs H Q _=>Wi fun (a:Addr) (ns:List Int) (m:Int)=>X7 (vs = [.ref a,.int m]) (Bg K H a (ns.map V.int)) (ns.length <= 63) ((∀ z ∈ ns,intBits z <= 2 ^ 20)) (1 <= m) (m <= 8) (∀ (p:Addr) (row:List Int) (H':Hp),A9 H H' -> H' p = some (.lst (row.map V.int)) -> (∀ x ∈ row,0 <= x /\ x < m) -> Q (.ref p) H')
theorem jn {fd gF:FuncData} (T:Txt K mg ad aC aA aB) (F:Fn K "_law_row" "_law_row" Nu ad.dG fd) (gG:Af P w K mg base Bd 1 ad.cN gF ["script","k"] (Pg K)) (gH:Ap K gF ["script","k"] []):Af P w K mg base Bd 2 ad.dG fd ["script","many"] (Ub K):=by
 refine F.ok Tg (fun vs H Q E h=>?_) (fun aS A outer s H vs Q E hr h=>?_)
 ·rcases h with ⟨a,ns,m,rfl,hS,hlen,qB,jY,hm8,q⟩ <;> rfl
 ·obtain ⟨a,ns,m,rfl,hS,hlen,qB,jY,hm8,q⟩ := h
  refine ⟨_,(A7 (Am (i:=2) Tg.nd rfl (Or.inl rfl) (D5 A8)) (A7 (D6 PassesOwn.never rfl (E2 (w':=Ra K _) (E3 (Rq (Qc K) (pv 0) (Po Ab) (Po Ab)))) (Al (i:=3) Tg.nd rfl (Or.inl rfl)) (Ac (Hh (Bk O7 (B6 Cw (B6 E4 (Ag gG (hr.mono (by decide)) rfl T.nZ T.k_x17 gH .nil As (A0 (pv 0) (A0 Ab A8))) Ab) Ab) Ab (Bh _)) (Ac (D4 (F7 (u':=X0 K _ _ _ _) (G3 PySem.F.plainAttrs_list PySem.F.slot_list_append PySem.F.type_list_append Dp (pv 2) (A0 (B6 Cw (B6 Cw (B6 Vn (pv 3) Ab) Ab) (pv 1)) A8))))) (Ac (D4 (F7 (u':=X0 K _ _ _ _) (G3 PySem.F.plainAttrs_list PySem.F.slot_list_append PySem.F.type_list_append Dp (pv 2) (A0 (B6 Cw (B6 Cy (Bf (Bz K) (by rfl) T.bN PySem.boot_len (A0 (pv 2) A8)) (B6 E4 (B6 Cw (pv 3) Ab) Ab)) (pv 1)) A8)))))))) (Ac (Aq (pv 2))))),?_⟩
  refine ⟨Bm,fun O hO=>?_⟩
  have s1:A9 H (upd H O (.lst [])):=A9.upd hO
  have e1:(upd H O (.lst [])) O = some (.lst []):=A5
  generalize upd H O (.lst []) = H1 at s1 e1 ⊢
  refine ⟨_,rfl,_,rfl,_,rfl,a,_,rfl,s1.seq hS,fun sl RF=>?_⟩
  rw [N9]
  have mB:(Ow ns (some 2) (some 63)).length <= 63:=Nat.le_trans (Rv _ _ _) hlen
  have hcb:∀ z ∈ Ow ns (some 2) (some 63),intBits z <= 2 ^ 20:=fun z hz=>qB z (List.mem_of_mem_drop (List.mem_of_mem_take hz))
  generalize Ow ns (some 2) (some 63) = cs at mB hcb ⊢
  have s2:A9 H1 (upd H1 sl (.lst (cs.map V.int))):=A9.upd RF
  have e2:(upd H1 sl (.lst (cs.map V.int))) sl = some (.lst (cs.map V.int)):=A5
  generalize upd H1 sl (.lst (cs.map V.int)) = H2 at s2 e2 ⊢
  have hsO:sl ≠ O:=(Ad e1 RF).symm
  refine ⟨sl,rfl,.inl ⟨⟨_,Bg.of e2⟩,?_⟩⟩
  refine D3 (K:=K) (a:=sl) (xs:=cs.map V.int) (fun i σ H'=>Zz fun (row:List Int) (v3:Option V)=>Mz (σ = [some (.ref a),some (.int m),some (.ref O),v3]) (row.length = i) ((∀ x ∈ row,0 <= x /\ x < m)) (H' O = some (.lst (row.map V.int))) (H' sl = some (.lst (cs.map V.int))) (A9 H H')) ⟨[],none,rfl,rfl,(fun x hx=>by cases hx),s2 _ _ e1,e2,s1.trans s2⟩ (by rintro i σ H' _ ⟨_,_,_,_,_,_,e,_⟩; exact Bg.of e) ?_ ?_
  ·rintro i y σ H' hy ⟨row,v3,rfl,xR,hV,yo,yp,s'⟩
   have hi:=(List.getElem?_eq_some_iff.mp hy).1
   rw [List.length_map] at hi
   rw [List.getElem?_map] at hy
   obtain ⟨x,hx,rfl⟩ := Option.map_eq_some_iff.mp hy
   refine ⟨_,rfl,a,ns,_,rfl,s'.seq hS,by decide,_,_,rfl,rfl,⟨by decide,by decide⟩,_,_,rfl,rfl,(by first | (show (0:Int) < _; decide) | simp),rfl,_,rfl,_,fun _=>?_,fun _=>?_,fun _ _ z=>z⟩
   ·refine ⟨_,rfl,.inl ⟨rfl,_,Bg.of yo⟩,_,rfl,_,_,rfl,rfl,d7 (hcb x (List.mem_of_getElem? hx)) (Ts (by decide) (by decide)) (by decide),_,_,rfl,rfl,(by first | (show (0:Int) < _; decide) | simp),_,rfl,_,_,rfl,rfl,(by show 0 < m; omega),O,_,_,rfl,rfl,yo,Bj (by rw [List.length_map]; omega),?_⟩
    exact ⟨row ++ [_],_,rfl,Qg xR,Qm hV (Bq _ (by omega)),Ry,(Aa hsO).trans yp,s'.new hO⟩
   ·refine ⟨_,rfl,.inl ⟨rfl,_,Bg.of yo⟩,_,rfl,O,_,rfl,.inl (Bg.of yo),_,rfl,_,_,rfl,rfl,(by first | (show (0:Int) < _; decide) | simp),_,_,rfl,rfl,⟨by decide,by decide⟩,_,_,rfl,rfl,_,rfl,_,_,rfl,rfl,(by show 0 < m; omega),O,_,_,rfl,rfl,yo,Bj (by rw [List.length_map]; omega),?_⟩
    exact ⟨row ++ [_],_,rfl,Qg xR,Qm hV (Bq _ (by omega)),Ry,(Aa hsO).trans yp,s'.new hO⟩
  rintro σ H' ⟨row,v3,rfl,xR,hV,yo,yp,s'⟩
  exact ⟨_,rfl,q O row H' s' yo hV⟩
def Ul (K:PySem.W.Frag) (aC aA aB:Addr):Sp:=fun vs H Q _=>ll fun (h D c g Cc dc dg d:Addr) (fc:List (Str × V)) (ws:List Int) (cm:Option Int) (tv ps kvs:List ((List Int × Int) × V))=>dh (vs = [.ref h,.ref D,.ref c,.ref g]) (B0 H h ws cm) (Ef ws cm) (H D = some (.dT kvs)) ((∀ k ∈ ps.map (·.1),Jz tv ws cm kvs H k)) (c ≠ g) (H c = some (.ins Cc dc fc)) (Qp aC aA ws.length H Cc fc) (H g = some (.ins aB dg [("paper",.ref d)])) (H d = some (.dT ps)) (Sm tv ws cm ps H) (Gh ws cm tv ps) (C8 ws cm tv) (∀ H',Bp H H' -> H' g = some (.ins aB dg [("paper",.ref d)]) -> Q (.bl true) H')
theorem j6 {fd qC:FuncData} (T:Txt K mg ad aC aA aB) (F:Fn K "_law_broken" "_law_broken" Kw ad.dH fd) (qD:Af P w K mg base Bd 5 ad.dD qC ["hall","caller","road","turns"] (Um K aC aA aB)) (qE:Ap K qC ["hall","caller","road","turns"] []):Af P w K mg base Bd 6 ad.dH fd ["hall","told","caller","road"] (Ul K aC aA aB):=by
 refine F.ok Dn (fun vs H Q E h=>?_) (fun aS A outer s H vs Q E hr h=>?_)
 ·rcases h with ⟨h,D,c,g,Cc,dc,dg,d,fc,ws,cm,tv,ps,kvs,rfl,hh,aF,hD,cO,KN,hc,sL,hg,hd,gC,fL,fE,q⟩ <;> rfl
 ·obtain ⟨h,D,c,g,Cc,dc,dg,d,fc,ws,cm,tv,ps,kvs,rfl,hh,aF,hD,cO,KN,hc,sL,hg,hd,gC,fL,fE,q⟩ := h
  refine ⟨_,(A7 (Am (i:=4) Dn.nd rfl (Or.inl rfl) (C4 (A0 (Ba (B9 K) (pv 0) Ab (fun _ _=>rfl)) (A0 Ab A8)))) (A7 (Am (i:=5) Dn.nd rfl (Or.inl rfl) (Ba (B9 K) (Dq (E8 hr) (pv 1) (pv 4) (fun _ _=>rfl)) Ab (fun _ _=>rfl))) (A7 (Am (i:=6) Dn.nd rfl (Or.inl rfl) (Ag qD (hr.mono (by decide)) rfl T.IM T.k_x35 qE .nil As (A0 (pv 0) (A0 (pv 2) (A0 (pv 3) (A0 (B6 Cy (pv 5) Ab) A8)))))) (A7 (D1 (PW.pt (Hs (Ey (Dz (Bf (Nx K) (by rfl) T.eF boot_isinstance (A0 (pv 6) (A0 (du (by rfl) T.dZ boot_tuple) A8))))) (Hs (Bk Y0 (Bf (Bz K) (by rfl) T.bN PySem.boot_len (A0 (pv 6) A8)) Ab (Bh _)) (L8 (Bk (Tr hr) (Ba (B9 K) (pv 6) Ab (fun _ _=>rfl)) (D5 A8) (Bh _)))))) (Ac (Aq Ia)) Bb) (A7 (D1 (PW.pt (Hs (Ey (Dz (Bf (Nx K) (by rfl) T.eF boot_isinstance (A0 (Ba (B9 K) (pv 6) Ab (fun _ _=>rfl)) (A0 (du (by rfl) T.oC boot_list) A8))))) (L8 (Bk dl (Bf (Bz K) (by rfl) T.bN PySem.boot_len (A0 (Ba (B9 K) (pv 6) Ab (fun _ _=>rfl)) A8)) (pv 5) (Bh _))))) (Ac (Aq Ia)) Bb) (A7 (Am (i:=7) Dn.nd rfl (Or.inl rfl) (B6 Cy (pv 5) Ab)) (A7 (D6 PassesOwn.never rfl (E2 (w':=Ra K _) (E3 (Ba (B9 K) (pv 6) Ab (fun _ _=>rfl)))) (De K (n:=3) rfl (Ay (Al (i:=8) Dn.nd rfl (Or.inr rfl)) (Ay (Al (i:=9) Dn.nd rfl (Or.inr rfl)) (Ay (Al (i:=10) Dn.nd rfl (Or.inr rfl)) Dg)))) (A7 (D1 (PW.pt (Hs (Iz (Gy (E8 hr) (pv 8) (pv 1)) rfl) (Hs (Bk dq (Ba (B9 K) (Dq (E8 hr) (pv 1) (pv 8) (fun _ _=>rfl)) Ab (fun _ _=>rfl)) (pv 7) (Bh _)) (L8 (Bk Y0 (Ba (B9 K) (Ba (B9 K) (Dq (E8 hr) (pv 1) (pv 8) (fun _ _=>rfl)) Ab (fun _ _=>rfl)) (pv 9) (fun _ _=>rfl)) (pv 10) (Bh _)))))) (Ac (Aq Ia)) Bb) (Ac (Am (i:=7) Dn.nd rfl (Or.inl rfl) (Ba (B9 K) (Dq (E8 hr) (pv 1) (pv 8) (fun _ _=>rfl)) Ab (fun _ _=>rfl)))))) (A7 (Sx (Ba (B9 K) (Ba (B9 K) (pv 6) Ab (fun _ _=>rfl)) (B6 Ou (Bf (Bz K) (by rfl) T.bN PySem.boot_len (A0 (Ba (B9 K) (pv 6) Ab (fun _ _=>rfl)) A8)) Ab) (fun _ _=>rfl)) (De K (n:=3) rfl (Ay (Al (i:=8) Dn.nd rfl (Or.inr rfl)) (Ay (Al (i:=9) Dn.nd rfl (Or.inr rfl)) (Ay (Al (i:=10) Dn.nd rfl (Or.inr rfl)) Dg))))) (A7 (Ee (i:=11) Dn.nd rfl (F4 (by rfl) T.cP (A0 (Bf (Bz K) (by rfl) T.bN PySem.boot_len (A0 (Ba (B9 K) (pv 0) Ab (fun _ _=>rfl)) A8)) A8)) _ rfl Kh rfl rfl (fun _ _ _ _=>(Al (i:=0) K8 rfl (Or.inl rfl))) (fun _ _ _ _=>(Kp (PW.pt (b8 (Bk O7 (Ba (B9 K) (Ba (B9 K) (pv 3) Ab (fun _ _=>rfl)) (pv 0) (fun _ _=>rfl)) Ab (Bh _)) (Py (PW.pt (Hs (Dz (pv 1)) (L8 (Bk Y0 (pv 0) (pv 2) (Bh _)))))))))) (fun _ _ _ _=>(pv 0)) rfl rfl) (Ac (Aq (Vi (E5 (Tr hr) (Ba (B9 K) (Ba (B9 K) (Ba (B9 K) (pv 6) Ab (fun _ _=>rfl)) Ab (fun _ _=>rfl)) Ab (fun _ _=>rfl)) (pv 4) (Bh _)) (Jd (E5 (Tr hr) (Ba (B9 K) (pv 6) Ab (fun _ _=>rfl)) (pv 11) (Bh _))))))))))))))),?_⟩
  obtain ⟨wt,yq,wc⟩ := id hh
  have tP:=aF.2.2.1
  have kK:=aF.2.2.2.1
  have cQ:∀ x ∈ ws,1 <= x:=fun x hx=>(aF.1 x hx).1
  have iV:(ws,(0:Int)) ∈ ps.map (·.1):=fL.1.xJ.resolve_right fun y=>by cases y
  obtain ⟨T0,t0,r,lS,KR,iU,ht0⟩ := cO _ iV
  obtain ⟨r',er',hV,_⟩ := Pq fL fE iV
  rw [iU] at er'
  cases er'
  refine ⟨_,rfl,h,_,_,_,rfl,rfl,.inr (Bw.of yq),rfl,Bm,fun B hB=>?_⟩
  have s1:A9 H (upd H B (.tup [.ref wt,.int 0])):=A9.upd hB
  have e1:(upd H B (.tup [.ref wt,.int 0])) B = some (.tup [.ref wt,.int 0]):=A5
  generalize upd H B (.tup [.ref wt,.int 0]) = H1 at s1 e1 ⊢
  have mS:Ds H1 B (ws,0):=⟨wt,e1,s1 _ _ wc⟩
  refine ⟨_,rfl,_,rfl,D,.ref T0,rfl,(by rw [<- lS]; exact Cv.t (s1 _ _ hD) mS),T0,_,_,_,rfl,rfl,.inr (Bw.of (s1 _ _ KR)),rfl,?_⟩
  have t1:=A9.aJ s1
  refine ⟨_,rfl,_,rfl,_,rfl,_,rfl,_,_,rfl,rfl,h,c,g,Cc,dc,dg,d,fc,ws,cm,tv,ps,_,r,(r + 3).toNat,rfl,(by omega),hh.same s1,KN,s1 _ _ hc,sL.aJ t1,s1 _ _ hg,s1 _ _ hd,gC.aJ t1,fL,fE,tP,kK,cQ,iU,(by omega),fL.1.len aF,fun p l b us rs r0 H2 sF aL QC ep el jW eb bP go xR=>?_⟩
  have GA:us.length = rs.length + 1:=by rw [jW.1,List.length_append,List.length_singleton]
  refine ⟨_,rfl,_,"tuple","tuple",true,rfl,.tup ep,Ml,_,rfl,(fun d H'=>d = false /\ A9 H2 H'),(fun z=>by simp at z),(fun _=>⟨_,rfl,p,_,rfl,.inr (Bw.of ep),rfl,_,rfl,(fun d H'=>d = false /\ A9 H2 H'),(fun z=>by simp at z),(fun _=>⟨_,rfl,p,_,_,_,rfl,rfl,.inr (Bw.of ep),rfl,Bm,fun e0 TQ=>?_⟩),fun d H' hd=>hd⟩),fun d3 H3 hd3=>?_⟩
  ·have sE:A9 H2 (upd H2 e0 (.lst [])):=A9.upd TQ
   refine ⟨_,_,V8 (sE _ _ eb),V8 (ws:=[]) A5,by rw [S9]; decide,_,rfl,?_,sE⟩
   rw [if_neg (by decide),Xx]
   exact decide_eq_false bP
  obtain ⟨rfl,s3⟩ := hd3
  refine Ek rfl ?_
  have GG:=s3 _ _ ep
  have yr:=s3 _ _ el
  have bX:=t1.trans (aL.trans (A9.aJ s3))
  have yt:=F8 (A9.aX s3) jW
  refine ⟨_,rfl,p,_,_,_,rfl,rfl,.inr (Bw.of GG),rfl,_,"list","list",true,rfl,.lst yr,Pl,_,rfl,(fun d H'=>d = false /\ H' = H3),(fun z=>by simp at z),(fun _=>⟨_,rfl,p,_,_,_,rfl,rfl,.inr (Bw.of GG),rfl,l,_,rfl,.inl (Bg.of yr),_,rfl,_,_,rfl,rfl,_,rfl,decide_eq_false (by omega),rfl⟩),?_⟩
  rintro d4 H4 ⟨rfl,rfl⟩
  refine Ek rfl ?_
  refine ⟨_,rfl,_,_,rfl,rfl,?_⟩
  refine ⟨_,rfl,p,_,_,_,rfl,rfl,.inr (Bw.of GG),rfl,l,rfl,.inl ⟨⟨_,Bg.of yr⟩,?_⟩⟩
  refine D3 (K:=K) (a:=l) (xs:=us) (fun i σ H'=>Yo fun (ab:Int) (v8 v9 v10:Option V)=>W9 (σ = [some (.ref h),some (.ref D),some (.ref c),some (.ref g),some (.ref B),some (.int r),some (.ref p),some (.int ab),v8,v9,v10,none]) (H' = H4) (∀ rr,(rs ++ [r0])[i]? = some rr -> ∀ m:Int,Ae tv rr.1 = some (.int m) -> m < ab)) ⟨r + 1,none,none,none,rfl,rfl,fun rr KS m hm=>?_⟩ (by rintro i σ H' _ ⟨_,_,_,_,_,e,_⟩; exact (by subst e; exact Bg.of yr)) ?_ ?_
  ·have h1:=(go 0 rr KS).1
   have h2:rr.1 = (ws,0):=h1
   rw [h2,iU] at hm
   injection hm with z
   injection z with z
   omega
  ·rintro i u σ H4 hu ⟨ab,v8,v9,v10,rfl,rfl,GK⟩
   obtain ⟨rr,KS,tt,ss,rfl,h1,h2⟩ := yt.get hu
   obtain ⟨_,⟨bU,cC,qA⟩,_⟩ := go i rr KS
   obtain ⟨T,t,m,hvT,sO,hm,ht'⟩ := cO _ bU
   have hT:=bX.tup sO
   have ht:=bX.tup ht'
   have YR:Cv H4 D (.ref ss) (some (.ref T)):=by
    rw [<- hvT]
    exact Cv.t (bX.dT hD) (show Ds H4 ss rr.1 from h2)
   have uG:=D8 tv ws rr.1.1 cm rr.1.2
   have QJ:Ux ((Er tv ws rr.1.1 cm rr.1.2).map V.bl) (rr.2.1:Nat) = some (.bl rr.2.2):=by
    rw [d9 (by rw [uG]; exact cC),List.getD_eq_getElem?_getD,Hx cC,qA]
    rfl
   refine ⟨tt,_,rfl,Bw.of h1,rfl,_,_,rfl,_,_,rfl,_,_,rfl,rfl,?_⟩
   refine ⟨_,rfl,_,rfl,D,_,rfl,Cv.t (bX.dT hD) (show Ds H4 ss rr.1 from h2),_,rfl,(fun d H'=>d = false /\ H' = H4),(fun z=>by rw [hvT] at z; exact absurd z (by simp)),(fun _=>⟨_,rfl,_,rfl,D,.ref T,rfl,YR,T,_,_,_,rfl,rfl,.inr (Bw.of hT),rfl,_,rfl,_,_,rfl,rfl,_,rfl,(fun d H'=>d = false /\ H' = H4),(fun z=>?_),(fun _=>⟨_,rfl,_,rfl,D,.ref T,rfl,YR,T,_,_,_,rfl,rfl,.inr (Bw.of hT),rfl,_,rfl,t,_,_,_,rfl,rfl,.inr (Bw.of ht),QJ,_,rfl,rfl,_,rfl,by simp,rfl⟩),fun d H' hd=>hd⟩),?_⟩
   ·have aN:=GK rr KS m hm
    have:m >= ab:=of_decide_eq_true z
    omega
   rintro d5 H5 ⟨rfl,rfl⟩
   refine Ek rfl ?_
   refine ⟨_,rfl,_,rfl,D,.ref T,rfl,YR,T,_,_,_,rfl,rfl,.inr (Bw.of hT),rfl,m,_,_,_,rfl,rfl,fun r2 UR m2 kH=>go.JF fL fE KS UR hm kH⟩
  rintro σ H5 ⟨ab,v8,v9,v10,rfl,rfl,_⟩
  have hU:(rs ++ [r0])[rs.length]? = some r0:=by
   rw [List.getElem?_append_right (Nat.le_refl _),Nat.sub_self]
   rfl
  obtain ⟨u,hu⟩ : ∃ u,us[rs.length]? = some u:=⟨us[rs.length]'(by omega),List.getElem?_eq_getElem _⟩
  obtain ⟨tt,ss,rfl,h1,h2⟩ := yt.2 _ _ _ hU hu
  obtain ⟨_,⟨bU,cC,_⟩,_⟩ := go _ _ hU
  obtain ⟨_,_,_,tX,_⟩ := Pq fL fE bU
  have lM:Ux us (((us.length:Nat):Int) - 1) = some (.ref tt):=by
   rw [show ((us.length:Nat):Int) - 1 = (rs.length:Nat) by omega]
   exact Ij hu
  obtain ⟨su,h21,h22⟩ := id h2
  refine ⟨_,rfl,p,_,_,_,rfl,rfl,.inr (Bw.of GG),rfl,_,rfl,p,_,_,_,rfl,rfl,.inr (Bw.of GG),rfl,l,_,rfl,.inl (Bg.of yr),_,_,rfl,rfl,l,_,_,_,rfl,rfl,.inl (Bg.of yr),lM,tt,_,rfl,Bw.of h1,rfl,_,_,rfl,_,_,rfl,_,_,rfl,rfl,?_⟩
  have hh3:=bX.tup yq
  have hh4:=bX.tup wc
  refine ⟨_,rfl,h,_,_,_,rfl,rfl,.inr (Bw.of hh3),rfl,wt,_,rfl,.inr (Bw.of hh4),_,rfl,by omega,(by rw [List.length_map]; omega),fun D2 hX=>?_⟩
  refine Qt (cnt:=((ws.map V.int).length:Int).toNat) (fun j ys H'=>ys = (Di (Ax ws r0.1.1 r0.2.1 r0.2.2) j).map V.int /\ H' D2 = some (.lst ys) /\ A9 H5 H') ⟨rfl,A5,A9.upd hX⟩ ?_ ?_ ?_ ?_
  ·rintro j ys H9 hj ⟨rfl,KU,s9⟩
   rw [List.length_map] at hj
   have hjl:j < ws.length:=by omega
   have hz:=X1 (ws:=ws) (ls:=r0.1.1) (who:=r0.2.1) (j:=j) (lost:=r0.2.2) cQ cC (by omega)
   have ax:Ux (r0.1.1.map V.int) (0 + (j:Int)) = some (.int (r0.1.1.getD j 0)):=by
    rw [Int.zero_add]
    exact Q3 (by omega)
   have QJ:=Ez (Ax ws r0.1.1 r0.2.1 r0.2.2) j
   refine ⟨_,rfl,ss,_,_,_,rfl,rfl,.inr (Bw.of (s9 _ _ h21)),rfl,_,rfl,su,_,_,_,rfl,rfl,.inr (Bw.of (s9 _ _ h22)),ax,rfl,_,rfl,(fun b H'=>b = decide ((Ax ws r0.1.1 r0.2.1 r0.2.2).getD j 0 = 0) /\ H' = H9),(fun z=>⟨?_,rfl⟩),(fun z=>?_),?_⟩
   ·rw [decide_eq_false]
    intro y
    have:=(hz.mp y).1
    rw [this] at z
    simp at z
   ·have eR:r0.1.1.getD j 0 = 1:=by simpa using z
    refine ⟨_,rfl,_,rfl,(fun b H'=>b = decide ((Ax ws r0.1.1 r0.2.1 r0.2.2).getD j 0 = 0) /\ H' = H9),(fun z=>⟨?_,rfl⟩),(fun z=>⟨_,rfl,_,rfl,rfl,_,rfl,?_,rfl⟩),fun b H' hb=>hb⟩
    ·rw [decide_eq_true (hz.mpr ⟨eR,.inl z⟩)]
    ·have z':r0.2.2 = false:=z
     by_cases y:j = r0.2.1
     ·have e0 : decide ((Ax ws r0.1.1 r0.2.1 r0.2.2).getD j 0 = 0) = false := decide_eq_false fun x => by
       rcases (hz.mp x).2 with w | w
       ·rw [z'] at w
        cases w
       ·exact w y
      rw [e0,y]
      simp
     ·have e0:decide ((Ax ws r0.1.1 r0.2.1 r0.2.2).getD j 0 = 0) = true:=decide_eq_true (hz.mpr ⟨eR,.inr y⟩)
      rw [e0]
      have bP:¬ (V.int (0 + (j:Int)) = V.int (r0.2.1:Nat)):=fun x=>by
       injection x with x
       omega
      rw [decide_eq_false bP]
      rfl
   rintro b PM ⟨rfl,rfl⟩
   by_cases z0:(Ax ws r0.1.1 r0.2.1 r0.2.2).getD j 0 = 0
   ·rw [if_pos (decide_eq_true z0)]
    refine ⟨_,rfl,KU,Bj (by rw [List.length_map]; omega),?_,A5,s9.new hX⟩
    rw [D9,if_pos z0,List.map_append,Int.zero_add]
    rfl
   ·rw [if_neg (fun x=>z0 (of_decide_eq_true x))]
    refine ⟨?_,KU,s9⟩
    rw [D9,if_neg z0,List.append_nil]
  ·rintro σ H' Q1 Q2 hQ ⟨v,e1,p1,us1,i1,u1,r1,r2,sq1,at1,v2,e2,p2,gK,i2,u2,r3,r4,sq2,at2,r5,c,e3,N,n1,n2,n3⟩
   exact ⟨v,e1,p1,us1,i1,u1,r1,r2,sq1,at1,v2,e2,p2,gK,i2,u2,r3,r4,sq2,at2,r5,c,e3,N,n1,n2,fun d H hd=>hQ _ _ (n3 d H hd)⟩
  ·rintro σ H' Q1 Q2 hQ ⟨v,e1,z⟩
   exact ⟨v,e1,hQ _ _ z⟩
  rintro ys H9 ⟨rfl,KU,s9⟩
  rw [List.length_map,Int.toNat_natCast] at KU
  have ep9:=s9 _ _ GG
  have YA:=s9 _ _ yr
  have eb9:=s9 _ _ (s3 _ _ eb)
  have RG:=bX.trans (A9.aJ s9)
  obtain ⟨u0,hu0⟩ : ∃ u,us[0]? = some u:=⟨us[0]'(by omega),List.getElem?_eq_getElem _⟩
  obtain ⟨RH,YS,t5,s5,rfl,g1,g2⟩ := yt.get hu0
  have e00:RH.1 = (ws,0):=(go 0 RH YS).1
  have at0:Ux us 0 = some (.ref t5):=Ij hu0
  have TZ:Ds H9 s5 (ws,0):=by
   rw [<- e00]
   exact (show Cg H5 s5 RH.1.1 RH.1.2 from g2).same s9
  have y6:Ds H9 B (ws,0):=⟨wt,((aL.trans (A9.aJ s3)).trans (A9.aJ s9)).tup e1,RG.tup wc⟩
  refine ⟨_,rfl,p,_,_,_,rfl,rfl,.inr (Bw.of ep9),rfl,l,_,_,_,rfl,rfl,.inl (Bg.of YA),at0,t5,_,_,_,rfl,rfl,.inr (Bw.of (s9 _ _ g1)),rfl,_,rfl,dS (ws,0),dS (ws,0),Yq TZ,Yq y6,(by rw [Re]; decide),_,(fun d H'=>d = true /\ H' = H9),rfl,(fun z=>?_),(fun _=>⟨_,rfl,p,_,_,_,rfl,rfl,.inr (Bw.of ep9),rfl,_,rfl,_,_,V8 eb9,V8 KU,(by rw [S9]; decide),_,rfl,?_,rfl⟩),?_⟩
  ·rw [if_neg (by decide),Sj] at z
   simp at z
  ·rw [if_neg (by decide),Xx]
   simp
  rintro d6 H6 ⟨rfl,rfl⟩
  exact q _ RG (s9 _ _ (s3 _ _ QC))
def Th (K:PySem.W.Frag) (aC aA aB:Addr):Sp:=fun vs H Q _=>Yi fun (h D g dg d:Addr) (ws:List Int) (cm:Option Int) (tv ps kvs:List ((List Int × Int) × V))=>Qw (vs = [.ref h,.ref D,.ref g]) (B0 H h ws cm) (Ef ws cm) (H D = some (.dT kvs)) ((∀ k ∈ ps.map (·.1),Jz tv ws cm kvs H k)) (H g = some (.ins aB dg [("paper",.ref d)])) (H d = some (.dT ps)) (Sm tv ws cm ps H) (Gh ws cm tv ps) (C8 ws cm tv) (∀ H',Q (.bl true) H')
theorem jl {fd fY qF aQ jR:FuncData} (T:Txt K mg ad aC aA aB) (F:Fn K "_law_best" "_law_best" N0 ad.dJ fd) (iH:Af P w K mg base Bd 7 ad.cK fY ["hall"] (P1 K)) (iI:Ap K fY ["hall"] []) (qG:Af P w K mg base Bd 7 ad.cY qF ["hall","table","standing"] (Uk K)) (qH:Ap K qF ["hall","table","standing"] []) (bC:Af P w K mg base Bd 4 ad.bH aQ ["hall","standing","who","lost"] (Hj K)) (bJ:Ap K aQ ["hall","standing","who","lost"] []) (aM:Ap K aQ ["hall","standing","who","lost"] [Value.bool false]) (mP:Af P w K mg base Bd 2 ad.fR jR ["self","hall","standing","who"] (Vf K aC aA aB)) (mQ:Ap K jR ["self","hall","standing","who"] []):Af P w K mg base Bd 8 ad.dJ fd ["hall","told","road"] (Th K aC aA aB):=by
 refine F.ok G9 (fun vs H Q E h=>?_) (fun aS A outer s H vs Q E hr h=>?_)
 ·rcases h with ⟨h,D,g,dg,d,ws,cm,tv,ps,kvs,rfl,hh,aF,hD,cO,hg,hd,gC,fL,fE,q⟩ <;> rfl
 ·obtain ⟨h,D,g,dg,d,ws,cm,tv,ps,kvs,rfl,hh,aF,hD,cO,hg,hd,gC,fL,fE,q⟩ := h
  refine ⟨_,(A7 (Am (i:=3) G9.nd rfl (Or.inl rfl) (Ag iH (hr.mono (by decide)) rfl T.vC T.k_x33 iI .nil As (A0 (pv 0) A8))) (A7 (Am (i:=4) G9.nd rfl (Or.inl rfl) (C4 (A0 (Ba (B9 K) (pv 0) Ab (fun _ _=>rfl)) (A0 Ab A8)))) (A7 (Am (i:=5) G9.nd rfl (Or.inl rfl) Ab) (A7 (Am (i:=6) G9.nd rfl (Or.inl rfl) (Ba (B9 K) (Dq (E8 hr) (pv 1) (pv 4) (fun _ _=>rfl)) Ab (fun _ _=>rfl))) (A7 (Ii PassesOwn.never (PW.pt (V7 (Bk Pm (pv 4) Dj (Bh _)) (Py (Bk L5 (pv 5) (pv 6) (Bh _))))) (A7 (Am (i:=7) G9.nd rfl (Or.inl rfl) (Ag qG (hr.mono (by decide)) rfl T.II T.k_x24 qH .nil As (A0 (pv 0) (A0 (pv 3) (A0 (pv 4) A8))))) (A7 (Am (i:=4) G9.nd rfl (Or.inl rfl) (Ag bC (hr.mono (by decide)) rfl T.fS T.k_x32 bJ .nil As (A0 (pv 0) (A0 (pv 4) (A0 (pv 7) (A0 (Kq (pv 2) T.aU T.IV mP (hr.mono (by decide)) mQ .nil As (A0 (pv 0) (A0 (pv 4) (A0 (pv 7) A8)))) A8)))))) (Ac (Am (i:=5) G9.nd rfl (Or.inl rfl) (B6 Cy (pv 5) Ab)))))) (Ac (Aq (Ib (E5 Pp (pv 4) Dj (Bh _)) (Jd (E5 O7 (pv 5) (pv 6) (Bh _))))))))))),?_⟩
  obtain ⟨wt,yq,wc⟩ := id hh
  have hq:=aF.qv
  have tP:=aF.2.2.1
  have kK:=aF.2.2.2.1
  have cQ:∀ x ∈ ws,1 <= x:=fun x hx=>(aF.1 x hx).1
  have iV:(ws,(0:Int)) ∈ ps.map (·.1):=fL.1.xJ.resolve_right fun y=>by cases y
  obtain ⟨T0,t0,r,lS,KR,iU,ht0⟩ := cO _ iV
  refine ⟨_,rfl,h,ws,cm,rfl,hh,(fun w hw=>(aF.1 w hw).1),hq.1,(fun w hw=>Hw (by have:=aF.1 w hw; omega) (aF.1 w hw).2),Hw (by omega) hq.2,aF.2.2.2.1,(by have:=aF.2.2.2.2; omega),fun TB tw H1 hTB s1 GB yu _ _=>?_⟩
  have hve:=bw yu fE
  have iG:So tw:=fun k v hv=>by
   obtain ⟨m,e,_⟩ := yu.1 k v hv
   exact ⟨m,e⟩
  refine ⟨_,rfl,h,_,_,_,rfl,rfl,.inr (Bw.of (s1 _ _ yq)),rfl,Bm,fun B hB=>?_⟩
  have s2:A9 H1 (upd H1 B (.tup [.ref wt,.int 0])):=A9.upd hB
  have e2:(upd H1 B (.tup [.ref wt,.int 0])) B = some (.tup [.ref wt,.int 0]):=A5
  generalize upd H1 B (.tup [.ref wt,.int 0]) = H2 at s2 e2 ⊢
  have FV:=s1.trans s2
  have mS:Ds H2 B (ws,0):=⟨wt,e2,FV _ _ wc⟩
  refine ⟨_,rfl,_,rfl,D,.ref T0,rfl,(by rw [<- lS]; exact Cv.t (FV _ _ hD) mS),T0,_,_,_,rfl,rfl,.inr (Bw.of (FV _ _ KR)),rfl,?_⟩
  dsimp only
  refine n0 ?_
  refine m8 ?_
  refine Ic (fun σ' H'=>Yo fun (o:Option (List Int × Int)) (sv:V) (n:Int) (v7:Option V)=>Mn (σ' = [some (.ref h),some (.ref D),some (.ref g),some (.ref TB),some sv,some (.int n),some (.int r),v7]) (A9 H2 H') (Ex H' o sv) ((o = none -> n = r)) (∀ k,o = some k -> k ∈ ps.map (·.1) /\ ∃ m:Int,Ae tv k = some (.int m) /\ m + n = r))
   (fun σ' _=>ko r σ') ⟨some (ws,0),.ref B,0,none,rfl,A9.refl _,⟨B,rfl,mS⟩,(fun z=>by cases z),fun k e=>by cases e; exact ⟨iV,r,iU,by omega⟩⟩ ?_ ?_
  ·rintro σ' H' ⟨o,sv,n,v7,rfl,s',gM,QE,iL⟩
   cases o with
   | none =>
    have esv:sv = .aR:=gM
    subst esv
    have hn:=QE rfl
    refine ⟨_,rfl,rfl,_,rfl,false,(fun z=>absurd z (by decide)),Ek rfl ?_⟩
    refine ⟨_,rfl,rfl,_,true,rfl,fun _ Q' z=>⟨_,rfl,_,rfl,rfl,by rw [hn]; simpa using z⟩,?_⟩
    exact q _
   | some k =>
    obtain ⟨bU,m,hm,hmn⟩ := iL k rfl
    obtain ⟨b,rfl,bQ⟩ := gM
    obtain ⟨m0,KO,jY,tX,tQ⟩ := Pq fL fE bU
    rw [hm] at KO
    cases KO
    have s0':=FV.trans s'
    refine ⟨_,rfl,rfl,_,rfl,true,fun _ Q' z=>⟨_,rfl,_,rfl,_,_,rfl,rfl,_,rfl,by rw [decide_eq_true (show n < r by omega)]; exact z⟩,Nh rfl ?_⟩
    have mM:Cg H' b k.1 k.2:=bQ
    refine ⟨_,rfl,_,rfl,_,rfl,h,TB,b,ws,k.1,cm,k.2,tw,rfl,hh.same s0',mM,s' _ _ (s2 _ _ GB),iG,tP,tX,kK,cQ,fun j H7 s7 bT=>?_⟩
    have GH:=s0'.trans s7
    obtain ⟨kv,aK,yn⟩ := List.mem_map.mp bU
    obtain ⟨t,et,ht⟩ := gC kv aK
    have pY:Ae ps k = some (.ref t):=by
     rw [<- yn,<- et]
     exact Ct fL.1.nd (show (kv.1,kv.2) ∈ ps from aK)
    have uG:=D8 tv ws kv.1.1 cm kv.1.2
    refine ⟨_,rfl,_,rfl,_,rfl,_,rfl,g,dg,_,rfl,GH _ _ hg,rfl,_,rfl,_,rfl,_,rfl,g,dg,d,h,b,ps,ws,k.1,cm,k.2,j,rfl,GH _ _ hg,GH _ _ hd,hh.same GH,mM.same s7,(fun z=>by rw [show (k.1,k.2) = k from rfl,pY] at z; cases z),fun v hv=>?_⟩
    have ev:v = .ref t:=by
     have jV:Ae ps k = some v:=hv
     rw [pY] at jV
     exact (Option.some.inj jV).symm
    refine ⟨t,_,ev,GH _ _ ht,(by rw [uG]; exact bT.1),?_⟩
    have pZ:((!decide (cm = none) && decide (k.2 = 0)) && (Er tv ws kv.1.1 cm kv.1.2).getD j false) = Bt tv ws k.1 cm k.2 j:=by
     rw [List.getD_eq_getElem?_getD,Hx bT.1,yn]
     show (Dl cm k.2 && Bt tv ws k.1 cm k.2 j) = _
     unfold Bt
     cases Dl cm k.2 <;> rfl
    rw [pZ]
    have gX:My cm k.2 (Bt tv ws k.1 cm k.2 j):=Ha
    have bW:Iv tv ws cm k j ∈ Bc ws k.1 cm k.2 j:=by
     unfold Iv Bc
     cases e:Bt tv ws k.1 cm k.2 j with
     | false=>exact List.mem_cons_self
     | true =>
      have hz:Dl cm k.2 = true:=by
       obtain ⟨z1,z2⟩ := gX e
       unfold Dl
       simp [z1,z2]
      rw [if_pos hz]
      simp
    have gN:k ∈ Az ws (qv cm):=by
     rw [<- yn]
     exact (fL.1.ent kv aK).1.1
    have hgo:=(bd yu gN tP bT bW).2 m (by rw [hve]; exact hm)
    refine ⟨h,b,ws,k.1,cm,k.2,j,Bt tv ws k.1 cm k.2 j,rfl,hh.same GH,mM.same s7,bT.1,tX,kK,gX,(fun hz H8 s8=>?_),fun hz b2 H8 s8 KQ=>?_⟩
    ·have en : Iv tv ws cm k j = none := by
      unfold Iv D0
      rw [if_pos hz]
     have:=hgo.1 en
     refine ⟨_,rfl,_,_,rfl,rfl,⟨none,.aR,n + 1,_,rfl,(s'.trans s7).trans s8,rfl,(fun _=>by omega),fun k e=>by cases e⟩,?_⟩
     show (r - (n + 1)).toNat < (r - n).toNat
     omega
    ·have en : Iv tv ws cm k j = some (Ax ws k.1 j (Bt tv ws k.1 cm k.2 j), Cj cm k.2 (Bt tv ws k.1 cm k.2 j)) := by
      unfold Iv D0
      rw [if_neg hz]
     obtain ⟨m',a1,a2,a3⟩ := Go fE hm bT.1 en
     have PQ:=hgo.2 _ m' en (by rw [hve]; exact a1)
     have kA:=(fL.1.ent kv aK).2 j _ bT.1 (by rw [yn]; exact en)
     refine ⟨_,rfl,_,_,rfl,rfl,⟨some (Ax ws k.1 j (Bt tv ws k.1 cm k.2 j),Cj cm k.2 (Bt tv ws k.1 cm k.2 j)),.ref b2,n + 1,_,rfl,(s'.trans s7).trans s8,⟨b2,rfl,KQ⟩,(fun e=>by cases e),fun k2 e=>by cases e; exact ⟨kA.resolve_right (fun y=>by cases y),m',a1,by omega⟩⟩,?_⟩
     show (r - (n + 1)).toNat < (r - n).toNat
     omega
  ·rintro σ H' Q1 Q2 hQ ⟨v,e1,r1,c,e2,b,f,z⟩
   exact ⟨v,e1,r1,c,e2,b,f,hQ _ _ z⟩
def Pa (K:PySem.W.Frag):Sp:=fun vs H Q _=>Zz fun (a:Addr) (ns:List Int)=>Mn (vs = [.ref a]) (Bg K H a (ns.map V.int)) (ns.length <= 63) ((∀ z ∈ ns,intBits z <= 2 ^ 20)) (∀ H',Q (.bl true) H')
theorem iy {fd we qI qJ qK qL wg qM:FuncData} (T:Txt K mg ad aC aA aB) (F:Fn K "law" "law" Iu ad.eZ fd) (yv:Af P w K mg base Bd 1 ad.gW we ["self","paper"] (Yd K aC aA aB)) (yw:Ap K we ["self","paper"] []) (qN:Af P w K mg base Bd 2 ad.dE qI ["script"] (Uc K)) (qO:Ap K qI ["script"] []) (qP:Af P w K mg base Bd 8 ad.dB qJ ["hall"] (Tc K)) (qQ:Ap K qJ ["hall"] []) (qR:Af P w K mg base Bd 2 ad.dG qK ["script","many"] (Ub K)) (qS:Ap K qK ["script","many"] []) (jS:Af P w K mg base Bd 6 ad.dH qL ["hall","told","caller","road"] (Ul K aC aA aB)) (jT:Ap K qL ["hall","told","caller","road"] []) (uK:Af P w K mg base Bd 1 ad.gU wg ["self","row"] (Xy K aC aA aB)) (uL:Ap K wg ["self","row"] []) (qT:Af P w K mg base Bd 8 ad.dJ qM ["hall","told","road"] (Th K aC aA aB)) (qU:Ap K qM ["hall","told","road"] []):Af P w K mg base Bd 9 ad.eZ fd ["script"] (Pa K):=by
 refine F.ok Fw (fun vs H Q E h=>?_) (fun aS A outer s H vs Q E hr h=>?_)
 ·rcases h with ⟨a,ns,rfl,hS,hlen,qB,q⟩ <;> rfl
 ·obtain ⟨a,ns,rfl,hS,hlen,qB,q⟩ := h
  refine ⟨_,(A7 (Am (i:=1) Fw.nd rfl (Or.inl rfl) (Ag qN (hr.mono (by decide)) rfl T.IP T.k_x28 qO .nil As (A0 (pv 0) A8))) (A7 (Am (i:=2) Fw.nd rfl (Or.inl rfl) (Ag qP (hr.mono (by decide)) rfl T.IL T.k_x11 qQ .nil As (A0 (pv 1) A8))) (A7 (D1 (Bk Pp (pv 2) Dj (Bh _)) (Ac (Aq Ia)) Bb) (A7 (Am (i:=3) Fw.nd rfl (Or.inl rfl) Gp) (A7 (D6 PassesOwn.never rfl (E2 (w':=Ra K _) (E3 (pv 2))) (De K (n:=3) rfl (Ay (Al (i:=4) Fw.nd rfl (Or.inl rfl)) (Ay (Al (i:=5) Fw.nd rfl (Or.inl rfl)) (Ay (Al (i:=6) Fw.nd rfl (Or.inl rfl)) Dg)))) (Ac (Ie (E8 hr) (pv 3) (pv 4) (C4 (A0 (pv 5) (A0 (pv 6) A8))) rfl))) (A7 (Am (i:=7) Fw.nd rfl (Or.inl rfl) (Q5 T.iQ yv (hr.mono (by decide)) (by rfl) T.jN yw .nil As (A0 (pv 2) A8))) (A7 (Am (i:=8) Fw.nd rfl (Or.inl rfl) (Ag qR (hr.mono (by decide)) rfl T.IQ T.k_x31 qS .nil As (A0 (pv 0) (A0 (Bf (Bz K) (by rfl) T.bN PySem.boot_len (A0 (Ba (B9 K) (pv 1) Ab (fun _ _=>rfl)) A8)) A8)))) (A7 (D1 (PW.pt (Hs (Iz (Gy (E8 hr) (C4 (A0 (Ba (B9 K) (pv 1) Ab (fun _ _=>rfl)) (A0 Ab A8))) (pv 3)) rfl) (L8 (Ey (Dz (Ag jS (hr.mono (by decide)) rfl T.oA T.k_x21 jT .nil As (A0 (pv 1) (A0 (pv 3) (A0 (Q5 T.eG uK (hr.mono (by decide)) (by rfl) T.fB uL .nil As (A0 (pv 8) A8)) (A0 (pv 7) A8)))))))))) (Ac (Aq Ia)) Bb) (A7 (D1 (Ey (Dz (Ag jS (hr.mono (by decide)) rfl T.oA T.k_x21 jT .nil As (A0 (pv 1) (A0 (pv 3) (A0 (Q5 T.eG uK (hr.mono (by decide)) (by rfl) T.fB uL .nil As (A0 (Rq (Qc K) (pv 8) (Po (B6 E4 (Bf (Bz K) (by rfl) T.bN PySem.boot_len (A0 (pv 8) A8)) Ab)) ck) A8)) (A0 (pv 7) A8))))))) (Ac (Aq Ia)) Bb) (Ac (Aq (Vi (Ag jS (hr.mono (by decide)) rfl T.oA T.k_x21 jT .nil As (A0 (pv 1) (A0 (pv 3) (A0 (Yy T.mG (by rfl) T.oE) (A0 (pv 7) A8))))) (Jd (Ag qT (hr.mono (by decide)) rfl T.IT T.k_x29 qU .nil As (A0 (pv 1) (A0 (pv 3) (A0 (pv 7) A8))))))))))))))))),?_⟩
  refine ⟨_,rfl,a,ns,rfl,hS,fun hp ws cm H1 s1 ha aF=>?_⟩
  have h8:=aF.2.2.2.1
  have tP:=aF.2.2.1
  refine ⟨_,rfl,hp,ws,cm,rfl,ha,aF,(fun tv H2 s2 _ _ _=>?_),fun p us ps tv H2 s2 hpn ep fE GC lS fL hall=>?_⟩
  ·exact ⟨_,rfl,rfl,_,rfl,Nh rfl (q _)⟩
  refine ⟨_,rfl,rfl,_,rfl,Ek rfl ?_⟩
  have GA:=hall.1
  have lK:=fL.1.len aF
  have KW:=fL.1.nd
  refine fun D hD=>?_
  have s3:A9 H2 (upd H2 D (.dT [])):=A9.upd hD
  have e3:(upd H2 D (.dT [])) D = some (.dT []):=A5
  generalize upd H2 D (.dT []) = H3 at s3 e3 ⊢
  have hpD:p ≠ D:=Ad ep hD
  refine ⟨_,rfl,p,rfl,.inl ⟨⟨_,Bg.of (s3 _ _ ep)⟩,?_⟩⟩
  refine D3 (K:=K) (a:=p) (xs:=us) (fun i σ H'=>Yo fun (kvs:List ((List Int × Int) × V)) (v4 v5 v6:Option V)=>Mn (σ = [some (.ref a),some (.ref hp),some (.ref p),some (.ref D),v4,v5,v6,none,none]) (A9 H2 H') (H' D = some (.dT kvs)) (kvs.length <= i) (∀ j kv,j < i -> ps[j]? = some kv -> Jz tv ws cm kvs H' kv.1)) ⟨[],none,none,none,rfl,s3,e3,Nat.le_refl _,fun j kv hj=>absurd hj (Nat.not_lt_zero _)⟩ (by rintro i σ H' _ ⟨_,_,_,_,_,s,_⟩; exact Bg.of (s _ _ ep)) ?_ ?_
  ·rintro i u σ H' hu ⟨kvs,v4,v5,v6,rfl,s',jO,lR,cO⟩
   obtain ⟨kv,aK,pp,b,t,m,rfl,h1,h2,h3,h4,h5⟩ := hall.get hu
   have hi:=(List.getElem?_eq_some_iff.mp aK).1
   refine ⟨pp,_,rfl,Bw.of (s' _ _ h1),rfl,_,_,rfl,_,_,rfl,_,_,rfl,rfl,?_⟩
   refine ⟨_,rfl,_,rfl,Bm,fun T hT=>?_⟩
   have s5:A9 H' (upd H' T (.tup [.int m,.ref t])):=A9.upd hT
   have e5:(upd H' T (.tup [.int m,.ref t])) T = some (.tup [.int m,.ref t]):=A5
   generalize upd H' T (.tup [.int m,.ref t]) = H5 at s5 e5 ⊢
   have iT:=s5 _ _ jO
   have YT:Ds H5 b kv.1:=(h2.up (An.of (s'.trans s5)))
   refine ⟨_,rfl,_,rfl,D,_,rfl,Lk.t iT YT (Ce (by omega)),?_⟩
   have tu:Fj H5 (upd H5 D (.dT (Bl kvs kv.1 (.ref T)))):=fun b xs e=>(Aa (Bn e iT (by intro z; cases z))).trans e
   refine ⟨Bl kvs kv.1 (.ref T),_,_,_,rfl,(s'.trans s5).new hD,A5,Nat.le_trans (Cp _ _ _) (by omega),fun j YU hj kM=>?_⟩
   rcases Nat.lt_or_ge j i with z | z
   ·obtain ⟨T2,t2,m2,g1,g2,g3,g4⟩ := cO j YU z kM
    refine ⟨T2,t2,m2,?_,tu _ _ (s5 _ _ g2),g3,tu _ _ (s5 _ _ g4)⟩
    have bP:YU.1 ≠ kv.1:=fun e=>by
     have h6:(ps.map (·.1))[j]? = some YU.1:=by rw [List.getElem?_map,kM]; rfl
     have h7:(ps.map (·.1))[i]? = some kv.1:=by rw [List.getElem?_map,aK]; rfl
     rw [e] at h6
     obtain ⟨j1,j2⟩ := List.getElem?_eq_some_iff.mp h6
     obtain ⟨i1,i2⟩ := List.getElem?_eq_some_iff.mp h7
     have:=(List.nodup_iff_pairwise_ne.mp KW)
     have h8:=List.pairwise_iff_getElem.mp this j i j1 i1 z
     exact h8 (j2.trans i2.symm)
    rw [Ec,if_neg bP]
    exact g1
   ·have ej:j = i:=by omega
    subst ej
    rw [aK] at kM
    cases kM
    refine ⟨T,t,m,by rw [Ec,if_pos rfl],tu _ _ e5,h3,tu _ _ (s5 _ _ (s' _ _ h5))⟩
  rintro σ H4 ⟨kvs,v4,v5,v6,rfl,s4,vN,lR,yx⟩
  have cO:∀ k ∈ ps.map (·.1),Jz tv ws cm kvs H4 k:=fun k hk=>by
   obtain ⟨kv,aK,rfl⟩ := List.mem_map.mp hk
   obtain ⟨i,hi,e⟩ := List.getElem_of_mem aK
   exact yx i kv (by omega) (by rw [List.getElem?_eq_getElem hi,e])
  have epa:Df [] ps = ps:=N5 ps [] KW
  have KY:Ah (Js H4) ps us:=hall.imp fun kv u ⟨pp,b,t,m,e,h1,h2,h3,h4,h5⟩=>⟨pp,b,.int m,e,by rw [h4]; exact s4 _ _ h1,h2.up (An.of s4)⟩
  have KZ:Sm tv ws cm ps H4:=fun kv aK=>by
   obtain ⟨i,hi,e⟩ := List.getElem_of_mem aK
   obtain ⟨u,hu⟩ : ∃ u,us[i]? = some u:=⟨us[i]'(by omega),List.getElem?_eq_getElem _⟩
   obtain ⟨pp,b,t,m,_,_,_,_,h4,h5⟩ := hall.2 i kv u (by rw [List.getElem?_eq_getElem hi,e]) hu
   exact ⟨t,h4,s4 _ _ h5⟩
  refine ⟨_,rfl,fun g dg hg YV hng=>⟨g,dg,p,us,ps,rfl,A5,Hd hg YV _ _ (s4 _ _ ep),by omega,KY.imp (fun _ _ z=>z.same (Hd hg YV)),fun d H5 hd5 eg ed hog=>⟨rfl,?_⟩⟩⟩
  have s5:=P6 hg YV hog
  rw [epa] at ed
  have ha5:B0 H5 hp ws cm:=((ha.same s2).same s4).same s5
  obtain ⟨wt,yq,wc⟩ := id ha5
  refine ⟨_,rfl,_,rfl,hp,_,_,_,rfl,rfl,.inr (Bw.of yq),rfl,wt,_,rfl,.inr (Bw.of wc),a,ns,_,rfl,(((s1.trans s2).trans s4).trans s5).seq hS,hlen,qB,(by rw [List.length_map]; omega),(by rw [List.length_map]; omega),fun RW row H6 s6 eRW mR=>?_⟩
  rw [List.length_map] at mR
  have GD:=s5.trans s6
  have sQ:=GD _ _ vN
  have t46:=A9.aJ GD
  have iW:∀ k ∈ ps.map (·.1),Jz tv ws cm kvs H6 k:=fun k hk=>(cO k hk).aJ t46
  have gD:=KZ.aJ t46
  have eg6:=s6 _ _ eg
  have RI:=s6 _ _ ed
  have RJ:=ha5.same s6
  have iV:(ws,(0:Int)) ∈ ps.map (·.1):=fL.1.xJ.resolve_right fun y=>by cases y
  obtain ⟨T0,t0,m0,YW,_⟩ := cO _ iV
  refine ⟨_,rfl,hp,_,_,_,rfl,rfl,.inr (Bw.of (s6 _ _ yq)),rfl,Bm,fun B hB=>?_⟩
  have s7:A9 H6 (upd H6 B (.tup [.ref wt,.int 0])):=A9.upd hB
  have e7:(upd H6 B (.tup [.ref wt,.int 0])) B = some (.tup [.ref wt,.int 0]):=A5
  generalize upd H6 B (.tup [.ref wt,.int 0]) = H7 at s7 e7 ⊢
  have mS:Ds H7 B (ws,0):=⟨wt,e7,s7 _ _ (s6 _ _ wc)⟩
  have okC:∀ {H8:Hp} {row:List Int} {qc:Addr} {k:Nat},H8 qc = some (.lst (row.map V.int)) -> (∀ x ∈ row,0 <= x /\ x < (ws.length:Int)) -> Qp aC aA ws.length H8 aA (Jp qc k):=fun e h=>.inl ⟨rfl,_,_,_,rfl,e,h⟩
  refine ⟨_,rfl,D,_,rfl,Cv.t (s7 _ _ sQ) mS,_,rfl,(fun b H'=>b = false /\ Bp H7 H' /\ H' g = some (.ins aB dg [("paper",.ref d)])),(fun z=>by rw [YW] at z; exact absurd z (by simp)),(fun _=>⟨_,rfl,_,rfl,_,rfl,fun c dc hc LA hnc=>⟨c,dc,RW,_,rfl,A5,Hd hc LA _ _ (s7 _ _ eRW),fun qc H8 RB ec eqc FL=>⟨rfl,?_⟩⟩⟩),?_⟩
  ·have s8:=P6 hc LA FL
   have t8:=A9.aJ (s7.trans s8)
   refine ⟨_,rfl,hp,D,c,g,aA,dc,dg,d,_,ws,cm,tv,ps,kvs,rfl,RJ.aJ t8,aF,t8.dT sQ,(fun k hk=>(iW k hk).aJ t8),(Ad (s7 _ _ eg6) hc).symm,ec,okC eqc mR,(s7.trans s8) _ _ eg6,(s7.trans s8) _ _ RI,gD.aJ t8,fL,fE,fun H9 RG hg9=>⟨_,rfl,rfl,(A9.aJ s8).trans RG,hg9⟩⟩
  rintro b H8 ⟨rfl,KQ,hg8⟩
  refine Ek rfl ?_
  have t8:Bp H6 H8:=(A9.aJ s7).trans KQ
  have LB:=t8.lst eRW
  refine ⟨_,rfl,_,rfl,_,rfl,_,rfl,RW,_,rfl,.inl (Bg.of LB),_,_,rfl,rfl,⟨by decide,by decide⟩,_,rfl,RW,_,rfl,Bg.of LB,fun sl RF=>?_⟩
  rw [N9]
  have wj:∀ x ∈ Ow row (some (((row.map V.int).length:Int) / 2)) none,0 <= x /\ x < (ws.length:Int):=fun x hx=>mR x (List.mem_of_mem_drop (List.mem_of_mem_take hx))
  generalize Ow row (some (((row.map V.int).length:Int) / 2)) none = uM at wj ⊢
  have s9:A9 H8 (upd H8 sl (.lst (uM.map V.int))):=A9.upd RF
  have e9:(upd H8 sl (.lst (uM.map V.int))) sl = some (.lst (uM.map V.int)):=A5
  generalize upd H8 sl (.lst (uM.map V.int)) = H9 at s9 e9 ⊢
  refine fun c dc hc LA hnc=>⟨c,dc,sl,_,rfl,A5,Hd hc LA _ _ e9,fun qc PM RB ec eqc FL=>⟨rfl,?_⟩⟩
  have PL:=P6 hc LA FL
  have kR:=t8.trans (A9.aJ (s9.trans PL))
  have YX:=(s9.trans PL) _ _ hg8
  refine ⟨_,rfl,hp,D,c,g,aA,dc,dg,d,_,ws,cm,tv,ps,kvs,rfl,RJ.aJ kR,aF,kR.dT sQ,(fun k hk=>(iW k hk).aJ kR),(Ad (s9 _ _ hg8) hc).symm,ec,okC eqc wj,YX,kR.dT RI,gD.aJ kR,fL,fE,fun HH YY LC=>⟨_,rfl,Ek rfl ?_⟩⟩
  have t11:=kR.trans YY
  refine ⟨_,rfl,_,rfl,fun c2 GI gL YZ hnc2=>?_⟩
  have cR:=Hd (C:=aC) gL YZ
  have e12:(upd (upd HH GI (.own c2)) c2 (.ins aC GI [])) c2 = some (.ins aC GI []):=A5
  generalize upd (upd HH GI (.own c2)) c2 (.ins aC GI []) = H12 at cR e12 ⊢
  have GJ:=t11.trans (A9.aJ cR)
  refine ⟨_,rfl,hp,D,c2,g,aC,GI,dg,d,_,ws,cm,tv,ps,kvs,rfl,RJ.aJ GJ,aF,GJ.dT sQ,(fun k hk=>(iW k hk).aJ GJ),(Ad LC gL).symm,e12,.inr ⟨rfl,rfl⟩,cR _ _ LC,GJ.dT RI,gD.aJ GJ,fL,fE,fun H13 ZA ZC=>?_⟩
  have LD:=GJ.trans ZA
  refine ⟨_,(fun d H'=>d = true),rfl,(fun z=>by cases z),(fun _=>⟨_,rfl,_,rfl,_,rfl,hp,D,g,dg,d,ws,cm,tv,ps,kvs,rfl,RJ.aJ LD,aF,LD.dT sQ,(fun k hk=>(iW k hk).aJ LD),ZC,LD.dT RI,gD.aJ LD,fL,fE,fun H'=>⟨_,rfl,rfl⟩⟩),fun b2 H14 mI=>?_⟩
  subst mI
  exact q _
end
theorem all_mk {l : PySem.W.OpenLaw} {w : World} {K : PySem.W.Frag} {h : Heap} {mg : Str -> Option Value} {fa : Addr} (X : K.In h) (G : h.Ns mainGlobals mg) (hfa : mg "law" = some (.ref fa)) {cE bS cS gO cF gP bH cH cJ fQ cT cU cV gQ cW gR cK cL cX cY cZ dA gS dB cM gT dC fR dD gU gW cN dE dG dH dJ eZ aC aA aB : Addr} {yy yz yA yB yC yD LF LG yE yF LH LI yG kU yH yI yJ kW LJ LK yK yL yM yN yO yP LL LM yQ yR LN LO yS yT yU yV yW yX yY yZ z5 z6 z7 z8 LP LQ z9 za zb zc LR LS zd ze LU LV zf zg LW LX LY LZ zh zi zj zk zl zm zo zp zq zr zt qV : Option Addr} {zu zv zw MA zx MB zy zz zA MC zB zC zD MD zE ME zF zG zH zI zJ zK MF zL zM MG zN MJ zO MK ML zP zQ zR zS zT zU : Array (Option Value)} {zV zW zX zY qW zZ AA AB AD AE qX AF AG AH AI AJ qY AK MM MN MO MP wk MQ AL AM AN AO qZ AQ MR MS MT MU wm MV AR kX kY kZ iX lA AS AU AV AW rA AX AY lB lC lD iY lE MW MX MY MZ wq NA AZ BA BB BC rB BD BE BF BG BH rC BI BJ BK BL BM rD BN NB NC ND NF wu NG BO BP BQ BR rE BS NH NI NJ NK wx NL BU BV BW BX rF BZ CA CB CD CF rG CG CH CI CJ CK rH CL CM CN CO CP rJ CQ CS CT CU CV rK CW CY CZ DA DB rL DC NM NN NO NP wy NQ DD DE DF DG rM DH DI DJ DK DL rN DM NR NS NT NU wz NV DN DP DQ DR rO DS NW NX NY NZ wA OA DT DU DV DW rP DX OB OC OD OE wB OF OG OH OI OJ wC OK DY DZ EA EB rQ EC ED EE EF EG rR EH EI EJ EK EL rS EM EN EO ER ES rT ET EU EV EW EX rU EY EZ rV rX rY lF rZ : Value} {iZ : Addr} {FA : Value} {FC : Option Addr} {FD : Nat} {FE : Array (Option Value)} {jA : Addr} {FF : Value} {FG : Option Addr} {FH : Nat} {FI : Array (Option Value)}
  (a_x22:PySem.W.nsIn K mainGlobals "beginning" = some (some (.ref cE))) (l_x22:K.lookup cE = some ⟨zV,yy,.func (PySem.W.fnOf "beginning" "beginning" (Ak On) (Aj On) (A6 On) .none zW zX zY yz qW zZ),zu⟩) (c_x22:PySem.W.codeIn K qW "beginning" = true) (k_x22:PySem.W.keepIn K (.ref cE) = true)
  (a_x25:PySem.W.nsIn K mainGlobals "may_lose" = some (some (.ref bS))) (l_x25:K.lookup bS = some ⟨AA,yA,.func (PySem.W.fnOf "may_lose" "may_lose" (Ak Ng) (Aj Ng) (A6 Ng) .none AB AD AE yB qX AF),zv⟩) (c_x25:PySem.W.codeIn K qX "may_lose" = true) (k_x25:PySem.W.keepIn K (.ref bS) = true)
  (a_x12:PySem.W.nsIn K mainGlobals "is_listener" = some (some (.ref cS))) (l_x12:K.lookup cS = some ⟨AG,yC,.func (PySem.W.fnOf "is_listener" "is_listener" (Ak Ob) (Aj Ob) (A6 Ob) .none AH AI AJ yD qY AK),zw⟩) (c_x12:PySem.W.codeIn K qY "is_listener" = true) (k_x12:PySem.W.keepIn K (.ref cS) = true)
  (a_x3:PySem.W.nsIn K mainGlobals "refuse_wrong_turn" = some (some (.ref gO))) (l_x3:K.lookup gO = some ⟨MM,LF,.func (PySem.W.fnOf "refuse_wrong_turn" "refuse_wrong_turn" (Ak Xi) (Aj Xi) (A6 Xi) .none MN MO MP LG wk MQ),MA⟩) (c_x3:PySem.W.codeIn K wk "refuse_wrong_turn" = true) (k_x3:PySem.W.keepIn K (.ref gO) = true)
  (a_x13:PySem.W.nsIn K mainGlobals "left_behind" = some (some (.ref cF))) (l_x13:K.lookup cF = some ⟨AL,yE,.func (PySem.W.fnOf "left_behind" "left_behind" (Ak Lz) (Aj Lz) (A6 Lz) .none AM AN AO yF qZ AQ),zx⟩) (c_x13:PySem.W.codeIn K qZ "left_behind" = true) (k_x13:PySem.W.keepIn K (.ref cF) = true)
  (a_x8:PySem.W.nsIn K mainGlobals "quiet_behind" = some (some (.ref gP))) (l_x8:K.lookup gP = some ⟨MR,LH,.func (PySem.W.fnOf "quiet_behind" "quiet_behind" (Ak Vy) (Aj Vy) (A6 Vy) .none MS MT MU LI wm MV),MB⟩) (c_x8:PySem.W.codeIn K wm "quiet_behind" = true) (k_x8:PySem.W.keepIn K (.ref gP) = true)
  (a_x32:PySem.W.nsIn K mainGlobals "after" = some (some (.ref bH))) (l_x32:K.lookup bH = some ⟨AR,yG,.func (PySem.W.fnOf "after" "after" (Ak Fz) (Aj Fz) (A6 Fz) (.ref iZ) kX kY kZ kU iX lA),zy⟩) (c_x32:PySem.W.codeIn K iX "after" = true) (k_x32:PySem.W.keepIn K (.ref bH) = true) (t_x32:K.lookup iZ = some ⟨FA,FC,.seq #[Value.bool false] FD,FE⟩)
  (a_x18:PySem.W.nsIn K mainGlobals "all_behind" = some (some (.ref cH))) (l_x18:K.lookup cH = some ⟨AS,yH,.func (PySem.W.fnOf "all_behind" "all_behind" (Ak Na) (Aj Na) (A6 Na) .none AU AV AW yI rA AX),zz⟩) (c_x18:PySem.W.codeIn K rA "all_behind" = true) (k_x18:PySem.W.keepIn K (.ref cH) = true)
  (a_x14:PySem.W.nsIn K mainGlobals "broken_ones" = some (some (.ref cJ))) (l_x14:K.lookup cJ = some ⟨AY,yJ,.func (PySem.W.fnOf "broken_ones" "broken_ones" (Ak Fa) (Aj Fa) (A6 Fa) (.ref jA) lB lC lD kW iY lE),zA⟩) (c_x14:PySem.W.codeIn K iY "broken_ones" = true) (k_x14:PySem.W.keepIn K (.ref cJ) = true) (t_x14:K.lookup jA = some ⟨FF,FG,.seq #[Value.bool false] FH,FI⟩)
  (a_x9:PySem.W.nsIn K mainGlobals "quiet_values" = some (some (.ref fQ))) (l_x9:K.lookup fQ = some ⟨MW,LJ,.func (PySem.W.fnOf "quiet_values" "quiet_values" (Ak Xb) (Aj Xb) (A6 Xb) .none MX MY MZ LK wq NA),MC⟩) (c_x9:PySem.W.codeIn K wq "quiet_values" = true) (k_x9:PySem.W.keepIn K (.ref fQ) = true)
  (a_x26:PySem.W.nsIn K mainGlobals "how_many" = some (some (.ref cT))) (l_x26:K.lookup cT = some ⟨AZ,yK,.func (PySem.W.fnOf "how_many" "how_many" (Ak Og) (Aj Og) (A6 Og) .none BA BB BC yL rB BD),zB⟩) (c_x26:PySem.W.codeIn K rB "how_many" = true) (k_x26:PySem.W.keepIn K (.ref cT) = true)
  (a_x27:PySem.W.nsIn K mainGlobals "all_left" = some (some (.ref cU))) (l_x27:K.lookup cU = some ⟨BE,yM,.func (PySem.W.fnOf "all_left" "all_left" (Ak L9) (Aj L9) (A6 L9) .none BF BG BH yN rC BI),zC⟩) (c_x27:PySem.W.codeIn K rC "all_left" = true) (k_x27:PySem.W.keepIn K (.ref cU) = true)
  (a_x23:PySem.W.nsIn K mainGlobals "standings" = some (some (.ref cV))) (l_x23:K.lookup cV = some ⟨BJ,yO,.func (PySem.W.fnOf "standings" "standings" (Ak Ls) (Aj Ls) (A6 Ls) .none BK BL BM yP rD BN),zD⟩) (c_x23:PySem.W.codeIn K rD "standings" = true) (k_x23:PySem.W.keepIn K (.ref cV) = true)
  (a_x4:PySem.W.nsIn K mainGlobals "calls_by_standing" = some (some (.ref gQ))) (l_x4:K.lookup gQ = some ⟨NB,LL,.func (PySem.W.fnOf "calls_by_standing" "calls_by_standing" (Ak Xj) (Aj Xj) (A6 Xj) .none NC ND NF LM wu NG),MD⟩) (c_x4:PySem.W.codeIn K wu "calls_by_standing" = true) (k_x4:PySem.W.keepIn K (.ref gQ) = true)
  (a_x30:PySem.W.nsIn K mainGlobals "ways_to" = some (some (.ref cW))) (l_x30:K.lookup cW = some ⟨BO,yQ,.func (PySem.W.fnOf "ways_to" "ways_to" (Ak Ny) (Aj Ny) (A6 Ny) .none BP BQ BR yR rE BS),zE⟩) (c_x30:PySem.W.codeIn K rE "ways_to" = true) (k_x30:PySem.W.keepIn K (.ref cW) = true)
  (a_x0:PySem.W.nsIn K mainGlobals "without_calls_left" = some (some (.ref gR))) (l_x0:K.lookup gR = some ⟨NH,LN,.func (PySem.W.fnOf "without_calls_left" "without_calls_left" (Ak Vv) (Aj Vv) (A6 Vv) .none NI NJ NK LO wx NL),ME⟩) (c_x0:PySem.W.codeIn K wx "without_calls_left" = true) (k_x0:PySem.W.keepIn K (.ref gR) = true)
  (a_x33:PySem.W.nsIn K mainGlobals "ranks" = some (some (.ref cK))) (l_x33:K.lookup cK = some ⟨BU,yS,.func (PySem.W.fnOf "ranks" "ranks" (Ak Lw) (Aj Lw) (A6 Lw) .none BV BW BX yT rF BZ),zF⟩) (c_x33:PySem.W.codeIn K rF "ranks" = true) (k_x33:PySem.W.keepIn K (.ref cK) = true)
  (a_x34:PySem.W.nsIn K mainGlobals "worth" = some (some (.ref cL))) (l_x34:K.lookup cL = some ⟨CA,yU,.func (PySem.W.fnOf "worth" "worth" (Ak Nn) (Aj Nn) (A6 Nn) .none CB CD CF yV rG CG),zG⟩) (c_x34:PySem.W.codeIn K rG "worth" = true) (k_x34:PySem.W.keepIn K (.ref cL) = true)
  (a_x19:PySem.W.nsIn K mainGlobals "call_worth" = some (some (.ref cX))) (l_x19:K.lookup cX = some ⟨CH,yW,.func (PySem.W.fnOf "call_worth" "call_worth" (Ak M9) (Aj M9) (A6 M9) .none CI CJ CK yX rH CL),zH⟩) (c_x19:PySem.W.codeIn K rH "call_worth" = true) (k_x19:PySem.W.keepIn K (.ref cX) = true)
  (a_x24:PySem.W.nsIn K mainGlobals "best_call" = some (some (.ref cY))) (l_x24:K.lookup cY = some ⟨CM,yY,.func (PySem.W.fnOf "best_call" "best_call" (Ak Me) (Aj Me) (A6 Me) .none CN CO CP yZ rJ CQ),zI⟩) (c_x24:PySem.W.codeIn K rJ "best_call" = true) (k_x24:PySem.W.keepIn K (.ref cY) = true)
  (a_x10:PySem.W.nsIn K mainGlobals "worst_answer" = some (some (.ref cZ))) (l_x10:K.lookup cZ = some ⟨CS,z5,.func (PySem.W.fnOf "worst_answer" "worst_answer" (Ak O2) (Aj O2) (A6 O2) .none CT CU CV z6 rK CW),zJ⟩) (c_x10:PySem.W.codeIn K rK "worst_answer" = true) (k_x10:PySem.W.keepIn K (.ref cZ) = true)
  (a_x15:PySem.W.nsIn K mainGlobals "all_answers" = some (some (.ref dA))) (l_x15:K.lookup dA = some ⟨CY,z7,.func (PySem.W.fnOf "all_answers" "all_answers" (Ak Mo) (Aj Mo) (A6 Mo) .none CZ DA DB z8 rL DC),zK⟩) (c_x15:PySem.W.codeIn K rL "all_answers" = true) (k_x15:PySem.W.keepIn K (.ref dA) = true)
  (a_x5:PySem.W.nsIn K mainGlobals "unbroken_behind" = some (some (.ref gS))) (l_x5:K.lookup gS = some ⟨NM,LP,.func (PySem.W.fnOf "unbroken_behind" "unbroken_behind" (Ak S3) (Aj S3) (A6 S3) .none NN NO NP LQ wy NQ),MF⟩) (c_x5:PySem.W.codeIn K wy "unbroken_behind" = true) (k_x5:PySem.W.keepIn K (.ref gS) = true)
  (a_x11:PySem.W.nsIn K mainGlobals "broken_paper" = some (some (.ref dB))) (l_x11:K.lookup dB = some ⟨DD,z9,.func (PySem.W.fnOf "broken_paper" "broken_paper" (Ak L3) (Aj L3) (A6 L3) .none DE DF DG za rM DH),zL⟩) (c_x11:PySem.W.codeIn K rM "broken_paper" = true) (k_x11:PySem.W.keepIn K (.ref dB) = true)
  (a_x20:PySem.W.nsIn K mainGlobals "least_left" = some (some (.ref cM))) (l_x20:K.lookup cM = some ⟨DI,zb,.func (PySem.W.fnOf "least_left" "least_left" (Ak Nf) (Aj Nf) (A6 Nf) .none DJ DK DL zc rN DM),zM⟩) (c_x20:PySem.W.codeIn K rN "least_left" = true) (k_x20:PySem.W.keepIn K (.ref cM) = true)
  (i_x7:PySem.W.isFn K (.ref gT) = true) (l_x7:K.lookup gT = some ⟨NR,LR,.func (PySem.W.fnOf "call" "RowCaller.call" (Ak Vr) (Aj Vr) (A6 Vr) .none NS NT NU LS wz NV),MG⟩) (c_x7:PySem.W.codeIn K wz "RowCaller.call" = true) (k_x7:PySem.W.keepIn K (.ref gT) = true)
  (i_x16:PySem.W.isFn K (.ref dC) = true) (l_x16:K.lookup dC = some ⟨DN,zd,.func (PySem.W.fnOf "call" "Caller.call" (Ak Np) (Aj Np) (A6 Np) .none DP DQ DR ze rO DS),zN⟩) (c_x16:PySem.W.codeIn K rO "Caller.call" = true) (k_x16:PySem.W.keepIn K (.ref dC) = true)
  (i_x6:PySem.W.isFn K (.ref fR) = true) (l_x6:K.lookup fR = some ⟨NW,LU,.func (PySem.W.fnOf "loses" "PaperRoad.loses" (Ak X6) (Aj X6) (A6 X6) .none NX NY NZ LV wA OA),MJ⟩) (c_x6:PySem.W.codeIn K wA "PaperRoad.loses" = true) (k_x6:PySem.W.keepIn K (.ref fR) = true)
  (a_x35:PySem.W.nsIn K mainGlobals "play" = some (some (.ref dD))) (l_x35:K.lookup dD = some ⟨DT,zf,.func (PySem.W.fnOf "play" "play" (Ak Nw) (Aj Nw) (A6 Nw) .none DU DV DW zg rP DX),zO⟩) (c_x35:PySem.W.codeIn K rP "play" = true) (k_x35:PySem.W.keepIn K (.ref dD) = true)
  (i_x1:PySem.W.isFn K (.ref gU) = true) (l_x1:K.lookup gU = some ⟨OB,LW,.func (PySem.W.fnOf "__init__" "RowCaller.__init__" (Ak Xe) (Aj Xe) (A6 Xe) .none OC OD OE LX wB OF),MK⟩) (c_x1:PySem.W.codeIn K wB "RowCaller.__init__" = true) (k_x1:PySem.W.keepIn K (.ref gU) = true)
  (i_x2:PySem.W.isFn K (.ref gW) = true) (l_x2:K.lookup gW = some ⟨OG,LY,.func (PySem.W.fnOf "__init__" "PaperRoad.__init__" (Ak Sc) (Aj Sc) (A6 Sc) .none OH OI OJ LZ wC OK),ML⟩) (c_x2:PySem.W.codeIn K wC "PaperRoad.__init__" = true) (k_x2:PySem.W.keepIn K (.ref gW) = true)
  (a_x17:PySem.W.nsIn K mainGlobals "_law_cell_at" = some (some (.ref cN))) (l_x17:K.lookup cN = some ⟨DY,zh,.func (PySem.W.fnOf "_law_cell_at" "_law_cell_at" (Ak Oa) (Aj Oa) (A6 Oa) .none DZ EA EB zi rQ EC),zP⟩) (c_x17:PySem.W.codeIn K rQ "_law_cell_at" = true) (k_x17:PySem.W.keepIn K (.ref cN) = true)
  (a_x28:PySem.W.nsIn K mainGlobals "_law_hall" = some (some (.ref dE))) (l_x28:K.lookup dE = some ⟨ED,zj,.func (PySem.W.fnOf "_law_hall" "_law_hall" (Ak Oj) (Aj Oj) (A6 Oj) .none EE EF EG zk rR EH),zQ⟩) (c_x28:PySem.W.codeIn K rR "_law_hall" = true) (k_x28:PySem.W.keepIn K (.ref dE) = true)
  (a_x31:PySem.W.nsIn K mainGlobals "_law_row" = some (some (.ref dG))) (l_x31:K.lookup dG = some ⟨EI,zl,.func (PySem.W.fnOf "_law_row" "_law_row" (Ak Nu) (Aj Nu) (A6 Nu) .none EJ EK EL zm rS EM),zR⟩) (c_x31:PySem.W.codeIn K rS "_law_row" = true) (k_x31:PySem.W.keepIn K (.ref dG) = true)
  (a_x21:PySem.W.nsIn K mainGlobals "_law_broken" = some (some (.ref dH))) (l_x21:K.lookup dH = some ⟨EN,zo,.func (PySem.W.fnOf "_law_broken" "_law_broken" (Ak Kw) (Aj Kw) (A6 Kw) .none EO ER ES zp rT ET),zS⟩) (c_x21:PySem.W.codeIn K rT "_law_broken" = true) (k_x21:PySem.W.keepIn K (.ref dH) = true)
  (a_x29:PySem.W.nsIn K mainGlobals "_law_best" = some (some (.ref dJ))) (l_x29:K.lookup dJ = some ⟨EU,zq,.func (PySem.W.fnOf "_law_best" "_law_best" (Ak N0) (Aj N0) (A6 N0) .none EV EW EX zr rU EY),zT⟩) (c_x29:PySem.W.codeIn K rU "_law_best" = true) (k_x29:PySem.W.keepIn K (.ref dJ) = true)
  (a_law:PySem.W.nsIn K mainGlobals "law" = some (some (.ref eZ))) (l_law:K.lookup eZ = some ⟨EZ,zt,.func (PySem.W.fnOf "law" "law" (Ak Iu) (Aj Iu) (A6 Iu) .none rV rX rY qV lF rZ),zU⟩) (c_law:PySem.W.codeIn K lF "law" = true) (k_law:PySem.W.keepIn K (.ref eZ) = true)
  (pg_Caller:PySem.W.plainGet K aC Str.empty = true) (hd_Caller:PySem.W.hasDictIn K aC = true) (po_Caller:PySem.W.plainOver K aC = true) (sa_Caller:PySem.W.findIn K (.ref aC) "__setattr__" = some (some (.builtin "object.__setattr__"))) (mm_Caller:PySem.W.makesIn K aC = true) (kc_Caller:PySem.W.keepIn K (.ref aC) = true) (fm_x16:PySem.W.findIn K (.ref aC) "call" = some (some (.ref dC))) (ni_Caller:PySem.W.findIn K (.ref aC) "__init__" = some (some (.builtin "object.__init__"))) (pg_RowCaller:PySem.W.plainGet K aA Str.empty = true) (hd_RowCaller:PySem.W.hasDictIn K aA = true) (po_RowCaller:PySem.W.plainOver K aA = true) (sa_RowCaller:PySem.W.findIn K (.ref aA) "__setattr__" = some (some (.builtin "object.__setattr__"))) (mm_RowCaller:PySem.W.makesIn K aA = true) (kc_RowCaller:PySem.W.keepIn K (.ref aA) = true) (fm_x7:PySem.W.findIn K (.ref aA) "call" = some (some (.ref gT))) (fm_x1:PySem.W.findIn K (.ref aA) "__init__" = some (some (.ref gU))) (nf_RowCaller_row:PySem.W.findIn K (.ref aA) "row" = some none) (nf_RowCaller_asked:PySem.W.findIn K (.ref aA) "asked" = some none) (pg_PaperRoad:PySem.W.plainGet K aB Str.empty = true) (hd_PaperRoad:PySem.W.hasDictIn K aB = true) (po_PaperRoad:PySem.W.plainOver K aB = true) (sa_PaperRoad:PySem.W.findIn K (.ref aB) "__setattr__" = some (some (.builtin "object.__setattr__"))) (mm_PaperRoad:PySem.W.makesIn K aB = true) (kc_PaperRoad:PySem.W.keepIn K (.ref aB) = true) (fm_x6:PySem.W.findIn K (.ref aB) "loses" = some (some (.ref fR))) (fm_x2:PySem.W.findIn K (.ref aB) "__init__" = some (some (.ref gW))) (nf_PaperRoad_paper:PySem.W.findIn K (.ref aB) "paper" = some none)
  {eJ:Nat} (y_MOST_STANDINGS:PySem.W.nsIn K mainGlobals "MOST_STANDINGS" = some (some (.int 3000 eJ))) (z_len:PySem.W.nsIn K mainGlobals "len" = some none) (z_max:PySem.W.nsIn K mainGlobals "max" = some none) (z_tuple:PySem.W.nsIn K mainGlobals "tuple" = some none) (z_enumerate:PySem.W.nsIn K mainGlobals "enumerate" = some none) (z_range:PySem.W.nsIn K mainGlobals "range" = some none) (z_min:PySem.W.nsIn K mainGlobals "min" = some none) (z_sorted:PySem.W.nsIn K mainGlobals "sorted" = some none) (z_list:PySem.W.nsIn K mainGlobals "list" = some none) (z_dict:PySem.W.nsIn K mainGlobals "dict" = some none) (z_isinstance:PySem.W.nsIn K mainGlobals "isinstance" = some none) (ac_Caller:PySem.W.nsIn K mainGlobals "Caller" = some (some (.ref aC))) (ac_RowCaller:PySem.W.nsIn K mainGlobals "RowCaller" = some (some (.ref aA))) (ac_PaperRoad:PySem.W.nsIn K mainGlobals "PaperRoad" = some (some (.ref aB)))  :
  ∃ fd:FuncData,(∀ (s:Shared) (v:Value),BindsTo s fd ⟨[v],[]⟩ [("script",v)]) /\ ∀ base:Heap,K.In base -> base.Ns mainGlobals mg -> Af l.prog w K mg base Bd 9 fa fd ["script"] (Pa K):=by
 have e:=hfa.symm.trans (PySem.W.mg_of X G a_law)
 cases e
 have T:Txt K mg ⟨cE,bS,cS,gO,cF,gP,bH,cH,cJ,fQ,cT,cU,cV,gQ,cW,gR,cK,cL,cX,cY,cZ,dA,gS,dB,cM,gT,dC,fR,dD,gU,gW,cN,dE,dG,dH,dJ,fa⟩ aC aA aB:=⟨PySem.W.mg_of X G a_x22,k_x22,PySem.W.mg_of X G a_x25,k_x25,PySem.W.mg_of X G a_x12,k_x12,PySem.W.mg_of X G a_x3,k_x3,PySem.W.mg_of X G a_x13,k_x13,PySem.W.mg_of X G a_x8,k_x8,PySem.W.mg_of X G a_x32,k_x32,PySem.W.mg_of X G a_x18,k_x18,PySem.W.mg_of X G a_x14,k_x14,PySem.W.mg_of X G a_x9,k_x9,PySem.W.mg_of X G a_x26,k_x26,PySem.W.mg_of X G a_x27,k_x27,PySem.W.mg_of X G a_x23,k_x23,PySem.W.mg_of X G a_x4,k_x4,PySem.W.mg_of X G a_x30,k_x30,PySem.W.mg_of X G a_x0,k_x0,PySem.W.mg_of X G a_x33,k_x33,PySem.W.mg_of X G a_x34,k_x34,PySem.W.mg_of X G a_x19,k_x19,PySem.W.mg_of X G a_x24,k_x24,PySem.W.mg_of X G a_x10,k_x10,PySem.W.mg_of X G a_x15,k_x15,PySem.W.mg_of X G a_x5,k_x5,PySem.W.mg_of X G a_x11,k_x11,PySem.W.mg_of X G a_x20,k_x20,PySem.W.mg_of X G a_x35,k_x35,PySem.W.mg_of X G a_x17,k_x17,PySem.W.mg_of X G a_x28,k_x28,PySem.W.mg_of X G a_x31,k_x31,PySem.W.mg_of X G a_x21,k_x21,PySem.W.mg_of X G a_x29,k_x29,PySem.W.mg_of X G a_law,k_law,PySem.W.mg_none_of X G z_len,PySem.W.mg_none_of X G z_max,PySem.W.mg_none_of X G z_tuple,PySem.W.mg_none_of X G z_enumerate,PySem.W.mg_none_of X G z_range,PySem.W.mg_none_of X G z_min,PySem.W.mg_none_of X G z_sorted,PySem.W.mg_none_of X G z_list,PySem.W.mg_none_of X G z_dict,PySem.W.mg_none_of X G z_isinstance,⟨_,PySem.W.mg_of X G y_MOST_STANDINGS⟩,PySem.W.mg_of X G ac_Caller,PySem.W.mg_of X G ac_RowCaller,PySem.W.mg_of X G ac_PaperRoad,⟨pg_Caller,hd_Caller,po_Caller,sa_Caller⟩,⟨mm_Caller,ni_Caller,kc_Caller⟩,⟨fm_x16,i_x16,k_x16⟩,⟨pg_RowCaller,hd_RowCaller,po_RowCaller,sa_RowCaller⟩,⟨mm_RowCaller,fm_x1,i_x1,kc_RowCaller⟩,⟨fm_x7,i_x7,k_x7⟩,nf_RowCaller_row,nf_RowCaller_asked,⟨pg_PaperRoad,hd_PaperRoad,po_PaperRoad,sa_PaperRoad⟩,⟨mm_PaperRoad,fm_x2,i_x2,kc_PaperRoad⟩,⟨fm_x6,i_x6,k_x6⟩,nf_PaperRoad_paper⟩
 have wD:=B8 (st:=On) l_x22 c_x22 k_x22
 have wF:=B8 (st:=Ng) l_x25 c_x25 k_x25
 have wG:=B8 (st:=Ob) l_x12 c_x12 k_x12
 have OL:=B8 (st:=Xi) l_x3 c_x3 k_x3
 have wH:=B8 (st:=Lz) l_x13 c_x13 k_x13
 have OM:=B8 (st:=Vy) l_x8 c_x8 k_x8
 have ON:X3 K "after" "after" Fz bH _:=⟨⟨_,_,_,_,_,_,_,_,_,_,rfl,l_x32,c_x32⟩⟩
 have wI:=B8 (st:=Na) l_x18 c_x18 k_x18
 have OO:X3 K "broken_ones" "broken_ones" Fa cJ _:=⟨⟨_,_,_,_,_,_,_,_,_,_,rfl,l_x14,c_x14⟩⟩
 have OP:=B8 (st:=Xb) l_x9 c_x9 k_x9
 have wJ:=B8 (st:=Og) l_x26 c_x26 k_x26
 have wK:=B8 (st:=L9) l_x27 c_x27 k_x27
 have wL:=B8 (st:=Ls) l_x23 c_x23 k_x23
 have OQ:=B8 (st:=Xj) l_x4 c_x4 k_x4
 have wM:=B8 (st:=Ny) l_x30 c_x30 k_x30
 have OS:=B8 (st:=Vv) l_x0 c_x0 k_x0
 have wN:=B8 (st:=Lw) l_x33 c_x33 k_x33
 have wO:=B8 (st:=Nn) l_x34 c_x34 k_x34
 have wQ:=B8 (st:=M9) l_x19 c_x19 k_x19
 have wR:=B8 (st:=Me) l_x24 c_x24 k_x24
 have wU:=B8 (st:=O2) l_x10 c_x10 k_x10
 have wV:=B8 (st:=Mo) l_x15 c_x15 k_x15
 have OT:=B8 (st:=S3) l_x5 c_x5 k_x5
 have wW:=B8 (st:=L3) l_x11 c_x11 k_x11
 have wX:=B8 (st:=Nf) l_x20 c_x20 k_x20
 have OU:=B8 (st:=Vr) l_x7 c_x7 k_x7
 have wY:=B8 (st:=Np) l_x16 c_x16 k_x16
 have OV:=B8 (st:=X6) l_x6 c_x6 k_x6
 have wZ:=B8 (st:=Nw) l_x35 c_x35 k_x35
 have OW:=B8 (st:=Xe) l_x1 c_x1 k_x1
 have OX:=B8 (st:=Sc) l_x2 c_x2 k_x2
 have xb:=B8 (st:=Oa) l_x17 c_x17 k_x17
 have xc:=B8 (st:=Oj) l_x28 c_x28 k_x28
 have xf:=B8 (st:=Nu) l_x31 c_x31 k_x31
 have xg:=B8 (st:=Kw) l_x21 c_x21 k_x21
 have xh:=B8 (st:=N0) l_x29 c_x29 k_x29
 have OY:=B8 (st:=Iu) l_law c_law k_law
 have gB:=wD.binds (ps:=["hall"]) fun _ _ _ _ _ _ us hl=>by obtain ⟨_,rfl⟩ := Kg hl; rfl
 have cA:=wF.binds (ps:=["hall","standing"]) fun _ _ _ _ _ _ us hl=>by obtain ⟨_,_,rfl⟩ := R9 hl; rfl
 have oN:=wG.binds (ps:=["hall","who"]) fun _ _ _ _ _ _ us hl=>by obtain ⟨_,_,rfl⟩ := R9 hl; rfl
 have xN:=OL.binds (ps:=["hall","standing","who","lost"]) fun _ _ _ _ _ _ us hl=>by obtain ⟨_,_,_,_,rfl⟩ := Pf hl; rfl
 have iB:=wH.binds (ps:=["hall","standing","who","lost"]) fun _ _ _ _ _ _ us hl=>by obtain ⟨_,_,_,_,rfl⟩ := Pf hl; rfl
 have xP:=OM.binds (ps:=["hall","standing","lost"]) fun _ _ _ _ _ _ us hl=>by obtain ⟨_,_,_,rfl⟩ := Kb hl; rfl
 have bJ:Ap K (PySem.W.fnOf "after" "after" (Ak Fz) (Aj Fz) (A6 Fz) (.ref iZ) kX kY kZ kU iX lA) ["hall","standing","who","lost"] []:=fun s us hK hl=>by
  have h4:us.length = 4:=by simpa using hl
  obtain ⟨_,_,_,_,rfl⟩ := Pf h4
  exact BindsTo.of_defaults rfl (hK _ _ t_x32) rfl rfl rfl
 have aM:Ap K (PySem.W.fnOf "after" "after" (Ak Fz) (Aj Fz) (A6 Fz) (.ref iZ) kX kY kZ kU iX lA) ["hall","standing","who","lost"] [Value.bool false]:=fun s us hK hl=>by
  have h4:us.length = 3:=by simpa using hl
  obtain ⟨_,_,_,rfl⟩ := Kb h4
  exact BindsTo.of_defaults rfl (hK _ _ t_x32) rfl rfl rfl
 have iD:=wI.binds (ps:=["hall","standing","who"]) fun _ _ _ _ _ _ us hl=>by obtain ⟨_,_,_,rfl⟩ := Kb hl; rfl
 have pX:Ap K (PySem.W.fnOf "broken_ones" "broken_ones" (Ak Fa) (Aj Fa) (A6 Fa) (.ref jA) lB lC lD kW iY lE) ["hall","standing","who","lost"] []:=fun s us hK hl=>by
  have h4:us.length = 4:=by simpa using hl
  obtain ⟨_,_,_,_,rfl⟩ := Pf h4
  exact BindsTo.of_defaults rfl (hK _ _ t_x14) rfl rfl rfl
 have cB:Ap K (PySem.W.fnOf "broken_ones" "broken_ones" (Ak Fa) (Aj Fa) (A6 Fa) (.ref jA) lB lC lD kW iY lE) ["hall","standing","who","lost"] [Value.bool false]:=fun s us hK hl=>by
  have h4:us.length = 3:=by simpa using hl
  obtain ⟨_,_,_,rfl⟩ := Kb h4
  exact BindsTo.of_defaults rfl (hK _ _ t_x14) rfl rfl rfl
 have mK:=OP.binds (ps:=["hall"]) fun _ _ _ _ _ _ us hl=>by obtain ⟨_,rfl⟩ := Kg hl; rfl
 have oW:=wJ.binds (ps:=["hall"]) fun _ _ _ _ _ _ us hl=>by obtain ⟨_,rfl⟩ := Kg hl; rfl
 have oU:=wK.binds (ps:=["waits"]) fun _ _ _ _ _ _ us hl=>by obtain ⟨_,rfl⟩ := Kg hl; rfl
 have oZ:=wL.binds (ps:=["hall"]) fun _ _ _ _ _ _ us hl=>by obtain ⟨_,rfl⟩ := Kg hl; rfl
 have y9:=OQ.binds (ps:=["hall"]) fun _ _ _ _ _ _ us hl=>by obtain ⟨_,rfl⟩ := Kg hl; rfl
 have pF:=wM.binds (ps:=["pending"]) fun _ _ _ _ _ _ us hl=>by obtain ⟨_,rfl⟩ := Kg hl; rfl
 have yb:=OS.binds (ps:=["pending","ways","ranked"]) fun _ _ _ _ _ _ us hl=>by obtain ⟨_,_,_,rfl⟩ := Kb hl; rfl
 have iI:=wN.binds (ps:=["hall"]) fun _ _ _ _ _ _ us hl=>by obtain ⟨_,rfl⟩ := Kg hl; rfl
 have fX:=wO.binds (ps:=["table","behind"]) fun _ _ _ _ _ _ us hl=>by obtain ⟨_,_,rfl⟩ := R9 hl; rfl
 have pK:=wQ.binds (ps:=["hall","table","standing","who"]) fun _ _ _ _ _ _ us hl=>by obtain ⟨_,_,_,_,rfl⟩ := Pf hl; rfl
 have qH:=wR.binds (ps:=["hall","table","standing"]) fun _ _ _ _ _ _ us hl=>by obtain ⟨_,_,_,rfl⟩ := Kb hl; rfl
 have pN:=wU.binds (ps:=["hall","table","standing","who"]) fun _ _ _ _ _ _ us hl=>by obtain ⟨_,_,_,_,rfl⟩ := Pf hl; rfl
 have pQ:=wV.binds (ps:=["hall","table","standing"]) fun _ _ _ _ _ _ us hl=>by obtain ⟨_,_,_,rfl⟩ := Kb hl; rfl
 have yi:=OT.binds (ps:=["hall","standing","answers"]) fun _ _ _ _ _ _ us hl=>by obtain ⟨_,_,_,rfl⟩ := Kb hl; rfl
 have qQ:=wW.binds (ps:=["hall"]) fun _ _ _ _ _ _ us hl=>by obtain ⟨_,rfl⟩ := Kg hl; rfl
 have iK:=wX.binds (ps:=["standing"]) fun _ _ _ _ _ _ us hl=>by obtain ⟨_,rfl⟩ := Kg hl; rfl
 have ym:=OU.binds (ps:=["self","hall","standing"]) fun _ _ _ _ _ _ us hl=>by obtain ⟨_,_,_,rfl⟩ := Kb hl; rfl
 have pV:=wY.binds (ps:=["self","hall","standing"]) fun _ _ _ _ _ _ us hl=>by obtain ⟨_,_,_,rfl⟩ := Kb hl; rfl
 have mQ:=OV.binds (ps:=["self","hall","standing","who"]) fun _ _ _ _ _ _ us hl=>by obtain ⟨_,_,_,_,rfl⟩ := Pf hl; rfl
 have qE:=wZ.binds (ps:=["hall","caller","road","turns"]) fun _ _ _ _ _ _ us hl=>by obtain ⟨_,_,_,_,rfl⟩ := Pf hl; rfl
 have uL:=OW.binds (ps:=["self","row"]) fun _ _ _ _ _ _ us hl=>by obtain ⟨_,_,rfl⟩ := R9 hl; rfl
 have yw:=OX.binds (ps:=["self","paper"]) fun _ _ _ _ _ _ us hl=>by obtain ⟨_,_,rfl⟩ := R9 hl; rfl
 have gH:=xb.binds (ps:=["script","k"]) fun _ _ _ _ _ _ us hl=>by obtain ⟨_,_,rfl⟩ := R9 hl; rfl
 have qO:=xc.binds (ps:=["script"]) fun _ _ _ _ _ _ us hl=>by obtain ⟨_,rfl⟩ := Kg hl; rfl
 have qS:=xf.binds (ps:=["script","many"]) fun _ _ _ _ _ _ us hl=>by obtain ⟨_,_,rfl⟩ := R9 hl; rfl
 have jT:=xg.binds (ps:=["hall","told","caller","road"]) fun _ _ _ _ _ _ us hl=>by obtain ⟨_,_,_,_,rfl⟩ := Pf hl; rfl
 have qU:=xh.binds (ps:=["hall","told","road"]) fun _ _ _ _ _ _ us hl=>by obtain ⟨_,_,_,rfl⟩ := Kb hl; rfl
 refine ⟨PySem.W.fnOf "law" "law" (Ak Iu) (Aj Iu) (A6 Iu) .none rV rX rY qV lF rZ,fun s v=>.of_eq rfl,fun base _ _=>?_⟩
 have gA:Af l.prog w K mg base Bd 1 _ _ ["hall"] (Pd K):=gi T wD
 have bZ:Af l.prog w K mg base Bd 1 _ _ ["hall","standing"] (J1 K):=jf T wF
 have oM:Af l.prog w K mg base Bd 1 _ _ ["hall","who"] (Uj K):=fk T wG
 have xM:Af l.prog w K mg base Bd 2 _ _ ["hall","standing","who","lost"] (Z4 K):=le T OL oM oN bZ cA
 have iA:Af l.prog w K mg base Bd 3 _ _ ["hall","standing","who","lost"] (Os K):=im T wH xM xN
 have xO:Af l.prog w K mg base Bd 1 _ _ ["hall","standing","lost"] (Zd K):=kq T OM
 have bC:Af l.prog w K mg base Bd 4 _ _ ["hall","standing","who","lost"] (Hj K):=jo T ON iA iB xO xP
 have iC:Af l.prog w K mg base Bd 5 _ _ ["hall","standing","who"] (P8 K):=fb T wI bZ cA bC bJ aM
 have pW:Af l.prog w K mg base Bd 4 _ _ ["hall","standing","who","lost"] (Tf K):=jp T OO iA iB
 have mJ:Af l.prog w K mg base Bd 1 _ _ ["hall"] (Vm K):=kn T OP
 have oV:Af l.prog w K mg base Bd 2 _ _ ["hall"] (Si K):=gl T wJ mJ mK
 have oS:Af l.prog w K mg base Bd 1 _ _ ["waits"] (Te K):=gr T wK
 have oY:Af l.prog w K mg base Bd 3 _ _ ["hall"] (Ti K):=i8 T wL oS oU oV oW mJ mK
 have y8:Af l.prog w K mg base Bd 6 _ _ ["hall"] (Zy K):=ma T OQ oY oZ iC iD
 have pE:Af l.prog w K mg base Bd 1 _ _ ["pending"] (Tm K):=gd T wM
 have ya:Af l.prog w K mg base Bd 1 _ _ ["pending","ways","ranked"] (Yk K):=li T OS
 have iH:Af l.prog w K mg base Bd 7 _ _ ["hall"] (P1 K):=jq T wN y8 y9 pE pF ya yb
 have fW:Af l.prog w K mg base Bd 1 _ _ ["table","behind"] (Ox K):=ir T wO
 have pJ:Af l.prog w K mg base Bd 6 _ _ ["hall","table","standing","who"] (Sy K):=g0 T wQ fW fX iC iD
 have qG:Af l.prog w K mg base Bd 7 _ _ ["hall","table","standing"] (Uk K):=f8 T wR pJ pK
 have pM:Af l.prog w K mg base Bd 5 _ _ ["hall","table","standing","who"] (Sl K):=jb T wU fW fX bC bJ aM bZ cA
 have pP:Af l.prog w K mg base Bd 6 _ _ ["hall","table","standing"] (Tt K):=fh T wV pM pN
 have yh:Af l.prog w K mg base Bd 5 _ _ ["hall","standing","answers"] (Xo K):=oh T OT bC bJ aM
 have qP:Af l.prog w K mg base Bd 8 _ _ ["hall"] (Tc K):=gh T wW iH iI gA gB pP pQ yh yi
 have iJ:Af l.prog w K mg base Bd 1 _ _ ["standing"] (Ot K):=fz T wX
 have yl:Af l.prog w K mg base Bd 2 _ _ ["self","hall","standing"] (Zt K aC aA aB):=ol T OU iJ iK
 have pU:Af l.prog w K mg base Bd 2 _ _ ["self","hall","standing"] (Tx K aC aA aB):=g9 T wY iJ iK
 have mP:Af l.prog w K mg base Bd 2 _ _ ["self","hall","standing","who"] (Vf K aC aA aB):=o9 T OV bZ cA
 have qD:Af l.prog w K mg base Bd 5 _ _ ["hall","caller","road","turns"] (Um K aC aA aB):=gf T wZ gA gB yl ym pU pV mP mQ pW pX cB bC bJ aM
 have uK:Af l.prog w K mg base Bd 1 _ _ ["self","row"] (Xy K aC aA aB):=nz T OW
 have yv:Af l.prog w K mg base Bd 1 _ _ ["self","paper"] (Yd K aC aA aB):=nj T OX
 have gG:Af l.prog w K mg base Bd 1 _ _ ["script","k"] (Pg K):=jr T xb
 have qN:Af l.prog w K mg base Bd 2 _ _ ["script"] (Uc K):=ji T xc gG gH
 have qR:Af l.prog w K mg base Bd 2 _ _ ["script","many"] (Ub K):=jn T xf gG gH
 have jS:Af l.prog w K mg base Bd 6 _ _ ["hall","told","caller","road"] (Ul K aC aA aB):=j6 T xg qD qE
 have qT:Af l.prog w K mg base Bd 8 _ _ ["hall","told","road"] (Th K aC aA aB):=jl T xh iH iI qG qH bC bJ aM mP mQ
 exact iy T OY yv yw qN qO qP qQ qR qS jS jT uK uL qT qU
theorem walk {l : PySem.W.OpenLaw} {q : Program} {loose : List Str} {XP : (Str -> Option Value) -> Heap -> Prop} {YP : World -> Heap -> Prop} {d : DefRec} {K : Params -> PySem.W.Frag} (hn : l.most = some 63) (SJ : d.params.defaults = [])
  (hY:∀ (w:World) (h:Heap),YP w h -> (K w.params).In h)
  (F:∀ (w:World) (mg:Str -> Option Value) (fa:Addr) (h:Heap),(K w.params).In h -> h.Ns mainGlobals mg -> mg d.name = some (.ref fa) ->
   ∃ fd:FuncData,(∀ (s:Shared) (u:Value),BindsTo s fd ⟨[u],[]⟩ [("script",u)]) /\ ∀ base:Heap,(K w.params).In base -> base.Ns mainGlobals mg -> Af l.prog w (K w.params) mg base Bd 9 fa fd ["script"] (Pa (K w.params))) :
  PySem.W.WalkO q loose XP YP l.row.toRowW d [] (fun f vs=>PySem.call f vs) :=
 L2.nM (n:=63) (k:=9) (x := "script") (CX:=fun _=>Bd) (sp:=fun w=>Pa (K w.params)) hn (by decide) SJ ⟨rfl,by decide,by decide⟩ hY F (fun _ _ a ns hl hb _ hS=>⟨a,ns,rfl,hS,hl,hb,fun _=>rfl⟩) fun _ _ _ _ _ z=>z
end Law
namespace PySem.W.Fast
theorem tw233299285797529099:True:=trivial
theorem tw2358333788907639699:True:=trivial
theorem tw17217846330253616232:True:=trivial
theorem tw17974903111711425679:True:=trivial
theorem tw10903759088518544198:True:=trivial
theorem tw1192657423025845778:True:=trivial
theorem tw5615358113818619118:True:=trivial
theorem tw15086516476948308444:True:=trivial
theorem tw16699298444811017785:True:=trivial
theorem tw9954507759434369356:True:=trivial
theorem tw15068646872849887019:True:=trivial
theorem tw2986114724256335955:True:=trivial
theorem tw739211312977365045:True:=trivial
theorem tw6728107511269828148:True:=trivial
theorem tw3318826090341801683:True:=trivial
theorem tw11197034028428983015:True:=trivial
theorem tw17550828440797748957:True:=trivial
theorem tw8082588475226346313:True:=trivial
theorem tw6104891783322681997:True:=trivial
theorem tw3393609173723375641:True:=trivial
theorem tw1211692754730393502:True:=trivial
theorem tw2242918370985914118:True:=trivial
end PySem.W.Fast
open PySem PySem.W PyProof.Rows
set_option maxRecDepth 100000 in
set_option maxHeartbeats 0 in
theorem PySem.Challenge.cw_roundcall_k78_whole_broken_in_time_holds : PySem.Challenge.rw_roundcall_k78_whole_broken_in_time.Holds := by
 w_on; o_law; k_head; (case hw=>w_witness2)
 k_fill
 refine Law.walk (l:=PySem.Challenge.rw_roundcall_k78_whole_broken_in_time) rfl rfl (fun w h Y=>PySem.W.kIn_of Y) ?F
 case F =>
  intro w mg fa h KX G hmg
  refine' Law.all_mk KX G hmg ?a_x22 ?l_x22 ?c_x22 ?k_x22 ?a_x25 ?l_x25 ?c_x25 ?k_x25 ?a_x12 ?l_x12 ?c_x12 ?k_x12 ?a_x3 ?l_x3 ?c_x3 ?k_x3 ?a_x13 ?l_x13 ?c_x13 ?k_x13 ?a_x8 ?l_x8 ?c_x8 ?k_x8 ?a_x32 ?l_x32 ?c_x32 ?k_x32 ?t_x32 ?a_x18 ?l_x18 ?c_x18 ?k_x18 ?a_x14 ?l_x14 ?c_x14 ?k_x14 ?t_x14 ?a_x9 ?l_x9 ?c_x9 ?k_x9 ?a_x26 ?l_x26 ?c_x26 ?k_x26 ?a_x27 ?l_x27 ?c_x27 ?k_x27 ?a_x23 ?l_x23 ?c_x23 ?k_x23 ?a_x4 ?l_x4 ?c_x4 ?k_x4 ?a_x30 ?l_x30 ?c_x30 ?k_x30 ?a_x0 ?l_x0 ?c_x0 ?k_x0 ?a_x33 ?l_x33 ?c_x33 ?k_x33 ?a_x34 ?l_x34 ?c_x34 ?k_x34 ?a_x19 ?l_x19 ?c_x19 ?k_x19 ?a_x24 ?l_x24 ?c_x24 ?k_x24 ?a_x10 ?l_x10 ?c_x10 ?k_x10 ?a_x15 ?l_x15 ?c_x15 ?k_x15 ?a_x5 ?l_x5 ?c_x5 ?k_x5 ?a_x11 ?l_x11 ?c_x11 ?k_x11 ?a_x20 ?l_x20 ?c_x20 ?k_x20 ?i_x7 ?l_x7 ?c_x7 ?k_x7 ?i_x16 ?l_x16 ?c_x16 ?k_x16 ?i_x6 ?l_x6 ?c_x6 ?k_x6 ?a_x35 ?l_x35 ?c_x35 ?k_x35 ?i_x1 ?l_x1 ?c_x1 ?k_x1 ?i_x2 ?l_x2 ?c_x2 ?k_x2 ?a_x17 ?l_x17 ?c_x17 ?k_x17 ?a_x28 ?l_x28 ?c_x28 ?k_x28 ?a_x31 ?l_x31 ?c_x31 ?k_x31 ?a_x21 ?l_x21 ?c_x21 ?k_x21 ?a_x29 ?l_x29 ?c_x29 ?k_x29 ?a_law ?l_law ?c_law ?k_law ?pg_Caller ?hd_Caller ?po_Caller ?sa_Caller ?mm_Caller ?kc_Caller ?fm_x16 ?ni_Caller ?pg_RowCaller ?hd_RowCaller ?po_RowCaller ?sa_RowCaller ?mm_RowCaller ?kc_RowCaller ?fm_x7 ?fm_x1 ?nf_RowCaller_row ?nf_RowCaller_asked ?pg_PaperRoad ?hd_PaperRoad ?po_PaperRoad ?sa_PaperRoad ?mm_PaperRoad ?kc_PaperRoad ?fm_x6 ?fm_x2 ?nf_PaperRoad_paper ?y_MOST_STANDINGS ?z_len ?z_max ?z_tuple ?z_enumerate ?z_range ?z_min ?z_sorted ?z_list ?z_dict ?z_isinstance ?ac_Caller ?ac_RowCaller ?ac_PaperRoad
  (case ac_Caller=>k_is)
  (case ac_RowCaller=>k_is)
  (case ac_PaperRoad=>k_is)
  (case fm_x16=>k_is)
  (case fm_x7=>k_is)
  (case fm_x1=>k_is)
  (case fm_x6=>k_is)
  (case fm_x2=>k_is)
  (case a_x22=>k_is)
  (case l_x22=>k_is)
  (case c_x22=>k_is)
  (case k_x22=>k_is)
  (case a_x25=>k_is)
  (case l_x25=>k_is)
  (case c_x25=>k_is)
  (case k_x25=>k_is)
  (case a_x12=>k_is)
  (case l_x12=>k_is)
  (case c_x12=>k_is)
  (case k_x12=>k_is)
  (case a_x3=>k_is)
  (case l_x3=>k_is)
  (case c_x3=>k_is)
  (case k_x3=>k_is)
  (case a_x13=>k_is)
  (case l_x13=>k_is)
  (case c_x13=>k_is)
  (case k_x13=>k_is)
  (case a_x8=>k_is)
  (case l_x8=>k_is)
  (case c_x8=>k_is)
  (case k_x8=>k_is)
  (case a_x32=>k_is)
  (case l_x32=>k_is)
  (case c_x32=>k_is)
  (case k_x32=>k_is)
  (case t_x32=>k_is)
  (case a_x18=>k_is)
  (case l_x18=>k_is)
  (case c_x18=>k_is)
  (case k_x18=>k_is)
  (case a_x14=>k_is)
  (case l_x14=>k_is)
  (case c_x14=>k_is)
  (case k_x14=>k_is)
  (case t_x14=>k_is)
  (case a_x9=>k_is)
  (case l_x9=>k_is)
  (case c_x9=>k_is)
  (case k_x9=>k_is)
  (case a_x26=>k_is)
  (case l_x26=>k_is)
  (case c_x26=>k_is)
  (case k_x26=>k_is)
  (case a_x27=>k_is)
  (case l_x27=>k_is)
  (case c_x27=>k_is)
  (case k_x27=>k_is)
  (case a_x23=>k_is)
  (case l_x23=>k_is)
  (case c_x23=>k_is)
  (case k_x23=>k_is)
  (case a_x4=>k_is)
  (case l_x4=>k_is)
  (case c_x4=>k_is)
  (case k_x4=>k_is)
  (case a_x30=>k_is)
  (case l_x30=>k_is)
  (case c_x30=>k_is)
  (case k_x30=>k_is)
  (case a_x0=>k_is)
  (case l_x0=>k_is)
  (case c_x0=>k_is)
  (case k_x0=>k_is)
  (case a_x33=>k_is)
  (case l_x33=>k_is)
  (case c_x33=>k_is)
  (case k_x33=>k_is)
  (case a_x34=>k_is)
  (case l_x34=>k_is)
  (case c_x34=>k_is)
  (case k_x34=>k_is)
  (case a_x19=>k_is)
  (case l_x19=>k_is)
  (case c_x19=>k_is)
  (case k_x19=>k_is)
  (case a_x24=>k_is)
  (case l_x24=>k_is)
  (case c_x24=>k_is)
  (case k_x24=>k_is)
  (case a_x10=>k_is)
  (case l_x10=>k_is)
  (case c_x10=>k_is)
  (case k_x10=>k_is)
  (case a_x15=>k_is)
  (case l_x15=>k_is)
  (case c_x15=>k_is)
  (case k_x15=>k_is)
  (case a_x5=>k_is)
  (case l_x5=>k_is)
  (case c_x5=>k_is)
  (case k_x5=>k_is)
  (case a_x11=>k_is)
  (case l_x11=>k_is)
  (case c_x11=>k_is)
  (case k_x11=>k_is)
  (case a_x20=>k_is)
  (case l_x20=>k_is)
  (case c_x20=>k_is)
  (case k_x20=>k_is)
  (case i_x7=>k_is)
  (case l_x7=>k_is)
  (case c_x7=>k_is)
  (case k_x7=>k_is)
  (case i_x16=>k_is)
  (case l_x16=>k_is)
  (case c_x16=>k_is)
  (case k_x16=>k_is)
  (case i_x6=>k_is)
  (case l_x6=>k_is)
  (case c_x6=>k_is)
  (case k_x6=>k_is)
  (case a_x35=>k_is)
  (case l_x35=>k_is)
  (case c_x35=>k_is)
  (case k_x35=>k_is)
  (case i_x1=>k_is)
  (case l_x1=>k_is)
  (case c_x1=>k_is)
  (case k_x1=>k_is)
  (case i_x2=>k_is)
  (case l_x2=>k_is)
  (case c_x2=>k_is)
  (case k_x2=>k_is)
  (case a_x17=>k_is)
  (case l_x17=>k_is)
  (case c_x17=>k_is)
  (case k_x17=>k_is)
  (case a_x28=>k_is)
  (case l_x28=>k_is)
  (case c_x28=>k_is)
  (case k_x28=>k_is)
  (case a_x31=>k_is)
  (case l_x31=>k_is)
  (case c_x31=>k_is)
  (case k_x31=>k_is)
  (case a_x21=>k_is)
  (case l_x21=>k_is)
  (case c_x21=>k_is)
  (case k_x21=>k_is)
  (case a_x29=>k_is)
  (case l_x29=>k_is)
  (case c_x29=>k_is)
  (case k_x29=>k_is)
  (case a_law=>k_is)
  (case l_law=>k_is)
  (case c_law=>k_is)
  (case k_law=>k_is)
  (case pg_Caller=>k_is)
  (case hd_Caller=>k_is)
  (case po_Caller=>k_is)
  (case sa_Caller=>k_is)
  (case mm_Caller=>k_is)
  (case kc_Caller=>k_is)
  (case ni_Caller=>k_is)
  (case pg_RowCaller=>k_is)
  (case hd_RowCaller=>k_is)
  (case po_RowCaller=>k_is)
  (case sa_RowCaller=>k_is)
  (case mm_RowCaller=>k_is)
  (case kc_RowCaller=>k_is)
  (case nf_RowCaller_row=>k_is)
  (case nf_RowCaller_asked=>k_is)
  (case pg_PaperRoad=>k_is)
  (case hd_PaperRoad=>k_is)
  (case po_PaperRoad=>k_is)
  (case sa_PaperRoad=>k_is)
  (case mm_PaperRoad=>k_is)
  (case kc_PaperRoad=>k_is)
  (case nf_PaperRoad_paper=>k_is)
  (case y_MOST_STANDINGS=>k_is)
  (case z_len=>k_is)
  (case z_max=>k_is)
  (case z_tuple=>k_is)
  (case z_enumerate=>k_is)
  (case z_range=>k_is)
  (case z_min=>k_is)
  (case z_sorted=>k_is)
  (case z_list=>k_is)
  (case z_dict=>k_is)
  (case z_isinstance=>k_is)
