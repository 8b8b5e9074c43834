import PyProof.Rows.All
import Wide.All
import OpenK.AllK
import Wide.FinOn
import Lean
import PyProof.EqAt
import PyProof.EqKinds
import PyProof.TupleCall
import PySem.Challenge.RW_roundcall_k37_whole_own_plans
/-! THE HAND LAYER, for ints, bools, texts, own classes, LISTS and tuples (index, slices, in, append, pop ..), calls, loops. Paste it whole ahead of your own text; what your proof does not reach may be deleted. -/
set_option Elab.async false
set_option linter.all false
set_option maxRecDepth 100000
set_option maxHeartbeats 4000000
set_option bootstrap.genMatcherCode false
namespace L2
local macro_rules | `(tactic| omega) => `(tactic| lia)
open PySem PySem.Spec PyProof.Rows
abbrev Du:=Sum Int Str
def Ic:Du -> Value -> Bool
 | .inl k,v=>Value.isInt k v
 | .inr x,v=>Value.isStrOf x v
def o7 (w:World):Du -> Int
 | .inl k=>hashInt k
 | .inr x=>hashStr w x
theorem C9:∀ {k:Du} {v:Value},Ic k v = true -> (∃ i t,k = Sum.inl i /\ v = Value.int i t) \/ (∃ x t,k = Sum.inr x /\ v = Value.str x t)
 | .inl i,v,h=>by
  obtain ⟨t,e⟩ := Value.isInt_shape (k:=i) (v:=v) h
  exact .inl ⟨i,t,rfl,e⟩
 | .inr x,v,h=>by
  obtain ⟨t,e⟩ := Value.isStrOf_shape (x:=x) (v:=v) h
  exact .inr ⟨x,t,rfl,e⟩
theorem Vx (i:Int) (t:Tok):Ic (.inl i) (.int i t) = true:=by simp [Ic,Value.isInt]
theorem Wt (x:Str) (t:Tok):Ic (.inr x) (.str x t) = true:=by simp [Ic,Value.isStrOf]
theorem fm (a b:Int):decide ((Sum.inl a:Du) = Sum.inl b) = (a == b):=by
 by_cases e:a = b
 ·subst e; simp
 ·have h:¬ (Sum.inl a:Du) = Sum.inl b:=fun q=>e (Sum.inl.inj q)
  rw [decide_eq_false h]
  exact (beq_eq_false_iff_ne.mpr e).symm
theorem gf (a b:Str):decide ((Sum.inr a:Du) = Sum.inr b) = decide (a = b):=by
 by_cases e:a = b
 ·subst e; simp
 ·have h:¬ (Sum.inr a:Du) = Sum.inr b:=fun q=>e (Sum.inr.inj q)
  rw [decide_eq_false h,decide_eq_false e]
theorem ix (a:Int) (b:Str):decide ((Sum.inl a:Du) = Sum.inr b) = false:=decide_eq_false (fun q=>nomatch q)
theorem jd (a:Str) (b:Int):decide ((Sum.inr a:Du) = Sum.inl b) = false:=decide_eq_false (fun q=>nomatch q)
def Dg (prog:Program) (w:World):PySem.KeyKind prog w Du where
 is:=Ic
 hash:=o7 w
 inj:=fun v a b ha hb=>by
  rcases C9 ha with ⟨i,t,rfl,rfl⟩ | ⟨x,t,rfl,rfl⟩
  ·rcases C9 hb with ⟨j,u,rfl,e⟩ | ⟨y,u,rfl,e⟩
   ·injection e with e1 _; rw [e1]
   ·exact nomatch e
  ·rcases C9 hb with ⟨j,u,rfl,e⟩ | ⟨y,u,rfl,e⟩
   ·exact nomatch e
   ·injection e with e1 _; rw [e1]
 byValue:=fun k v h=>by
  rcases C9 h with ⟨i,t,rfl,rfl⟩ | ⟨x,t,rfl,rfl⟩ <;> rfl
 pyHash:=fun hv h=>by
  rcases C9 hv with ⟨i,t,rfl,rfl⟩ | ⟨x,t,rfl,rfl⟩
  ·exact wpAny_pyHash_int h
  ·exact wpAny_pyHash_str h
 eqBool:=fun hu hv h=>by
  rcases C9 hu with ⟨i,t,rfl,rfl⟩ | ⟨x,t,rfl,rfl⟩
  ·rcases C9 hv with ⟨j,u,rfl,rfl⟩ | ⟨y,u,rfl,rfl⟩
   ·rw [fm] at h; exact wpAny_eqBool_int h
   ·rw [ix] at h; exact SeqAt.EqAt.int_str i t y u _ _ _ _ h
  ·rcases C9 hv with ⟨j,u,rfl,rfl⟩ | ⟨y,u,rfl,rfl⟩
   ·rw [jd] at h; exact SeqAt.EqAt.str_int x t j u _ _ _ _ h
   ·rw [gf] at h; exact wpAny_eqBool_str h
 «strs» := fun k x t v h=>by
  rcases C9 h with ⟨i,u,rfl,e⟩ | ⟨y,u,rfl,e⟩
  ·exact nomatch e
  ·injection e with e1 _
   subst e1
   cases v <;> rfl
theorem Qw (prog:Program) (w:World) (i:Int) (t:Tok):(Dg prog w).is (.inl i) (.int i t) = true:=Vx i t
theorem Re (prog:Program) (w:World) (x:Str) (t:Tok):(Dg prog w).is (.inr x) (.str x t) = true:=Wt x t
inductive V where
 | aL | bl (b:Bool) | int (i:Int) | str (x:Str) | mZ (b:Array UInt8) | EM (b:UInt64) | ref (a:Addr) | ty (n:String)
 deriving DecidableEq
def Aw:V -> Value -> Prop
 | .aL,u=>u = Value.none
 | .bl b,u=>u = Value.bool b
 | .int i,u=>∃ t,u = Value.int i t
 | .str x,u=>∃ t,u = Value.str x t
 | .mZ b,u=>∃ t,u = Value.bytes b t
 | .EM b,u=>∃ t,u = Value.float b t
 | .ref a,u=>u = Value.ref a
 | .ty n,u=>u = Value.type n
abbrev Ay:List V -> List Value -> Prop:=Paired Aw
theorem Ay.length {xs:List V} {us:List Value} (r:Ay xs us):xs.length = us.length:=Paired.length r
theorem Ay.get:∀ {xs:List V} {us:List Value} {i:Nat} {x:V},Ay xs us -> xs[i]? = some x -> ∃ u,us[i]? = some u /\ Aw x u
 | _,_,_,_,.nil,e=>by simp at e
 | _,_,0,_,.cons r _,e=>by simp at e; subst e; exact ⟨_,rfl,r⟩
 | _,_,i + 1,x,.cons _ t,e=>by
  obtain ⟨u,h1,h2⟩ := Ay.get (i:=i) (x:=x) t (by simpa using e)
  exact ⟨u,by simpa using h1,h2⟩
theorem Ay.set {x:V} {u:Value} (r:Aw x u):∀ {xs:List V} {us:List Value} (i:Nat),Ay xs us -> Ay (xs.set i x) (us.set i u)
 | _,_,_,.nil=>.nil
 | _,_,0,.cons _ t=>.cons r t
 | _,_,i + 1,.cons q t=>.cons q (Ay.set r i t)
theorem Ay.append {xs ys:List V} {us ws:List Value} (h:Ay xs us) (s:Ay ys ws):Ay (xs ++ ys) (us ++ ws):=by
 induction h with
 | nil=>exact s
 | cons r t ih=>exact .cons r ih
theorem Ay.take:∀ {xs:List V} {us:List Value} (n:Nat),Ay xs us -> Ay (xs.take n) (us.take n)
 | _,_,0,_=>.nil
 | _,_,_ + 1,.nil=>.nil
 | _,_,n + 1,.cons r t=>.cons r (Ay.take n t)
theorem Ay.drop:∀ {xs:List V} {us:List Value} (n:Nat),Ay xs us -> Ay (xs.drop n) (us.drop n)
 | _,_,0,r=>r
 | _,_,_ + 1,.nil=>.nil
 | _,_,n + 1,.cons _ t=>Ay.drop n t
def Iq:Option V -> Option Value -> Prop
 | some v,some u=>Aw v u
 | none,none=>True
 | _,_=>False
def KV {κ:Type}:List (κ × V) -> List (κ × Value) -> Prop:=Paired fun (p:κ × V) (q:κ × Value)=>p.1 = q.1 /\ Aw p.2 q.2
def kV:Du -> V
 | .inl i=>.int i
 | .inr x=>.str x
section
variable {prog:Program} {w:World}
def Bq (prog:Program) (w:World) (h:Heap) (k:List Int × Int) (a:Addr):Prop :=
 ∃ o n u t,h.get? a = some o /\ o.cls = .type "tuple" /\ o.data = .seq #[.ref u,.int k.2 t] n /\ IsTupleKey (intKind prog w) h k.1 u
theorem Bq.typeIs {s:Shared} {k:List Int × Int} {a:Addr} (x:Bq prog w s.heap k a):s.TypeIs (.ref a) "tuple" := let ⟨o,_,_,_,ho,hc,_⟩ := x; ⟨o,ho,hc⟩
theorem Bq.inj {h:Heap} {a:Addr} {x y:List Int × Int} (hx:Bq prog w h x a) (hy:Bq prog w h y a):x = y:=by
 obtain ⟨o,n,u,t,ho,_,hd,hi⟩ := hx
 obtain ⟨o',n',u',t',mS,_,rV,rX⟩ := hy
 obtain rfl:o = o':=Option.some.inj (ho.symm.trans mS)
 rw [hd] at rV
 injection rV with h1 _
 simp only [Array.mk.injEq,List.cons.injEq,Value.ref.injEq,Value.int.injEq,and_true] at h1
 obtain ⟨rfl,h2,_⟩ := h1
 exact Prod.ext (hi.inj rX) h2
theorem Bq.keeps {h h':Heap} {k:List Int × Int} {a d:Addr} {o:Obj} {es ep} (x:Bq prog w h k a) (ho:h.get? d = some o) (hd:o.data = .dict es ep) (hs:Heap.SameBut d h h'):Bq prog w h' k a:=by
 obtain ⟨o',n,u,t,mS,hc,rV,hi⟩ := x
 have cY:a ≠ d:=by
  rintro rfl
  obtain rfl:o' = o:=Option.some.inj (mS.symm.trans ho)
  rw [hd] at rV
  exact nomatch rV
 exact ⟨o',n,u,t,(hs.2 a cY).trans mS,hc,rV,hi.keeps ho hd hs⟩
def Go (prog:Program) (w:World) (k:List Int × Int):Int:=reduceHash (Builtin.Tuple.tupleHashOf [tupleKeyHash (intKind prog w) k.1,(intKind prog w).hash k.2])
theorem Tu {A : Around} {E : Value -> Shared -> Prop} {s : Shared} {k : List Int × Int} {a : Addr} {Q : Int -> Shared -> Prop} (hu : A.units + 8 < cLine) (hk : Bq prog w s.heap k a) (h : Q (Go prog w k) { s with toks := s.toks + (k.1.length + 3) }) :
  wpAny (model prog w) A (pyHash (.ref a)) Q E s:=by
 have hT:=hk.typeIs
 obtain ⟨o,n,u,t,ho,_,hd,hi⟩ := hk
 unfold pyHash
 first | unfold pyHashByItsType | skip
 first | refine wpAny_bind (wpAny_cRoomFor_or (.inr (by omega)) ?_) | skip
 refine wpAny_bind (wpAny_specialOf hT F.slot_tuple_hash.lookup ?_)
 show wpAny _ _ (if (some (Value.builtin "tuple.__hash__") == some Value.none) = true then _ else _) Q E s
 rw [if_neg (by rw [beq_builtin_none]; exact Bool.false_ne_true)]
 refine wpAny_bind (wpAny_specialOf hT F.slot_tuple_hash.lookup ?_)
 show wpAny _ _ (callSpecialIfBoundUnlessNone? (.ref a) "__hash__" _ >>= _) Q E s
 refine wpAny_bind (wpAny_callSpecialIfBoundUnlessNone?_slot hT F.slot_tuple_hash (wpAny_call_entry F.slot_tuple_hash hT F.entry_tuple_hash ?_ (F.args_tuple_hash_1 _)))
 show wpAny _ _ (Builtin.Tuple.tupleItemsOf (.ref a) >>= _) _ _ s
 refine wpAny_bind (wpAny_tupleItemsOf ho hd ?_)
 refine wpAny_bind ?_
 rw [<- Array.forIn_toList]
 show wpAny _ _ (forIn [Value.ref u,Value.int k.2 t] _ _) _ _ _
 rw [List.forIn_cons]
 have jP:A.in1.units < cLine:=by
  first | (show A.units + 1 < cLine; omega) | (show A.units < cLine; omega) | (simp only [Around.in1]; omega)
 refine wpAny_bind (wpAny_bind (wpAny_pyHash_tuple (knd:=intKind prog w) jP hi ?_))
 refine wpAny_pure ?_
 show wpAny _ _ (forIn [Value.int k.2 t] _ _) _ _ _
 rw [List.forIn_cons]
 refine wpAny_bind (wpAny_bind ((intKind prog w).pyHash (k:=k.2) (by simp [intKind,Value.isInt]) ?_))
 refine wpAny_pure ?_
 show wpAny _ _ (forIn [] _ _) _ _ _
 rw [List.forIn_nil]
 refine wpAny_pure ?_
 show wpAny _ _ (retInt (Builtin.Tuple.tupleHashOf [tupleKeyHash (intKind prog w) k.1,(intKind prog w).hash k.2])) _ _ _
 refine wpAny_ret_mkInt ?_
 generalize e:Builtin.Tuple.tupleHashOf [tupleKeyHash (intKind prog w) k.1,(intKind prog w).hash k.2] = z
 show wpAny _ _ (if (decide (-(2:Int) ^ 63 <= z) && decide (z < 2 ^ 63)) = true then _ else _) Q E _
 unfold Go reduceHash at h
 rw [e] at h
 by_cases hr:(decide (-(2:Int) ^ 63 <= z) && decide (z < 2 ^ 63)) = true
 ·rw [if_pos hr]
  rw [if_pos hr] at h
  exact wpAny_pure (by simpa [Nat.add_assoc] using h)
 ·rw [if_neg hr]
  rw [if_neg hr] at h
  exact wpAny_bind (wpAny_rule (wpAny_pure (by simpa [Nat.add_assoc] using h)))
theorem Yc {A : Around} {E : Value -> Shared -> Prop} {s : Shared} {x y : List Int × Int} {a b : Addr} {Q : Bool -> Shared -> Prop} (hu : A.units + 8 < cLine) (hx : Bq prog w s.heap x a) (hy : Bq prog w s.heap y b) (h : Q (decide (x = y)) s) :
  wpAny (model prog w) A (eqBool (.ref a) (.ref b)) Q E s:=by
 unfold eqBool
 try with_reducible refine wpAny_holding ?_
 show wpAny _ _ (if (Value.ref a == Value.ref b) = true then _ else _) Q E s
 by_cases FO:(Value.ref a == Value.ref b) = true
 ·rw [if_pos FO]
  have e:a = b:=by have:=eq_of_beq FO; injection this
  subst e
  obtain rfl:=hx.inj hy
  exact wpAny_bind (wpAny_rule (wpAny_pure (by simpa using h)))
 ·rw [if_neg FO]
  refine wpAny_bind (wpAny_richCompare_same_room (op := .Eq) hx.typeIs hy.typeIs F.slot_tuple_eq
   (wpAny_call_entry F.slot_tuple_eq hx.typeIs F.entry_tuple_eq ?_ (F.args_tuple_eq_2 _ _)) (by omega))
  have hTb:=hy.typeIs
  obtain ⟨oa,na,ua,ta,hoa,_,hda,hia⟩ := hx
  obtain ⟨ob,nb,ub,tb,hob,_,wW,hib⟩ := hy
  show wpAny _ _ (isInstance (.ref b) (.type "tuple") >>= _) _ _ s
  refine wpAny_bind (wpAny_isInstance hTb isSubtype_tuple_tuple ?_)
  simp only [Bool.not_true,Bool.false_eq_true,if_false]
  refine wpAny_bind (wpAny_tupleItemsOf hoa hda ?_)
  refine wpAny_bind (wpAny_tupleItemsOf hob wW ?_)
  refine wpAny_bind ?_
  show wpAny _ _ (forIn [(Value.ref ua,Value.ref ub),(Value.int x.2 ta,Value.int y.2 tb)] _ _) _ _ _
  rw [List.forIn_cons]
  have jP:A.in1.units < cLine:=by
   first | (show A.units + 1 < cLine; omega) | (show A.units < cLine; omega) | (simp only [Around.in1]; omega)
  refine wpAny_bind (wpAny_bind (wpAny_eqBool_tuple (knd:=intKind prog w) jP hia hib ?_))
  by_cases h1:x.1 = y.1
  ·rw [decide_eq_true h1]
   simp only [Bool.not_true,Bool.false_eq_true,if_false]
   refine wpAny_pure ?_
   show wpAny _ _ (forIn [(Value.int x.2 ta,Value.int y.2 tb)] _ _) _ _ _
   rw [List.forIn_cons]
   refine wpAny_bind (wpAny_bind ((intKind prog w).eqBool (a:=x.2) (b:=y.2) (by simp [intKind,Value.isInt]) (by simp [intKind,Value.isInt]) ?_))
   by_cases h2:x.2 = y.2
   ·rw [decide_eq_true h2]
    simp only [Bool.not_true,Bool.false_eq_true,if_false]
    refine wpAny_pure ?_
    show wpAny _ _ (forIn [] _ _) _ _ _
    rw [List.forIn_nil]
    refine wpAny_pure ?_
    have e:decide (x = y) = true:=decide_eq_true (Prod.ext h1 h2)
    rw [e] at h
    exact wpAny_pure ⟨_,rfl,(fun e=>nomatch e),wpAny_truthy_bool h⟩
   ·rw [decide_eq_false h2]
    simp only [Bool.not_false,if_true]
    have e:decide (x = y) = false:=decide_eq_false fun z=>h2 (by rw [z])
    rw [e] at h
    exact wpAny_bind (wpAny_pure (wpAny_pure (wpAny_pure (wpAny_pure ⟨_,rfl,(fun e=>nomatch e),wpAny_truthy_bool h⟩))))
  ·rw [decide_eq_false h1]
   simp only [Bool.not_false,if_true]
   have e:decide (x = y) = false:=decide_eq_false fun z=>h1 (by rw [z])
   rw [e] at h
   exact wpAny_bind (wpAny_pure (wpAny_pure (wpAny_pure (wpAny_pure ⟨_,rfl,(fun e=>nomatch e),wpAny_truthy_bool h⟩))))
theorem dl {A:Around} {E:Value -> Shared -> Prop} {s:Shared} {ks:List Int} {a:Addr} {Q:Bool -> Shared -> Prop} (hk:IsTupleKey (intKind prog w) s.heap ks a) (h:Q true s):wpAny (model prog w) A (eqIsQuiet 7 (.ref a)) Q E s:=by
 have hT:=hk.typeIs
 obtain ⟨o,items,n,ho,_,hd,hi⟩ := hk
 unfold eqIsQuiet
 refine wpAny_bind (wpAny_specialOf hT F.slot_tuple_eq.lookup ?_)
 show wpAny _ _ (isInstance (.ref a) (.type "tuple") >>= _) _ _ s
 refine wpAny_bind (wpAny_isInstance hT isSubtype_tuple_tuple ?_)
 simp only [Bool.not_true,Bool.false_eq_true,if_false]
 refine wpAny_bind (wpAny_seqItems ho hd ?_)
 refine wpAny_bind ?_
 show wpAny _ _ (forIn items _ _) _ _ s
 rw [<- Array.forIn_toList]
 refine wpAny_forIn_list _ (fun rest r s'=>r.1 = none /\ s' = s /\ ∀ v ∈ rest,carriedByValue v = true) _ ?_ ?_ _ _ ⟨rfl,rfl,hi.byValue⟩
 ·rintro v rest r s' ⟨hr,rfl,hall⟩
  rw [eqIsQuiet_byValue _ (hall v List.mem_cons_self)]
  refine wpAny_bind (wpAny_pure ?_)
  simp only [Bool.not_true,Bool.false_eq_true,if_false]
  exact wpAny_pure ⟨rfl,rfl,fun u UM=>hall u (List.mem_cons_of_mem _ UM)⟩
 ·rintro ⟨r1,r2⟩ s' ⟨hr,rfl,_⟩
  simp only at hr
  subst hr
  exact wpAny_pure h
theorem S6 {A:Around} {E:Value -> Shared -> Prop} {s:Shared} {k:List Int × Int} {a:Addr} {Q:Bool -> Shared -> Prop} (hk:Bq prog w s.heap k a) (h:Q true s):wpAny (model prog w) A (eqIsQuiet 8 (.ref a)) Q E s:=by
 have hT:=hk.typeIs
 obtain ⟨o,n,u,t,ho,_,hd,hi⟩ := hk
 unfold eqIsQuiet
 refine wpAny_bind (wpAny_specialOf hT F.slot_tuple_eq.lookup ?_)
 show wpAny _ _ (isInstance (.ref a) (.type "tuple") >>= _) _ _ s
 refine wpAny_bind (wpAny_isInstance hT isSubtype_tuple_tuple ?_)
 simp only [Bool.not_true,Bool.false_eq_true,if_false]
 refine wpAny_bind (wpAny_seqItems ho hd ?_)
 refine wpAny_bind ?_
 show wpAny _ _ (forIn #[Value.ref u,Value.int k.2 t] _ _) _ _ s
 rw [<- Array.forIn_toList]
 show wpAny _ _ (forIn [Value.ref u,Value.int k.2 t] _ _) _ _ s
 rw [List.forIn_cons]
 refine wpAny_bind (wpAny_bind (dl hi ?_))
 simp only [Bool.not_true,Bool.false_eq_true,if_false]
 refine wpAny_pure ?_
 show wpAny _ _ (forIn [Value.int k.2 t] _ _) _ _ s
 rw [List.forIn_cons,eqIsQuiet_byValue _ rfl]
 refine wpAny_bind (wpAny_bind (wpAny_pure ?_))
 simp only [Bool.not_true,Bool.false_eq_true,if_false]
 refine wpAny_pure ?_
 show wpAny _ _ (forIn [] _ _) _ _ s
 rw [List.forIn_nil]
 exact wpAny_pure (wpAny_pure h)
def Bx (prog:Program) (w:World):HeapKind prog w (List Int × Int) where
 is:=Bq prog w
 hash:=Go prog w
 draws:=fun k=>k.1.length + 3
 room:=fun A=>A.units + 8 < cLine
 inj:=fun hx hy=>hx.inj hy
 keeps:=fun x ho hd hs=>x.keeps ho hd hs
 pyHash:=fun hu hk h=>Tu hu hk h
 eqBool:=fun hu hx hy h=>Yc hu hx hy h
 quiet:=fun hk h=>S6 hk h
end
set_option genInjectivity false in
set_option genSizeOf false in
inductive HO where
  | lst (xs:List V)
  | tup (xs:List V)
  | dK (kvs:List (Du × V)) | dT (kvs:List ((List Int × Int) × V))
  | set (S:Int -> Bool) (n:Nat)
  | ins (C dx:Addr) (fs:List (Str × V))
  | own (x:Addr)
  | xd (fs:List (Str × V))
  | met (f x:Addr)
  | RO (lo hi:Int)
  | aP (o:Obj) (u:HO)
  | rY (ps:Array Value)
  | ext (φ:Heap -> Prop)
abbrev Hp:=Addr -> Option HO
def Dt (H:Hp) (b:Addr) (k:List Int × Int):Prop := ∃ u,H b = some (.tup [.ref u,.int k.2]) /\ H u = some (.tup (k.1.map V.int))
theorem Dt.up {H H2:Hp} {b:Addr} {k:List Int × Int} (ht:∀ b xs,H b = some (.tup xs) -> H2 b = some (.tup xs)) (h:Dt H b k):Dt H2 b k:=let ⟨u,a1,a2⟩ := h; ⟨u,ht _ _ a1,ht _ _ a2⟩
def upd (H:Hp) (a:Addr) (o:HO):Hp:=fun b=>if b = a then some o else H b
theorem A5 {H:Hp} {a:Addr} {o:HO}:upd H a o a = some o:=by unfold upd; rw [if_pos rfl]
theorem Ac {H:Hp} {a b:Addr} {o:HO} (h:b ≠ a):upd H a o b = H b:=by unfold upd; rw [if_neg h]
theorem Bp {H:Hp} {a b:Addr} {o u:HO} (h:H a = some o) (h':H b = some u) (d:o ≠ u):a ≠ b:=by
 intro e; subst e; rw [h] at h'; exact d (Option.some.inj h')
theorem Ah {H:Hp} {a b:Addr} {o:HO} (h:H a = some o) (h':H b = none):a ≠ b:=by
 intro e; subst e; rw [h] at h'; cases h'
section
variable (P:Program) (w:World)
def Bj (H:Hp) (h:Heap) (a:Addr):HO -> Prop
 | .lst xs=>xs.length <= sizeLine /\ ∃ (aA:List Value) (n:Nat),Ay xs aA /\ h.get? a = some { cls := .type "list",data := .seq aA.toArray n }
 | .tup xs=>(xs.length <= sizeLine /\ ∃ o,h.get? a = some o /\ o.dict = none) /\ ∃ aA:List Value,Ay xs aA /\ IsTup h a aA.toArray
 | .dK kvs=>kvs.length <= sizeLine /\ (a == sysModules) = false /\ ∃ vs,KV kvs vs /\ h.DictOf (Dg P w) a vs
 | .dT kvs => kvs.length <= sizeLine /\ (a == sysModules) = false /\ ∃ xs : List ((List Int × Int) × Addr × Value),
   Paired (fun (p:(List Int × Int) × V) (q:(List Int × Int) × Addr × Value)=>p.1 = q.1 /\ Dt H q.2.1 p.1 /\ Aw p.2 q.2.2) kvs xs /\
   ∃ o es ep,h.get? a = some o /\ o.ExactDict /\ o.data = .dict es ep /\ es.toList = xs.map (entryOfKey (Bx P w)) /\ (xs.map (·.1)).Nodup
 | .set S n=>h.SetOf (intKind P w) a S n
 | .ins C dx fs => H dx = some (.own a) /\ fs.length <= 1000 /\ dx ≠ a /\ h.get? a = some (PySem.W.instObj C dx) /\
   ∃ mA,h.Ns1 dx mA /\ (∀ f,Iq (fs.lookup f) (mA f)) /\ PySem.Within mA (fs.map (·.1))
 | .own _=>∃ o,h.get? a = some o
 | .xd fs=>∃ mA,h.Ns1 a mA /\ ∀ f,Iq (fs.lookup f) (mA f)
 | .RO lo hi=>∃ t u v,h.get? a = some { cls := .type "range",data := .fields #[.int lo t,.int hi u,.int 1 v] }
 | .aP o u=>h.get? a = some o /\ Bj H h a u
 | .rY ps=>h.get? a = some { cls := .none,data := .fields ps }
 | .met f x=>h.get? a = some (PySem.W.methodObj (.ref f) (.ref x))
 | .ext φ=>φ h /\ (∃ o,h.get? a = some o) /\ ∀ h1 h2:Heap,φ h1 -> (∀ o,h1.get? a = some o -> h2.get? a = some o) -> φ h2
def Fz (H:Hp) (h:Heap):Prop := ∀ a o,H a = some o -> Bj P w H h a o
end
section
variable {P:Program} {w:World} {H H':Hp} {h h':Heap} {a:Addr} {o:HO}
theorem Bj.lt (x:Bj P w H h a o):a < h.objs.size:=by
 cases o with
 | lst xs=>obtain ⟨_,_,_,_,e⟩ := x; exact Heap.lt_size e
 | tup xs=>obtain ⟨_,_,_,p⟩ := x; exact p.lt
 | dK kvs=>obtain ⟨_,_,_,_,o,_,_,e,_⟩ := x; exact Heap.lt_size e
 | dT kvs=>obtain ⟨_,_,_,_,o,_,_,e,_⟩ := x; exact Heap.lt_size e
 | set S n=>obtain ⟨o,_,_,_,e,_⟩ := x; exact Heap.lt_size e
 | ins C dx fs=>obtain ⟨_,_,_,e,_⟩ := x; exact Heap.lt_size e
 | own y=>obtain ⟨_,e⟩ := x; exact Heap.lt_size e
 | xd fs=>obtain ⟨_,⟨_,_,_,e,_⟩,_⟩ := x; exact Heap.lt_size e
 | RO lo hi=>obtain ⟨_,_,_,e⟩ := x; exact Heap.lt_size e
 | aP ob u=>obtain ⟨e,_⟩ := x; exact Heap.lt_size e
 | rY ps=>exact Heap.lt_size (show h.get? a = some _ from x)
 | met f y=>exact Heap.lt_size (show h.get? a = some _ from x)
 | ext φ=>obtain ⟨_,⟨_,e⟩,_⟩ := x; exact Heap.lt_size e
theorem Paired.FP {α β:Type} {F G:α -> β -> Prop} {l₁:List α} {l₂:List β} (h:Paired F l₁ l₂) (f:∀ a b,F a b -> G a b):Paired G l₁ l₂:=by
 induction h with
 | nil=>exact .nil
 | cons r t ih=>exact .cons (f _ _ r) ih
theorem Bj.fA (x : Bj P w H h a o) (k : ∀ b u, (b = a \/ H b = some (.own a)) -> h.get? b = some u -> h'.get? b = some u)
  (ho:∀ b,H b = some (.own a) -> H' b = some (.own a)) (ht:∀ b xs,H b = some (.tup xs) -> H' b = some (.tup xs)):Bj P w H' h' a o:=by
 induction o with
 | lst xs=>obtain ⟨z,aA,n,r,e⟩ := x; exact ⟨z,aA,n,r,k _ _ (.inl rfl) e⟩
 | tup xs=>obtain ⟨z,aA,r,ob,e,c⟩ := x; exact ⟨⟨z.1,let ⟨o,e2,d⟩ := z.2; ⟨o,k _ _ (.inl rfl) e2,d⟩⟩,aA,r,ob,k _ _ (.inl rfl) e,c⟩
 | dK kvs=>obtain ⟨z,y,vs,r,ob,es,ep,e,c⟩ := x; exact ⟨z,y,vs,r,ob,es,ep,k _ _ (.inl rfl) e,c⟩
 | dT kvs =>
  obtain ⟨z,y,xs,r,ob,es,ep,e,c⟩ := x
  exact ⟨z,y,xs,Paired.FP r fun p q z=>⟨z.1,z.2.1.up ht,z.2.2⟩,ob,es,ep,k _ _ (.inl rfl) e,c⟩
 | set S n=>obtain ⟨ob,es,ep,t,e,c⟩ := x; exact ⟨ob,es,ep,t,k _ _ (.inl rfl) e,c⟩
 | ins C dx fs =>
  obtain ⟨d,z,ne,e,mA,⟨od,es,ep,e2,c⟩,r⟩ := x
  exact ⟨ho _ d,z,ne,k _ _ (.inl rfl) e,mA,⟨od,es,ep,k _ _ (.inr d) e2,c⟩,r⟩
 | own y=>obtain ⟨ob,e⟩ := x; exact ⟨ob,k _ _ (.inl rfl) e⟩
 | xd fs=>obtain ⟨mA,⟨od,es,ep,e,c⟩,r⟩ := x; exact ⟨mA,⟨od,es,ep,k _ _ (.inl rfl) e,c⟩,r⟩
 | RO lo hi=>obtain ⟨t,u,v,e⟩ := x; exact ⟨t,u,v,k _ _ (.inl rfl) e⟩
 | aP ob u ih=>obtain ⟨e,q⟩ := x; exact ⟨k _ _ (.inl rfl) e,ih q⟩
 | rY ps =>
  have e:h.get? a = some { cls := .none,data := .fields ps }:=x
  show h'.get? a = some { cls := .none,data := .fields ps }
  exact k a _ (.inl rfl) e
 | met f y =>
  have e:h.get? a = some (PySem.W.methodObj (.ref f) (.ref y)):=x
  show h'.get? a = some (PySem.W.methodObj (.ref f) (.ref y))
  exact k a _ (.inl rfl) e
 | ext φ=>obtain ⟨p,⟨o,e⟩,st⟩ := x; exact ⟨st _ _ p fun o q=>k _ _ (.inl rfl) q,⟨o,k _ _ (.inl rfl) e⟩,st⟩
theorem Fz.lt (x:Fz P w H h) (e:H a = some o):a < h.objs.size:=(x a o e).lt
theorem Fz.fresh (x:Fz P w H h) (e:h.objs.size <= a):H a = none:=by
 cases q:H a with
 | none=>rfl
 | some u=>exact absurd (Nat.lt_of_lt_of_le (x.lt q) e) (Nat.lt_irrefl _)
theorem Fz.kept (x:Fz P w H h) (k:∀ b u,h.get? b = some u -> h'.get? b = some u):Fz P w H h':=fun a o e =>
 (x a o e).fA (fun b u _ q=>k b u q) (fun _ q=>q) fun _ _ q=>q
theorem Fz.laid (x:Fz P w H h) (k:∀ b u,h.get? b = some u -> h'.get? b = some u) (hp:h.objs.size <= a) (new:Bj P w (upd H a o) h' a o):Fz P w (upd H a o) h':=fun b u e=>by
 have hn:=x.fresh hp
 by_cases hb:b = a
 ·subst hb; rw [A5] at e; cases e; exact new
 ·rw [Ac hb] at e
  exact (x b u e).fA (fun c v _ q=>k c v q) (fun c q=>by rw [Ac (Ah q hn)]; exact q) fun c xs q=>by rw [Ac (Ah q hn)]; exact q
end
def Rd (H:Hp) (a:Addr) (u:HO):Prop:=H a = some u \/ ∃ o,H a = some (.aP o u)
theorem Rd.ok {P:Program} {w:World} {H:Hp} {h:Heap} {a:Addr} {u:HO} (r:Rd H a u) (x:Fz P w H h):Bj P w H h a u:=by
 rcases r with r | ⟨o,r⟩
 ·exact x a u r
 ·obtain ⟨_,q⟩ := x a _ r
  exact q
def m7:Option HO -> Prop
 | some (.lst _)=>True
 | some (.dK _)=>True
 | some (.dT _)=>True
 | some (.set _ _)=>True
 | some (.ins _ _ _)=>True
 | some (.ext _)=>True
 | _=>False
section
variable {P:Program} {w:World} {H:Hp} {h h':Heap} {x e:Addr} {o':HO}
theorem Fz.write (ok : Fz P w H h) (mu : m7 (H x)) (he : e = x \/ H e = some (.own x)) (k : ∀ b u, b ≠ e -> h.get? b = some u -> h'.get? b = some u) (EN : ∃ u, h'.get? e = some u)
  (new:Bj P w (upd H x o') h' x o'):Fz P w (upd H x o') h':=fun b u q=>by
 have FQ:∀ c y,H c = some (.own y) -> c ≠ x:=fun c y r z=>by subst z; rw [r] at mu; exact mu
 have UN:∀ c xs,H c = some (.tup xs) -> c ≠ x:=fun c xs r z=>by subst z; rw [r] at mu; exact mu
 by_cases hb:b = x
 ·subst hb; rw [A5] at q; cases q; exact new
 ·rw [Ac hb] at q
  by_cases lQ:b = e
  ·have q' : H b = some (.own x) := by
    rcases he with z | z
    ·exact absurd (lQ.trans z) hb
    ·rw [lQ]; exact z
   rw [q] at q'; cases q'
   obtain ⟨v,hv⟩ := EN
   exact ⟨v,by rw [lQ]; exact hv⟩
  ·refine (ok b u q).fA (fun c v hc r=>k c v ?_ r) (fun c r=>by rw [Ac (FQ c b r)]; exact r) fun c xs r=>by rw [Ac (UN c xs r)]; exact r
   rcases hc with rfl | hc
   ·exact lQ
   ·rintro rfl
    rcases he with z | z
    ·exact FQ c b hc z
    ·rw [hc] at z; cases z; exact hb rfl
end
structure Un (fs ex:List Addr) (H H':Hp) (h h':Heap):Prop where
 keep:∀ b o,h.get? b = some o -> H b = none -> b ∉ fs -> b ∉ ex -> h'.get? b = some o
 slot:∀ b o,h.get? b = some o -> H b = none -> b ∈ fs -> b ∉ ex -> ∃ sl,h'.get? b = some { o with slots:=sl }
 free:∀ b o,h.get? b = some o -> H b = none -> b ∉ ex -> H' b = none
 there:∀ b o,h.get? b = some o -> b ∉ ex -> ∃ o',h'.get? b = some o'
 dU:∀ b xs,H b = some (.tup xs) -> H' b = some (.tup xs)
 cZ:∀ b o u,H b = some (.aP o u) -> H' b = some (.aP o u)
 dW:∀ b ps,H b = some (.rY ps) -> ∃ more,H' b = some (.rY (ps ++ more))
section
variable {fs fs' ex ex':List Addr} {H H1 H2:Hp} {h h1 h2 h':Heap} {a x e:Addr} {o:HO}
theorem Un.any (u:Un fs ex H H1 h h1) {b:Addr} {ob:Obj} (q:h.get? b = some ob) (n:H b = none) (hx:b ∉ ex):∃ sl,h1.get? b = some { ob with slots:=sl }:=by
 by_cases hb:b ∈ fs
 ·exact u.slot b ob q n hb hx
 ·exact ⟨ob.slots,u.keep b ob q n hb hx⟩
theorem Un.trans (a:Un fs ex H H1 h h1) (b:Un fs ex H1 H2 h1 h2):Un fs ex H H2 h h2 where
 keep:=fun c ob q n hc hx=>b.keep c ob (a.keep c ob q n hc hx) (a.free c ob q n hx) hc hx
 slot:=fun c ob q n hc hx=>by
  obtain ⟨sl,e1⟩ := a.slot c ob q n hc hx
  obtain ⟨FR,e2⟩ := b.slot c _ e1 (a.free c ob q n hx) hc hx
  exact ⟨FR,e2⟩
 free:=fun c ob q n hx=>by
  obtain ⟨o',e1⟩ := a.there c ob q hx
  exact b.free c o' e1 (a.free c ob q n hx) hx
 there:=fun c ob q hx=>by
  obtain ⟨o',e1⟩ := a.there c ob q hx
  exact b.there c o' e1 hx
 dU:=fun c xs q=>b.dU c xs (a.dU c xs q)
 cZ:=fun c ob xs q=>b.cZ c ob xs (a.cZ c ob xs q)
 dW:=fun c ps q=>by
  obtain ⟨m1,e1⟩ := a.dW c ps q
  obtain ⟨m2,e2⟩ := b.dW c _ e1
  exact ⟨m1 ++ m2,by rw [e2,Array.append_assoc]⟩
theorem Un.kept (k:∀ b u,h.get? b = some u -> h'.get? b = some u):Un fs ex H H h h' :=
 ⟨fun b ob q _ _ _=>k b ob q,fun b ob q _ _ _=>⟨ob.slots,k b ob q⟩,fun _ _ _ n _=>n,fun b ob q _=>⟨ob,k b ob q⟩,fun _ _ q=>q,fun _ _ _ q=>q,fun _ ps q=>⟨#[],by rw [q]; simp⟩⟩
theorem Un.refl:Un fs ex H H h h:=Un.kept fun _ _ q=>q
theorem Un.laid (k:∀ b u,h.get? b = some u -> h'.get? b = some u) (hp:h.objs.size <= a) (hn:H a = none):Un fs ex H (upd H a o) h h' where
 keep:=fun b u q _ _ _=>k b u q
 slot:=fun b u q _ _ _=>⟨u.slots,k b u q⟩
 free:=fun b u q n _=>by rw [Ac (Nat.ne_of_lt (Nat.lt_of_lt_of_le (Heap.lt_size q) hp))]; exact n
 there:=fun b u q _=>⟨u,k b u q⟩
 dU:=fun b xs q=>by rw [Ac (Ah q hn)]; exact q
 cZ:=fun b u xs q=>by rw [Ac (Ah q hn)]; exact q
 dW:=fun b ps q=>⟨#[],by rw [Ac (Ah q hn),q]; simp⟩
theorem Un.write (mu:m7 (H x)) (he:e = x \/ H e = some (.own x)) (k:∀ b u,b ≠ e -> h.get? b = some u -> h'.get? b = some u) (EN:∃ u,h'.get? e = some u):Un fs ex H (upd H x o) h h':=by
 have hx:∀ b,H b = none -> b ≠ x:=fun b n z=>by subst z; rw [n] at mu; exact mu
 have hb:∀ b,H b = none -> b ≠ e:=fun b n z=>by
  subst z
  rcases he with r | r
  ·exact hx b n r
  ·rw [n] at r; cases r
 have hm:∀ b u,H b = some u -> ¬ m7 (some u) -> b ≠ x:=fun b u q nm z=>by subst z; rw [q] at mu; exact nm mu
 refine ⟨fun b u q n _ _=>k b u (hb b n) q,fun b u q n _ _=>⟨u.slots,k b u (hb b n) q⟩,fun b u q n _=>by rw [Ac (hx b n)]; exact n,fun b u q _=>?_,
  fun b xs q=>by rw [Ac (hm b _ q fun z=>z)]; exact q,fun b u xs q=>by rw [Ac (hm b _ q fun z=>z)]; exact q,fun b ps q=>⟨#[],by rw [Ac (hm b _ q fun z=>z),q]; simp⟩⟩
 by_cases lQ:b = e
 ·subst lQ; exact EN
 ·exact ⟨u,k b u lQ q⟩
end
def nu (h:Heap) (H:Hp):List Addr:=(List.range h.objs.size).filter fun a=>(H a).isSome
def Oz (h:Heap) (H:Hp):Heap:=PySem.W.hideAll h (nu h H)
theorem Vz (h:Heap) (H:Hp):(Oz h H).objs.size = h.objs.size:=PySem.W.hideAll_size _ _
theorem Z3 {h:Heap} {H:Hp} {b:Addr} {o:Obj} (e:h.get? b = some o) (n:H b = none):(Oz h H).get? b = some o :=
 PySem.W.hideAll_get _ e fun hm=>by
  have q:(H b).isSome = true:=(List.mem_filter.mp hm).2
  rw [n] at q; simp at q
theorem bi {h:Heap} {H:Hp} {b:Addr} {o:Obj} (e:(Oz h H).get? b = some o):h.get? b = some o /\ H b = none:=by
 have e':h.get? b = some o:=PySem.W.of_hideAll (nu h H) e
 refine ⟨e',?_⟩
 cases q:H b with
 | none=>rfl
 | some x =>
  have hm:b ∈ nu h H:=List.mem_filter.mpr ⟨List.mem_range.mpr (Heap.lt_size e'),by simp [q]⟩
  have z:(Oz h H).get? b = none:=PySem.W.hideAll_none (nu h H) hm
  rw [z] at e; cases e
structure Mod (K:PySem.W.Frag) (mg:Str -> Option Value) (base:Heap):Prop where
 UO:K.In base
 glob:base.Ns mainGlobals mg
 blt:∃ mb,base.Ns builtinsNs mb /\ ∀ x:Str,x ≠ "__name__" -> mb x = bootBuiltins x
 nolimit:base.NoLimit
set_option genInjectivity false in
set_option genSizeOf false in
structure Cx where
 prog:Program
 w:World
 K:PySem.W.Frag
 mg:Str -> Option Value
 base:Heap
 A:Around
 N:List Str
 s₀:Shared
 H₀:Hp
 env:Env
 outer:List Env
 stack:List Env
 ex:List Addr
 fn:Str -> Bool
 calm:Bool
 pn:List (Addr × Obj)
 xe:Value -> Shared -> Prop
def jL (l:List Env):List Addr:=l.filterMap (·.frame)
abbrev Cx.fs (X:Cx):List Addr:=jL X.outer
def og (sc:Scope) (x:Str):Prop:=sc.names.lookup x = some .local \/ sc.names.lookup x = some .cell \/ sc.names.lookup x = some .free
def nj (sc:Scope) (x:Str):Prop:=sc.names.lookup x = some .local \/ sc.names.lookup x = some .cell
def pz (env:Env) (h:Heap) (m:Str -> Option Value) (x:Str) (u:Value):Prop :=
 (env.kindOf x = some .local /\ m x = some u) \/ ((env.kindOf x = some .cell \/ env.kindOf x = some .free) /\ ∃ c,env.cells.lookup x = some c /\ h.IsCell c (some u))
structure Cx.Ok (X:Cx):Prop where
 mod:Mod X.K X.mg X.base
 kind:X.env.scope.kind = .function
 glob:X.env.globals = mainGlobals
 blt:X.env.builtins = builtinsNs
 above:X.s₀.heap.objs.size <= X.env.locals
 inj:∀ x y c,X.env.cells.lookup x = some c -> X.env.cells.lookup y = some c -> x = y
 has:∀ x,(X.env.kindOf x = some .cell \/ X.env.kindOf x = some .free) -> ∃ c,X.env.cells.lookup x = some c
 wX:∀ x c,X.fn x = true -> X.env.cells.lookup x = some c -> X.s₀.heap.objs.size <= c
 hd:X.calm = true -> X.A.handled = none
 frames:X.A.frames = some X.stack
 EO:X.stack = X.outer \/ (X.stack = X.env :: X.outer /\ X.env.frame = some X.env.locals)
 FT:∀ b ∈ X.ex,b ≠ X.env.locals /\ ∀ x c,X.env.cells.lookup x = some c -> c ≠ b
 bs:∀ b o,X.base.get? b = some o -> X.s₀.heap.get? b = some o /\ X.H₀ b = none
 rZ:X.base.objs.size <= X.s₀.heap.objs.size
 jQ:∀ b o,X.base.get? b = some o -> b ∉ X.ex
 jR:∀ b ∈ X.ex,b ∉ X.fs
 dX:X.s₀.heap.FunFrames X.base X.outer
 uU:∀ b ∈ X.fs,X.H₀ b = none
structure Ai (X:Cx) (pins:List (Addr × Obj)) (σ:List (Option V)) (H:Hp) (s:Shared):Prop where
 ok:X.Ok
 os:s.os = X.s₀.os
 bare:AllBare s.gens
 base:Un X.fs X.ex X.H₀ H X.s₀.heap s.heap
 loc:∃ m,s.heap.Ns X.env.locals m /\ ∀ (i:Nat) (x:Str) (v:V),X.N[i]? = some x -> σ[i]? = some (some v) -> og X.env.scope x -> ∃ u,Aw v u /\ pz X.env s.heap m x u
 cell:∀ x c,X.env.cells.lookup x = some c -> ∃ v,s.heap.IsCell c v
 free:H X.env.locals = none
 aV:∀ x c,X.env.cells.lookup x = some c -> H c = none
 pin:∀ p ∈ X.pn ++ pins,s.heap.get? p.1 = some p.2 /\ H p.1 = none /\ p.1 ≠ X.env.locals /\ p.1 ∉ X.fs /\ ∀ v,p.2.data ≠ .cell v
 aC:Fz X.prog X.w H s.heap
 len:σ.length = X.N.length
section
variable {X:Cx} {pins:List (Addr × Obj)} {σ:List (Option V)} {H H':Hp} {s:Shared} {h':Heap}
theorem Cx.Ok.UP (ok:X.Ok) {b:Addr} {o:Obj} (e:X.base.get? b = some o):b ∉ X.fs:=fun hb=>by
 have:=(ok.dX.mem hb).1
 rw [e] at this; cases this
theorem Ai.bs (I:Ai X pins σ H s):∀ b o,X.base.get? b = some o -> s.heap.get? b = some o /\ H b = none:=fun b o e =>
 ⟨I.base.keep b o (I.ok.bs b o e).1 (I.ok.bs b o e).2 (I.ok.UP e) (I.ok.jQ b o e),I.base.free b o (I.ok.bs b o e).1 (I.ok.bs b o e).2 (I.ok.jQ b o e)⟩
theorem Ai.bk (I:Ai X pins σ H s):∀ b o,X.base.get? b = some o -> s.heap.get? b = some o:=fun b o e=>(I.bs b o e).1
theorem Ai.mod (I:Ai X pins σ H s):Mod X.K X.mg X.base:=I.ok.mod
theorem Ai.iM (I:Ai X pins σ H s):X.K.In s.heap:=I.ok.mod.UO.keeps I.bk
theorem Ai.lt (I:Ai X pins σ H s):X.env.locals < s.heap.objs.size:=let ⟨_,hn,_⟩ := I.loc; hn.lt
theorem Ai.sz (I:Ai X pins σ H s):X.s₀.heap.objs.size <= s.heap.objs.size:=Nat.le_trans I.ok.above (Nat.le_of_lt I.lt)
theorem Ai.UQ (I:Ai X pins σ H s) {a:Addr} (h:s.heap.objs.size <= a):a ∉ X.fs:=fun hb=>by
 obtain ⟨_,o,ho,_⟩ := I.ok.dX.mem hb
 exact absurd (Nat.lt_of_lt_of_le (Heap.lt_size ho) (Nat.le_trans I.sz h)) (Nat.lt_irrefl _)
theorem Ai.wY (I:Ai X pins σ H s):∀ x c,X.env.cells.lookup x = some c -> c ≠ X.env.locals:=fun x c e z=>by
 obtain ⟨v,o,ho,hd⟩ := I.cell x c e
 obtain ⟨m,⟨o',es,ep,mS,rV,_⟩,_⟩ := I.loc
 rw [z,mS] at ho; cases ho; rw [rV] at hd; cases hd
theorem Ai.dX (I:Ai X pins σ H s):s.heap.FunFrames X.base X.outer:=by
 have all:∀ (l:List Env),(∀ b ∈ jL l,b ∈ X.fs) -> X.s₀.heap.FunFrames X.base l -> s.heap.FunFrames X.base l:=by
  intro l
  induction l with
  | nil=>intro _ _; trivial
  | cons env r ih =>
   intro hs hl
   obtain ⟨hk,⟨L,o,hf,hn,ho,hd⟩,hr⟩ := hl
   have hL:L ∈ X.fs:=hs L (by unfold jL; rw [List.filterMap_cons,hf]; exact List.mem_cons_self)
   obtain ⟨sl,e⟩ := I.base.slot L o ho (I.ok.uU L hL) hL fun z=>I.ok.jR L z hL
   exact ⟨hk,⟨L,_,hf,hn,e,hd⟩,ih (fun b hb=>hs b (by unfold jL; rw [List.filterMap_cons,hf]; exact List.mem_cons_of_mem _ hb)) hr⟩
 exact all X.outer (fun _ hb=>hb) I.ok.dX
theorem Ai.stack (I:Ai X pins σ H s):s.heap.FunFrames X.base X.stack:=by
 rcases I.ok.EO with e | ⟨e,hf⟩
 ·rw [e]; exact I.dX
 ·rw [e]
  obtain ⟨m,hn,_⟩ := I.loc
  refine .cons (by rw [I.ok.kind]; decide) hf hn ?_ I.dX
  exact Heap.get?_none_of_le (Nat.le_trans I.ok.rZ I.ok.above)
theorem Ai.jS (I:Ai X pins σ H s):∀ b ∈ jL X.stack,b ∈ X.env.locals :: X.fs:=fun b hb=>by
 rcases I.ok.EO with e | ⟨e,hf⟩
 ·rw [e] at hb; exact List.mem_cons_of_mem _ hb
 ·rw [e] at hb
  unfold jL at hb
  rw [List.filterMap_cons,hf] at hb
  exact hb
theorem Ai.kP (I:Ai X pins σ H s):∀ b ∈ jL X.stack,H b = none:=fun b hb=>by
 rcases List.mem_cons.mp (I.jS b hb) with e | hb
 ·rw [e]; exact I.free
 ·obtain ⟨_,o,ho,_⟩ := I.ok.dX.mem hb
  exact I.base.free b o ho (I.ok.uU b hb) fun z=>I.ok.jR b z hb
theorem Ai.step {g' : Array GenState} {t' : Nat} {d' : Drawn} {ch : List Addr} (I : Ai X pins σ H s)
  (fV:∀ b ∈ ch,(b ∈ X.ex \/ X.s₀.heap.objs.size <= b) /\ b ≠ X.env.locals /\ (∀ x c,X.env.cells.lookup x = some c -> c ≠ b) /\ ∀ p ∈ X.pn ++ pins,p.1 ≠ b)
  (keep:∀ b o,b ≠ X.env.locals -> b ∉ X.fs -> b ∉ ch -> s.heap.get? b = some o -> H b = none -> h'.get? b = some o)
  (slot:∀ b o,b ≠ X.env.locals -> b ∈ X.fs -> b ∉ ch -> s.heap.get? b = some o -> H b = none -> ∃ sl,h'.get? b = some { o with slots:=sl }) (free:∀ b o,b ∉ ch -> s.heap.get? b = some o -> H b = none -> H' b = none)
  (there:∀ b o,b ∉ ch -> s.heap.get? b = some o -> ∃ o',h'.get? b = some o')
  (dU:∀ b xs,H b = some (.tup xs) -> H' b = some (.tup xs)) (cZ:∀ b o u,H b = some (.aP o u) -> H' b = some (.aP o u)) (dW:∀ b ps,H b = some (.rY ps) -> ∃ more,H' b = some (.rY (ps ++ more)))
  (ns:∀ m,s.heap.Ns X.env.locals m -> h'.Ns X.env.locals m) (aC:Fz X.prog X.w H' h') (hg:AllBare g') :
  Ai X pins σ H' { s with heap:=h',gens:=g',drawn:=d',toks:=t' }:=by
 have neL:∀ b o,X.s₀.heap.get? b = some o -> b ≠ X.env.locals:=fun b o e=>Nat.ne_of_lt (Nat.lt_of_lt_of_le (Heap.lt_size e) I.ok.above)
 have RP:∀ b o,X.s₀.heap.get? b = some o -> b ∉ X.ex -> b ∉ ch:=fun b o e hx hb=>by
  rcases (fV b hb).1 with z | z
  ·exact hx z
  ·exact absurd (Nat.lt_of_lt_of_le (Heap.lt_size e) z) (Nat.lt_irrefl _)
 have cellK:∀ x c,X.env.cells.lookup x = some c -> ∀ v,s.heap.IsCell c v -> h'.IsCell c v:=fun x c e v ⟨o,ho,hd⟩=>by
  have FU:c ∉ ch:=fun z=>(fV c z).2.2.1 x c e rfl
  by_cases hc:c ∈ X.fs
  ·obtain ⟨sl,q⟩ := slot c o (I.wY x c e) hc FU ho (I.aV x c e)
   exact ⟨_,q,hd⟩
  ·exact ⟨o,keep c o (I.wY x c e) hc FU ho (I.aV x c e),hd⟩
 refine ⟨I.ok,I.os,hg,⟨fun b o e n hb hx=>?_,fun b o e n hb hx=>?_,fun b o e n hx=>?_,fun b o e hx=>?_,fun b xs e=>dU b xs (I.base.dU b xs e),fun b o xs e=>cZ b o xs (I.base.cZ b o xs e),fun b ps e=>?_⟩,?_,fun x c e=>?_,?_,fun x c e=>?_,fun p hp=>?_,aC,I.len⟩
 ·exact keep b o (neL b o e) hb (RP b o e hx) (I.base.keep b o e n hb hx) (I.base.free b o e n hx)
 ·obtain ⟨sl,e1⟩ := I.base.slot b o e n hb hx
  obtain ⟨FR,e2⟩ := slot b _ (neL b o e) hb (RP b o e hx) e1 (I.base.free b o e n hx)
  exact ⟨FR,e2⟩
 ·obtain ⟨o',e1⟩ := I.base.there b o e hx
  exact free b o' (RP b o e hx) e1 (I.base.free b o e n hx)
 ·obtain ⟨o',e1⟩ := I.base.there b o e hx
  exact there b o' (RP b o e hx) e1
 ·obtain ⟨m1,e1⟩ := I.base.dW b ps e
  obtain ⟨m2,e2⟩ := dW b _ e1
  exact ⟨m1 ++ m2,by rw [e2,Array.append_assoc]⟩
 ·obtain ⟨m,hn,hl⟩ := I.loc
  refine ⟨m,ns m hn,fun i x v e1 e2 e3=>?_⟩
  obtain ⟨u,r,l⟩ := hl i x v e1 e2 e3
  refine ⟨u,r,?_⟩
  rcases l with l | ⟨k,c,e,z⟩
  ·exact .inl l
  ·exact .inr ⟨k,c,e,cellK x c e _ z⟩
 ·obtain ⟨v,z⟩ := I.cell x c e
  exact ⟨v,cellK x c e v z⟩
 ·obtain ⟨m,⟨o,_,_,ho,_⟩,_⟩ := I.loc
  exact free _ o (fun z=>(fV _ z).2.1 rfl) ho I.free
 ·obtain ⟨v,o,ho,hd⟩ := I.cell x c e
  exact free c o (fun z=>(fV c z).2.2.1 x c e rfl) ho (I.aV x c e)
 ·obtain ⟨e,n,ne,nf,d⟩ := I.pin p hp
  have FU:p.1 ∉ ch:=fun z=>(fV p.1 z).2.2.2 p hp rfl
  exact ⟨keep p.1 p.2 ne nf FU e n,free p.1 p.2 FU e n,ne,nf,d⟩
theorem Ai.un {t':Nat} (I:Ai X pins σ H s) (u:Un X.fs [] H H' s.heap h') (aC:Fz X.prog X.w H' h'):Ai X pins σ H' { s with heap:=h',toks:=t' }:=by
 obtain ⟨m,⟨o,es,ep,ho,r⟩,_⟩ := id I.loc
 obtain ⟨sl,hL⟩ := u.any ho I.free (by simp)
 exact I.step (g':=s.gens) (d':=s.drawn) (ch:=[]) (fun _ z=>nomatch z) (fun b o _ hb _ e n=>u.keep b o e n hb (by simp)) (fun b o _ hb _ e n=>u.slot b o e n hb (by simp)) (fun b o _ e n=>u.free b o e n (by simp)) (fun b o _ e=>u.there b o e (by simp)) u.dU u.cZ u.dW (fun m' hm=>by
  obtain ⟨o',lR,lS,mS,r'⟩ := hm
  rw [ho] at mS; cases mS
  exact ⟨_,lR,lS,hL,r'⟩) aC I.bare
theorem Ai.call {g' : Array GenState} {t' : Nat} {d' : Drawn} {ch : List Addr} (I : Ai X pins σ H s) (u : Un (jL X.stack) ch H H' s.heap h') (aC : Fz X.prog X.w H' h') (hg : AllBare g')
  (fV:∀ b ∈ ch,(b ∈ X.ex \/ X.s₀.heap.objs.size <= b) /\ b ≠ X.env.locals /\ (∀ x c,X.env.cells.lookup x = some c -> c ≠ b) /\ ∀ p ∈ X.pn ++ pins,p.1 ≠ b) :
  Ai X pins σ H' { s with heap:=h',gens:=g',drawn:=d',toks:=t' }:=by
 obtain ⟨m,⟨o,es,ep,ho,r⟩,_⟩ := id I.loc
 obtain ⟨sl,hL⟩ := u.any ho I.free fun z=>(fV _ z).2.1 rfl
 exact I.step (ch:=ch) fV (fun b o hL hb hc e n=>u.keep b o e n (fun z=>(List.mem_cons.mp (I.jS b z)).elim hL hb) hc) (fun b o _ _ hc e n=>u.any e n hc) (fun b o hc e n=>u.free b o e n hc) (fun b o hc e=>u.there b o e hc) u.dU u.cZ u.dW (fun m' hm=>by
  obtain ⟨o',lR,lS,mS,r'⟩ := hm
  rw [ho] at mS; cases mS
  exact ⟨_,lR,lS,hL,r'⟩) aC hg
theorem Ai.turned {t' : Nat} {it : Addr} (I : Ai X pins σ H s) (k : ∀ b o, b ≠ it -> s.heap.get? b = some o -> h'.get? b = some o) (hn : H it = none) (hL : it ≠ X.env.locals)
  (h1:it ∈ X.ex \/ X.s₀.heap.objs.size <= it) (h2:∀ x c,X.env.cells.lookup x = some c -> c ≠ it) (h3:∀ p ∈ X.pn ++ pins,p.1 ≠ it):Ai X pins σ H { s with heap:=h',toks:=t' }:=by
 have nit:∀ b u,H b = some u -> b ≠ it:=fun b u e z=>by rw [z,hn] at e; cases e
 refine I.step (g':=s.gens) (d':=s.drawn) (ch:=[it]) (fun b hb=>?_) (fun b o _ _ hc e _=>k b o (fun z=>hc (by simp [z])) e) (fun b o _ _ hc e _=>⟨o.slots,k b o (fun z=>hc (by simp [z])) e⟩) (fun _ _ _ _ n=>n)
  (fun b o hc e=>⟨o,k b o (fun z=>hc (by simp [z])) e⟩) (fun _ _ e=>e) (fun _ _ _ e=>e) (fun b ps e=>⟨#[],by rw [e]; simp⟩) (fun m hm=>?_) (fun b u e=>?_) I.bare
 ·have e:b = it:=by simpa using hb
  subst e
  exact ⟨h1,hL,h2,h3⟩
 ·obtain ⟨o,es,ep,ho,r⟩ := hm
  exact ⟨o,es,ep,k _ o (Ne.symm hL) ho,r⟩
 ·refine (I.aC b u e).fA (fun c v hc q=>k c v ?_ q) (fun _ q=>q) fun _ _ q=>q
  rcases hc with z | z
  ·rw [z]; exact nit b u e
  ·exact nit c _ z
theorem Ai.tok (I:Ai X pins σ H s) (t:Nat):Ai X pins σ H { s with toks:=t }:=I.un (h':=s.heap) (t':=t) Un.refl I.aC
theorem Ai.kept {t':Nat} (I:Ai X pins σ H s) (k:∀ b u,s.heap.get? b = some u -> h'.get? b = some u):Ai X pins σ H { s with heap:=h',toks:=t' }:=I.un (Un.kept k) (I.aC.kept k)
theorem Ai.laid {a : Addr} {o : HO} {t' : Nat} (I : Ai X pins σ H s) (k : ∀ b u, s.heap.get? b = some u -> h'.get? b = some u) (hp : s.heap.objs.size <= a) (new : Bj X.prog X.w (upd H a o) h' a o) :
  Ai X pins σ (upd H a o) { s with heap:=h',toks:=t' }:=I.un (Un.laid k hp (I.aC.fresh hp)) (I.aC.laid k hp new)
theorem Ai.write {x e : Addr} {o : HO} {t' : Nat} (I : Ai X pins σ H s) (mu : m7 (H x)) (he : e = x \/ H e = some (.own x)) (k : ∀ b u, b ≠ e -> s.heap.get? b = some u -> h'.get? b = some u) (EN : ∃ u, h'.get? e = some u)
  (new:Bj X.prog X.w (upd H x o) h' x o):Ai X pins σ (upd H x o) { s with heap:=h',toks:=t' }:=I.un (Un.write mu he k EN) (I.aC.write mu he k EN new)
theorem Ai.weak {σ':List (Option V)} (I:Ai X pins σ H s) (hl:σ'.length = σ.length) (w:∀ (i:Nat) v,σ'[i]? = some (some v) -> σ[i]? = some (some v)):Ai X pins σ' H s :=
 ⟨I.ok,I.os,I.bare,I.base,let ⟨m,hn,hl'⟩ := I.loc; ⟨m,hn,fun i x v e1 e2 e3=>hl' i x v e1 (w i v e2) e3⟩,I.cell,I.free,I.aV,I.pin,I.aC,hl.trans I.len⟩
theorem Ai.kQ {kR:List (Addr × Obj)} (I:Ai X pins σ H s) (h:∀ p ∈ kR,s.heap.get? p.1 = some p.2 /\ H p.1 = none /\ p.1 ≠ X.env.locals /\ p.1 ∉ X.fs /\ ∀ v,p.2.data ≠ .cell v):Ai X kR σ H s :=
 ⟨I.ok,I.os,I.bare,I.base,I.loc,I.cell,I.free,I.aV,fun p hp=>(List.mem_append.mp hp).elim (fun z=>I.pin p (List.mem_append_left _ z)) (h p),I.aC,I.len⟩
theorem Rh {N:List Str} (hN:N.Nodup) {i j:Nat} {x:Str} (a:N[i]? = some x) (b:N[j]? = some x):i = j:=by
 obtain ⟨h1,e1⟩ := List.getElem?_eq_some_iff.mp a
 obtain ⟨h2,e2⟩ := List.getElem?_eq_some_iff.mp b
 exact (List.getElem_inj hN).mp (e1.trans e2.symm)
theorem O6 {M : Model} {A : Around} {E : Value -> Shared -> Prop} {i : Nat} {x : Str} {v : V} {u : Value} {Q : Unit -> Shared -> Prop} (I : Ai X pins σ H s) (hN : X.N.Nodup) (hi : X.N[i]? = some x) (hx : nj X.env.scope x) (r : Aw v u)
  (h:∀ s',Ai X pins (σ.set i (some v)) H s' -> (∃ a,Heap.SameBut a s.heap s'.heap /\ (a = X.env.locals \/ X.env.cells.lookup x = some a)) -> Q () s') (hf:X.fn x = true \/ X.env.scope.names.lookup x = some .local:=by first | exact .inl rfl | exact .inr rfl | assumption):wpAny M A (storeName X.env x u) Q E s:=by
 obtain ⟨m,hn,hl⟩ := id I.loc
 have UR:(X.env.scope.kind == .class || (X.env.scope.kind == .module && X.env.locals != X.env.globals)) = false:=by rw [I.ok.kind]; rfl
 have hiσ:i < σ.length:=by rw [I.len]; exact (List.getElem?_eq_some_iff.mp hi).1
 have wY:=I.wY
 have tracked:∀ {a:Addr} {h':Heap},(∃ o,s.heap.get? a = some o /\ H a = none) -> Heap.SameBut a s.heap h' -> Fz X.prog X.w H h':=fun {a h'} ha hs b ob e=>by
  obtain ⟨_,_,uV⟩ := ha
  refine (I.aC b ob e).fA (fun c w' hc q=>(hs.2 c ?_).trans q) (fun _ q=>q) fun _ _ q=>q
  rintro rfl
  rcases hc with rfl | hc
  ·rw [uV] at e; cases e
  ·rw [uV] at hc; cases hc
 rcases hx with hk | hk
 ·refine wpAny_storeName_local hk hn (fun h' hn' hs=>?_) UR
  obtain ⟨oL,_,_,sR,_⟩ := id hn
  refine h _ ⟨I.ok,I.os,I.bare,⟨fun b o e n hb hx=>?_,fun b o e n hb hx=>?_,I.base.free,fun b o e hx=>?_,I.base.dU,I.base.cZ,I.base.dW⟩,⟨_,hn',fun j y v' e1 e2 e3=>?_⟩,fun y c e=>?_,I.free,I.aV,fun p hp=>?_,tracked ⟨oL,sR,I.free⟩ hs,by simpa using I.len⟩ ⟨_,hs,.inl rfl⟩
  ·exact (hs.2 b (Nat.ne_of_lt (Nat.lt_of_lt_of_le (Heap.lt_size e) I.ok.above))).trans (I.base.keep b o e n hb hx)
  ·obtain ⟨sl,e1⟩ := I.base.slot b o e n hb hx
   exact ⟨sl,(hs.2 b (Nat.ne_of_lt (Nat.lt_of_lt_of_le (Heap.lt_size e) I.ok.above))).trans e1⟩
  ·obtain ⟨o',e1⟩ := I.base.there b o e hx
   exact ⟨o',(hs.2 b (Nat.ne_of_lt (Nat.lt_of_lt_of_le (Heap.lt_size e) I.ok.above))).trans e1⟩
  ·by_cases hj:j = i
   ·subst hj
    rw [hi] at e1; cases e1
    rw [List.getElem?_set_self hiσ] at e2
    cases e2
    exact ⟨u,r,.inl ⟨hk,by simp⟩⟩
   ·rw [List.getElem?_set_ne (Ne.symm hj)] at e2
    obtain ⟨u',r',q⟩ := hl j y v' e1 e2 e3
    refine ⟨u',r',?_⟩
    rcases q with ⟨k,e⟩ | ⟨k,c,e,z⟩
    ·refine .inl ⟨k,?_⟩
     have:y ≠ x:=fun e=>hj (Rh hN e1 (e ▸ hi))
     simp [this,e]
    ·exact .inr ⟨k,c,e,z.sameBut hs (wY y c e)⟩
  ·obtain ⟨w',z⟩ := I.cell y c e
   exact ⟨w',z.sameBut hs (wY y c e)⟩
  ·obtain ⟨e,n,ne,nf,d⟩ := I.pin p hp
   exact ⟨(hs.2 p.1 ne).trans e,n,ne,nf,d⟩
 ·have US : X.fn x = true := by
   rcases hf with z | z
   ·exact z
   ·rw [z] at hk; cases hk
  obtain ⟨c,hc⟩ := I.ok.has x (.inl hk)
  obtain ⟨w',z⟩ := I.cell x c hc
  refine wpAny_storeName_cell I.ok.kind hk hc z (fun h' jM hs=>?_)
  obtain ⟨oc,hoc,UT⟩ := id z
  refine h { s with heap:=h' } ⟨I.ok,I.os,I.bare,⟨fun b o e n hb hx=>?_,fun b o e n hb hx=>?_,I.base.free,fun b o e hx=>?_,I.base.dU,I.base.cZ,I.base.dW⟩,⟨m,hn.sameBut hs (Ne.symm (wY x c hc)),fun j y v' e1 e2 e3=>?_⟩,fun y c' e=>?_,I.free,I.aV,fun p hp=>?_,tracked ⟨oc,hoc,I.aV x c hc⟩ hs,by simpa using I.len⟩ ⟨c,hs,.inr hc⟩
  ·exact (hs.2 b (Nat.ne_of_lt (Nat.lt_of_lt_of_le (Heap.lt_size e) (I.ok.wX x c US hc)))).trans (I.base.keep b o e n hb hx)
  ·obtain ⟨sl,e1⟩ := I.base.slot b o e n hb hx
   exact ⟨sl,(hs.2 b (Nat.ne_of_lt (Nat.lt_of_lt_of_le (Heap.lt_size e) (I.ok.wX x c US hc)))).trans e1⟩
  ·obtain ⟨o',e1⟩ := I.base.there b o e hx
   exact ⟨o',(hs.2 b (Nat.ne_of_lt (Nat.lt_of_lt_of_le (Heap.lt_size e) (I.ok.wX x c US hc)))).trans e1⟩
  ·by_cases hj:j = i
   ·subst hj
    rw [hi] at e1; cases e1
    rw [List.getElem?_set_self hiσ] at e2
    cases e2
    exact ⟨u,r,.inr ⟨.inl hk,c,hc,jM⟩⟩
   ·rw [List.getElem?_set_ne (Ne.symm hj)] at e2
    obtain ⟨u',r',q⟩ := hl j y v' e1 e2 e3
    refine ⟨u',r',?_⟩
    rcases q with q | ⟨k,c',e,z'⟩
    ·exact .inl q
    ·refine .inr ⟨k,c',e,z'.sameBut hs ?_⟩
     rintro rfl
     exact hj (Rh hN e1 (I.ok.inj _ _ _ e hc ▸ hi))
  ·by_cases hcc:c' = c
   ·subst hcc; exact ⟨_,jM⟩
   ·obtain ⟨w2,z2⟩ := I.cell y c' e
    exact ⟨w2,z2.sameBut hs hcc⟩
  ·obtain ⟨e,n,ne,nf,d⟩ := I.pin p hp
   refine ⟨(hs.2 p.1 ?_).trans e,n,ne,nf,d⟩
   intro q
   rw [q,hoc] at e
   have q':oc = p.2:=Option.some.inj e
   exact d w' (by rw [<- q']; exact UT)
theorem Qg {M : Model} {A : Around} {E : Value -> Shared -> Prop} {i : Nat} {x : Str} {v : V} {u : Value} {Q : Unit -> Shared -> Prop} (I : Ai X pins σ H s) (hN : X.N.Nodup) (hi : X.N[i]? = some x) (hx : nj X.env.scope x) (r : Aw v u)
  (h:∀ s',Ai X pins (σ.set i (some v)) H s' -> Q () s') (hf:X.fn x = true \/ X.env.scope.names.lookup x = some .local:=by first | exact .inl rfl | exact .inr rfl | assumption):wpAny M A (storeName X.env x u) Q E s :=
 O6 I hN hi hx r (fun s' I' _=>h s' I') hf
theorem Ai.FV {s' : Shared} {ch : List Addr} (I : Ai X pins σ H s) (ho : s'.os = s.os) (u : Un (jL X.stack) ch H H' s.heap s'.heap) (aC : Fz X.prog X.w H' s'.heap) (hg : AllBare s'.gens)
  (fV:∀ b ∈ ch,(b ∈ X.ex \/ X.s₀.heap.objs.size <= b) /\ b ≠ X.env.locals /\ (∀ x c,X.env.cells.lookup x = some c -> c ≠ b) /\ ∀ p ∈ X.pn ++ pins,p.1 ≠ b):Ai X pins σ H' s':=by
 obtain ⟨h',g',d',t',o'⟩ := s'
 have e:o' = s.os:=ho
 subst e
 exact I.call (g':=g') (t':=t') (d':=d') u aC hg fV
end
abbrev XK:=Value -> Option Addr -> Hp -> Prop
abbrev St:=List (Option V)
abbrev VK:=V -> Hp -> Prop
abbrev TE:=St -> Hp -> VK -> Prop
abbrev TT:=St -> Hp -> (Bool -> Hp -> Prop) -> Prop
abbrev TA:=St -> Hp -> (List V -> Hp -> Prop) -> Prop
set_option genInjectivity false in
set_option genSizeOf false in
structure Hn where
 nx:St -> Hp -> Prop
 rt:VK
 bk:St -> Hp -> Prop:=fun _ _=>False
 ct:St -> Hp -> Prop:=fun _ _=>False
abbrev TS:=Hn -> St -> Hp -> Prop
def EP (X:Cx) (pins:List (Addr × Obj)) (σ:St) (Q:VK) (u:Value) (s':Shared):Prop := ∃ v H',Ai X pins σ H' s' /\ Aw v u /\ Q v H'
def TP (X:Cx) (pins:List (Addr × Obj)) (σ:St) (Q:Bool -> Hp -> Prop) (b:Bool) (s':Shared):Prop := ∃ H',Ai X pins σ H' s' /\ Q b H'
def AP (X:Cx) (pins:List (Addr × Obj)) (σ:St) (Q:List V -> Hp -> Prop) (us:List Value) (s':Shared):Prop := ∃ vs H',Ai X pins σ H' s' /\ Ay vs us /\ Q vs H'
def SP (X:Cx) (pins:List (Addr × Obj)) (D:Hn) (f:Flow) (s':Shared):Prop :=
 match f with
 | .next=>∃ σ' H',Ai X pins σ' H' s' /\ D.nx σ' H'
 | .brk=>∃ σ' H',Ai X pins σ' H' s' /\ D.bk σ' H'
 | .cont=>∃ σ' H',Ai X pins σ' H' s' /\ D.ct σ' H'
 | .ret u=>∃ v σ' H',Ai X pins σ' H' s' /\ Aw v u /\ D.rt v H'
def PE (X:Cx) (e:Expr) (t:TE):Prop :=
 ∀ (pins:List (Addr × Obj)) (s:Shared) (σ:St) (H:Hp) (Q:VK),Ai X pins σ H s -> t σ H Q -> wpAny (model X.prog X.w) X.A (eval e X.env) (EP X pins σ Q) X.xe s
def PT (X:Cx) (e:Expr) (t:TT):Prop :=
 ∀ (pins:List (Addr × Obj)) (s:Shared) (σ:St) (H:Hp) (Q:Bool -> Hp -> Prop),Ai X pins σ H s -> t σ H Q -> wpAny (model X.prog X.w) X.A (isTrue e X.env (eval e X.env)) (TP X pins σ Q) X.xe s
def PW (X:Cx) (e:Expr) (t:TT):Prop :=
 ∀ (whole:Sem Value) (pins:List (Addr × Obj)) (s:Shared) (σ:St) (H:Hp) (Q:Bool -> Hp -> Prop),Ai X pins σ H s -> t σ H Q -> wpAny (model X.prog X.w) X.A (isTrue e X.env whole) (TP X pins σ Q) X.xe s
theorem PW.pt {X:Cx} {e:Expr} {t:TT} (h:PW X e t):PT X e t:=h _
def PA (X:Cx) (es:List Expr) (t:TA):Prop :=
 ∀ (pos:Pos) (pins:List (Addr × Obj)) (s:Shared) (σ:St) (H:Hp) (Q:List V -> Hp -> Prop),Ai X pins σ H s -> t σ H Q -> wpAny (model X.prog X.w) X.A (spliced (backTo pos (starEach es X.env))) (AP X pins σ Q) X.xe s
def PS (X:Cx) (st:Stmt) (t:TS):Prop :=
 ∀ (pins:List (Addr × Obj)) (s:Shared) (σ:St) (H:Hp) (D:Hn),Ai X pins σ H s -> t D σ H -> wpAny (model X.prog X.w) X.A (exec st X.env) (SP X pins D) X.xe s
def S7 (X:Cx) (st:List Stmt) (t:TS):Prop :=
 ∀ (pins:List (Addr × Obj)) (s:Shared) (σ:St) (H:Hp) (D:Hn),Ai X pins σ H s -> t D σ H -> wpAny (model X.prog X.w) X.A (execs st X.env) (SP X pins D) X.xe s
theorem Ca {α:Type} {t:Sem α} {Q Q':α -> Shared -> Prop} {M:Model} {A:Around} {E:Value -> Shared -> Prop} {s:Shared} (h:wpAny M A t Q E s) (hQ:∀ a s,Q a s -> Q' a s):wpAny M A t Q' E s:=wpAny_mono h hQ fun _ _ x=>x
section
variable {X:Cx}
def l5 (i:Nat):TE:=fun σ H Q=>∃ v,σ[i]? = some (some v) /\ Q v H
def tC (v:V):TE:=fun _ H Q=>Q v H
theorem fo {i:Nat} {x:Str} {pos:Pos} (hN:X.N[i]? = some x) (hv:og X.env.scope x) (hd:(x == ("__debug__" : Str)) = false:=by decide) (nA:(x == ("__classdict__" : Str)) = false:=by decide):PE X (.Name x pos) (l5 i):=by
 intro pins s σ H Q I h
 obtain ⟨v,e,h⟩ := h
 obtain ⟨m,hn,hl⟩ := I.loc
 obtain ⟨u,r,l⟩ := hl i x v hN e hv
 have fin:EP X pins σ Q u s:=⟨v,H,I,r,h⟩
 rcases l with ⟨hk,hm⟩ | ⟨hk,c,hc,uW⟩
 ·exact wpAny_Name (wpAny_loadName_local I.ok.kind hk hn hm fin) hd
 ·rcases hk with hk | hk
  ·exact wpAny_Name (wpAny_loadName_cell I.ok.kind hk hc uW fin) hd
  ·exact wpAny_Name (wpAny_loadName_free I.ok.kind hk hc uW fin nA) hd
theorem Aa {i j pos}:PE X (.Constant (.int i) j pos) (tC (.int i)):=fun _ _ _ H _ I h=>wpAny_Constant_int ⟨.int i,H,I.tok _,⟨_,rfl⟩,h⟩
theorem Ft {b j pos}:PE X (.Constant (.bool b) j pos) (tC (.bl b)):=fun _ _ _ H _ I h=>Constant_bool ⟨.bl b,H,I,rfl,h⟩
theorem D3 {j pos}:PE X (.Constant .none j pos) (tC .aL):=fun _ _ _ H _ I h=>Constant_none ⟨.aL,H,I,rfl,h⟩
def Gl (X:Cx) (x:Str):Prop:=X.env.kindOf x = some .globalImplicit
theorem Ui {E : Value -> Shared -> Prop} {pins : List (Addr × Obj)} {s : Shared} {σ : St} {H : Hp} {x : Str} {u : Value} {pos : Pos} {Q : Value -> Shared -> Prop} (I : Ai X pins σ H s) (hg : Gl X x) (hm : X.mg x = some u) (h : Q u s)
  (hd:(x == ("__debug__" : Str)) = false:=by decide):wpAny (model X.prog X.w) X.A (eval (.Name x pos) X.env) Q E s :=
 Calls.Name_function_global I.ok.kind hg (Calls.loadGlobal_global (by rw [I.ok.glob]; exact I.mod.glob.keeps I.bk) hm h) hd
theorem Jm {E : Value -> Shared -> Prop} {pins : List (Addr × Obj)} {s : Shared} {σ : St} {H : Hp} {x : Str} {u : Value} {pos : Pos} {Q : Value -> Shared -> Prop} (I : Ai X pins σ H s) (hg : Gl X x) (hm : X.mg x = none) (hv : bootBuiltins x = some u) (h : Q u s)
  (hn:x ≠ "__name__" := by decide) (hd:(x == ("__debug__" : Str)) = false:=by decide):wpAny (model X.prog X.w) X.A (eval (.Name x pos) X.env) Q E s:=by
 obtain ⟨mb,h1,h2⟩ := I.mod.blt
 exact Calls.Name_function_global I.ok.kind hg (Calls.loadGlobal_builtin (by rw [I.ok.glob]; exact I.mod.glob.keeps I.bk) hm (by rw [I.ok.blt]; exact h1.keeps I.bk) ((h2 x hn).trans hv) h) hd
theorem bf {x:Str} {v:V} {u:Value} {pos:Pos} (hg:Gl X x) (hm:X.mg x = some u) (r:Aw v u) (hd:(x == ("__debug__" : Str)) = false:=by decide):PE X (.Name x pos) (tC v) :=
 fun _ _ _ H _ I h=>Ui I hg hm ⟨v,H,I,r,h⟩ hd
theorem al {x:Str} {v:V} {u:Value} {pos:Pos} (hg:Gl X x) (hm:X.mg x = none) (hv:bootBuiltins x = some u) (r:Aw v u) (hn:x ≠ "__name__" := by decide) (hd:(x == ("__debug__" : Str)) = false:=by decide):PE X (.Name x pos) (tC v) :=
 fun _ _ _ H _ I h=>Jm I hg hm hv ⟨v,H,I,r,h⟩ hn hd
variable {a b:Expr} {ta tb:TE} {pos:Pos}
def PC (X:Cx) (op:CmpOp) (a b:Expr) (t:TE):Prop :=
 ∀ (pins:List (Addr × Obj)) (s:Shared) (σ:St) (H:Hp) (Q:VK),Ai X pins σ H s -> t σ H Q ->
  wpAny (model X.prog X.w) X.A (eval a X.env) (fun v s₁=>wpAny (model X.prog X.w) X.A (eval b X.env) (fun u s₂=>wpAny (model X.prog X.w) X.A (compareOp op v u) (EP X pins σ Q) X.xe s₂) X.xe s₁) X.xe s
def tB (t:TE):TT:=fun σ H Q=>t σ H fun x H1=>∃ c,x = .bl c /\ Q c H1
theorem Fr {op:CmpOp} {t:TE} (h:PC X op a b t) (h1:behindInMarks op b = false:=by first | exact FW _ (by decide) (by decide) | rfl):PT X (.Compare a [op] [b] pos) (tB t):=by
 intro pins s σ H Q I hw
 refine wpAny_isTrue_Compare1 (Ca (h pins s σ H _ I hw) fun v s1 h1=>Ca h1 fun u s2 h2=>Ca h2 fun c s3 ⟨x,H1,I1,r1,q1⟩=>?_) h1
 obtain ⟨d,rfl,q⟩ := q1
 cases r1
 exact wpAny_truthy_bool ⟨H1,I1,q⟩
theorem Ee {e:Expr} {t:TE} (h:PE X e t) (he:∀ whole,isTrue e X.env whole = (do let v <- whole; standAt e.pos; holding [v] (truthy v)):=by intro _; rfl):PT X e (tB t):=by
 intro pins s σ H Q I hw
 refine isTrue_plain (Ca (h pins s σ H _ I hw) fun v s1 ⟨x,H1,I1,r1,q1⟩=>?_) (he _)
 obtain ⟨d,rfl,q⟩ := q1
 cases r1
 exact wpAny_truthy_bool ⟨H1,I1,q⟩
variable {tA uX:TT} {rest:List Expr}
def pf (t:TT):TT:=fun σ H Q=>t σ H fun c H1=>Q (!c) H1
theorem Ka (ha:PT X a tA):PW X (.BoolOp .And [a] pos) tA:=by
 intro wh pins s σ H Q I h
 refine isTrue_and (Ca (ha pins s σ H Q I h) fun c s1 e=>?_)
 cases c with
 | true=>exact isTrue_and_nil e
 | false=>exact e
theorem P2 (ha:PT X a tA):PW X (.BoolOp .Or [a] pos) tA:=by
 intro wh pins s σ H Q I h
 refine isTrue_or (Ca (ha pins s σ H Q I h) fun c s1 e=>?_)
 cases c with
 | false=>exact isTrue_or_nil e
 | true=>exact e
theorem Fm (ha:PT X a tA):PT X (.UnaryOp .Not a pos) (pf tA):=by
 intro pins s σ H Q I h
 exact isTrue_not (ha pins s σ H (fun c H1=>Q (!c) H1) I h)
theorem P1 {op} {t:TE} (h:PE X a t):PE X (.BoolOp op [a] pos) t:=fun pins s σ H Q I hw=>BoolOp_one (h pins s σ H Q I hw)
def uh (t:TT) (ta tb:TE):TE:=fun σ H Q=>t σ H fun c H1=>if c = true then ta σ H1 Q else tb σ H1 Q
theorem Y8 {c:Expr} (hc:PT X c tA) (ha:PE X a ta) (hb:PE X b tb):PE X (.IfExp c a b pos) (uh tA ta tb):=by
 intro pins s σ H Q I h
 refine wpAny_IfExp (Ca (hc pins s σ H _ I h) fun d s1 aJ=>?_)
 obtain ⟨H1,I1,q1⟩ := aJ
 cases d with
 | true=>exact ha pins s1 σ H1 Q I1 q1
 | false=>exact hb pins s1 σ H1 Q I1 q1
end
def Ba (K:PySem.W.Frag) (H:Hp) (a:Addr) (xs:List V):Prop :=
 Rd H a (.lst xs) \/
  ∃ (o:Obj) (aA:Array Value) (n:Nat),K.lookup a = some o /\ o.cls = .type "list" /\ o.dict = none /\ o.data = .seq aA n /\ aA.size <= sizeLine /\ Ay xs aA.toList
def C7 (K:PySem.W.Frag) (H:Hp) (a:Addr) (xs:List V):Prop :=
 Rd H a (.tup xs) \/
  ∃ (o:Obj) (aA:Array Value) (n:Nat),K.lookup a = some o /\ o.cls = .type "tuple" /\ o.data = .seq aA n /\ aA.size <= sizeLine /\ Ay xs aA.toList
def o8:Value -> Option V
 | .none=>some .aL
 | .bool b=>some (.bl b)
 | .int i _=>some (.int i)
 | .str x _=>some (.str x)
 | .bytes b _=>some (.mZ b)
 | .float b _=>some (.EM b)
 | .ref a=>some (.ref a)
 | .type n=>some (.ty n)
 | _=>none
theorem Aw.abs {x:V} {u:Value} (r:Aw x u):o8 u = some x:=by
 cases x with
 | aL=>cases r; rfl
 | bl _=>cases r; rfl
 | int _=>obtain ⟨t,rfl⟩ := r; rfl
 | str _=>obtain ⟨t,rfl⟩ := r; rfl
 | mZ _=>obtain ⟨t,rfl⟩ := r; rfl
 | EM _=>obtain ⟨t,rfl⟩ := r; rfl
 | ref _=>cases r; rfl
 | ty _=>cases r; rfl
theorem Aw.inj {x y:V} {u:Value} (r:Aw x u) (q:Aw y u):x = y:=Option.some.inj (r.abs.symm.trans q.abs)
theorem Ay.inj {xs ys:List V} {us:List Value} (h:Ay xs us) (g:Ay ys us):xs = ys:=by
 induction h generalizing ys with
 | nil =>
  cases g
  rfl
 | cons r t ih =>
  cases g with
  | cons r' t'=>rw [r.inj r',ih t']
section
variable {X:Cx} {pins:List (Addr × Obj)} {σ:St} {H:Hp} {s:Shared} {a:Addr} {xs ys:List V}
theorem Ba.of {K:PySem.W.Frag} (h:H a = some (.lst xs)):Ba K H a xs := .inl (.inl h)
theorem C7.of {K:PySem.W.Frag} (h:H a = some (.tup xs)):C7 K H a xs := .inl (.inl h)
theorem Ai.list (I:Ai X pins σ H s) (h:Ba X.K H a xs):∃ aA:List Value,Ay xs aA /\ PlainL s.heap a aA.toArray /\ xs.length <= sizeLine:=by
 rcases h with h | ⟨o,aA,n,hk,hc,hd,hs,hz,r⟩
 ·obtain ⟨z,aA,n,r,e⟩ := h.ok I.aC
  exact ⟨aA,r,⟨_,n,e,rfl,rfl,rfl⟩,z⟩
 ·refine ⟨aA.toList,r,⟨o,n,I.iM a o hk,hc,hd,by simpa using hs⟩,?_⟩
  have e:=r.length
  simp only [Array.length_toList] at e
  omega
theorem Ai.tuple (I:Ai X pins σ H s) (h:C7 X.K H a xs):∃ aA:List Value,Ay xs aA /\ IsTup s.heap a aA.toArray /\ xs.length <= sizeLine:=by
 rcases h with h | ⟨o,aA,n,hk,hc,hs,hz,r⟩
 ·obtain ⟨z,aA,r,p⟩ := h.ok I.aC
  exact ⟨aA,r,p,z.1⟩
 ·refine ⟨aA.toList,r,⟨o,I.iM a o hk,hc,n,by simpa using hs⟩,?_⟩
  have e:=r.length
  simp only [Array.length_toList] at e
  omega
theorem Ai.iO (I:Ai X pins σ H s) (h:Ba X.K H a xs) (h':Ba X.K H a ys):xs = ys:=by
 obtain ⟨aA,r,⟨o,n,e,_,_,d⟩,_⟩ := I.list h
 obtain ⟨its',r',⟨o',n',e',_,_,d'⟩,_⟩ := I.list h'
 rw [e] at e'; cases e'
 rw [d] at d'
 injection d' with d1 _
 have:aA = its':=by simpa using congrArg Array.toList d1
 subst this
 exact r.inj r'
theorem Ai.gI (I:Ai X pins σ H s) (h:C7 X.K H a xs) (h':C7 X.K H a ys):xs = ys:=by
 obtain ⟨aA,r,⟨o,e,_,n,d⟩,_⟩ := I.tuple h
 obtain ⟨its',r',⟨o',e',_,n',d'⟩,_⟩ := I.tuple h'
 rw [e] at e'; cases e'
 rw [d] at d'
 injection d' with d1 _
 have:aA = its':=by simpa using congrArg Array.toList d1
 subst this
 exact r.inj r'
end
abbrev Cx.fY (X:Cx) (E:Value -> Shared -> Prop):Cx:={ X with xe:=E }
abbrev Cx.ER (X:Cx):Cx:=X.fY fun _ _=>False
theorem Cx.Ok.fY {X:Cx} (ok:X.Ok) (E:Value -> Shared -> Prop):(X.fY E).Ok :=
 ⟨ok.mod,ok.kind,ok.glob,ok.blt,ok.above,ok.inj,ok.has,ok.wX,ok.hd,ok.frames,ok.EO,ok.FT,ok.bs,ok.rZ,ok.jQ,ok.jR,ok.dX,ok.uU⟩
theorem Cx.Ok.bQ {X:Cx} {E:Value -> Shared -> Prop} (ok:(X.fY E).Ok):X.Ok :=
 ⟨ok.mod,ok.kind,ok.glob,ok.blt,ok.above,ok.inj,ok.has,ok.wX,ok.hd,ok.frames,ok.EO,ok.FT,ok.bs,ok.rZ,ok.jQ,ok.jR,ok.dX,ok.uU⟩
section
variable {X:Cx} {pins:List (Addr × Obj)} {σ:St} {H:Hp} {s:Shared} {E:Value -> Shared -> Prop}
theorem Ai.fY (I:Ai X pins σ H s) (E:Value -> Shared -> Prop):Ai (X.fY E) pins σ H s:=⟨I.ok.fY E,I.os,I.bare,I.base,I.loc,I.cell,I.free,I.aV,I.pin,I.aC,I.len⟩
theorem Ai.bQ (I:Ai (X.fY E) pins σ H s):Ai X pins σ H s:=⟨I.ok.bQ,I.os,I.bare,I.base,I.loc,I.cell,I.free,I.aV,I.pin,I.aC,I.len⟩
theorem SP.bQ {D:Hn} {f:Flow} {s':Shared} (h:SP (X.fY E) pins D f s'):SP X pins D f s':=by
 cases f with
 | next=>obtain ⟨σ',H',I,q⟩ := h; exact ⟨σ',H',I.bQ,q⟩
 | brk=>obtain ⟨σ',H',I,q⟩ := h; exact ⟨σ',H',I.bQ,q⟩
 | cont=>obtain ⟨σ',H',I,q⟩ := h; exact ⟨σ',H',I.bQ,q⟩
 | ret u=>obtain ⟨v,σ',H',I,r,q⟩ := h; exact ⟨v,σ',H',I.bQ,r,q⟩
theorem S7.ER {st:List Stmt} {t:TS} (h:S7 X.ER st t):S7 X st t:=fun pins s σ H D I hw =>
 wpAny_mono (h pins s σ H D (I.fY _) hw) (fun _ _ q=>q.bQ) fun _ _ z=>False.elim z
end
section
variable {X:Cx} {st:Stmt} {rest:List Stmt} {t u:TS} {e:Expr} {te:TE} {pos:Pos}
def m9:TS:=fun D σ H=>D.nx σ H
def n8 (t u:TS):TS:=fun D σ H=>t { D with nx:=u D } σ H
theorem Ax:S7 X [] m9:=fun _ _ σ H _ I h=>wpAny_execs_nil ⟨σ,H,I,h⟩
theorem A7 (h1:PS X st t) (h2:S7 X rest u):S7 X (st :: rest) (n8 t u):=by
 intro pins s σ H D I h
 refine wpAny_execs_cons (Ca (h1 pins s σ H { D with nx:=u D } I h) fun f s1 q=>?_)
 cases f with
 | next =>
  obtain ⟨σ',H',I',q⟩ := q
  exact h2 pins s1 σ' H' D I' q
 | ret v=>exact q
 | brk=>exact q
 | cont=>exact q
theorem Ab (h1:PS X st t):S7 X [st] t:=by
 intro pins s σ H D I h
 refine wpAny_execs_cons (Ca (h1 pins s σ H D I h) fun f s1 q=>?_)
 cases f with
 | next=>exact wpAny_execs_nil q
 | ret v=>exact q
 | brk=>exact q
 | cont=>exact q
theorem Ai.quiet {pins:List (Addr × Obj)} {σ:St} {H:Hp} {s:Shared} (I:Ai X pins σ H s):interactive X.env = false:=by simp [interactive,I.ok.kind]
def md (te:TE):TS:=fun D σ H=>te σ H fun _ H1=>D.nx σ H1
theorem Co (he:PE X e te) (hs:swapsWith e none pos.line X.env = pure false:=by rfl):PS X (.Expr e pos) (md te):=by
 intro pins s σ H D I h
 exact wpAny_Expr_any (Ca (he pins s σ H _ I h) fun v s1 ⟨x,H1,I1,r1,q1⟩=>⟨σ,H1,I1,q1⟩) I.quiet hs
def oh (te:TE):TS:=fun D σ H=>te σ H D.rt
theorem Aq (he:PE X e te):PS X (.Return (some e) pos) (oh te):=by
 intro pins s σ H D I h
 exact wpAny_Return_some (Ca (he pins s σ H _ I h) fun v s1 ⟨x,H1,I1,r1,q1⟩=>⟨x,σ,H1,I1,r1,q1⟩)
def qk (c:TT) (t u:TS):TS:=fun D σ H=>c σ H fun b H1=>if b = true then t D σ H1 else u D σ H1
theorem Cn {c:Expr} {a b:List Stmt} {tc:TT} (hc:PT X c tc) (ha:S7 X a t) (hb:S7 X b u):PS X (.If c a b pos) (qk tc t u):=by
 intro pins s σ H D I h
 refine wpAny_If (Ca (hc pins s σ H _ I h) fun d s1 aJ=>?_)
 obtain ⟨H1,I1,q1⟩ := aJ
 cases d with
 | true=>exact ha pins s1 σ H1 D I1 q1
 | false=>exact hb pins s1 σ H1 D I1 q1
def di:TS:=fun _ _ _=>False
theorem Ll:PS X st di:=fun _ _ _ _ _ _ h=>h.elim
end
abbrev TG:=V -> St -> Hp -> (St -> Hp -> Prop) -> Prop
abbrev bm:=List V -> St -> Hp -> (St -> Hp -> Prop) -> Prop
def PG (X:Cx) (target:Expr) (t:TG):Prop :=
 ∀ (pins:List (Addr × Obj)) (s:Shared) (σ:St) (H:Hp) (v:V) (u:Value) (Q:St -> Hp -> Prop),Ai X pins σ H s -> Aw v u -> t v σ H Q ->
  wpAny (model X.prog X.w) X.A (assign target X.env u) (fun _ s'=>∃ σ' H',Ai X pins σ' H' s' /\ Q σ' H') X.xe s
def jt (X:Cx) (ts:List Expr) (t:bm):Prop :=
 ∀ (pins:List (Addr × Obj)) (s:Shared) (σ:St) (H:Hp) (vs:List V) (us:List Value) (Q:St -> Hp -> Prop),Ai X pins σ H s -> Ay vs us -> t vs σ H Q ->
  wpAny (model X.prog X.w) X.A (assignInOrder ((assignEach ts X.env).map (·.2)) us) (fun _ s'=>∃ σ' H',Ai X pins σ' H' s' /\ Q σ' H') X.xe s
abbrev j0:=V -> V -> V -> Hp -> (Hp -> Prop) -> Prop
def jq (X:Cx) (t:j0):Prop :=
 ∀ (pins:List (Addr × Obj)) (s:Shared) (σ:St) (H:Hp) (o i v:V) (ov iv u:Value) (Q:Hp -> Prop),Ai X pins σ H s -> Aw o ov -> Aw i iv -> Aw v u -> t o i v H Q ->
  wpAny (model X.prog X.w) X.A (setItem ov iv u) (fun _ s'=>∃ H',Ai X pins σ H' s' /\ Q H') X.xe s
section
variable {X:Cx} {pos:Pos}
def Fd (i:Nat):TG:=fun v σ H Q=>Q (σ.set i (some v)) H
theorem Al {i:Nat} {x:Str} (hN:X.N.Nodup) (hi:X.N[i]? = some x) (hx:nj X.env.scope x) (hf:X.fn x = true \/ X.env.scope.names.lookup x = some .local:=by first | exact .inl rfl | exact .inr rfl | assumption):PG X (.Name x pos) (Fd i):=by
 intro pins s σ H v u Q I r h
 exact wpAny_assign_Name (Qg I hN hi hx r (fun s' I'=>⟨_,H,I',h⟩) hf)
def i8:bm:=fun vs σ H Q=>vs = [] /\ Q σ H
def N8 (t:TG) (u:bm):bm:=fun vs σ H Q=>∃ v r,vs = v :: r /\ t v σ H fun σ' H'=>u r σ' H' Q
theorem Ek:jt X [] i8:=by
 intro pins s σ H vs us Q I r h
 obtain ⟨e,h⟩ := h
 subst e
 cases r
 exact assignInOrder_nil ⟨σ,H,I,h⟩
theorem Bu {e : Expr} {es : List Expr} {t : TG} {u : bm} (h1 : PG X e t) (h2 : jt X es u)
  (hs:(assignEach (e :: es) X.env).map (·.2) = assign e X.env :: (assignEach es X.env).map (·.2):=by rfl):jt X (e :: es) (N8 t u):=by
 intro pins s σ H vs us Q I r h
 obtain ⟨v,vr,e1,h⟩ := h
 subst e1
 cases r with
 | cons r rr =>
  rw [hs]
  refine assignInOrder_cons (Ca (h1 pins s σ H _ _ _ I r h) fun _ s1 aJ=>?_)
  obtain ⟨σ1,H1,I1,q1⟩ := aJ
  exact h2 pins s1 σ1 H1 _ _ Q I1 rr q1
def b8 (K:PySem.W.Frag) (n:Nat) (t:bm):TG:=fun v σ H Q=>∃ a xs,v = .ref a /\ C7 K H a xs /\ xs.length = n /\ t xs σ H Q
theorem de {es : List Expr} {k : Nat} {t : bm} {n : Nat} (hc : X.calm = true) (h : jt X es t)
  (hn:(assignEach es X.env).length = n:=by rfl) (cE:(assignEach es X.env).findIdx? (·.1) = none:=by rfl):PG X (.Tuple es k pos) (b8 X.K n t):=by
 intro pins s σ H v u Q I r hw
 obtain ⟨a,xs,e1,hq,hl,hw⟩ := hw
 subst e1
 cases r
 obtain ⟨aA,rv,ht,hz⟩ := I.tuple hq
 refine assign_Tuple_tuple (I.ok.hd hc) ht (by simp [hn,<- hl,rv.length]) cE fun h' hx=>?_
 have I1:Ai X pins σ H { s with heap:=h' }:=I.kept (t':=s.toks) fun b o e=>hx b o (Nat.ne_of_lt (Heap.lt_size e)) e
 exact h pins _ σ H xs _ Q I1 (by simpa using rv) hw
def qy (to ti:TE) (t:j0):TG:=fun v σ H Q=>to σ H fun o H1=>ti σ H1 fun i H2=>t o i v H2 fun H3=>Q σ H3
theorem Yl {o i : Expr} {to ti : TE} {t : j0} (ho : PE X o to) (hi : PE X i ti) (hs : jq X t)
  (ha:∀ v,assign (.Subscript o i pos) X.env v = (do
   let ov <- holding [v] (eval o X.env)
   let iv <- holding [v,ov] (eval i X.env)
   standAt pos
   holding [v,ov,iv] (setItem ov iv v)
   release [v,ov,iv] []):=by intro _; rfl):PG X (.Subscript o i pos) (qy to ti t):=by
 intro pins s σ H v u Q I r h
 rw [ha]
 refine wpAny_bind (wpAny_holding (Ca (ho pins s σ H _ I h) fun ov s1 aJ=>?_))
 obtain ⟨x,H1,I1,r1,q1⟩ := aJ
 refine wpAny_bind (wpAny_holding (Ca (hi pins s1 σ H1 _ I1 q1) fun iv s2 aJ=>?_))
 obtain ⟨y,H2,I2,r2,q2⟩ := aJ
 refine wpAny_bind (wpAny_standAt (wpAny_bind (wpAny_holding (Ca (hs pins s2 σ H2 x y v ov iv u _ I2 r1 r2 r q2) fun _ s3 aJ=>?_))))
 obtain ⟨H3,I3,q3⟩ := aJ
 exact wpAny_release ⟨σ,H3,I3,q3⟩
def kh (te:TE) (g:TG):TS:=fun D σ H=>te σ H fun x H1=>g x σ H1 D.nx
theorem U3 {tg e : Expr} {te : TE} {g : TG} (he : PE X e te) (hg : PG X tg g) (hs : swapsWithSole [tg] e pos.line X.env = pure false := by rfl) (hw : swappedStores [tg] e X.env = pure none := by rfl)
  (h1:(assignEach [tg] X.env).map (·.2) = [assign tg X.env]:=by rfl):PS X (.Assign [tg] e pos) (kh te g):=by
 intro pins s σ H D I h
 refine wpAny_Assign_stores (Ca (he pins s σ H _ I h) fun v s1 ⟨x,H1,I1,r1,q1⟩=>?_) hs hw
 rw [h1]
 exact Ca (hg pins s1 σ H1 x v _ I1 r1 q1) fun _ s2 q=>q
theorem Ap {i : Nat} {x : Str} {e : Expr} {te : TE} {pos' : Pos} (hN : X.N.Nodup) (hi : X.N[i]? = some x) (hx : nj X.env.scope x) (he : PE X e te) (hs : swapsWith e (some (.Name x pos')) pos.line X.env = pure false := by rfl) (hf : X.fn x = true \/ X.env.scope.names.lookup x = some .local := by first | exact .inl rfl | exact .inr rfl | assumption) :
  PS X (.Assign [.Name x pos'] e pos) (kh te (Fd i)):=by
 intro pins s σ H D I h
 refine wpAny_Assign_Name (Ca (he pins s σ H _ I h) fun v s1 ⟨y,H1,I1,r1,q1⟩=>?_) hs
 exact Qg I1 hN hi hx r1 (fun s2 I2=>⟨_,H1,I2,q1⟩) hf
end
section
variable {X:Cx} {pos:Pos}
def Pg (c:TT) (tb:TS):TS:=fun D σ H=>∃ W:Nat -> St -> Hp -> Prop,(∃ m,W m σ H) /\ ∀ m σ H,W m σ H ->
 c σ H fun b H1=>if b = true then ∃ N:St -> Hp -> Prop,(∀ σ' H',N σ' H' -> ∃ m',m' < m /\ W m' σ' H') /\ tb { D with nx:=N,ct:=N,bk:=D.nx } σ H1 else D.nx σ H1
theorem Ip {c:Expr} {body:List Stmt} {tc:TT} {tb:TS} (hp:PassesOwn (model X.prog X.w) X.A X.env X.xe) (hc:PT X c tc) (hb:S7 X body tb):PS X (.While c body [] pos) (Pg tc tb):=by
 intro pins s σ H D I h
 obtain ⟨W,⟨m0,w0⟩,turn⟩ := h
 refine wpAny_While (codeAny_whileLoop (fun n s'=>∃ σ' H',Ai X pins σ' H' s' /\ W n σ' H') ?_ m0 ⟨σ,H,I,w0⟩)
 rintro n s1 ⟨σ1,H1,I1,w1⟩
 refine wpAny_passesOwn hp (Ca (hc pins s1 σ1 H1 _ I1 (turn n σ1 H1 w1)) fun b s2 aJ=>?_)
 obtain ⟨H2,I2,q2⟩ := aJ
 cases b with
 | true =>
  obtain ⟨N,hN,q2⟩ := q2
  rw [if_pos rfl]
  refine wpAny_passesOwn hp (Ca (hb pins s2 σ1 H2 _ I2 q2) fun f s3 q3=>?_)
  cases f with
  | next =>
   obtain ⟨σ3,H3,I3,n3⟩ := q3
   obtain ⟨m',hm,w3⟩ := hN σ3 H3 n3
   exact ⟨m',hm,σ3,H3,I3,w3⟩
  | cont =>
   obtain ⟨σ3,H3,I3,n3⟩ := q3
   obtain ⟨m',hm,w3⟩ := hN σ3 H3 n3
   exact ⟨m',hm,σ3,H3,I3,w3⟩
  | brk=>exact q3
  | ret v=>exact q3
 | false =>
  rw [if_neg Bool.false_ne_true]
  exact wpAny_execs_nil ⟨σ1,H2,I2,q2⟩
end
set_option genInjectivity false in
set_option genSizeOf false in
structure It where
 go:Nat -> Hp -> Prop
 wZ:Nat -> Hp -> V -> Hp -> Prop
 stop:Nat -> Hp -> Prop
def Lp (X:Cx) (pins:List (Addr × Obj)) (H:Hp) (b:Addr):Prop :=
 H b = none /\ b ≠ X.env.locals /\ b ∉ X.fs /\ (b ∈ X.ex \/ X.s₀.heap.objs.size <= b) /\ (∀ x c,X.env.cells.lookup x = some c -> c ≠ b) /\ ∀ p ∈ X.pn ++ pins,p.1 ≠ b
theorem Ai.jT {X:Cx} {pins:List (Addr × Obj)} {σ:St} {H H':Hp} {s:Shared} {b:Addr} (I:Ai X pins σ H s) (hb:s.heap.objs.size <= b) (hn:H' b = none):Lp X pins H' b:=by
 refine ⟨hn,Nat.ne_of_gt (Nat.lt_of_lt_of_le I.lt hb),I.UQ hb,.inr (Nat.le_trans I.sz hb),fun x c e z=>?_,fun p hp z=>?_⟩
 ·obtain ⟨v,q⟩ := I.cell x c e
  exact absurd (Nat.lt_of_lt_of_le q.lt (by rw [z]; exact hb)) (Nat.lt_irrefl _)
 ·exact absurd (Nat.lt_of_lt_of_le (Heap.lt_size (I.pin p hp).1) (by rw [z]; exact hb)) (Nat.lt_irrefl _)
structure S4 (P:Program) (w:World) (K:PySem.W.Frag) (tg:Expr) (J:It) (fp:List Addr) (it:Addr) (tn:Nat -> Heap -> Prop):Prop where
 mem:it ∈ fp
 obj:∀ i h,tn i h -> ∀ b ∈ fp,∃ o,h.get? b = some o /\ ∀ v,o.data ≠ .cell v
 keep:∀ i h h',tn i h -> (∀ b ∈ fp,∀ o,h.get? b = some o -> h'.get? b = some o) -> tn i h'
 item:∀ (X:Cx),X.prog = P -> X.w = w -> X.K = K -> X.calm = true -> ∀ (i:Nat) (pins:List (Addr × Obj)) (s:Shared) (σ:St) (H:Hp) (E:Value -> Shared -> Prop),Ai X pins σ H s -> (∀ b ∈ fp,Lp X pins H b) -> tn i s.heap -> J.go i H ->
  wpAny (model P w) X.A (pyNext (.ref it)) (fun r s1=>∃ u,r = some u /\
   wpAny (model P w) X.A (letOwnedTupleGo tg (.ref it) u) (fun _ s2=>∃ x H',Ai X pins σ H' s2 /\ Aw x u /\ J.wZ i H x H' /\ tn (i + 1) s2.heap /\ ∀ b ∈ fp,H' b = none) E s1) E s
 done:∀ (X:Cx),X.prog = P -> X.w = w -> X.K = K -> X.calm = true -> ∀ (i:Nat) (pins:List (Addr × Obj)) (s:Shared) (σ:St) (H:Hp) (E:Value -> Shared -> Prop),Ai X pins σ H s -> (∀ b ∈ fp,Lp X pins H b) -> tn i s.heap -> J.stop i H ->
  wpAny (model P w) X.A (pyNext (.ref it)) (fun r s1=>r = none /\ Ai X pins σ H s1) E s
 self:∀ (A:Around) (i:Nat) (s:Shared) (Q:Value -> Shared -> Prop) (E:Value -> Shared -> Prop),tn i s.heap -> Q (.ref it) s -> wpAny (model P w) A (pyIter (.ref it)) Q E s
abbrev TI:=St -> Hp -> (It -> Hp -> Prop) -> Prop
def qu (X:Cx) (pins:List (Addr × Obj)) (σ:St) (tg:Expr) (R:It -> Hp -> Prop) (RQ:Value) (s2:Shared):Prop :=
 ∃ (it:Addr) (fp:List Addr) (tn:Nat -> Heap -> Prop) (J:It) (H':Hp),RQ = .ref it /\ Ai X pins σ H' s2 /\ S4 X.prog X.w X.K tg J fp it tn /\ tn 0 s2.heap /\ (∀ b ∈ fp,Lp X pins H' b) /\ R J H'
def PI (X:Cx) (tg iter:Expr) (wi:TI):Prop :=
 ∀ (pins:List (Addr × Obj)) (s:Shared) (σ:St) (H:Hp) (R:It -> Hp -> Prop),Ai X pins σ H s -> wi σ H R ->
  wpAny (model X.prog X.w) X.A (eval iter X.env) (fun v s1=>wpAny (model X.prog X.w) X.A (pyIter v) (qu X pins σ tg R) X.xe s1) X.xe s
theorem Us {M : Model} {A : Around} {E : Value -> Shared -> Prop} {s : Shared} {tg : Expr} {it : Addr} {u : Value} {o : Obj} {n : String} {vs : Array Value} {Q : Unit -> Shared -> Prop} (ho : s.heap.get? it = some o) (hc : o.cls = .type n) (hd : o.data = .fields vs)
  (hn:["enumerate","zip","dict_itemiterator","dict_reverseitemiterator","odict_iterator","itertools.zip_longest","itertools.pairwise"].contains n = false) (hQ:Q () s):wpAny M A (letOwnedTupleGo tg (.ref it) u) Q E s:=by
 unfold letOwnedTupleGo
 cases tg <;> first
  | exact wpAny_pure hQ
  | (cases u <;> first
    | exact wpAny_pure hQ
    | (refine wpAny_bind (wpAny_load ho ?_)
       rw [hc,hd]
       show wpAny M A (if (["enumerate","zip","dict_itemiterator","dict_reverseitemiterator","odict_iterator","itertools.zip_longest","itertools.pairwise"].contains n && vs[0]? == some (rawInt _)) = true then _ else _) Q E s
       rw [if_neg (by intro h; rw [hn,Bool.false_and] at h; cases h)]
       exact wpAny_pure hQ))
def dy (K:PySem.W.Frag) (a:Addr):It :=
 ⟨fun i H=>∃ xs x,Ba K H a xs /\ xs[i]? = some x,fun i H x H'=>H' = H /\ ∀ xs,Ba K H a xs -> xs[i]? = some x,fun i H=>∃ xs,Ba K H a xs /\ xs.length <= i⟩
def jo (K:PySem.W.Frag) (a:Addr):It :=
 ⟨fun i H=>∃ xs x,C7 K H a xs /\ xs[i]? = some x,fun i H x H'=>H' = H /\ ∀ xs,C7 K H a xs -> xs[i]? = some x,fun i H=>∃ xs,C7 K H a xs /\ xs.length <= i⟩
def dc (lo:Int) (n:Nat):It:=⟨fun i _=>i < n,fun i H x H'=>H' = H /\ x = .int (lo + i),fun i _=>n <= i⟩
theorem Wr {P:Program} {w:World} {K:PySem.W.Frag} {tg:Expr} (a it:Addr):S4 P w K tg (dy K a) [it] it (fun i h=>h.IsListIter it a i) where
 mem:=by simp
 obj:=fun i h st b hb=>by
  have e:b = it:=by simpa using hb
  subst e
  obtain ⟨o,e,c,d⟩ := st
  exact ⟨o,e,fun v z=>by rw [d] at z; cases z⟩
 keep:=fun i h h' st k=>st.at fun o e=>k it (by simp) o e
 item:=by
  intro X hP hw hK hc i pins s σ H E I hf st hg
  subst hP hw hK
  obtain ⟨xs,x,hq,hx⟩ := hg
  obtain ⟨aA,rv,p,hz⟩ := I.list hq
  obtain ⟨u,hu,ru⟩ := rv.get hx
  obtain ⟨f0,f1,f2,f3,f4,f5⟩ := hf it (by simp)
  refine wpAny_pyNext_list_item st p.isList (x:=u) (by simpa using hu) fun h' aE sb=>?_
  have I1:Ai X pins σ H { s with heap:=h' }:=I.turned (t':=s.toks) (fun b o hb e=>(sb.2 b hb).trans e) f0 f1 f3 f4 f5
  obtain ⟨o,e,c,d⟩ := id aE
  exact ⟨u,rfl,Us (s:={ s with heap:=h' }) e c d (by decide) ⟨x,H,I1,ru,⟨rfl,fun ys hy=>by rw [I.iO hy hq]; exact hx⟩,aE,fun b hb=>(hf b hb).1⟩⟩
 done:=by
  intro X hP hw hK hc i pins s σ H E I hf st hg
  subst hP hw hK
  obtain ⟨xs,hq,hx⟩ := hg
  obtain ⟨aA,rv,p,hz⟩ := I.list hq
  obtain ⟨f0,f1,f2,f3,f4,f5⟩ := hf it (by simp)
  have hl:=rv.length
  exact wpAny_pyNext_list_end (I.ok.hd hc) st p.isList (by simp; omega) fun h' eb=>⟨rfl,I.turned (t':=s.toks) (fun b o hb e=>eb b o hb e) f0 f1 f3 f4 f5⟩
 self:=fun _ _ _ _ _ st h=>wpAny_pyIter_listiter st h
theorem Sx {P:Program} {w:World} {K:PySem.W.Frag} {tg:Expr} (a it:Addr):S4 P w K tg (jo K a) [it] it (fun i h=>h.IsTupleIter it a i) where
 mem:=by simp
 obj:=fun i h st b hb=>by
  have e:b = it:=by simpa using hb
  subst e
  obtain ⟨o,e,c,d⟩ := st
  exact ⟨o,e,fun v z=>by rw [d] at z; cases z⟩
 keep:=fun i h h' st k=>st.at fun o e=>k it (by simp) o e
 item:=by
  intro X hP hw hK hc i pins s σ H E I hf st hg
  subst hP hw hK
  obtain ⟨xs,x,hq,hx⟩ := hg
  obtain ⟨aA,rv,p,hz⟩ := I.tuple hq
  obtain ⟨u,hu,ru⟩ := rv.get hx
  obtain ⟨f0,f1,f2,f3,f4,f5⟩ := hf it (by simp)
  refine wpAny_pyNext_tuple_item st (show s.heap.IsTuple a aA.toArray from p) (x:=u) (by simpa using hu) fun h' aE sb=>?_
  have I1:Ai X pins σ H { s with heap:=h' }:=I.turned (t':=s.toks) (fun b o hb e=>(sb.2 b hb).trans e) f0 f1 f3 f4 f5
  obtain ⟨o,e,c,d⟩ := id aE
  exact ⟨u,rfl,Us (s:={ s with heap:=h' }) e c d (by decide) ⟨x,H,I1,ru,⟨rfl,fun ys hy=>by rw [I.gI hy hq]; exact hx⟩,aE,fun b hb=>(hf b hb).1⟩⟩
 done:=by
  intro X hP hw hK hc i pins s σ H E I hf st hg
  subst hP hw hK
  obtain ⟨xs,hq,hx⟩ := hg
  obtain ⟨aA,rv,p,hz⟩ := I.tuple hq
  obtain ⟨f0,f1,f2,f3,f4,f5⟩ := hf it (by simp)
  have hl:=rv.length
  exact wpAny_pyNext_tuple_end (I.ok.hd hc) st (show s.heap.IsTuple a aA.toArray from p) (by simp; omega) fun h' eb=>⟨rfl,I.turned (t':=s.toks) (fun b o hb e=>eb b o hb e) f0 f1 f3 f4 f5⟩
 self:=fun _ _ _ _ _ st h=>wpAny_pyIter_tupleiter st h
theorem Ts {P:Program} {w:World} {K:PySem.W.Frag} {tg:Expr} (it:Addr) (lo:Int) (n:Nat):S4 P w K tg (dc lo n) [it] it (fun i h=>IsRangeIter h it (lo + (i:Nat) * 1) ((n:Int) - (i:Nat)) 1) where
 mem:=by simp
 obj:=fun i h st b hb=>by
  have e:b = it:=by simpa using hb
  subst e
  exact ⟨_,st,fun v z=>by
   have z':Data.fields _ = Data.cell v:=z
   cases z'⟩
 keep:=fun i h h' st k=>k it (by simp) _ st
 item:=by
  intro X hP hw hK hc i pins s σ H E I hf st hg
  subst hP hw hK
  obtain ⟨f0,f1,f2,f3,f4,f5⟩ := hf it (by simp)
  have W:=Walks.range (prog:=X.prog) (w:=X.w) (I.ok.hd hc) it lo 1 n
  refine W.item i s _ _ hg st fun v h' tk hv aE kk=>?_
  obtain ⟨t,rfl⟩ := hv
  have I1:Ai X pins σ H { s with heap:=h',toks:=tk }:=I.turned (fun b o hb e=>kk b o (by simpa using hb) e) f0 f1 f3 f4 f5
  refine ⟨_,rfl,Us (s:={ s with heap:=h',toks:=tk }) (n := "range_iterator") aE rfl rfl (by decide) ⟨.int (lo + i),H,I1,⟨t,?_⟩,⟨rfl,rfl⟩,aE,fun b hb=>(hf b hb).1⟩⟩
  rw [Int.mul_one]
 done:=by
  intro X hP hw hK hc i pins s σ H E I hf st hg
  subst hP hw hK
  obtain ⟨f0,f1,f2,f3,f4,f5⟩ := hf it (by simp)
  exact wpAny_pyNext_range_end (I.ok.hd hc) st (by have:n <= i:=hg; omega) fun h' eb=>⟨rfl,I.turned (t':=s.toks) (fun b o hb e=>eb b o hb e) f0 f1 f3 f4 f5⟩
 self:=fun _ _ _ _ _ st h=>wpAny_pyIter_rangeiter st h
section
variable {X:Cx} {tg:Expr}
theorem Qz {pins : List (Addr × Obj)} {σ : St} {H : Hp} {s : Shared} {R : It -> Hp -> Prop} {E : Value -> Shared -> Prop} {lo hi : Int} {t u v : Tok} {tk : Nat} (I : Ai X pins σ H s) (h1 : -(2 ^ 62) <= lo) (h2 : lo < 2 ^ 62) (h3 : -(2 ^ 62) <= hi) (h4 : hi < 2 ^ 62)
  (q:R (dc lo (hi - lo).toNat) H):wpAny (model X.prog X.w) X.A (pyIter (.ref s.heap.objs.size)) (qu X pins σ tg R) E { s with heap:=s.heap.push { cls := .type "range",data := .fields #[.int lo t,.int hi u,.int 1 v] },toks:=tk }:=by
 refine wpAny_pyIter_range (IsRange.new ..) (small_one h1 h2 h3 h4) ?_
 have I1:Ai X pins σ H { s with heap:=s.heap.push { cls := .type "range",data := .fields #[.int lo t,.int hi u,.int 1 v] },toks:=tk }:=I.kept fun b o e=>Heap.get?_push_of_some _ e
 refine ⟨(s.heap.push { cls := .type "range",data := .fields #[.int lo t,.int hi u,.int 1 v] }).objs.size,[(s.heap.push { cls := .type "range",data := .fields #[.int lo t,.int hi u,.int 1 v] }).objs.size],_,_,H,rfl,
  I1.kept (t':=tk) fun b o e=>Heap.get?_push_of_some _ e,Ts _ lo (hi - lo).toNat,?_,fun b hb=>?_,q⟩
 ·have e1:lo + ((0:Nat):Int) * 1 = lo:=by simp
  have e2:(((hi - lo).toNat:Nat):Int) - ((0:Nat):Int) = Builtin.Range.rangeSize lo hi 1:=by rw [rangeSize_one]; split <;> omega
  show IsRangeIter _ _ (lo + ((0:Nat):Int) * 1) ((((hi - lo).toNat:Nat):Int) - ((0:Nat):Int)) 1
  rw [e1,e2]
  exact Heap.get?_push_size _ rfl
 ·have e:b = (s.heap.push { cls := .type "range",data := .fields #[.int lo t,.int hi u,.int 1 v] }).objs.size:=by simpa using hb
  subst e
  exact I1.jT (Nat.le_refl _) (I1.aC.fresh (Nat.le_refl _))
def ms (ta:TA):TI:=fun σ H R=>ta σ H fun vs H1=>∃ j:Int,vs = [.int j] /\ -(2 ^ 62) <= j /\ j < 2 ^ 62 /\ R (dc 0 j.toNat) H1
def lr (ta:TA):TI:=fun σ H R=>ta σ H fun vs H1=>∃ i j:Int,vs = [.int i,.int j] /\ (-(2 ^ 62) <= i /\ i < 2 ^ 62 /\ -(2 ^ 62) <= j /\ j < 2 ^ 62) /\ R (dc i (j - i).toNat) H1
theorem Db {a:Expr} {ta:TA} {p pos:Pos} (hg:Gl X "range") (hm:X.mg "range" = none) (ha:PA X [a] ta) (hs:starEach [a] X.env = [(false,eval a X.env)]:=by rfl):PI X tg (.Call (.Name "range" p) [a] [] pos) (ms ta):=by
 intro pins s σ H R I h
 refine Call_ (Jm I hg hm boot_range (PyProof.Rows.callWith_type1 (Ca (ha pos pins s σ H _ I h) fun us s1 ⟨vs,H1,I1,r1,q1⟩=>?_) hs rfl))
 obtain ⟨j,e,q1,q2,q⟩ := q1
 subst e
 cases r1 with
 | cons r rr =>
  cases rr
  obtain ⟨t,rfl⟩ := r
  exact call_range_1 (Qz I1 (by omega) (by omega) q1 q2 (by simpa using q))
theorem Xc {a b : Expr} {ta : TA} {p pos : Pos} (hg : Gl X "range") (hm : X.mg "range" = none) (ha : PA X [a, b] ta) (hs : starEach [a, b] X.env = [(false, eval a X.env), (false, eval b X.env)] := by rfl) (sS : starEach [b] X.env = [(false, eval b X.env)] := by rfl) :
  PI X tg (.Call (.Name "range" p) [a,b] [] pos) (lr ta):=by
 intro pins s σ H R I h
 refine Call_ (Jm I hg hm boot_range (PyProof.Rows.callWith_type1 (Ca (ha pos pins s σ H _ I h) fun us s1 ⟨vs,H1,I1,r1,q1⟩=>?_) (by rw [hs,sS]) (by rw [sS]; rfl)))
 obtain ⟨i,j,e,⟨q1,q2,q3,q4⟩,q⟩ := q1
 subst e
 cases r1 with
 | cons r rr =>
  cases rr with
  | cons r' rr =>
   cases rr
   obtain ⟨t,rfl⟩ := r
   obtain ⟨t',rfl⟩ := r'
   exact call_range_2 (Qz I1 q1 q2 q3 q4 q)
def qc (wi:TI) (g:TG) (tb:TS):TS:=fun D σ H=>wi σ H fun J H1=>∃ W:Nat -> Nat -> St -> Hp -> Prop,(∃ m,W 0 m σ H1) /\ ∀ i m σ H,W i m σ H ->
 (J.stop i H /\ D.nx σ H) \/ (J.go i H /\ ∃ N:St -> Hp -> Prop,(∀ σ' H',N σ' H' -> ∃ m',m' < m /\ W (i + 1) m' σ' H') /\ ∀ x H',J.wZ i H x H' -> g x σ H' fun σ2 H2=>tb { D with nx:=N,ct:=N,bk:=D.nx } σ2 H2)
def Ls (fp:List Addr) (h:Heap):List (Addr × Obj):=fp.filterMap fun b=>(h.get? b).map fun o=>(b,o)
theorem Fq {fp:List Addr} {h:Heap} {b:Addr} {o:Obj} (hb:b ∈ fp) (e:h.get? b = some o):(b,o) ∈ Ls fp h:=List.mem_filterMap.mpr ⟨b,hb,by rw [e]; rfl⟩
theorem Ws {fp:List Addr} {h:Heap} {p:Addr × Obj} (hp:p ∈ Ls fp h):p.1 ∈ fp /\ h.get? p.1 = some p.2:=by
 obtain ⟨b,hb,e⟩ := List.mem_filterMap.mp hp
 cases q:h.get? b with
 | none=>rw [q] at e; cases e
 | some o =>
  rw [q] at e
  have e':(b,o) = p:=Option.some.inj e
  subst e'
  exact ⟨hb,q⟩
theorem Ai.pinned {pins:List (Addr × Obj)} {σ:St} {H:Hp} {s:Shared} {fp:List Addr} (I:Ai X pins σ H s) (hf:∀ b ∈ fp,Lp X pins H b) (ho:∀ b ∈ fp,∃ o,s.heap.get? b = some o /\ ∀ v,o.data ≠ .cell v):Ai X (pins ++ Ls fp s.heap) σ H s :=
 I.kQ fun p hp=>(List.mem_append.mp hp).elim (fun z=>I.pin p (List.mem_append_right _ z)) fun z=>by
  obtain ⟨hb,e⟩ := Ws z
  obtain ⟨f0,f1,f2,_⟩ := hf p.1 hb
  obtain ⟨o,e',d⟩ := ho p.1 hb
  rw [e] at e'; cases e'
  exact ⟨e,f0,f1,f2,d⟩
theorem Ai.dD {pins pl:List (Addr × Obj)} {σ:St} {H:Hp} {s:Shared} (I:Ai X (pins ++ pl) σ H s):Ai X pins σ H s:=I.kQ fun p hp=>I.pin p (List.mem_append_right _ (List.mem_append_left _ hp))
theorem Ck {iter : Expr} {body : List Stmt} {wi : TI} {g : TG} {tb : TS} {pos : Pos} (hp : PassesOwn (model X.prog X.w) X.A X.env X.xe) (hc : X.calm = true) (hi : PI X tg iter wi) (hg : PG X tg g) (hb : S7 X body tb)
  (hs:∀ x,foldedSetIterable iter X.env x = pure x:=by intro _; rfl):PS X (.For tg iter body [] pos) (qc wi g tb):=by
 intro pins s σ H D I h
 refine wpAny_For (Ca (hi pins s σ H _ I h) fun v s1 h1=>Ca h1 fun RQ s2 h2=>?_) hs
 obtain ⟨it,fp,tn,J,H2,e,I2,T,aH,f2,W,⟨m0,w0⟩,turn⟩ := h2
 subst e
 have stat:∀ {H':Hp},(∀ b ∈ fp,H' b = none) -> ∀ b ∈ fp,Lp X pins H' b:=fun hn b hb=>⟨hn b hb,(f2 b hb).2⟩
 refine codeAny_forLoop_any (fun n s'=>∃ i σ' H',Ai X pins σ' H' s' /\ tn i s'.heap /\ (∀ b ∈ fp,H' b = none) /\ W i n σ' H') ?_ m0 ⟨0,σ,H2,I2,aH,fun b hb=>(f2 b hb).1,w0⟩
 rintro n s3 ⟨i,σ3,H3,I3,fB,RS,w3⟩
 rcases turn i n σ3 H3 w3 with ⟨stop,qn⟩ | ⟨go,N,hN,step⟩
 ·refine wpAny_passesOwn hp (Ca (T.done X rfl rfl rfl hc i pins s3 σ3 H3 X.xe I3 (stat RS) fB stop) fun r s4 aJ=>?_)
  obtain ⟨hr,I4⟩ := aJ
  subst hr
  exact wpAny_execs_nil ⟨σ3,H3,I4,qn⟩
 ·refine wpAny_passesOwn hp (Ca (T.item X rfl rfl rfl hc i pins s3 σ3 H3 X.xe I3 (stat RS) fB go) fun r s4 aJ=>?_)
  obtain ⟨u,hr,h4⟩ := aJ
  subst hr
  refine wpAny_passesOwn hp (Ca h4 fun _ s5 aJ=>?_)
  obtain ⟨x,H5,I5,r5,y5,xb,fr5⟩ := aJ
  have I5':=I5.pinned (stat fr5) (T.obj _ _ xb)
  refine wpAny_passesOwn hp (Ca (hg _ s5 σ3 H5 x u _ I5' r5 (step x H5 y5)) fun _ s6 aJ=>?_)
  obtain ⟨σ6,H6,I6,q6⟩ := aJ
  refine wpAny_passesOwn hp (Ca (hb _ s6 σ6 H6 _ I6 q6) fun f s7 q7=>?_)
  have again:∀ {σ7:St} {H7:Hp},Ai X (pins ++ Ls fp s5.heap) σ7 H7 s7 -> N σ7 H7 -> ∃ m,m < n /\ ∃ i σ' H',Ai X pins σ' H' s7 /\ tn i s7.heap /\ (∀ b ∈ fp,H' b = none) /\ W i m σ' H':=fun {σ7 H7} I7 n7=>by
   obtain ⟨m',hm,w7⟩ := hN σ7 H7 n7
   refine ⟨m',hm,i + 1,σ7,H7,I7.dD,T.keep _ _ _ xb fun b hb o e=>(I7.pin (b,o) (List.mem_append_right _ (List.mem_append_right _ (Fq hb e)))).1,fun b hb=>?_,w7⟩
   obtain ⟨o,e,d⟩ := T.obj _ _ xb b hb
   exact (I7.pin (b,o) (List.mem_append_right _ (List.mem_append_right _ (Fq hb e)))).2.1
  cases f with
  | next=>obtain ⟨σ7,H7,I7,n7⟩ := q7; exact again I7 n7
  | cont=>obtain ⟨σ7,H7,I7,n7⟩ := q7; exact again I7 n7
  | brk=>obtain ⟨σ7,H7,I7,q7⟩ := q7; exact ⟨σ7,H7,I7.dD,q7⟩
  | ret v=>obtain ⟨x7,σ7,H7,I7,r7,q7⟩ := q7; exact ⟨x7,σ7,H7,I7.dD,r7,q7⟩
end
theorem Cq {K : PySem.W.Frag} {a : Addr} {xs : List V} {g : TG} {tb : TS} {D : Hn} {σ : St} {H : Hp} (Pv : Nat -> St -> Hp -> Prop) (h0 : Pv 0 σ H) (hl : ∀ i σ H, i <= xs.length -> Pv i σ H -> Ba K H a xs)
  (hs:∀ i x σ H,xs[i]? = some x -> Pv i σ H -> g x σ H fun σ2 H2=>tb { D with nx:=Pv (i + 1),ct:=Pv (i + 1),bk:=D.nx } σ2 H2) (hd:∀ σ H,Pv xs.length σ H -> D.nx σ H) :
  ∃ W:Nat -> Nat -> St -> Hp -> Prop,(∃ m,W 0 m σ H) /\ ∀ i m σ H,W i m σ H ->
   ((dy K a).stop i H /\ D.nx σ H) \/ ((dy K a).go i H /\ ∃ N:St -> Hp -> Prop,(∀ σ' H',N σ' H' -> ∃ m',m' < m /\ W (i + 1) m' σ' H') /\ ∀ x H',(dy K a).wZ i H x H' -> g x σ H' fun σ2 H2=>tb { D with nx:=N,ct:=N,bk:=D.nx } σ2 H2):=by
 refine ⟨fun i m σ H=>m = xs.length - i /\ i <= xs.length /\ Pv i σ H,⟨xs.length,by simp,Nat.zero_le _,h0⟩,?_⟩
 rintro i m σ H ⟨rfl,hi,p⟩
 have q:=hl i σ H hi p
 by_cases aI:i < xs.length
 ·refine .inr ⟨⟨xs,xs[i],q,by simp [aI]⟩,Pv (i + 1),fun σ' H' p'=>⟨xs.length - (i + 1),by omega,rfl,aI,p'⟩,fun x H' y=>?_⟩
  obtain ⟨e,y⟩ := y
  subst e
  exact hs i x σ _ (y xs q) p
 ·have e:i = xs.length:=by omega
  subst e
  exact .inl ⟨⟨xs,q,Nat.le_refl _⟩,hd σ H p⟩
theorem Uu {K : PySem.W.Frag} {a : Addr} {xs : List V} {g : TG} {tb : TS} {D : Hn} {σ : St} {H : Hp} (Pv : Nat -> St -> Hp -> Prop) (h0 : Pv 0 σ H) (hl : ∀ i σ H, i <= xs.length -> Pv i σ H -> C7 K H a xs)
  (hs:∀ i x σ H,xs[i]? = some x -> Pv i σ H -> g x σ H fun σ2 H2=>tb { D with nx:=Pv (i + 1),ct:=Pv (i + 1),bk:=D.nx } σ2 H2) (hd:∀ σ H,Pv xs.length σ H -> D.nx σ H) :
  ∃ W:Nat -> Nat -> St -> Hp -> Prop,(∃ m,W 0 m σ H) /\ ∀ i m σ H,W i m σ H ->
   ((jo K a).stop i H /\ D.nx σ H) \/ ((jo K a).go i H /\ ∃ N:St -> Hp -> Prop,(∀ σ' H',N σ' H' -> ∃ m',m' < m /\ W (i + 1) m' σ' H') /\ ∀ x H',(jo K a).wZ i H x H' -> g x σ H' fun σ2 H2=>tb { D with nx:=N,ct:=N,bk:=D.nx } σ2 H2):=by
 refine ⟨fun i m σ H=>m = xs.length - i /\ i <= xs.length /\ Pv i σ H,⟨xs.length,by simp,Nat.zero_le _,h0⟩,?_⟩
 rintro i m σ H ⟨rfl,hi,p⟩
 have q:=hl i σ H hi p
 by_cases aI:i < xs.length
 ·refine .inr ⟨⟨xs,xs[i],q,by simp [aI]⟩,Pv (i + 1),fun σ' H' p'=>⟨xs.length - (i + 1),by omega,rfl,aI,p'⟩,fun x H' y=>?_⟩
  obtain ⟨e,y⟩ := y
  subst e
  exact hs i x σ _ (y xs q) p
 ·have e:i = xs.length:=by omega
  subst e
  exact .inl ⟨⟨xs,q,Nat.le_refl _⟩,hd σ H p⟩
theorem Jn {lo : Int} {n : Nat} {g : TG} {tb : TS} {D : Hn} {σ : St} {H : Hp} (Pv : Nat -> St -> Hp -> Prop) (h0 : Pv 0 σ H)
  (hs:∀ i σ H,i < n -> Pv i σ H -> g (.int (lo + i)) σ H fun σ2 H2=>tb { D with nx:=Pv (i + 1),ct:=Pv (i + 1),bk:=D.nx } σ2 H2) (hd:∀ σ H,Pv n σ H -> D.nx σ H) :
  ∃ W:Nat -> Nat -> St -> Hp -> Prop,(∃ m,W 0 m σ H) /\ ∀ i m σ H,W i m σ H ->
   ((dc lo n).stop i H /\ D.nx σ H) \/ ((dc lo n).go i H /\ ∃ N:St -> Hp -> Prop,(∀ σ' H',N σ' H' -> ∃ m',m' < m /\ W (i + 1) m' σ' H') /\ ∀ x H',(dc lo n).wZ i H x H' -> g x σ H' fun σ2 H2=>tb { D with nx:=N,ct:=N,bk:=D.nx } σ2 H2):=by
 refine ⟨fun i m σ H=>m = n - i /\ i <= n /\ Pv i σ H,⟨n,by simp,Nat.zero_le _,h0⟩,?_⟩
 rintro i m σ H ⟨rfl,hi,p⟩
 by_cases aI:i < n
 ·refine .inr ⟨aI,Pv (i + 1),fun σ' H' p'=>⟨n - (i + 1),by omega,rfl,aI,p'⟩,fun x H' y=>?_⟩
  obtain ⟨e,y⟩ := y
  subst e y
  exact hs i σ _ aI p
 ·have e:i = n:=by omega
  subst e
  exact .inl ⟨Nat.le_refl _,hd σ H p⟩
theorem Id {c : TT} {tb : TS} {D : Hn} {σ : St} {H : Hp} (Pv : St -> Hp -> Prop) (μ : St -> Hp -> Nat) (h0 : Pv σ H)
  (hs:∀ σ H,Pv σ H -> c σ H fun b H1=>if b = true then tb { D with nx:=fun σ' H'=>Pv σ' H' /\ μ σ' H' < μ σ H,ct:=fun σ' H'=>Pv σ' H' /\ μ σ' H' < μ σ H,bk:=D.nx } σ H1 else D.nx σ H1)
  (mono:∀ σ H Q Q',(∀ b H1,Q b H1 -> Q' b H1) -> c σ H Q -> c σ H Q'):Pg c tb D σ H:=by
 refine ⟨fun m σ H=>m = μ σ H /\ Pv σ H,⟨_,rfl,h0⟩,?_⟩
 rintro m σ H ⟨rfl,p⟩
 refine mono σ H _ _ (fun b H1 q=>?_) (hs σ H p)
 cases b with
 | true=>exact ⟨_,fun σ' H' ⟨p',l⟩=>⟨_,l,rfl,p'⟩,q⟩
 | false=>exact q
abbrev R2:=V -> V -> Hp -> VK -> Prop
def K1 (X:Cx) (f:Value -> Value -> Sem Value) (r:R2):Prop :=
 ∀ (pins:List (Addr × Obj)) (s:Shared) (σ:St) (H:Hp) (x y:V) (v u:Value) (Q:VK),Ai X pins σ H s -> Aw x v -> Aw y u -> r x y H Q ->
  wpAny (model X.prog X.w) X.A (f v u) (EP X pins σ Q) X.xe s
def ox (X:Cx) (f:Value -> Sem Value) (r:V -> Hp -> VK -> Prop):Prop :=
 ∀ (pins:List (Addr × Obj)) (s:Shared) (σ:St) (H:Hp) (x:V) (v:Value) (Q:VK),Ai X pins σ H s -> Aw x v -> r x H Q ->
  wpAny (model X.prog X.w) X.A (f v) (EP X pins σ Q) X.xe s
def Dl (X:Cx) (f:Value) (r:List V -> Hp -> VK -> Prop):Prop :=
 ∀ (pins:List (Addr × Obj)) (s:Shared) (σ:St) (H:Hp) (xs:List V) (us:List Value) (Q:VK),Ai X pins σ H s -> Ay xs us -> r xs H Q ->
  wpAny (model X.prog X.w) X.A (call f us) (EP X pins σ Q) X.xe s
def qz (X:Cx) (r:V -> Hp -> (Bool -> Hp -> Prop) -> Prop):Prop :=
 ∀ (pins:List (Addr × Obj)) (s:Shared) (σ:St) (H:Hp) (x:V) (v:Value) (Q:Bool -> Hp -> Prop),Ai X pins σ H s -> Aw x v -> r x H Q ->
  wpAny (model X.prog X.w) X.A (truthy v) (TP X pins σ Q) X.xe s
def nq (r:R2) (ta tb:TE):TE:=fun σ H Q=>ta σ H fun x H1=>tb σ H1 fun y H2=>r x y H2 Q
def uu (r:V -> Hp -> VK -> Prop) (ta:TE):TE:=fun σ H Q=>ta σ H fun x H1=>r x H1 Q
def rI (C:Int -> Int -> Prop) (g:Int -> Int -> V):R2:=fun x y H Q=>∃ i j,x = .int i /\ y = .int j /\ C i j /\ Q (g i j) H
def i5 (g:Int -> Int -> V):R2:=fun x y H Q=>∃ i j,x = .int i /\ y = .int j /\ Q (g i j) H
def rU (g:Int -> V):V -> Hp -> VK -> Prop:=fun x H Q=>∃ i,x = .int i /\ Q (g i) H
section
variable {X:Cx} {a b c:Expr} {ta tb tc:TE} {pos:Pos}
theorem gc (ha : PE X a ta) (hb : PE X b tb) {pins : List (Addr × Obj)} {s : Shared} {σ : St} {H : Hp} {R : V -> V -> Hp -> Prop} (I : Ai X pins σ H s)
  (h:ta σ H fun x H1=>tb σ H1 fun y H2=>R x y H2) {Q:Value -> Shared -> Prop} {f:Value -> Value -> Sem Value}
  (hf:∀ v u s2 x y H2,Ai X pins σ H2 s2 -> Aw x v -> Aw y u -> R x y H2 -> wpAny (model X.prog X.w) X.A (f v u) Q X.xe s2) :
  wpAny (model X.prog X.w) X.A (eval a X.env) (fun v s₁=>wpAny (model X.prog X.w) X.A (eval b X.env) (fun u s₂=>wpAny (model X.prog X.w) X.A (f v u) Q X.xe s₂) X.xe s₁) X.xe s:=by
 refine Ca (ha pins s σ H _ I h) fun v s1 aJ=>?_
 obtain ⟨x,H1,I1,r1,q1⟩ := aJ
 refine Ca (hb pins s1 σ H1 _ I1 q1) fun u s2 aJ=>?_
 obtain ⟨y,H2,I2,r2,q2⟩ := aJ
 exact hf v u s2 x y H2 I2 r1 r2 q2
theorem B6 {op:Operator} {r:R2} (ho:K1 X (binaryOp op) r) (ha:PE X a ta) (hb:PE X b tb):PE X (.BinOp a op b pos) (nq r ta tb):=by
 intro pins s σ H Q I h
 exact wpAny_BinOp (gc ha hb I h fun v u s2 x y H2 I2 rx ry q=>ho pins s2 σ H2 x y v u Q I2 rx ry q)
theorem l0 {op:UnaryOp} {r:V -> Hp -> VK -> Prop} (ho:ox X (unaryOp op) r) (ha:PE X a ta):PE X (.UnaryOp op a pos) (uu r ta):=by
 intro pins s σ H Q I h
 exact UnaryOp_ (Ca (ha pins s σ H _ I h) fun v s1 ⟨x,H1,I1,r1,q1⟩=>ho pins s1 σ H1 x v Q I1 r1 q1)
theorem qb {f : Value -> Value -> Sem Value} {C : Int -> Int -> Prop} {g : Int -> Int -> Int}
  (rule:∀ (i j:Int) (t u:Tok) (s:Shared) (Q:Value -> Shared -> Prop) (E:Value -> Shared -> Prop),C i j -> Q (.int (g i j) s.toks) { s with toks:=s.toks + 1 } -> wpAny (model X.prog X.w) X.A (f (.int i t) (.int j u)) Q E s) :
  K1 X f (rI C fun i j=>.int (g i j)):=by
 intro pins s σ H x y v u Q I rx ry h
 obtain ⟨i,j,rfl,rfl,hc,q⟩ := h
 obtain ⟨t,rfl⟩ := rx
 obtain ⟨t',rfl⟩ := ry
 exact rule i j t t' s _ _ hc ⟨.int (g i j),H,I.tok _,⟨_,rfl⟩,q⟩
theorem ki {f : Value -> Value -> Sem Value} {g : Int -> Int -> Int}
  (rule:∀ (i j:Int) (t u:Tok) (s:Shared) (Q:Value -> Shared -> Prop) (E:Value -> Shared -> Prop),Q (.int (g i j) s.toks) { s with toks:=s.toks + 1 } -> wpAny (model X.prog X.w) X.A (f (.int i t) (.int j u)) Q E s) :
  K1 X f (i5 fun i j=>.int (g i j)):=by
 intro pins s σ H x y v u Q I rx ry h
 obtain ⟨i,j,rfl,rfl,q⟩ := h
 obtain ⟨t,rfl⟩ := rx
 obtain ⟨t',rfl⟩ := ry
 exact rule i j t t' s _ _ ⟨.int (g i j),H,I.tok _,⟨_,rfl⟩,q⟩
theorem gq {f : Value -> Value -> Sem Value} {g : Int -> Int -> Bool}
  (rule:∀ (i j:Int) (t u:Tok) (s:Shared) (Q:Value -> Shared -> Prop) (E:Value -> Shared -> Prop),Q (.bool (g i j)) s -> wpAny (model X.prog X.w) X.A (f (.int i t) (.int j u)) Q E s) :
  K1 X f (i5 fun i j=>.bl (g i j)):=by
 intro pins s σ H x y v u Q I rx ry h
 obtain ⟨i,j,rfl,rfl,q⟩ := h
 obtain ⟨t,rfl⟩ := rx
 obtain ⟨t',rfl⟩ := ry
 exact rule i j t t' s _ _ ⟨.bl (g i j),H,I,rfl,q⟩
def oz (i j:Int):Prop:=0 < j /\ j < 1073741824
theorem D2:K1 X (binaryOp .Add) (i5 fun i j=>.int (i + j)):=ki fun _ _ _ _ _ _ _ q=>add_int q
theorem Hu:K1 X (binaryOp .Sub) (i5 fun i j=>.int (i - j)):=ki fun _ _ _ _ _ _ _ q=>sub_int q
theorem Fl:K1 X (binaryOp .FloorDiv) (rI oz fun i j=>.int (i / j)):=qb fun i j _ _ _ _ _ hc q=>by
 have h1:(0:Int) < j:=hc.1
 have h2:j < 1073741824:=hc.2
 exact floordiv_int (by omega) (by rw [Int.fdiv_eq_ediv_of_nonneg i (by omega)]; exact q) (.inl (PyProof.noPylong_small (by omega)))
theorem Cb:K1 X (binaryOp .Mod) (rI (fun _ j=>0 < j) fun i j=>.int (i % j)):=qb fun i j _ _ _ _ _ hc q=>by
 have h1:(0:Int) < j:=hc
 exact mod_int' (by omega) (by rw [Int.fmod_eq_emod_of_nonneg i (by omega)]; exact q)
theorem uf {f : Value -> Sem Value} {g : Int -> Int}
  (rule:∀ (i:Int) (t:Tok) (s:Shared) (Q:Value -> Shared -> Prop) (E:Value -> Shared -> Prop),Q (.int (g i) s.toks) { s with toks:=s.toks + 1 } -> wpAny (model X.prog X.w) X.A (f (.int i t)) Q E s) :
  ox X f (rU fun i=>.int (g i)):=by
 intro pins s σ H x v Q I rx h
 obtain ⟨i,rfl,q⟩ := h
 obtain ⟨t,rfl⟩ := rx
 exact rule i t s _ _ ⟨.int (g i),H,I.tok _,⟨_,rfl⟩,q⟩
theorem gh:ox X (unaryOp .USub) (rU fun i=>.int (-i)):=uf fun _ _ _ _ _ q=>neg_int q
end
def pj:V -> V -> Bool
 | .aL,.aL=>true | .aL,.int _=>true | .int _,.aL=>true | .aL,.bl _=>true | .bl _,.aL=>true | .aL,.str _=>true | .str _,.aL=>true
 | .int _,.int _=>true | .bl _,.bl _=>true | .str _,.str _=>true | .mZ _,.mZ _=>true
 | .int _,.str _=>true | .str _,.int _=>true | .bl _,.str _=>true | .str _,.bl _=>true
 | _,_=>false
def uj:R2:=fun x y H Q=>pj x y = true /\ Q (.bl (decide (x = y))) H
theorem ba {i j:Int}:decide (V.int i = V.int j) = (i == j):=by
 rw [Bool.eq_iff_iff]
 simp
theorem gl {i j:Bool}:decide (V.bl i = V.bl j) = (i == j):=by
 rw [Bool.eq_iff_iff]
 simp
theorem Zt {i j:Str}:decide (V.str i = V.str j) = (i == j):=by
 rw [Bool.eq_iff_iff]
 simp
theorem aw {i j:Array UInt8}:decide (V.mZ i = V.mZ j) = (i.toList == j.toList):=by
 rw [Bool.eq_iff_iff]
 cases i
 cases j
 simp
section
variable {X:Cx} {a b c:Expr} {ta tb tc:TE} {pos:Pos}
theorem Ct {pins:List (Addr × Obj)} {σ:St} {H:Hp} {s:Shared} {Q:VK} {k k':Bool} (I:Ai X pins σ H s) (q:Q (.bl k) H) (e:k = k'):EP X pins σ Q (.bool k') s:=by
 subst e
 exact ⟨.bl k,H,I,rfl,q⟩
theorem Gf:K1 X (compareOp .Eq) uj:=by
 intro pins s σ H x y v u Q I rx ry h
 obtain ⟨hs,q⟩ := h
 cases x with
 | aL =>
  cases rx
  cases y with
  | aL=>cases ry; exact PySem.EqNone.eq_none_none (Ct I q (by simp))
  | bl j=>cases ry; exact PySem.EqNone.eq_none_bool (Ct I q (by simp))
  | int j=>obtain ⟨t',rfl⟩ := ry; exact PySem.EqNone.eq_none_int (Ct I q (by simp))
  | str j=>obtain ⟨t',rfl⟩ := ry; exact PySem.EqNone.eq_none_str (Ct I q (by simp))
  | _=>exact absurd (show false = true from hs) Bool.false_ne_true
 | bl i =>
  cases rx
  cases y with
  | aL=>cases ry; exact PySem.EqNone.eq_bool_none (Ct I q (by simp))
  | bl j=>cases ry; exact eq_bool (Ct I q gl)
  | str j=>obtain ⟨t',rfl⟩ := ry; exact PySem.EqMixed.eq_bool_str (Ct I q (by simp))
  | _=>exact absurd (show false = true from hs) Bool.false_ne_true
 | int i =>
  obtain ⟨t,rfl⟩ := rx
  cases y with
  | aL=>cases ry; exact PySem.EqNone.eq_int_none (Ct I q (by simp))
  | int j=>obtain ⟨t',rfl⟩ := ry; exact eq_int (Ct I q ba)
  | str j=>obtain ⟨t',rfl⟩ := ry; exact PySem.EqMixed.eq_int_str (Ct I q (by simp))
  | _=>exact absurd (show false = true from hs) Bool.false_ne_true
 | str i =>
  obtain ⟨t,rfl⟩ := rx
  cases y with
  | aL=>cases ry; exact PySem.EqNone.eq_str_none (Ct I q (by simp))
  | bl j=>cases ry; exact PySem.EqMixed.eq_str_bool (Ct I q (by simp))
  | int j=>obtain ⟨t',rfl⟩ := ry; exact PySem.EqMixed.eq_str_int (Ct I q (by simp))
  | str j=>obtain ⟨t',rfl⟩ := ry; exact eq_str (Ct I q Zt)
  | _=>exact absurd (show false = true from hs) Bool.false_ne_true
 | mZ i =>
  obtain ⟨t,rfl⟩ := rx
  cases y with
  | mZ j=>obtain ⟨t',rfl⟩ := ry; exact PySem.W.eq_bytes (Ct I q aw)
  | _=>exact absurd (show false = true from hs) Bool.false_ne_true
 | _=>cases y <;> exact absurd (show false = true from hs) Bool.false_ne_true
theorem Rq:K1 X (compareOp .Lt) (i5 fun i j=>.bl (decide (i < j))):=gq fun _ _ _ _ _ _ _ q=>lt_int q
theorem R7:K1 X (compareOp .Gt) (i5 fun i j=>.bl (decide (j < i))):=gq fun _ _ _ _ _ _ _ q=>gt_int q
theorem lf:K1 X (compareOp .GtE) (i5 fun i j=>.bl (decide (j <= i))):=gq fun _ _ _ _ _ _ _ q=>ge_int q
theorem L8:K1 X (compareOp .Is) (fun x y H Q=>y = .aL /\ Q (.bl (decide (x = .aL))) H):=by
 intro pins s σ H x y v u Q I rx ry h
 obtain ⟨rfl,q⟩ := h
 cases ry
 refine is_none_gen (Ct I q ?_)
 cases x <;> first
  | (cases rx; rfl)
  | (obtain ⟨t,rfl⟩ := rx; rfl)
theorem P0:K1 X (compareOp .IsNot) (fun x y H Q=>y = .aL /\ Q (.bl (!decide (x = .aL))) H):=by
 intro pins s σ H x y v u Q I rx ry h
 obtain ⟨rfl,q⟩ := h
 cases ry
 refine isnot_none_gen (Ct I q ?_)
 cases x <;> first
  | (cases rx; rfl)
  | (obtain ⟨t,rfl⟩ := rx; rfl)
theorem Be (b:Expr) {op:CmpOp} (h:op ≠ .In:=by decide) (h2:op ≠ .NotIn:=by decide):behindInMarks op b = false:=by
 have e1:(op == CmpOp.In) = false:=by cases op <;> first | rfl | exact absurd rfl h
 have e2:(op == CmpOp.NotIn) = false:=by cases op <;> first | rfl | exact absurd rfl h2
 cases b <;> simp [behindInMarks,e1,e2]
theorem Fo {op:CmpOp} {r:R2} (ho:K1 X (compareOp op) r) (ha:PE X a ta) (hb:PE X b tb) (hm:behindInMarks op b = false):PE X (.Compare a [op] [b] pos) (nq r ta tb):=by
 intro pins s σ H Q I h
 exact wpAny_Compare1 (gc ha hb I h fun v u s2 x y H2 I2 rx ry q=>ho pins s2 σ H2 x y v u Q I2 rx ry q) hm
def kn (t:TE):TT:=fun σ H Q=>t σ H fun x H'=>∃ k,x = .bl k /\ Q k H'
theorem Bc {op:CmpOp} {r:R2} (ho:K1 X (compareOp op) r) (ha:PE X a ta) (hb:PE X b tb) (hm:behindInMarks op b = false):PT X (.Compare a [op] [b] pos) (kn (nq r ta tb)):=by
 intro pins s σ H Q I h
 refine wpAny_isTrue_Compare1 (Ca (ha pins s σ H _ I h) fun v s1 ⟨x,H1,I1,r1,q1⟩=>Ca (hb pins s1 σ H1 _ I1 q1) fun u s2 ⟨y,H2,I2,r2,q2⟩ =>
  Ca (ho pins s2 σ H2 x y v u _ I2 r1 r2 q2) fun c s3 ⟨z,H3,I3,r3,k,e,q3⟩=>?_) hm
 subst e
 cases r3
 exact wpAny_truthy_bool ⟨H3,I3,q3⟩
def ko (K:PySem.W.Frag) (x:V) (H:Hp) (k:Bool):Prop :=
 match x with
 | .aL=>k = false
 | .bl b=>k = b
 | .int i=>k = (i != 0)
 | .str y=>y.length <= sizeLine /\ k = ((y.length:Int) != 0)
 | .mZ y=>y.size <= sizeLine /\ k = ((y.size:Int) != 0)
 | .ref p=>(∃ xs,Ba K H p xs /\ k = !xs.isEmpty) \/ (∃ xs,C7 K H p xs /\ k = !xs.isEmpty) \/ ∃ kvs,H p = some (.dK kvs) /\ k = !kvs.isEmpty
 | _=>False
theorem U4 {κ:Type} {kvs:List (κ × V)} {vs:List (κ × Value)} (r:KV kvs vs):(!vs.isEmpty) = !kvs.isEmpty:=by
 cases r <;> rfl
theorem Lz {xs:List V} {aA:List Value} (r:Ay xs aA):(!aA.toArray.isEmpty) = !xs.isEmpty:=by
 cases r <;> simp
theorem Ho:(sizeLine:Nat) < 2 ^ 63:=by rw [sizeLine_eq]; decide
theorem gy:qz X (fun x H Q=>∃ k,ko X.K x H k /\ Q k H):=by
 intro pins s σ H x v Q I rx h
 obtain ⟨k,e,q⟩ := h
 have hl:=Ho
 have hs:sizeLine = 16777216:=sizeLine_eq
 cases x with
 | aL =>
  cases rx
  have e':k = false:=e
  subst e'
  exact truthy_none ⟨H,I,q⟩
 | bl b =>
  cases rx
  have e':k = b:=e
  subst e'
  exact wpAny_truthy_bool ⟨H,I,q⟩
 | int i =>
  obtain ⟨t,rfl⟩ := rx
  have e':k = (i != 0):=e
  subst e'
  exact PySem.P.truthy_int ⟨H,I,q⟩
 | str y =>
  obtain ⟨t,rfl⟩ := rx
  obtain ⟨hy,e'⟩ : y.length <= sizeLine /\ k = ((y.length:Int) != 0):=e
  subst e'
  exact PySem.P.truthy_str (by omega) ⟨H,I.tok _,q⟩
 | mZ y =>
  obtain ⟨t,rfl⟩ := rx
  obtain ⟨hy,e'⟩ : y.size <= sizeLine /\ k = ((y.size:Int) != 0):=e
  subst e'
  exact PySem.W.truthy_bytes (by omega) ⟨H,I.tok _,q⟩
 | ref p =>
  cases rx
  have e':(∃ xs,Ba X.K H p xs /\ k = !xs.isEmpty) \/ (∃ xs,C7 X.K H p xs /\ k = !xs.isEmpty) \/ ∃ kvs,H p = some (.dK kvs) /\ k = !kvs.isEmpty:=e
  rcases e' with ⟨xs,hx,e'⟩ | ⟨xs,hx,e'⟩ | ⟨kvs,hx,e'⟩
  ·subst e'
   obtain ⟨aA,r,pl,hz⟩ := I.list hx
   have hlen:=r.length
   exact wpAny_truthy_list pl.isList (by simp only [List.size_toArray]; omega) ⟨H,I.tok _,by rw [Lz r]; exact q⟩
  ·subst e'
   obtain ⟨aA,r,pl,hz⟩ := I.tuple hx
   have hlen:=r.length
   exact truthy_tuple pl (by simp only [List.size_toArray]; omega) ⟨H,I.tok _,by rw [Lz r]; exact q⟩
  ·subst e'
   obtain ⟨hz,hS,vs,r,m⟩ : kvs.length <= sizeLine /\ (p == sysModules) = false /\ ∃ vs,KV kvs vs /\ s.heap.DictOf (Dg X.prog X.w) p vs:=I.aC p _ hx
   have hlen:kvs.length = vs.length:=Paired.length r
   exact wpAny_truthy_dict hS m (by omega) ⟨H,I.tok _,by rw [U4 r]; exact q⟩
 | _=>exact (show False from e).elim
theorem Kp (ha : PE X a ta) (he : ∀ whole, isTrue a X.env whole = (do let v <- whole; standAt a.pos; holding [v] (truthy v))) :
  PT X a (fun σ H Q=>ta σ H fun x H'=>∃ k,ko X.K x H' k /\ Q k H'):=by
 intro pins s σ H Q I h
 exact isTrue_plain (Ca (ha pins s σ H _ I h) fun v s1 ⟨x,H1,I1,r1,q1⟩=>gy pins s1 σ H1 x v Q I1 r1 q1) (he _)
theorem I9 {x:V} {us:List Value} (r:Ay [x] us):∃ u,us = [u] /\ Aw x u:=by
 cases r with
 | cons r1 r2=>cases r2; exact ⟨_,rfl,r1⟩
theorem Yd {x y:V} {us:List Value} (r:Ay [x,y] us):∃ u w',us = [u,w'] /\ Aw x u /\ Aw y w':=by
 cases r with
 | cons r1 r2 =>
  cases r2 with
  | cons r3 r4=>cases r4; exact ⟨_,_,rfl,r1,r3⟩
theorem F8 (hc:X.calm = true):Dl X (.builtin "max") (fun xs H Q=>∃ i j,xs = [.int i,.int j] /\ Q (.int (if j > i then j else i)) H):=by
 intro pins s σ H xs us Q I r h
 obtain ⟨i,j,rfl,q⟩ := h
 obtain ⟨u,w',rfl,⟨t,rfl⟩,⟨t',rfl⟩⟩ := Yd r
 refine max_two_ints (I.ok.hd hc) fun h' tk k=>⟨_,H,I.kept k,?_,q⟩
 by_cases hj:j > i
 ·rw [if_pos hj,if_pos hj]; exact ⟨_,rfl⟩
 ·rw [if_neg hj,if_neg hj]; exact ⟨_,rfl⟩
theorem W3 (hc:X.calm = true):Dl X (.builtin "min") (fun xs H Q=>∃ i j,xs = [.int i,.int j] /\ Q (.int (if j < i then j else i)) H):=by
 intro pins s σ H xs us Q I r h
 obtain ⟨i,j,rfl,q⟩ := h
 obtain ⟨u,w',rfl,⟨t,rfl⟩,⟨t',rfl⟩⟩ := Yd r
 refine min_two_ints (I.ok.hd hc) fun h' tk k=>⟨_,H,I.kept k,?_,q⟩
 by_cases hj:j < i
 ·rw [if_pos hj,if_pos hj]; exact ⟨_,rfl⟩
 ·rw [if_neg hj,if_neg hj]; exact ⟨_,rfl⟩
theorem X1:Dl X (.type "int") (fun xs H Q=>(∃ i,xs = [.int i] /\ Q (.int i) H) \/ ∃ k,xs = [.bl k] /\ Q (.int (if k then 1 else 0)) H):=by
 intro pins s σ H xs us Q I r h
 rcases h with ⟨i,rfl,q⟩ | ⟨k,rfl,q⟩
 ·obtain ⟨u,rfl,t,rfl⟩ := I9 r
  exact call_int_int ⟨.int i,H,I,⟨_,rfl⟩,q⟩
 ·obtain ⟨u,rfl,r1⟩ := I9 r
  cases r1
  exact call_int_bool ⟨.int (if k then 1 else 0),H,I.tok _,⟨_,rfl⟩,q⟩
end
structure jc (h:Heap) (x dx C:Addr) (mA:Str -> Option Value):Prop where
 obj:h.get? x = some (PySem.W.instObj C dx)
 ns:h.Ns1 dx mA
 ne:dx ≠ x
theorem X5 {h:Heap} {dx:Addr} {mA:Str -> Option Value} (n:h.Ns1 dx mA):∃ od,h.get? dx = some od /\ ∀ name,PySem.W.lookIn name od = some (mA name):=by
 obtain ⟨o,es,ep,ho,hd,hk,_,hm⟩ := n
 refine ⟨o,ho,fun name=>?_⟩
 have e:=hm name
 unfold nsFind findBy at e
 rw [<- Array.find?_toList] at e
 unfold PySem.W.lookIn
 rw [hd]
 dsimp only
 split
 ·rename_i y q
  rw [q] at e
  exact congrArg some e
 ·rename_i q
  rw [q] at e
  have a:es.toList.any (·.refKey) = false:=by
   rw [List.any_eq_false]
   intro y hy
   obtain ⟨z,t,fD⟩ := hk y (Array.mem_toList_iff.mp hy)
   simp [DictEntry.refKey,fD]
  have a':¬ es.toList.any (·.refKey) = true:=by rw [a]; exact Bool.false_ne_true
  rw [if_neg a']
  exact congrArg some e
theorem jc.look {h:Heap} {x dx C:Addr} {mA:Str -> Option Value} (I:jc h x dx C mA):∃ od,PySem.W.InstAt h x (PySem.W.instObj C dx) C (some od) /\ ∀ name,PySem.W.lookIn name od = some (mA name) :=
 let ⟨od,ho,hl⟩ := X5 I.ns
 ⟨od,⟨I.obj,rfl,rfl,ho⟩,hl⟩
section
variable {prog:Program} {w:World} {A:Around} {E:Value -> Shared -> Prop} {s:Shared} {K:PySem.W.Frag} {x dx C f:Addr} {mA:Str -> Option Value} {name:Str} {v:Value}
end
theorem Iq.some_of {v:V} {o:Option Value} (r:Iq (some v) o):∃ u,o = some u /\ Aw v u:=by
 cases o with
 | none=>exact (show False from r).elim
 | some u=>exact ⟨u,rfl,r⟩
section
variable {P:Program} {w:World} {H H':Hp} {h h':Heap} {a C dx:Addr} {fs fs':List (Str × V)}
theorem Zr (aC:Fz P w H h) (e:H a = some (.ins C dx fs)):∃ mA,jc h a dx C mA /\ (∀ f,Iq (fs.lookup f) (mA f)) /\ PySem.Within mA (fs.map (·.1)) /\ fs.length <= 1000 /\ H dx = some (.own a):=by
 obtain ⟨d,z,ne,ob,mA,n,r,q⟩ := (show Bj P w H h a (.ins C dx fs) from aC a _ e)
 exact ⟨mA,⟨ob,n,ne⟩,r,q,z,d⟩
end
structure ph (K:PySem.W.Frag) (C:Addr):Prop where
 pg:PySem.W.plainGet K C Str.empty = true
 hd:PySem.W.hasDictIn K C = true
 po:PySem.W.plainOver K C = true
 sa:PySem.W.findIn K (.ref C) "__setattr__" = some (some (.builtin "object.__setattr__"))
theorem ph.get {K:PySem.W.Frag} {C:Addr} (c:ph K C) (f:Str):PySem.W.plainGet K C f = true:=c.pg
section
variable {X:Cx} {pins:List (Addr × Obj)} {σ:St} {H:Hp} {s:Shared} {a C dx:Addr} {fs:List (Str × V)} {f:Str} {v:V} {A:Around} {E:Value -> Shared -> Prop}
end
section
variable {X:Cx} {o e value:Expr} {f:Str} {pos pos' lT:Pos} {ta tv:TE}
end
section
variable {X:Cx} {pins:List (Addr × Obj)} {σ:St} {H:Hp} {s:Shared} {A:Around} {E:Value -> Shared -> Prop} {Q:Value -> Shared -> Prop} {c:Value} {b:Bool}
inductive Jj (K:PySem.W.Frag) (H:Hp):V -> Value -> Prop where
 | aL:Jj K H .aL (.type "NoneType")
 | bl (x:Bool):Jj K H (.bl x) (.type "bool")
 | int (i:Int):Jj K H (.int i) (.type "int")
 | str (x:Str):Jj K H (.str x) (.type "str")
 | EM (x:UInt64):Jj K H (.EM x) (.type "float")
 | lst {a:Addr} {xs:List V} (e:H a = some (.lst xs)):Jj K H (.ref a) (.type "list")
 | aP {a:Addr} {o:Obj} {xs:List V} (e:H a = some (.aP o (.lst xs))):Jj K H (.ref a) (.type "list")
 | tup {a:Addr} {xs:List V} (e:H a = some (.tup xs)):Jj K H (.ref a) (.type "tuple")
 | dK {a:Addr} {kvs:List (Du × V)} (e:H a = some (.dK kvs)):Jj K H (.ref a) (.type "dict")
 | dT {a:Addr} {kvs:List ((List Int × Int) × V)} (e:H a = some (.dT kvs)):Jj K H (.ref a) (.type "dict")
 | ins {a C dx : Addr} {fs : List (Str × V)} (e : H a = some (.ins C dx fs)) (cl : ph K C) (ha : PySem.W.findIn K (.ref C) "__class__" = some (some (.builtin "object.__class__")))
   (hn:PySem.W.specialIn K (.builtin "object.__class__") "__get__" = some (some (.builtin "getset_descriptor.__get__"))) (htk:PySem.W.takesIn K (.builtin "object.__class__") = some true)
   (hm:PySem.W.mroIn K C (.type "object") = some true):Jj K H (.ref a) (.ref C)
theorem W0 {x : V} {u t : Value} (I : Ai X pins σ H s) (rx : Aw x u) (ty : Jj X.K H x t) (e : PySem.W.kitOne X.K t c = some b) (h : ∀ tk, Q (.bool b) { s with toks := tk }) :
  wpAny (model X.prog X.w) A (call (.builtin "isinstance") [u,c]) Q E s:=by
 cases ty with
 | aL=>cases (show u = Value.none from rx); exact PySem.W.kia_one PySem.W.kitx_none I.iM True.intro e (fun z=>nomatch z) h
 | bl y=>cases (show u = Value.bool y from rx); exact PySem.W.kia_one PySem.W.kitx_bool I.iM True.intro e (fun z=>nomatch z) h
 | int i=>obtain ⟨t,q⟩ := (show ∃ t,u = Value.int i t from rx); cases q; exact PySem.W.kia_one PySem.W.kitx_int I.iM True.intro e (fun z=>nomatch z) h
 | str y=>obtain ⟨t,q⟩ := (show ∃ t,u = Value.str y t from rx); cases q; exact PySem.W.kia_one PySem.W.kitx_str I.iM True.intro e (fun z=>nomatch z) h
 | EM y=>obtain ⟨t,q⟩ := (show ∃ t,u = Value.float y t from rx); cases q; exact PySem.W.kia_one PySem.W.kitx_float I.iM True.intro e (fun z=>nomatch z) h
 | @lst a xs ea =>
  cases (show u = Value.ref a from rx)
  obtain ⟨_,_,n,_,h1⟩ := (show Bj X.prog X.w H s.heap a (.lst xs) from I.aC a _ ea)
  exact PySem.W.kia_one PySem.W.kitx_list I.iM ⟨_,h1,rfl⟩ e (fun z=>nomatch z) h
 | @aP a ob xs ea =>
  cases (show u = Value.ref a from rx)
  obtain ⟨_,_,_,n,_,h1⟩ := (show Bj X.prog X.w H s.heap a (.aP ob (.lst xs)) from I.aC a _ ea)
  exact PySem.W.kia_one PySem.W.kitx_list I.iM ⟨_,h1,rfl⟩ e (fun z=>nomatch z) h
 | @tup a xs ea =>
  cases (show u = Value.ref a from rx)
  obtain ⟨_,_,_,p⟩ := (show Bj X.prog X.w H s.heap a (.tup xs) from I.aC a _ ea)
  obtain ⟨o,h1,h2,_⟩ := p
  exact PySem.W.kia_one PySem.W.kitx_tuple I.iM ⟨o,h1,h2⟩ e (fun z=>nomatch z) h
 | @dK a kvs ea =>
  cases (show u = Value.ref a from rx)
  obtain ⟨_,_,vs,_,p⟩ := (show Bj X.prog X.w H s.heap a (.dK kvs) from I.aC a _ ea)
  obtain ⟨o,es,ep,h1,h2,_⟩ := p
  exact PySem.W.kia_one PySem.W.kitx_dict I.iM ⟨o,h1,h2.1⟩ e (fun z=>nomatch z) h
 | @dT a kvs ea =>
  cases (show u = Value.ref a from rx)
  obtain ⟨_,_,xs,_,o,es,ep,h1,h2,_⟩ := (show Bj X.prog X.w H s.heap a (.dT kvs) from I.aC a _ ea)
  exact PySem.W.kia_one PySem.W.kitx_dict I.iM ⟨o,h1,h2.1⟩ e (fun z=>nomatch z) h
 | @ins a C dx fs ea cl ha hn htk hm =>
  cases (show u = Value.ref a from rx)
  obtain ⟨mA,O,_⟩ := Zr I.aC ea
  obtain ⟨od,J,_⟩ := O.look
  exact PySem.W.kia_one (PySem.W.kitx_own (cl.get _) cl.hd ha hn htk hm) I.iM J e (fun z=>nomatch z) h
end
structure Dc (k:Nat) (A:Around):Prop where
 hd:A.handled = none
 dp:A.depth + 3 * k + 5 < recursionLimit
 un:A.units + 16 * k + 200 < cLine
theorem Dc.mono {j k:Nat} {A:Around} (r:Dc k A) (h:j <= k):Dc j A:=⟨r.hd,by have:=r.dp; omega,by have:=r.un; omega⟩
theorem Dc.deeper {k:Nat} {A:Around} (r:Dc (k + 1) A) (env:Env):Dc k (A.deeper env) :=
 ⟨r.hd,by have:=r.dp; show A.depth + 1 + 3 * k + 5 < _; omega,by have:=r.un; show A.units + 3 + 16 * k + 200 < _; omega⟩
theorem Dc.depth {k:Nat} {A:Around} (r:Dc k A):A.depth < recursionLimit:=by have:=r.dp; omega
theorem Dc.units {k:Nat} {A:Around} (r:Dc k A):A.units + 64 < cLine:=by have:=r.un; omega
def lz:TA:=fun _ H Q=>Q [] H
def cy (ta:TE) (tr:TA):TA:=fun σ H Q=>ta σ H fun x H1=>tr σ H1 fun xs H2=>Q (x :: xs) H2
section
variable {X:Cx} {e:Expr} {es:List Expr} {te:TE} {t:TA} {pos:Pos}
theorem A6:PA X [] lz:=fun _ _ _ _ H Q I h=>Calls.spliced_nil ⟨[],H,I,.nil,h⟩
theorem A0 (ha:PE X e te) (hr:PA X es t) (hs:starEach (e :: es) X.env = (false,eval e X.env) :: starEach es X.env:=by rfl):PA X (e :: es) (cy te t):=by
 intro pos pins s σ H Q I h
 rw [hs]
 show wpAny _ _ (spliced ((false,eval e X.env) :: backTo pos (starEach es X.env))) _ _ s
 refine Calls.spliced_cons (Ca (ha pins s σ H _ I h) fun u s1 aJ=>?_)
 obtain ⟨x,H1,I1,r1,q1⟩ := aJ
 exact Ca (hr pos pins s1 σ H1 _ I1 q1) fun us s2 ⟨xs,H2,I2,r2,q2⟩=>⟨x :: xs,H2,I2,.cons r1 r2,q2⟩
def qr (t:TA):TE:=fun σ H Q=>t σ H fun xs H1=>xs.length <= sizeLine /\ ∀ p,H1 p = none -> Q (.ref p) (upd H1 p (.tup xs))
def r8 (t:TA):TE:=fun σ H Q=>t σ H fun xs H1=>xs.length <= sizeLine /\ ∀ p,H1 p = none -> Q (.ref p) (upd H1 p (.lst xs))
theorem Bz {x1} (h:PA X es t):PE X (.Tuple es x1 pos) (qr t):=by
 intro pins s σ H Q I hq
 refine wpAny_Tuple_spliced (Ca (h pos pins s σ H _ I hq) fun us s1 ⟨xs,H1,I1,r,z,q⟩=>⟨by rw [<- r.length]; exact z,?_⟩)
 have hf:H1 s1.heap.objs.size = none:=I1.aC.fresh (Nat.le_refl _)
 refine ⟨.ref s1.heap.objs.size,upd H1 s1.heap.objs.size (.tup xs),I1.laid (t':=s1.toks) (fun b u e=>Heap.get?_push_of_some _ e) (Nat.le_refl _) ?_,rfl,q _ hf⟩
 exact ⟨⟨z,⟨_,Heap.get?_push_size _ rfl,rfl⟩⟩,us,r,⟨_,Heap.get?_push_size _ rfl,rfl,_,rfl⟩⟩
theorem D1 (h:PA X es t):PE X (.List es pos) (r8 t):=by
 intro pins s σ H Q I hq
 refine wpAny_List_spliced (Ca (h pos pins s σ H _ I hq) fun us s1 ⟨xs,H1,I1,r,z,q⟩=>⟨by rw [<- r.length]; exact z,?_⟩)
 have hf:H1 s1.heap.objs.size = none:=I1.aC.fresh (Nat.le_refl _)
 refine ⟨.ref s1.heap.objs.size,upd H1 s1.heap.objs.size (.lst xs),I1.laid (t':=s1.toks) (fun b u e=>Heap.get?_push_of_some _ e) (Nat.le_refl _) ?_,rfl,q _ hf⟩
 exact ⟨z,us,0,r,Heap.get?_push_size _ rfl⟩
end
abbrev Sp:=List V -> Hp -> VK -> XK -> Prop
abbrev Xf:=List Env -> Hp -> Shared -> XK -> Value -> Shared -> Prop
structure Zn (P:Program) (w:World) (K:PySem.W.Frag) (mg:Str -> Option Value) (base:Heap) (A:Around) (outer:List Env) (s:Shared) (H:Hp):Prop where
 frames:A.frames = some outer
 mod:Mod K mg base
 bs:∀ b o,base.get? b = some o -> s.heap.get? b = some o /\ H b = none
 rZ:base.objs.size <= s.heap.objs.size
 dX:s.heap.FunFrames base outer
 uU:∀ b ∈ jL outer,H b = none
 aC:Fz P w H s.heap
 bare:AllBare s.gens
def CE (outer:List Env) (P:Program) (w:World) (H:Hp) (s:Shared) (Q:VK) (u:Value) (s':Shared):Prop :=
 ∃ v H',s'.os = s.os /\ AllBare s'.gens /\ Un (jL outer) [] H H' s.heap s'.heap /\ Fz P w H' s'.heap /\ Aw v u /\ Q v H'
def CR (CX:Xf) (outer:List Env) (P:Program) (w:World) (H:Hp) (s:Shared) (Q:VK) (E:XK) (r:Result) (s':Shared):Prop :=
 match r with
 | .ok (.ret u)=>CE outer P w H s Q u s'
 | .ok _=>False
 | .error e=>CX outer H s E e s'
structure Aj (P:Program) (w:World) (K:PySem.W.Frag) (mg:Str -> Option Value) (base:Heap) (CX:Xf) (k:Nat) (f:Addr) (fd:FuncData) (ps:List Str) (sp:Sp):Prop where
 len:∀ vs H Q E,sp vs H Q E -> vs.length = ps.length
 run:∀ (A:Around) (outer:List Env) (s:Shared) (H:Hp) (args:Args) (us:List Value) (vs:List V) (Q:VK) (E:XK),Dc k A -> Zn P w K mg base A outer s H -> BindsTo s fd args (ps.zip us) -> Ay vs us -> sp vs H Q E ->
  codeAny (model P w) A (.call (.ref f) args) (CR CX outer P w H s Q E) s
section
variable {X:Cx} {pins:List (Addr × Obj)} {σ:St} {H:Hp} {s s':Shared}
theorem Ai.UU (I:Ai X pins σ H s):Zn X.prog X.w X.K X.mg X.base X.A X.stack s H :=
 ⟨I.ok.frames,I.ok.mod,I.bs,Nat.le_trans I.ok.rZ I.sz,I.stack,I.kP,I.aC,I.bare⟩
theorem Ai.after {Q:VK} {u:Value} (I:Ai X pins σ H s) (h:CE X.stack X.prog X.w H s Q u s'):EP X pins σ Q u s':=by
 obtain ⟨v,H',os,bare,un,aC,r,q⟩ := h
 obtain ⟨hh,g,d,t,os'⟩ := s'
 obtain rfl:os' = s.os:=os
 exact ⟨v,H',I.call (h':=hh) (g':=g) (d':=d) (t':=t) (ch:=[]) un aC bare (fun b z=>absurd z (by simp)),r,q⟩
end
def mi (sp:Sp) (nB:List V) (E:XK) (t:TA):TE:=fun σ H Q=>t σ H fun vs H1=>sp (vs ++ nB) H1 Q E
def Az (K:PySem.W.Frag) (fd:FuncData) (ps:List Str) (ds:List Value):Prop :=
 ∀ (s:Shared) (us:List Value),K.In s.heap -> (us ++ ds).length = ps.length -> BindsTo s fd ⟨us,[]⟩ (ps.zip (us ++ ds))
theorem Az.all {K:PySem.W.Frag} {fd:FuncData} {ps:List Str} (h:∀ us:List Value,us.length = ps.length -> bindArgs fd ⟨us,[]⟩ = pure (ps.zip us)):Az K fd ps []:=fun s us _ hl=>by
 rw [List.append_nil] at hl ⊢
 exact .of_eq (h us hl)
def Tw (CX:Xf) (X:Cx) (E:XK):Prop := ∀ (pins:List (Addr × Obj)) (σ:St) (H:Hp) (s:Shared) (e:Value) (s':Shared),Ai X pins σ H s -> CX X.stack H s E e s' -> X.xe e s'
section
variable {X:Cx} {CX:Xf} {k:Nat} {f C:Addr} {fd:FuncData} {ps:List Str} {sp:Sp} {nB:List V} {ds:List Value} {E:XK} {x m:Str} {p pos apos:Pos} {e o:Expr} {es:List Expr} {ta:TE} {t:TA}
theorem ij {pins : List (Addr × Obj)} {σ : St} {H : Hp} {s : Shared} {Q : VK} {us : List Value} {vs : List V} (F : Aj X.prog X.w X.K X.mg X.base CX k f fd ps sp) (hr : Dc k X.A) (hb : Az X.K fd ps ds) (hd : Ay nB ds) (hx : Tw CX X E)
  (I:Ai X pins σ H s) (r:Ay vs us) (h:sp (vs ++ nB) H Q E):wpAny (model X.prog X.w) X.A (call (.ref f) us) (EP X pins σ Q) X.xe s:=by
 have r2:Ay (vs ++ nB) (us ++ ds):=r.append hd
 have hl:(us ++ ds).length = ps.length:=by rw [<- r2.length]; exact F.len _ _ _ _ h
 refine wpAny_call (codeAny_mono (F.run X.A X.stack s H ⟨us,[]⟩ (us ++ ds) (vs ++ nB) Q E hr I.UU (hb s us I.iM hl) r2 h) fun r s' hq=>?_)
 cases r with
 | error e=>exact hx pins σ H s e s' I hq
 | ok fl =>
  cases fl with
  | ret u=>exact I.after hq
  | next=>exact False.elim hq
  | brk=>exact False.elim hq
  | cont=>exact False.elim hq
theorem Ag (F : Aj X.prog X.w X.K X.mg X.base CX k f fd ps sp) (hr : Dc k X.A) (hg : Gl X x) (hm : X.mg x = some (.ref f)) (hk : PySem.W.keepIn X.K (.ref f) = true) (hb : Az X.K fd ps ds) (hd : Ay nB ds) (hx : Tw CX X E)
  (ha:PA X (e :: es) t) (wW:(x == ("__debug__" : Str)) = false:=by decide) (he:starEach (e :: es) X.env = (false,eval e X.env) :: starEach es X.env:=by rfl) (jU:(backTo pos (starEach es X.env)).any (·.1) = false:=by rfl) :
  PE X (.Call (.Name x p) (e :: es) [] pos) (mi sp nB E t):=by
 intro pins s σ H Q I h
 refine wpAny_Call_Name_kw (Ui I hg hm ?_ wW)
 refine PySem.W.callWith_K (h₀:=X.base) I.ok.mod.UO hk (Ca (ha pos pins s σ H _ I h) fun us s1 ⟨vs,H1,I1,r,q⟩=>⟨I1.iM,?_⟩) he jU
 exact ij F hr hb hd hx I1 r q
end
section
variable {X:Cx} {CX:Xf} {k:Nat} {f C:Addr} {fd:FuncData} {ps ks:List Str} {sp:Sp} {E:XK} {x m:Str} {p pos apos UW:Pos} {e o:Expr} {es:List Expr} {kws:List Keyword} {te ta:TE} {t tk:TA} {nm:Option Str}
variable {g:List Value -> List Value -> List Value} {gV:List V -> List V -> List V}
end
structure As (N P:List Str) (sc:Scope):Prop where
 kind:sc.kind = .function
 co:sc.isCoroutine = false
 gen:sc.isGenerator = false
 nd:N.Nodup
 pre:N.take P.length = P
 par:∀ x ∈ P,sc.names.lookup x = some .local \/ sc.names.lookup x = some .cell
 xc:∀ y ∈ sc.names,y.2 ≠ .free
theorem Od {kindOf:Str -> Option NameKind} {x:Str}:∀ {binds:List (Str × Value)} {m:Str -> Option Value},(∀ v,(x,v) ∉ binds) -> bindL kindOf binds m x = m x
 | [],_,_=>rfl
 | (n,v) :: r,m,h=>by
  unfold bindL
  rw [Od fun w hw=>h w (List.mem_cons_of_mem _ hw)]
  split
  ·have:x ≠ n:=by rintro rfl; exact h v List.mem_cons_self
   simp [this]
  ·rfl
theorem Nn {kindOf:Str -> Option NameKind} {x:Str}:∀ {binds:List (Str × Value)} {m:Str -> Option Value},(∀ v,(x,v) ∉ binds) -> bindC kindOf binds m x = m x
 | [],_,_=>rfl
 | (n,v) :: r,m,h=>by
  unfold bindC
  rw [Nn fun w hw=>h w (List.mem_cons_of_mem _ hw)]
  split
  ·rfl
  ·have:x ≠ n:=by rintro rfl; exact h v List.mem_cons_self
   simp [this]
theorem O5 {kindOf : Str -> Option NameKind} {x : Str} {v : Value} : ∀ {P : List Str} {vs : List Value} {i : Nat} {m : Str -> Option Value}, P.Nodup -> P[i]? = some x -> vs[i]? = some v -> kindOf x = some .local ->
  bindL kindOf (P.zip vs) m x = some v
 | [],_,_,_,_,h,_,_=>by simp at h
 | _ :: _,[],_,_,_,_,h,_=>by simp at h
 | p :: P,w :: vs,0,m,nd,h1,h2,hk=>by
  simp at h1 h2; subst h1; subst h2
  show bindL kindOf ((p,w) :: P.zip vs) m p = _
  unfold bindL
  rw [Od fun v hv=>(List.nodup_cons.mp nd).1 (List.of_mem_zip hv).1,if_pos hk]
  simp
 | p :: P,w :: vs,i + 1,m,nd,h1,h2,hk=>by
  show bindL kindOf ((p,w) :: P.zip vs) m x = _
  unfold bindL
  exact O5 (i:=i) (List.nodup_cons.mp nd).2 (by simpa using h1) (by simpa using h2) hk
theorem Oj {kindOf : Str -> Option NameKind} {x : Str} {v : Value} : ∀ {P : List Str} {vs : List Value} {i : Nat} {m : Str -> Option Value}, P.Nodup -> P[i]? = some x -> vs[i]? = some v -> kindOf x ≠ some .local ->
  bindC kindOf (P.zip vs) m x = some v
 | [],_,_,_,_,h,_,_=>by simp at h
 | _ :: _,[],_,_,_,_,h,_=>by simp at h
 | p :: P,w :: vs,0,m,nd,h1,h2,hk=>by
  simp at h1 h2; subst h1; subst h2
  show bindC kindOf ((p,w) :: P.zip vs) m p = _
  unfold bindC
  rw [Nn fun v hv=>(List.nodup_cons.mp nd).1 (List.of_mem_zip hv).1,if_neg hk]
  simp
 | p :: P,w :: vs,i + 1,m,nd,h1,h2,hk=>by
  show bindC kindOf ((p,w) :: P.zip vs) m x = _
  unfold bindC
  exact Oj (i:=i) (List.nodup_cons.mp nd).2 (by simpa using h1) (by simpa using h2) hk
def start (N:List Str) (vs:List V):St:=vs.map some ++ List.replicate (N.length - vs.length) none
def Sj (CX:Xf) (P:Program) (w:World) (K:PySem.W.Frag) (mg:Str -> Option Value) (base:Heap) (N:List Str) (qual:Str) (scope:Scope) (f:Addr) (cd:Value) (A:Around) (outer:List Env) (s:Shared) (H:Hp) (E:XK):Cx where
 prog:=P
 w:=w
 K:=K
 mg:=mg
 base:=base
 A:=A.deeper (envOfC qual scope s.heap.objs.size f cd)
 N:=N
 s₀:=s
 H₀:=H
 env:=envOfC qual scope s.heap.objs.size f cd
 outer:=outer
 stack:=envOfC qual scope s.heap.objs.size f cd :: outer
 ex:=[]
 calm:=true
 fn:=fun _=>true
 pn:=[]
 xe:=fun e s'=>wpAny (model P w) (A.deeper (envOfC qual scope s.heap.objs.size f cd)) (leaving (envOfC qual scope s.heap.objs.size f cd) e) (fun _ UX=>CX outer H s E e UX) (fun e' UX=>CX outer H s E e' UX) s'
theorem Rn {sc:Scope} {n:Nat} {x:Str} (h:sc.names.lookup x = some .cell):∃ c,(cellsFrom n sc.names []).lookup x = some c:=by
 have q:=PySem.W.cellsFrom_some sc.names n [] (.inl h)
 exact Option.isSome_iff_exists.mp q
theorem Wg {CX : Xf} {P : Program} {w : World} {K : PySem.W.Frag} {mg : Str -> Option Value} {base : Heap} {N ps : List Str} {qual : Str} {scope : Scope} {f : Addr} {cd : Value} {A : Around} {outer : List Env} {s s1 : Shared} {H : Hp} {E : XK} {us : List Value} {vs : List V}
  (S:As N ps scope) (hd:A.handled = none) (e0:Zn P w K mg base A outer s H) (hl:vs.length = ps.length) (r:Ay vs us)
  (x:InCallC s s.heap.objs.size (bindL (envOfC qual scope s.heap.objs.size f cd).kindOf (ps.zip us) fun _=>none) (cellsFrom (s.heap.objs.size + 1) scope.names []) (bindC (envOfC qual scope s.heap.objs.size f cd).kindOf (ps.zip us) fun _=>none) s1) :
  Ai (Sj CX P w K mg base N qual scope f cd A outer s H E) [] (start N vs) H s1:=by
 have jU:ps.length <= N.length:=by have:=congrArg List.length S.pre; rw [List.length_take] at this; omega
 obtain ⟨h1,tk,rfl,hk⟩ := x.done
 have FX:∀ b:Addr,b ∉ (Sj CX P w K mg base N qual scope f cd A outer s H E).ex:=fun b z=>absurd (show b ∈ ([]:List Addr) from z) (by simp)
 refine ⟨⟨e0.mod,S.kind,rfl,rfl,Nat.le_refl _,fun y z c h1 h2=>?_,fun y hy=>?_,fun y c _ h=>?_,fun _=>hd,Around.frames_deeper e0.frames,.inr ⟨rfl,rfl⟩,fun b z=>absurd z (FX b),e0.bs,e0.rZ,fun b _ _=>FX b,fun b z=>absurd z (FX b),e0.dX,e0.uU⟩,
  rfl,e0.bare,Un.kept hk,⟨_,x.toInCall.ns,fun i y v h1 h2 h3=>?_⟩,fun y c h=>⟨_,x.cell y c h⟩,e0.aC.fresh (Nat.le_refl _),fun y c h=>?_,fun p hp=>absurd (show p ∈ ([]:List (Addr × Obj)) from hp) (by simp),e0.aC.kept hk,?_⟩
 ·exact name_of_addr x.apart (PySem.mem_of_lookup h1) (PySem.mem_of_lookup h2)
 ·have hy:scope.names.lookup y = some .cell \/ scope.names.lookup y = some .free:=hy
  rcases hy with hy | hy
  ·exact Rn hy
  ·exact absurd rfl (S.xc _ (PySem.mem_of_lookup hy))
 ·exact Nat.le_of_lt (x.above y c (PySem.mem_of_lookup h))
 ·have hi : i < vs.length := by
   unfold start at h2
   by_cases hi:i < vs.length
   ·exact hi
   ·rw [List.getElem?_append_right (by simpa using hi)] at h2
    rw [List.getElem?_replicate] at h2
    split at h2 <;> cases h2
  have ha:vs[i]? = some v:=by
   unfold start at h2
   rw [List.getElem?_append_left (by simpa using hi),List.getElem?_map] at h2
   cases e:vs[i]? with
   | none=>rw [e] at h2; cases h2
   | some a=>rw [e] at h2; cases h2; rfl
  obtain ⟨u,hu,rv⟩ := r.get ha
  have hp:ps[i]? = some y:=by
   rw [<- S.pre,List.getElem?_take_of_lt (by omega)]; exact h1
  have ndP:ps.Nodup:=by rw [<- S.pre]; exact S.nd.sublist (List.take_sublist _ _)
  refine ⟨u,rv,?_⟩
  rcases S.par y (List.mem_of_getElem? hp) with k | k
  ·exact .inl ⟨k,O5 ndP hp hu k⟩
  ·obtain ⟨c,e⟩ := Rn (n:=s.heap.objs.size + 1) k
   refine .inr ⟨.inl k,c,e,?_⟩
   have q:=x.cell y c e
   rw [Oj ndP hp hu (by show scope.names.lookup y ≠ _; rw [k]; decide)] at q
   exact q
 ·exact e0.aC.fresh (Nat.le_of_lt (x.above y c (PySem.mem_of_lookup h)))
 ·unfold start
  show _ = N.length
  rw [List.length_append,List.length_map,List.length_replicate]
  omega
theorem d6 {CX : Xf} {P : Program} {w : World} {K : PySem.W.Frag} {mg : Str -> Option Value} {base : Heap} {k : Nat} {f : Addr} {name qual : Str} {params : Arguments} {body : List Stmt} {scope : Scope} {dV kV doc pm aM ct oc : Value} {an od : Option Addr}
  {iG:Array (Option Value)} {N ps:List Str} {sp:Sp} (lk:K.lookup f = some ⟨oc,od,.func (PySem.W.fnOf name qual params body scope dV kV doc pm an aM ct),iG⟩) (nA:PySem.W.codeIn K aM qual = true) (S:As N ps scope)
  (len:∀ vs H Q E,sp vs H Q E -> vs.length = ps.length)
  (iP:∀ (A:Around) (outer:List Env) (s:Shared) (H:Hp) (vs:List V) (Q:VK) (E:XK),Dc k (A.deeper (envOfC qual scope s.heap.objs.size f aM)) -> sp vs H Q E ->
   ∃ t,S7 (Sj CX P w K mg base N qual scope f aM A outer s H E) body t /\ t { nx:=fun _ H'=>Q .aL H',rt:=Q } (start N vs) H) :
  Aj P w K mg base CX (k + 1) f (PySem.W.fnOf name qual params body scope dV kV doc pm an aM ct) ps sp:=by
 refine ⟨len,fun A outer s H args us vs Q E hr e0 hb r sC=>?_⟩
 have hl:=len _ _ _ _ sC
 have KX:K.In s.heap:=e0.mod.UO.keeps fun b o e=>(e0.bs b o e).1
 have lim:s.heap.NoLimit:=e0.mod.nolimit.keeps fun b o e=>(e0.bs b o e).1
 have FY:∀ y ∈ ps.zip us,scope.names.lookup y.1 = some .local \/ (scope.names.lookup y.1 = some .cell /\ ((cellsFrom (s.heap.objs.size + 1) scope.names []).lookup y.1).isSome = true):=fun ⟨n,v⟩ hy=>by
  rcases S.par n (List.of_mem_zip hy).1 with q | q
  ·exact .inl q
  ·exact .inr ⟨q,PySem.W.cellsFrom_some _ _ _ (.inl q)⟩
 refine codeAny_call_function hr.depth (KX _ _ lk) rfl S.co S.gen rfl (PySem.W.codeRec_of KX nA) (hb _ _ _ _ ?_)
 refine wpAny_newFunctionEnv_cells S.kind FY fun env he s1 x=>?_
 subst he
 refine ⟨lim.keeps x.toInCall.keep,codeAny_func ?_⟩
 obtain ⟨t,ht,hq⟩ := iP A outer s H vs Q E (hr.deeper _) sC
 have I:Ai (Sj CX P w K mg base N qual scope f aM A outer s H E) [] (start N vs) H s1:=Wg S hr.hd e0 hl r x
 refine wpAny_mono (ht [] s1 (start N vs) H _ I hq) (fun fl s' hs=>?_) fun e s' hs=>hs
 have fin:∀ {σ':St} {H':Hp} {v:V} {u:Value},Ai (Sj CX P w K mg base N qual scope f aM A outer s H E) [] σ' H' s' -> Aw v u -> Q v H' -> CE outer P w H s Q u s' :=
  fun {σ' H' v u} J rv q=>⟨v,H',J.os,J.bare,J.base,J.aC,rv,q⟩
 cases fl with
 | ret u =>
  obtain ⟨v,σ',H',J,rv,q⟩ := hs
  exact fin J rv q
 | next =>
  obtain ⟨σ',H',J,q⟩ := hs
  exact fin (v:=V.aL) (u:=Value.none) J rfl q
 | brk =>
  obtain ⟨_,_,_,q⟩ := hs
  exact False.elim q
 | cont =>
  obtain ⟨_,_,_,q⟩ := hs
  exact False.elim q
section
variable {X:Cx} {x:Str} {p pos:Pos} {e:Expr} {es:List Expr} {t:TA} {id T:String} {r:List V -> Hp -> VK -> Prop}
def sk (r:List V -> Hp -> VK -> Prop) (t:TA):TE:=fun σ H Q=>t σ H fun vs H1=>r vs H1 Q
theorem B9 (hc : Dl X (.builtin id) r) (hg : Gl X x) (hm : X.mg x = none) (hv : bootBuiltins x = some (.builtin id)) (ha : PA X (e :: es) t) (hn : x ≠ "__name__" := by decide) (wW : (x == ("__debug__" : Str)) = false := by decide)
  (he:starEach (e :: es) X.env = (false,eval e X.env) :: starEach es X.env:=by rfl) (jU:(backTo pos (starEach es X.env)).any (·.1) = false:=by rfl):PE X (.Call (.Name x p) (e :: es) [] pos) (sk r t):=by
 intro pins s σ H Q I h
 refine wpAny_Call_Name_kw (Jm I hg hm hv ?_ hn wW)
 exact PyProof.Rows.callWith_builtin1 (Ca (ha pos pins s σ H _ I h) fun us s1 ⟨vs,H1,I1,r1,q1⟩=>hc pins s1 σ H1 vs us Q I1 r1 q1) he jU
theorem C8 (hc : Dl X (.type T) r) (hg : Gl X x) (hm : X.mg x = none) (hv : bootBuiltins x = some (.type T)) (ha : PA X (e :: es) t) (hn : x ≠ "__name__" := by decide) (wW : (x == ("__debug__" : Str)) = false := by decide)
  (he:starEach (e :: es) X.env = (false,eval e X.env) :: starEach es X.env:=by rfl) (jU:(backTo pos (starEach es X.env)).any (·.1) = false:=by rfl):PE X (.Call (.Name x p) (e :: es) [] pos) (sk r t):=by
 intro pins s σ H Q I h
 refine wpAny_Call_Name_kw (Jm I hg hm hv ?_ hn wW)
 exact PyProof.Rows.callWith_type1 (Ca (ha pos pins s σ H _ I h) fun us s1 ⟨vs,H1,I1,r1,q1⟩=>hc pins s1 σ H1 vs us Q I1 r1 q1) he jU
end
end L2
namespace HT
local macro_rules | `(tactic| omega) => `(tactic| lia)
open PySem PyProof.Rows
section
open PySem.SeqAt
open PySem.AutoSeq1 (wpAny_loadPart')
open PySem.MeetsSeq PySem.MeetsSeq2 PySem.MeetsSeq3
end
section
variable {prog:Program} {w:World} {A:Around} {E:Value -> Shared -> Prop} {s:Shared}
theorem sT {t b : Addr} {vs ws : List Value} {Q : Value -> Shared -> Prop} (ht : IsTup s.heap t vs.toArray) (hb : IsTup s.heap b ws.toArray) (hv : vs ≠ [])
  (h1:ws = [] -> Q (.ref t) s) (h2:ws ≠ [] -> Q (.ref s.heap.objs.size) { s with heap:=s.heap.push { cls := .type "tuple",data := .seq (vs ++ ws).toArray } })
  (hsz:vs.length + ws.length <= sizeLine):wpAny (model prog w) A (binaryOp .Add (.ref t) (.ref b)) Q E s:=by
 obtain ⟨⟨cls,dd,data,sl⟩,ho,hc,n,hd⟩ := id ht
 obtain ⟨⟨cls2,ES,data2,ET⟩,iQ,jV,n2,hd2⟩ := id hb
 simp only at hc hd jV hd2
 subst hc hd jV hd2
 have e:vs.toArray ++ ws.toArray = (vs ++ ws).toArray:=by simp
 by_cases hw:ws = []
 ·exact concat_meets ⟨_, ho, rfl⟩ ⟨_, iQ, rfl⟩ noFill_tuple_add seq_tuple_add PySem.F.slot_tuple_add PySem.F.entry_tuple_add (PySem.F.args_tuple_add_2 _ _)
   (tuple_addW1 t b vs.toArray ws.toArray n n2 dd ES sl ET (by simpa using hv) (by simp [hw])) ⟨ho,iQ,h1 hw⟩
 ·refine concat_meets ⟨_, ho, rfl⟩ ⟨_, iQ, rfl⟩ noFill_tuple_add seq_tuple_add PySem.F.slot_tuple_add PySem.F.entry_tuple_add (PySem.F.args_tuple_add_2 _ _)
   (tuple_addW2 t b vs.toArray ws.toArray n n2 dd ES sl ET (by simpa using hv) (by simpa using hw) (by rw [List.size_toArray,List.size_toArray]; exact hsz)) ⟨ho,iQ,?_⟩
  rw [e]
  exact h2 hw
def iR (n d:Nat):Option Int -> Nat
 | none=>d
 | some v=>if v < 0 then (v + (n:Int)).toNat else min v.toNat n
theorem nC (n d:Nat):iR n d none = d:=rfl
theorem sU (n d k:Nat):iR n d (some (k:Int)) = min k n:=by
 show (if (k:Int) < 0 then ((k:Int) + (n:Int)).toNat else min (k:Int).toNat n) = min k n
 rw [if_neg (by omega),Int.toNat_natCast]
end
end HT
namespace L2
local macro_rules | `(tactic| omega) => `(tactic| lia)
open PySem PySem.Spec PyProof.Rows
abbrev TO:=St -> Hp -> (Option Int -> Hp -> Prop) -> Prop
def PO (X:Cx) (e:Option Expr) (t:TO):Prop :=
 ∀ (pins:List (Addr × Obj)) (s:Shared) (σ:St) (H:Hp) (Q:Option Int -> Hp -> Prop),Ai X pins σ H s -> t σ H Q ->
  wpAny (model X.prog X.w) X.A (evalPart e X.env) (fun u s'=>∃ o H',Ai X pins σ H' s' /\ IsPart u o /\ Q o H') X.xe s
def am:TO:=fun _ H Q=>Q none H
def lp (t:TE):TO:=fun σ H Q=>t σ H fun x H1=>∃ i,x = .int i /\ Q (some i) H1
section
variable {X:Cx} {e:Expr} {te:TE} {lo hi:Option Expr} {tl th:TO} {pos p2:Pos}
theorem Kg:PO X none am:=by
 intro pins s σ H Q I h
 rw [evalPart_none]
 exact wpAny_pure ⟨none,H,I,.none,h⟩
theorem K6 (h:PE X e te):PO X (some e) (lp te):=by
 intro pins s σ H Q I hw
 rw [evalPart_some]
 refine Ca (h pins s σ H _ I hw) fun u s1 aJ=>?_
 obtain ⟨x,H1,I1,r1,q1⟩ := aJ
 obtain ⟨i,rfl,q⟩ := q1
 obtain ⟨t,rfl⟩ := r1
 exact ⟨some i,H1,I1,.int i t,q⟩
def qt (X:Cx) (r:V -> Option Int -> Option Int -> Hp -> VK -> Prop):Prop :=
 ∀ (pins:List (Addr × Obj)) (s:Shared) (σ:St) (H:Hp) (x:V) (v vl vu:Value) (lo hi:Option Int) (sl:Addr) (Q:VK),Ai X pins σ H s -> Aw x v -> s.heap.IsSliceOf sl vl vu .none -> IsPart vl lo -> IsPart vu hi -> r x lo hi H Q ->
  ∃ T id,typeLookup (.type T) "__getitem__" = pure (some (.builtin id)) /\ s.TypeIs v T /\ wpAny (model X.prog X.w) X.A (getItem v (.ref sl)) (EP X pins σ Q) X.xe s
def ue (r:V -> Option Int -> Option Int -> Hp -> VK -> Prop) (te:TE) (tl th:TO):TE:=fun σ H Q=>te σ H fun x H1=>tl σ H1 fun l H2=>th σ H2 fun u H3=>r x l u H3 Q
theorem Iu {r:V -> Option Int -> Option Int -> Hp -> VK -> Prop} (hr:qt X r) (he:PE X e te) (hl:PO X lo tl) (hu:PO X hi th):PE X (.Subscript e (.Slice lo hi none p2) pos) (ue r te tl th):=by
 intro pins s σ H Q I h
 refine Subscript_ (Ca (he pins s σ H _ I h) fun v s1 aJ=>?_)
 obtain ⟨x,H1,I1,r1,q1⟩ := aJ
 refine wpAny_Slice (Ca (hl pins s1 σ H1 _ I1 q1) fun vl s2 ⟨l,H2,I2,pl,q2⟩=>Ca (hu pins s2 σ H2 _ I2 q2) fun vu s3 aJ=>?_)
 obtain ⟨u,H3,I3,pu,q3⟩ := aJ
 rw [evalPart_none]
 refine wpAny_pure ?_
 have I4:Ai X pins σ H3 { s3 with heap:=s3.heap.push { cls := .type "slice",data := .fields #[vl,vu,.none] } }:=I3.kept (t':=s3.toks) fun b ob q=>Heap.get?_push_of_some _ q
 obtain ⟨T,id,hT,ht,hg⟩ := hr pins { s3 with heap:=s3.heap.push { cls := .type "slice",data := .fields #[vl,vu,.none] } } σ H3 x v vl vu l u s3.heap.objs.size Q I4 r1 (Heap.IsSliceOf.new ..) pl pu q3
 show wpAny (model X.prog X.w) X.A (subscriptTail e (.Slice lo hi none p2) v (.ref s3.heap.objs.size)) (EP X pins σ Q) X.xe { s3 with heap:=s3.heap.push { cls := .type "slice",data := .fields #[vl,vu,.none] } }
 exact tail_any (ops:=[.ref s3.heap.objs.size,v]) ht hT hg (by with_unfolding_all rfl)
def W1 (xs:List V) (lo hi:Option Int):List V:=(xs.drop (HT.iR xs.length 0 lo)).take (HT.iR xs.length xs.length hi - HT.iR xs.length 0 lo)
theorem Rr (xs:List V) (lo hi:Option Int):(W1 xs lo hi).length <= xs.length:=by
 unfold W1
 rw [List.length_take,List.length_drop]
 omega
def mz (K:PySem.W.Frag):R2:=fun x y H Q=>∃ a b xs ys,x = .ref a /\ y = .ref b /\ C7 K H a xs /\ C7 K H b ys /\ xs ≠ [] /\ xs.length + ys.length <= sizeLine /\
 (ys = [] -> Q (.ref a) H) /\ (ys ≠ [] -> ∀ p,H p = none -> Q (.ref p) (upd H p (.tup (xs ++ ys))))
theorem Ay.gY {xs:List V} {us:List Value} (r:Ay xs us):us = [] ↔ xs = []:=by
 cases r with
 | nil=>simp
 | cons _ _=>simp
theorem Zk:K1 X (binaryOp .Add) (mz X.K):=by
 intro pins s σ H x y v u Q I rx ry h
 obtain ⟨a,b,xs,ys,rfl,rfl,ha,hb,hx,hz,q1,q2⟩ := h
 cases rx
 cases ry
 obtain ⟨aA,r1,p1,_⟩ := I.tuple ha
 obtain ⟨gZ,r2,p2,_⟩ := I.tuple hb
 refine HT.sT p1 p2 (fun z=>hx (r1.gY.mp z)) (fun z=>⟨.ref a,H,I,rfl,q1 (r2.gY.mp z)⟩) (fun z=>?_) (by rw [<- r1.length,<- r2.length]; exact hz)
 refine ⟨.ref s.heap.objs.size,_,I.laid (t':=s.toks) (o := .tup (xs ++ ys)) (fun b ob q=>Heap.get?_push_of_some _ q) (Nat.le_refl _) ?_,rfl,q2 (fun w=>z (r2.gY.mpr w)) _ (I.aC.fresh (Nat.le_refl _))⟩
 exact ⟨⟨by rw [List.length_append]; exact hz,⟨_,Heap.get?_push_size _ rfl,rfl⟩⟩,_,r1.append r2,IsTup.new _ _⟩
end
def Vr (n:Nat) (i:Int):Option Nat:=if 0 <= i then (if i < n then some i.toNat else none) else if -(n:Int) <= i then some (i + n).toNat else none
def Ra {α:Type} (xs:List α) (i:Int):Option α:=(Vr xs.length i).bind fun j=>xs[j]?
theorem Vj {n:Nat} {i:Int} {j:Nat} (h:Vr n i = some j):seqIndex? i n = some j /\ j < n /\ -(n:Int) <= i /\ i < n:=by
 unfold Vr at h
 by_cases h0:0 <= i
 ·rw [if_pos h0] at h
  by_cases h1:i < n
  ·rw [if_pos h1] at h
   have e:i.toNat = j:=Option.some.inj h
   exact ⟨by rw [seqIndex_of h0 h1,e],by omega,by omega,h1⟩
  ·rw [if_neg h1] at h; cases h
 ·rw [if_neg h0] at h
  by_cases h1 : -(n:Int) <= i
  ·rw [if_pos h1] at h
   have e:(i + n).toNat = j:=Option.some.inj h
   exact ⟨by rw [seqIndex_neg (by omega) h1,e],by omega,h1,by omega⟩
  ·rw [if_neg h1] at h; cases h
theorem V2 {α:Type} {xs:List α} {i:Int} {v:α} (h:Ra xs i = some v):∃ j,seqIndex? i xs.length = some j /\ xs[j]? = some v /\ j < xs.length /\ -(xs.length:Int) <= i /\ i < xs.length:=by
 unfold Ra at h
 cases e:Vr xs.length i with
 | none=>rw [e] at h; cases h
 | some j =>
  rw [e] at h
  obtain ⟨h1,h2,h3,h4⟩ := Vj e
  exact ⟨j,h1,h,h2,h3,h4⟩
theorem Vh {α:Type} {xs:List α} {j:Nat} {v:α} (h:xs[j]? = some v):Ra xs (j:Int) = some v:=by
 have hj:j < xs.length:=(List.getElem?_eq_some_iff.mp h).1
 have e:Vr xs.length (j:Int) = some j:=by
  unfold Vr
  rw [if_pos (by omega),if_pos (by omega)]; simp
 unfold Ra; rw [e]; exact h
theorem Xo {α:Type} (xs:List α) (v:α):Ra (xs ++ [v]) (-1) = some v:=by
 have hl:(xs ++ [v]).length = xs.length + 1:=by simp
 have e:Vr (xs ++ [v]).length (-1) = some xs.length:=by
  unfold Vr
  rw [hl,if_neg (by decide),if_pos (by omega)]
  congr 1
  omega
 unfold Ra
 rw [e]
 show (xs ++ [v])[xs.length]? = some v
 simp
def ak (b:Expr):Prop := ∀ o i,subscripted b false o i = operate [o,i] (getItem o i)
def nz (X:Cx) (r:R2):Prop :=
 ∀ (value slice:Expr) (pins:List (Addr × Obj)) (s:Shared) (σ:St) (H:Hp) (x y:V) (v u:Value) (Q:VK),Ai X pins σ H s -> Aw x v -> Aw y u -> r x y H Q ->
  subscripted slice false v u = operate [v,u] (getItem v u) -> wpAny (model X.prog X.w) X.A (subscriptTail value slice v u) (EP X pins σ Q) X.xe s
def qa (X:Cx) (id:String) (r:V -> List V -> Hp -> VK -> Prop):Prop :=
 ∀ (pins:List (Addr × Obj)) (s:Shared) (σ:St) (H:Hp) (x:V) (xs:List V) (v:Value) (us:List Value) (Q:VK),Ai X pins σ H s -> Aw x v -> Ay xs us -> r x xs H Q ->
  wpAny (model X.prog X.w) X.A (call (.builtin id) (v :: us)) (EP X pins σ Q) X.xe s
section
variable {X:Cx} {a b:Expr} {ta tb:TE} {pos:Pos}
theorem Bg {r:R2} (hr:nz X r) (ha:PE X a ta) (hb:PE X b tb) (hs:ak b):PE X (.Subscript a b pos) (nq r ta tb):=by
 intro pins s σ H Q I h
 exact Subscript_ (gc ha hb I h fun v u s2 x y H2 I2 rx ry q=>hr a b pins s2 σ H2 x y v u Q I2 rx ry q (hs _ _))
def ol (K:PySem.W.Frag):R2:=fun x y H Q=>∃ p xs i v,x = .ref p /\ y = .int i /\ Ba K H p xs /\ Ra xs i = some v /\ Q v H
def qp (K:PySem.W.Frag):R2:=fun x y H Q=>∃ p xs i v,x = .ref p /\ y = .int i /\ C7 K H p xs /\ Ra xs i = some v /\ Q v H
theorem ae:nz X (ol X.K):=by
 intro value slice pins s σ H x y v u Q I rx ry h hs
 obtain ⟨p,xs,i,z,rfl,rfl,hq,he,q⟩ := h
 cases rx
 obtain ⟨t,rfl⟩ := ry
 obtain ⟨aA,r,pl,hz⟩ := I.list hq
 obtain ⟨j,h1,h2,h3,h4,h5⟩ := V2 he
 obtain ⟨w,ew,gJ⟩ := r.get h2
 have hl:=r.length
 have hn:=Ho
 have fin:EP X pins σ Q w s:=⟨z,H,I,gJ,q⟩
 by_cases h0:0 <= i
 ·have hj : i.toNat = j := by
   rw [seqIndex_of h0 h5] at h1
   exact Option.some.inj h1
  exact item_listR pl.isList h0 (by omega) (by rw [hj]; simpa using ew) fin hs
 ·have hj : (i + (aA.toArray.size : Int)).toNat = j := by
   rw [seqIndex_neg (by omega) h4] at h1
   rw [List.size_toArray,<- hl]
   exact Option.some.inj h1
  exact subscriptTail_builtinR (x:=w) pl.isList.typeIs slot_list_getitem.lookup
   (wpAny_getItem_list_neg (Q:=fun r s'=>r = w /\ EP X pins σ Q r s') pl.isList (by omega) (by rw [List.size_toArray] <;> omega) (by omega) (by rw [hj]; simpa using ew) ⟨rfl,fin⟩) hs
theorem fb:nz X (qp X.K):=by
 intro value slice pins s σ H x y v u Q I rx ry h hs
 obtain ⟨p,xs,i,z,rfl,rfl,hq,he,q⟩ := h
 cases rx
 obtain ⟨t,rfl⟩ := ry
 obtain ⟨aA,r,pl,hz⟩ := I.tuple hq
 obtain ⟨j,h1,h2,h3,h4,h5⟩ := V2 he
 obtain ⟨w,ew,gJ⟩ := r.get h2
 have hl:=r.length
 have hn:=Ho
 have fin:EP X pins σ Q w s:=⟨z,H,I,gJ,q⟩
 exact subscriptTail_builtinR (x:=w) pl.typeIs slot_tuple_getitem.lookup
  (getItem_tuple (j:=j) (Q:=fun r s'=>r = w /\ EP X pins σ Q r s') pl (by omega) (by omega) (by rw [List.size_toArray,<- hl]; exact h1) (by simpa using ew) ⟨rfl,fin⟩) hs
theorem S9 (aA:List Value) (n j:Nat) (u:Value):Obj.mapSeq (·.setIfInBounds j u) { cls := .type "list",data := .seq aA.toArray n } = { cls := .type "list",data := .seq (aA.set j u).toArray n }:=by
 simp [Obj.mapSeq]
theorem Ai.lst {pins : List (Addr × Obj)} {σ : St} {H : Hp} {s : Shared} {p : Addr} {xs : List V} (I : Ai X pins σ H s) (h : H p = some (.lst xs)) :
  ∃ (aA:List Value) (n:Nat),Ay xs aA /\ s.heap.get? p = some { cls := .type "list",data := .seq aA.toArray n } /\ xs.length <= sizeLine:=by
 obtain ⟨z,aA,n,r,e⟩ := I.aC p _ h
 exact ⟨aA,n,r,e,z⟩
theorem Ai.xf {pins : List (Addr × Obj)} {σ : St} {H : Hp} {s : Shared} {p : Addr} {xs ys : List V} {aA its' : List Value} {n n' : Nat} {f : Obj -> Obj} (I : Ai X pins σ H s) (h : H p = some (.lst xs))
  (ho:s.heap.get? p = some { cls := .type "list",data := .seq aA.toArray n }) (hf:f { cls := .type "list",data := .seq aA.toArray n } = { cls := .type "list",data := .seq its'.toArray n' }) (r:Ay ys its') (hz:ys.length <= sizeLine) (t:Nat) :
  Ai X pins σ (upd H p (.lst ys)) { s with heap:=s.heap.update p f,toks:=t }:=by
 have e:(s.heap.update p f).get? p = some { cls := .type "list",data := .seq its'.toArray n' }:=by
  rw [Heap.get?_update_self f ho (by rw [hf] <;> rfl),hf]
 refine I.write (x:=p) (e:=p) (by rw [h]; trivial) (.inl rfl) (fun b u hb q=>(Heap.get?_update_other _ _ (Ne.symm hb)).trans q) ⟨_,e⟩ ?_
 exact ⟨hz,its',n',r,e⟩
def lm:V -> V -> V -> Hp -> (Hp -> Prop) -> Prop:=fun o i v H Q=>∃ p xs k j,o = .ref p /\ i = .int k /\ H p = some (.lst xs) /\ Vr xs.length k = some j /\ Q (upd H p (.lst (xs.set j v)))
theorem Rz:jq X lm:=by
 intro pins s σ H o i v ov iv u Q I ro ri rv h
 obtain ⟨p,xs,k,j,rfl,rfl,hp,hj,q⟩ := h
 cases ro
 obtain ⟨t,rfl⟩ := ri
 obtain ⟨aA,n,r,ho,hz⟩ := I.lst hp
 obtain ⟨h1,h2,h3,h4⟩ := Vj hj
 have hl:=r.length
 have hn:=Ho
 have I':Ai X pins σ (upd H p (.lst (xs.set j v))) { s with heap:=s.heap.update p (Obj.mapSeq (·.setIfInBounds j u)) } :=
  I.xf hp ho (S9 aA n j u) (r.set rv j) (by rw [List.length_set]; exact hz) s.toks
 by_cases h0:0 <= k
 ·have hk : k.toNat = j := by
   rw [seqIndex_of h0 h4] at h1
   exact Option.some.inj h1
  exact PySem.W.ki_setAt ho h0 (by omega) (by rw [List.size_toArray,<- hl]; exact h4) (by rw [hk]; exact ⟨_,I',q⟩)
 ·have hk : (k + (aA.toArray.size : Int)).toNat = j := by
   rw [seqIndex_neg (by omega) h3] at h1
   rw [List.size_toArray,<- hl]
   exact Option.some.inj h1
  exact PySem.W.ki_setBack ho (by omega) (by rw [List.size_toArray,<- hl]; exact h3) (by omega) (by rw [hk]; exact ⟨_,I',q⟩)
theorem Pe (lo hi:Option Int) (n:Nat):(sliceBounds lo hi none n).1 = ((HT.iR n 0 lo:Nat):Int) /\ (sliceBounds lo hi none n).2.1 = ((HT.iR n n hi:Nat):Int) /\ (sliceBounds lo hi none n).2.2 = 1:=by
 refine ⟨?_,?_,rfl⟩
 ·cases lo with
  | none=>simp [sliceBounds,HT.iR]
  | some i =>
   simp only [sliceBounds,HT.iR,Option.getD_none,show (1:Int) > 0 by decide,if_true]
   by_cases h:i < 0
   ·simp only [h,if_true] <;> omega
   ·simp only [h,if_false] <;> omega
 ·cases hi with
  | none=>simp [sliceBounds,HT.iR]
  | some i =>
   simp only [sliceBounds,HT.iR,Option.getD_none,show (1:Int) > 0 by decide,if_true]
   by_cases h:i < 0
   ·simp only [h,if_true] <;> omega
   ·simp only [h,if_false] <;> omega
theorem Mx (aA:List Value) (lo hi:Option Int):slicePick aA.toArray lo hi none = ((aA.drop (HT.iR aA.length 0 lo)).take (HT.iR aA.length aA.length hi - HT.iR aA.length 0 lo)).toArray:=by
 obtain ⟨h1,h2,h3⟩ := Pe lo hi aA.toArray.size
 unfold slicePick
 rw [h1,h2,h3]
 simp only [sliceRange_one,pick_run,List.size_toArray] <;> rfl
def kf (K:PySem.W.Frag):V -> Option Int -> Option Int -> Hp -> VK -> Prop:=fun x lo hi H Q=>∃ a xs,x = .ref a /\ Ba K H a xs /\ ∀ p,H p = none -> Q (.ref p) (upd H p (.lst (W1 xs lo hi)))
theorem ai:qt X (kf X.K):=by
 intro pins s σ H x v vl vu lo hi sl Q I rx hs pl pu h
 obtain ⟨a,xs,rfl,hx,q⟩ := h
 cases rx
 obtain ⟨aA,r,ht,hz⟩ := I.list hx
 have hlen:=r.length
 refine ⟨"list",_,slot_list_getitem.lookup,ht.isList.typeIs,?_⟩
 refine wpAny_getItem_list_slice ht.isList hs pl pu .none (by simp) ?_ (by rw [List.size_toArray] <;> omega)
 rw [Mx,<- hlen]
 refine ⟨.ref s.heap.objs.size,_,I.laid (t':=s.toks) (o := .lst (W1 xs lo hi)) (fun b ob q=>Heap.get?_push_of_some _ q) (Nat.le_refl _) ?_,rfl,q _ (I.aC.fresh (Nat.le_refl _))⟩
 exact ⟨Nat.le_trans (Rr xs lo hi) hz,_,0,(r.drop (HT.iR xs.length 0 lo)).take (HT.iR xs.length xs.length hi - HT.iR xs.length 0 lo),Heap.get?_push_size _ rfl⟩
def G8:V -> Bool
 | .aL=>true
 | .bl _=>true
 | .int _=>true
 | .str _=>true
 | _=>false
def b9:V -> V -> Bool
 | .aL,.aL=>true
 | .bl a,.bl b=>a == b
 | .bl a,.int b=>(if a then 1 else 0) == b
 | .int a,.bl b=>a == (if b then 1 else 0)
 | .int a,.int b=>a == b
 | .str a,.str b=>a == b
 | _,_=>false
theorem iy {A:Around} {s:Shared} {y x:V} {u v:Value} (ry:Aw y u) (rx:Aw x v) (fy:G8 y = true) (fx:G8 x = true):SeqAt.EqAt A s u v (b9 y x):=by
 cases y with
 | aL =>
  cases ry
  cases x with
  | aL=>cases rx; exact SeqAt.EqAt.same _
  | bl b=>cases rx; exact SeqAt.EqAt.none_bool b
  | int b=>obtain ⟨t,rfl⟩ := rx; exact SeqAt.EqAt.none_int b t
  | str b=>obtain ⟨t,rfl⟩ := rx; exact SeqAt.EqAt.none_str b t
  | _=>exact absurd (show false = true from fx) Bool.false_ne_true
 | bl a =>
  cases ry
  cases x with
  | aL=>cases rx; exact SeqAt.EqAt.bool_none a
  | bl b=>cases rx; exact SeqAt.EqAt.bool_bool a b
  | int b=>obtain ⟨t,rfl⟩ := rx; exact SeqAt.EqAt.bool_int a b t
  | str b=>obtain ⟨t,rfl⟩ := rx; exact SeqAt.EqAt.bool_str a b t
  | _=>exact absurd (show false = true from fx) Bool.false_ne_true
 | int a =>
  obtain ⟨t',rfl⟩ := ry
  cases x with
  | aL=>cases rx; exact SeqAt.EqAt.int_none a t'
  | bl b=>cases rx; exact SeqAt.EqAt.int_bool a t' b
  | int b=>obtain ⟨t,rfl⟩ := rx; exact SeqAt.EqAt.int_int a t' b t
  | str b=>obtain ⟨t,rfl⟩ := rx; exact SeqAt.EqAt.int_str a t' b t
  | _=>exact absurd (show false = true from fx) Bool.false_ne_true
 | str a =>
  obtain ⟨t',rfl⟩ := ry
  cases x with
  | aL=>cases rx; exact SeqAt.EqAt.str_none a t'
  | bl b=>cases rx; exact SeqAt.EqAt.str_bool a t' b
  | int b=>obtain ⟨t,rfl⟩ := rx; exact SeqAt.EqAt.str_int a t' b t
  | str b=>obtain ⟨t,rfl⟩ := rx; exact SeqAt.EqAt.str_str a t' b t
  | _=>exact absurd (show false = true from fx) Bool.false_ne_true
 | _=>exact absurd (show false = true from fy) Bool.false_ne_true
def aa (x:V) (u:Value):Bool:=match u with
 | .none=>b9 .aL x
 | .bool b=>b9 (.bl b) x
 | .int i _=>b9 (.int i) x
 | .str z _=>b9 (.str z) x
 | _=>false
theorem Y7 {x y:V} {u:Value} (r:Aw y u) (f:G8 y = true):aa x u = b9 y x:=by
 cases y with
 | aL=>cases r; rfl
 | bl b=>cases r; rfl
 | int i=>obtain ⟨t,rfl⟩ := r; rfl
 | str z=>obtain ⟨t,rfl⟩ := r; rfl
 | _=>exact absurd (show false = true from f) Bool.false_ne_true
theorem Uz {x:V} {xs:List V} {us:List Value} (h:Ay xs us) (f:xs.all G8 = true):us.any (aa x) = xs.any fun y=>b9 y x:=by
 induction h with
 | nil=>rfl
 | cons r t ih =>
  rw [List.all_cons,Bool.and_eq_true] at f
  rw [List.any_cons,List.any_cons,Y7 r f.1,ih f.2]
theorem Rj {A:Around} {s:Shared} {x:V} {v:Value} (rx:Aw x v) (fx:G8 x = true) {xs:List V} {us:List Value} (h:Ay xs us) (f:xs.all G8 = true):∀ u ∈ us,SeqAt.EqAt A s u v (aa x u):=by
 induction h with
 | nil =>
  intro u hu
  cases hu
 | cons r t ih =>
  intro u' hu
  rw [List.all_cons,Bool.and_eq_true] at f
  rcases List.mem_cons.mp hu with rfl | hu
  ·rw [Y7 r f.1]
   exact iy r rx f.1 fx
  ·exact ih f.2 u' hu
def nw (x:V) (xs:List V):Bool:=xs.any fun y=>b9 y x
def sj (K:PySem.W.Frag) (neg:Bool):R2:=fun x y H Q=>∃ p xs,y = .ref p /\ (Ba K H p xs \/ C7 K H p xs) /\ G8 x = true /\ xs.all G8 = true /\ Q (.bl (if neg then !nw x xs else nw x xs)) H
theorem X9:K1 X (compareOp .In) (sj X.K false):=by
 intro pins s σ H x y v u Q I rx ry h
 obtain ⟨p,xs,rfl,hq,fx,fs,q⟩ := h
 cases ry
 rcases hq with hq | hq
 ·obtain ⟨aA,r,pl,hz⟩ := I.list hq
  refine SeqAt.in_listAt (aa x) pl.isList (fun w hw=>Rj rx fx r fs w (by simpa using hw)) ⟨.bl _,H,I,rfl,?_⟩
  rw [show aA.toArray.any (aa x) = aA.any (aa x) by simp,Uz r fs]
  exact q
 ·obtain ⟨aA,r,pl,hz⟩ := I.tuple hq
  refine SeqAt.in_tupleAt (aa x) pl (fun w hw=>Rj rx fx r fs w (by simpa using hw)) ⟨.bl _,H,I,rfl,?_⟩
  rw [show aA.toArray.any (aa x) = aA.any (aa x) by simp,Uz r fs]
  exact q
theorem P7:Dl X (.builtin "len") (fun xs H Q=>∃ p ys,xs = [.ref p] /\ (Ba X.K H p ys \/ C7 X.K H p ys) /\ Q (.int ys.length) H):=by
 intro pins s σ H xs us Q I r h
 obtain ⟨p,ys,rfl,hq,q⟩ := h
 obtain ⟨u,rfl,rx⟩ := I9 r
 cases rx
 have hn:=Ho
 rcases hq with hq | hq
 ·obtain ⟨aA,r',pl,hz⟩ := I.list hq
  have hlen:=r'.length
  exact Calls.call_len_list pl.isList (by simp only [List.size_toArray] <;> omega) ⟨.int ys.length,H,I.tok _,⟨s.toks + 1,by rw [List.size_toArray,hlen]⟩,q⟩
 ·obtain ⟨aA,r',pl,hz⟩ := I.tuple hq
  have hlen:=r'.length
  exact len_tuple pl (by simp only [List.size_toArray] <;> omega) ⟨.int ys.length,H,I.tok _,⟨s.toks + 1,by rw [List.size_toArray,hlen]⟩,q⟩
theorem Ph:Dl X (.type "list") (fun xs H Q=>∃ p ys,xs = [.ref p] /\ (Ba X.K H p ys \/ C7 X.K H p ys) /\ ∀ l,H l = none -> Q (.ref l) (upd H l (.lst ys))):=by
 intro pins s σ H xs us Q I r h
 obtain ⟨p,ys,rfl,hq,q⟩ := h
 obtain ⟨u,rfl,rx⟩ := I9 r
 cases rx
 have fin : ∀ (aA : List Value), Ay ys aA -> ys.length <= sizeLine -> ∀ (h' : Heap) (c' : Nat), (∀ b o', s.heap.get? b = some o' -> h'.get? b = some o') ->
   h'.get? s.heap.objs.size = some { cls := .type "list",dict:=none,data := .seq aA.toArray c',slots := #[] } -> EP X pins σ Q (.ref s.heap.objs.size) { s with heap:=h' }:=fun aA r' hz h' c' kp e =>
  ⟨.ref s.heap.objs.size,_,I.laid (t':=s.toks) kp (Nat.le_refl _) (show Bj X.prog X.w _ h' _ (.lst ys) from ⟨hz,aA,c',r',e⟩),rfl,q _ (I.aC.fresh (Nat.le_refl _))⟩
 rcases hq with hq | hq
 ·obtain ⟨aA,r',pl,hz⟩ := I.list hq
  have hlen:=r'.length
  obtain ⟨o,ho,hc,n,hd⟩ := pl.isList
  exact call_list_seq p (.inl rfl) ho hc hd (fun h' c' kp e=>fin aA r' hz h' c' kp e) (by simp only [List.size_toArray] <;> omega)
 ·obtain ⟨aA,r',pl,hz⟩ := I.tuple hq
  have hlen:=r'.length
  obtain ⟨o,ho,hc,n,hd⟩ := pl
  exact call_list_seq p (.inr rfl) ho hc hd (fun h' c' kp e=>fin aA r' hz h' c' kp e) (by simp only [List.size_toArray] <;> omega)
theorem N1:Dl X (.type "tuple") (fun xs H Q=>∃ p ys,xs = [.ref p] /\ ((Ba X.K H p ys /\ ∀ l,H l = none -> Q (.ref l) (upd H l (.tup ys))) \/ (C7 X.K H p ys /\ Q (.ref p) H))):=by
 intro pins s σ H xs us Q I r h
 obtain ⟨p,ys,rfl,h⟩ := h
 obtain ⟨u,rfl,rx⟩ := I9 r
 cases rx
 rcases h with ⟨hq,q⟩ | ⟨hq,q⟩
 ·obtain ⟨aA,r',pl,hz⟩ := I.list hq
  have hlen:=r'.length
  refine call_tuple_list pl.isList (fun h' kp=>?_) (by simp only [List.size_toArray] <;> omega)
  have I1:Ai X pins σ H { s with heap:=h' }:=I.kept (t':=s.toks) kp
  have I2:Ai X pins σ (upd H h'.objs.size (.tup ys)) { s with heap:=h'.push { cls := .type "tuple",data := .seq aA.toArray } } :=
   I1.laid (t':=s.toks) (fun b o e=>Heap.get?_push_of_some _ e) (Nat.le_refl _) (show Bj X.prog X.w _ _ _ (.tup ys) from ⟨⟨hz,⟨_,Heap.get?_push_size _ rfl,rfl⟩⟩,aA,r',IsTup.new _ _⟩)
  exact ⟨.ref h'.objs.size,_,I2,rfl,q _ (I1.aC.fresh (Nat.le_refl _))⟩
 ·obtain ⟨aA,r',pl,hz⟩ := I.tuple hq
  exact call_tuple_same pl ⟨.ref p,H,I,rfl,q⟩
def pe (K:PySem.W.Frag) (T:String) (x:V) (H:Hp):Prop:=match x with
 | .str _=>T = "str"
 | .int _=>T = "int"
 | .ref p => (T = "list" /\ ∃ xs, Ba K H p xs) \/ (T = "tuple" /\ ((∃ o, K.lookup p = some o /\ o.cls = .type "tuple" /\ o.dict = none) \/ ∃ xs, H p = some (.tup xs))) \/
   (T = "dict" /\ ((∃ kvs,H p = some (.dK kvs)) \/ ∃ kvs,H p = some (.dT kvs))) \/ (T = "set" /\ ∃ S n,H p = some (.set S n))
 | _=>False
theorem Y2 {pins : List (Addr × Obj)} {σ : St} {H : Hp} {s : Shared} {T : String} {x : V} {v : Value} (I : Ai X pins σ H s) (r : Aw x v) (ty : pe X.K T x H) :
  s.TypeIs v T /\ ∀ a,v = .ref a -> ∃ ob,s.heap.get? a = some ob /\ ob.dict = none:=by
 cases x with
 | str z =>
  obtain ⟨t,rfl⟩ := r
  cases (show T = "str" from ty)
  exact ⟨typeIs_str s z t,fun _ e=>nomatch e⟩
 | int i =>
  obtain ⟨t,rfl⟩ := r
  cases (show T = "int" from ty)
  exact ⟨typeIs_int s i t,fun _ e=>nomatch e⟩
 | ref p =>
  cases r
  rcases ty with ⟨rfl,xs,hq⟩ | ⟨rfl,⟨o,hk,hc,hd⟩ | ⟨ys,hk⟩⟩ | ⟨rfl,hk⟩ | ⟨rfl,S,n,hk⟩
  ·obtain ⟨aA,_,pl,_⟩ := I.list hq
   refine ⟨pl.isList.typeIs,fun a e=>?_⟩
   cases e
   obtain ⟨o,n,e,c,hd,_⟩ := pl
   exact ⟨o,e,hd⟩
  ·refine ⟨⟨o,I.iM p o hk,hc⟩,fun a e=>?_⟩
   cases e
   exact ⟨o,I.iM _ o hk,hd⟩
  ·obtain ⟨⟨_,o2,e2,d2⟩,_,_,⟨o1,e1,c1,_⟩⟩ := (show Bj X.prog X.w H s.heap p (.tup ys) from I.aC p _ hk)
   refine ⟨⟨o1,e1,c1⟩,fun a ea=>?_⟩
   cases ea
   exact ⟨o2,e2,d2⟩
  ·have z : ∃ o, s.heap.get? p = some o /\ o.ExactDict := by
    rcases hk with ⟨kvs,hk⟩ | ⟨kvs,hk⟩
    ·obtain ⟨_,_,_,_,o,_,_,e,ex,_⟩ := I.aC p _ hk
     exact ⟨o,e,ex⟩
    ·obtain ⟨_,_,_,_,o,_,_,e,ex,_⟩ := I.aC p _ hk
     exact ⟨o,e,ex⟩
   obtain ⟨o,e,ex⟩ := z
   refine ⟨⟨o,e,ex.1⟩,fun a e2=>?_⟩
   cases e2
   exact ⟨o,e,ex.2.1⟩
  ·obtain ⟨o,_,_,_,e,ex,_⟩ := I.aC p _ hk
   refine ⟨⟨o,e,ex.1⟩,fun a e2=>?_⟩
   cases e2
   exact ⟨o,e,ex.2.1⟩
 | _=>exact False.elim ty
def Zu (K:PySem.W.Frag) (T:String) (r:V -> List V -> Hp -> VK -> Prop) (to:TE):TE:=fun σ H Q=>to σ H fun x H1=>pe K T x H1 /\ r x [] H1 Q
def Vb (K:PySem.W.Frag) (T:String) (r:V -> List V -> Hp -> VK -> Prop) (to:TE) (t:TA):TE:=fun σ H Q=>to σ H fun x H1=>pe K T x H1 /\ t σ H1 fun xs H2=>r x xs H2 Q
variable {o e:Expr} {es:List Expr} {to:TE} {t:TA} {name:Str} {apos aS:Pos} {T id:String} {r:V -> List V -> Hp -> VK -> Prop}
theorem P9 (pa : PlainAttrs T) (slot : Slot T name id) (UY : typeOf (.builtin id) = pure (.type "method_descriptor")) (hm : qa X id r) (ho : PE X o to)
  (iT:attributeBase o name X.env (eval o X.env) = eval o X.env:=by rfl) (iU:(apos.endLine == aS.line) = true:=by rfl):PE X (.Call (.Attribute o name apos) [] [] aS) (Zu X.K T r to):=by
 intro pins s σ H Q I h
 refine wpAny_Call_method0_late iT iU (Ca (ho pins s σ H _ I h) fun v s1 aJ=>?_)
 obtain ⟨x,H1,I1,r1,ty,q1⟩ := aJ
 obtain ⟨h1,h2⟩ := Y2 I1 r1 ty
 exact ⟨T,id,pa,slot,UY,h1,h2,Calls.callWith_builtin rfl (PySem.evalArgs_none (hm pins s1 σ H1 x [] v [] Q I1 r1 .nil q1))⟩
theorem Fe (pa : PlainAttrs T) (slot : Slot T name id) (UY : typeOf (.builtin id) = pure (.type "method_descriptor")) (hm : qa X id r) (ho : PE X o to) (ha : PA X (e :: es) t)
  (iT:attributeBase o name X.env (eval o X.env) = eval o X.env:=by rfl)
  (UZ:((backTo aS (starEach (e :: es) X.env)).all (fun x=>!x.1) && (backToKw aS (keywordEach [] X.env)).all (fun x=>x.1.isSome)
   && decide ((e :: es).length + ([]:List Keyword).length + (if ([]:List Keyword).isEmpty then 0 else 1) < 30)) = true:=by rfl)
  (iU:(apos.endLine == aS.line) = true:=by rfl) (hs:starEach (e :: es) X.env = (false,eval e X.env) :: starEach es X.env:=by rfl) (xg:(backTo aS (starEach es X.env)).any (·.1) = false:=by rfl) :
  PE X (.Call (.Attribute o name apos) (e :: es) [] aS) (Vb X.K T r to t):=by
 intro pins s σ H Q I h
 refine wpAny_Call_method_late iT UZ iU rfl (Ca (ho pins s σ H _ I h) fun v s1 aJ=>?_)
 obtain ⟨x,H1,I1,r1,ty,q1⟩ := aJ
 obtain ⟨h1,h2⟩ := Y2 I1 r1 ty
 refine ⟨T,id,pa,slot,UY,h1,h2,?_⟩
 have hA:=ha aS pins s1 σ H1 _ I1 q1
 rw [hs] at hA ⊢
 refine Calls.callWith_builtin (by show (false || (backTo aS (starEach es X.env)).any (·.1)) = false; rw [xg] <;> rfl) (Calls.evalArgs_plain ?_)
 exact Ca hA fun us s2 ⟨vs,H2,I2,r2,q2⟩=>hm pins s2 σ H2 x vs v us Q I2 r1 r2 q2
/- xs.append(e),list.index on a FZ tuple .. are qa facts of 06m -/
end
def k0 (X:Cx) (id:String) (r:V -> List V -> Hp -> VK -> Prop):Prop :=
 ∀ (pins:List (Addr × Obj)) (s:Shared) (σ:St) (H:Hp) (x:V) (xs:List V) (v:Value) (us:List Value) (Q:VK),Ai X pins σ H s -> Aw x v -> Ay xs us -> r x xs H Q ->
  wpAny (model X.prog X.w) X.A (call (.builtin id) (v :: us)) (EP X pins σ Q) X.xe s
theorem Ay.one {x:V} {us:List Value} (h:Ay [x] us):∃ u,us = [u] /\ Aw x u:=by
 cases h with
 | cons r t =>
  cases t
  exact ⟨_,rfl,r⟩
theorem Ay.two {x y:V} {us:List Value} (h:Ay [x,y] us):∃ u v,us = [u,v] /\ Aw x u /\ Aw y v:=by
 cases h with
 | cons r t =>
  obtain ⟨v,rfl,q⟩ := Ay.one t
  exact ⟨_,v,rfl,r,q⟩
theorem Ay.zero:∀ {us:List Value},Ay [] us -> us = []
 | _,.nil=>rfl
theorem Ay.dropLast {xs:List V} {us:List Value} (h:Ay xs us):Ay xs.dropLast us.dropLast:=by
 induction h with
 | nil=>exact .nil
 | cons r t ih =>
  cases t with
  | nil=>exact .nil
  | cons q t'=>exact .cons r ih
theorem Ay.rep {xs:List V} {us:List Value} (h:Ay xs us):∀ k:Nat,Ay (List.replicate k xs).flatten (List.replicate k us).flatten
 | 0=>.nil
 | k + 1=>by
  rw [List.replicate_succ,List.replicate_succ,List.flatten_cons,List.flatten_cons]
  exact Ay.append h (Ay.rep h k)
theorem Sv {α:Type} (l:List α):l.eraseIdx (l.length - 1) = l.dropLast:=by
 induction l with
 | nil=>rfl
 | cons a r ih =>
  cases r with
  | nil=>rfl
  | cons b r =>
   have e:(a :: b :: r).length - 1 = ((b :: r).length - 1) + 1:=by
    have h1:(a :: b :: r).length = r.length + 2:=rfl
    have h2:(b :: r).length = r.length + 1:=rfl
    omega
   rw [e,List.eraseIdx_cons_succ,ih]
   all_goals rfl
theorem O8 (aA : List Value) : ∀ (k : Nat) (acc : List Value),
  List.foldl (fun x1 x2=>x1 ++ x2) acc.toArray (List.replicate k aA.toArray) = (acc ++ (List.replicate k aA).flatten).toArray
 | 0,acc=>by simp
 | k + 1,acc=>by
  have e:acc.toArray ++ aA.toArray = (acc ++ aA).toArray:=by simp
  have e2:(acc ++ aA) ++ (List.replicate k aA).flatten = acc ++ (List.replicate (k + 1) aA).flatten:=by
   rw [List.replicate_succ,List.flatten_cons,List.append_assoc]
  rw [<- e2,<- O8 aA k (acc ++ aA),<- e,List.replicate_succ,List.foldl_cons]
section
variable {X:Cx} {pins:List (Addr × Obj)} {σ:St} {H:Hp} {s:Shared} {l b:Addr} {xs ys zs:List V}
theorem Ai.xh {aA its' : List Value} {n : Nat} {f : Array Value -> Array Value} {t' : Nat} (I : Ai X pins σ H s) (hH : H l = some (.lst xs))
  (e:s.heap.get? l = some { cls := .type "list",data := .seq aA.toArray n }) (hf:f aA.toArray = its'.toArray) (hv:Ay ys its') (hz:ys.length <= sizeLine) :
  Ai X pins σ (upd H l (.lst ys)) { s with heap:=s.heap.update l (Obj.mapSeq f),toks:=t' }:=by
 have q:=PySem.IsL.update e f
 rw [hf] at q
 refine I.write (x:=l) (e:=l) (by rw [hH]; exact trivial) (.inl rfl) (fun b' u hb hu=>(Heap.get?_update_other s.heap (Obj.mapSeq f) (Ne.symm hb)).trans hu) ⟨_,q⟩ ?_
 exact ⟨hz,its',_,hv,q⟩
theorem Ai.VA {aA : List Value} {t' : Nat} (I : Ai X pins σ H s) (hv : Ay ys aA) (hz : ys.length <= sizeLine) :
  Ai X pins σ (upd H s.heap.objs.size (.lst ys)) { s with heap:=s.heap.push { cls := .type "list",data := .seq aA.toArray },toks:=t' } :=
 I.laid (fun _ _ q=>Heap.get?_push_of_some _ q) (Nat.le_refl _) ⟨hz,aA,0,hv,Heap.get?_push_size _ rfl⟩
theorem Ai.fresh (I:Ai X pins σ H s):H s.heap.objs.size = none:=I.aC.fresh (Nat.le_refl _)
theorem Ai.nD (I:Ai X pins σ H s) (hH:H l = some (.lst xs)):xs.length <= sizeLine /\ ∃ (aA:List Value) (n:Nat),Ay xs aA /\ xs.length = aA.length /\ s.heap.get? l = some { cls := .type "list",data := .seq aA.toArray n }:=by
 obtain ⟨z,aA,n,r,e⟩ := I.aC l _ hH
 exact ⟨z,aA,n,r,r.length,e⟩
theorem Rl {n:Nat} (h:n <= sizeLine):Builtin.List.listTooLong n = false:=by
 unfold Builtin.List.listTooLong
 exact decide_eq_false (by omega)
end
section
variable {X:Cx}
def az:V -> List V -> Hp -> VK -> Prop:=fun x vs H Q=>∃ l xs y,x = .ref l /\ vs = [y] /\ H l = some (.lst xs) /\ xs.length < sizeLine /\ Q .aL (upd H l (.lst (xs ++ [y])))
theorem Cy:k0 X "list.append" az:=by
 intro pins s σ H x vs v us Q I rx rv h
 obtain ⟨l,xs,y,rfl,rfl,hH,hz,q⟩ := h
 cases rx
 obtain ⟨u,rfl,ru⟩ := rv.one
 obtain ⟨z,aA,n,r,hl,e⟩ := I.nD hH
 refine call_meets F.slot_list_append ⟨_,e,rfl⟩ F.entry_list_append (F.args_list_append_2 _ _) (PySem.list_append l aA.toArray n u (by rw [List.size_toArray]; omega)) ⟨e,?_⟩
 refine ⟨.aL,_,I.xh (its':=aA ++ [u]) hH e (by simp) (r.append (.cons ru .nil)) ?_,rfl,q⟩
 rw [List.length_append,List.length_singleton]
 omega
def b6:V -> List V -> Hp -> VK -> Prop:=fun x vs H Q=>∃ l b xs zs,x = .ref l /\ vs = [.ref b] /\ H l = some (.lst xs) /\ H b = some (.lst zs) /\ xs.length + zs.length <= sizeLine /\ Q .aL (upd H l (.lst (xs ++ zs)))
theorem Gm:k0 X "list.extend" b6:=by
 intro pins s σ H x vs v us Q I rx rv h
 obtain ⟨l,b,xs,zs,rfl,rfl,hH,hB,hz,q⟩ := h
 cases rx
 obtain ⟨u,rfl,ru⟩ := rv.one
 cases ru
 obtain ⟨z,aA,n,r,hl,e⟩ := I.nD hH
 obtain ⟨z2,gZ,n2,r2,sE,e2⟩ := I.nD hB
 have hsz:aA.toArray.size + gZ.toArray.size <= sizeLine:=by rw [List.size_toArray,List.size_toArray]; omega
 have nF:¬ (!aA.toArray.isEmpty && Builtin.List.listTooLong (aA.toArray.size + gZ.toArray.size)) = true:=by
  rw [Rl hsz,Bool.and_false]
  exact Bool.false_ne_true
 refine call_meets F.slot_list_extend ⟨_,e,rfl⟩ F.entry_list_extend (F.args_list_extend_2 _ _)
  (AutoSeq1.list_extend_list_list_0 l aA.toArray n b gZ.toArray n2 nF (by rw [List.size_toArray]; omega) (by omega)) ⟨e,e2,?_⟩
 refine ⟨.aL,_,I.xh (its':=aA ++ gZ) hH e (by simp) (r.append r2) ?_,rfl,q⟩
 rw [List.length_append]
 omega
def r9:V -> List V -> Hp -> VK -> Prop:=fun x vs H Q=>∃ l xs y,x = .ref l /\ vs = [] /\ H l = some (.lst xs) /\ xs[xs.length - 1]? = some y /\ Q y (upd H l (.lst xs.dropLast))
theorem Ty:k0 X "list.pop" r9:=by
 intro pins s σ H x vs v us Q I rx rv h
 obtain ⟨l,xs,y,rfl,rfl,hH,hy,q⟩ := h
 cases rx
 have iV:=rv.zero
 subst iV
 obtain ⟨z,aA,n,r,hl,e⟩ := I.nD hH
 obtain ⟨u,hu,ru⟩ := r.get hy
 have nG:aA.toArray[aA.toArray.size - 1]? = some u:=by
  show aA.toArray[aA.length - 1]? = some u
  rw [<- Array.getElem?_toList,<- hl]
  exact hu
 refine call_meets F.slot_list_pop ⟨_,e,rfl⟩ F.entry_list_pop (F.args_list_pop_1 _) (MeetsSeq.list_pop_last l aA.toArray n u nG (by rw [List.size_toArray]; omega)) ⟨e,?_⟩
 refine ⟨y,_,I.xh (its':=aA.dropLast) hH e ?_ r.dropLast ?_,ru,q⟩
 ·show aA.toArray.eraseIdxIfInBounds (aA.toArray.size - 1) = aA.dropLast.toArray
  rw [List.size_toArray,List.eraseIdxIfInBounds_toArray,Sv]
 ·rw [List.length_dropLast]
  omega
def qf:R2:=fun x y H Q=>∃ l k xs,x = .ref l /\ y = .int k /\ H l = some (.lst xs) /\ -(2 ^ 63) <= k /\ k < 2 ^ 63 /\ xs.length * k.toNat <= sizeLine /\
 ∀ p,H p = none -> Q (.ref p) (upd H p (.lst (List.replicate k.toNat xs).flatten))
theorem ah {α:Type} (xs:List α) (k:Nat):(List.replicate k xs).flatten.length = k * xs.length:=by
 induction k with
 | zero=>simp
 | succ k ih=>rw [List.replicate_succ,List.flatten_cons,List.length_append,ih,Nat.succ_mul,Nat.add_comm]
theorem jh:K1 X (binaryOp .Mult) qf:=by
 intro pins s σ H x y v u Q I rx ry h
 obtain ⟨l,k,xs,rfl,rfl,hH,h1,h2,hz,q⟩ := h
 cases rx
 obtain ⟨t,rfl⟩ := ry
 obtain ⟨z,aA,n,r,hl,e⟩ := I.nD hH
 have hlen:aA.toArray.size * k.toNat <= sizeLine:=by rw [List.size_toArray,<- hl]; exact hz
 have VB:¬ aA.toArray.size * k.toNat > (2 ^ 63 - 1) / 8:=by
  have:(sizeLine:Nat) <= (2 ^ 63 - 1) / 8:=by decide
  omega
 have sW:¬ (!Builtin.List.listFitsIndex k) = true:=by
  rw [fitsIndex_both h1 h2]
  exact Bool.false_ne_true
 have nF:¬ Builtin.List.listTooLong (aA.toArray.size * k.toNat) = true:=by
  rw [Rl hlen]
  exact Bool.false_ne_true
 have dE:List.foldl (fun x1 x2=>x1 ++ x2) #[] (List.replicate (if aA.toArray.isEmpty = true then 0 else k.toNat) aA.toArray) = (List.replicate k.toNat aA).flatten.toArray:=by
  have f0:∀ m:Nat,List.foldl (fun x1 x2=>x1 ++ x2) #[] (List.replicate m aA.toArray) = (List.replicate m aA).flatten.toArray:=fun m=>by
   have:=O8 aA m []
   rw [List.nil_append] at this
   exact this
  rw [f0]
  cases aA with
  | nil=>simp
  | cons a r'=>rw [if_neg (by simp)]
 refine wpAny_binaryOp_repeat_ref (T := "list") (U := "int") (by decide) ⟨_,e,rfl⟩ (fun s'=>typeIs_int s' k t) noFill_list_mul F.fills_int_mul F.slot_int_rmul repeat_list F.slot_int_index.lookup
  (call_meets F.slot_int_rmul (typeIs_int s k t) F.entry_int_rmul (F.args_int_rmul_2 _ _) (int___rmul___int_list k t l aA.toArray n)
   ⟨e,rfl,⟨_,e,rfl⟩,call_meets F.slot_list_mul ⟨_,e,rfl⟩ F.entry_list_mul (F.args_list_mul_2 _ _) (AutoListH.list___mul___list_int_3 l aA.toArray n k t sW VB nF) ⟨e,?_⟩⟩)
 rw [dE]
 exact ⟨.ref _,_,I.VA (t':=s.toks) (r.rep k.toNat) (by rw [ah,Nat.mul_comm]; exact hz),rfl,q _ I.fresh⟩
end
section
variable {prog:Program} {w:World} {A:Around} {E:Value -> Shared -> Prop} {s:Shared}
end
section
variable {X:Cx}
end
end L2
namespace Att
local macro_rules | `(tactic| omega) => `(tactic| lia)
open PySem PySem.W PySem.Calls PyProof.Rows
theorem Jy {P:Params} {h:Heap}:∀ (ns:List Int) (vs:List Value),WellAll P h vs (ns.map WData.int) -> IntsAre vs ns:=by
 intro ns
 induction ns with
 | nil =>
  intro vs w
  rw [List.map_nil] at w
  cases w
  exact .nil
 | cons n ns ih =>
  intro vs w
  rw [List.map_cons] at w
  cases w with
  | cons a b =>
   cases a
   exact .cons _ _ (ih _ b)
theorem lU {l : OpenLaw} {n : Nat} (hn : l.most = some n) {P : Params} {h : Heap} {args : List WData} {vals : List Value}
  (sX:l.row.toRowW.claim.pre args = true) (fW:WellAll P h vals args) :
  ∃ a vs ns,vals = [Value.ref a] /\ args = [WData.list (ns.map WData.int)] /\ h.get? a = some { cls := .type "list",data := .seq vs.toArray } /\ IntsAre vs ns /\ ns.length <= n:=by
 have hsh:WShape.hasAll [] args [.list .int] = true:=(pre_splitW sX).1
 have hc:l.pre.holds [] { args:=args } = true:=(pre_splitW sX).2
 obtain ⟨d,r,rfl,h1,h2⟩ := hasAllW_cons hsh
 obtain rfl:=hasAllW_nil h2
 obtain ⟨xs,rfl,h3⟩ := hasW_list h1
 obtain ⟨ns,rfl⟩ := items_int h3
 have hlen:ns.length <= n:=by
  unfold OpenLaw.pre at hc
  have h4:(WTm.not (.lt (.lit (.int (n:Int))) (.len (.arg 0)))).holds [] { args:=[.list (ns.map .int)] } = true:=by
   have h4:=(holds_andW hc).1
   rw [hn] at h4
   exact h4
  have h5:=condW_of h4 (w_not (w_lt w_lit (w_len_list (w_arg rfl))))
  rw [List.length_map] at h5
  refine Nat.le_of_not_lt fun q=>?_
  have q':(n:Int) < ((ns.length:Nat):Int):=by omega
  first
   | (rw [decide_eq_true q'] at h5; exact absurd h5 (by decide))
   | (simp at h5; omega)
 cases fW with
 | cons w1 w2 =>
  cases w2
  cases w1 with
  | list ho hall=>exact ⟨_,_,ns,rfl,rfl,ho,Jy ns _ hall,hlen⟩
theorem lV (l:OpenLaw) (args:List WData):l.row.toRowW.claim.post args (.bool true) args = true :=
 postW_of (r:=l.row.toRowW) (X:=(true == true))
  (show WShape.has [] (.bool true) .bool = true by first | rfl | decide | simp [WShape.has,WShape.arms,WShape.armsAll])
  (show (WTm.eq .res (.lit (.bool true))).value [] { args:=args,res:=some (.bool true),after:=args } = some (.bool (true == true)) from w_eq_bool (w_res rfl) w_lit) rfl
section
variable {prog:Program} {w:World} {A:Around} {E:Value -> Shared -> Prop} {s:Shared} {K:Frag}
end
end Att
namespace L2
local macro_rules | `(tactic| omega) => `(tactic| lia)
open PySem PySem.Spec PyProof.Rows
theorem Nj:∀ {vs:List Value} {ns:List Int},IntsAre vs ns -> Ay (ns.map V.int) vs
 | _,_,.nil=>.nil
 | _,_,.cons n t h=>.cons ⟨t,rfl⟩ (Nj h)
def gk (H:Hp):Prop := ∀ b,H b = none \/ ∃ o xs,H b = some (.aP o (.lst xs))
theorem Xg {P : Program} {w : World} {K : PySem.W.Frag} {mg mb : Str -> Option Value} {CX : Xf} {k : Nat} {fa a : Addr} {fd : FuncData} {x : Str} {sp : Sp} {s₁ : Shared} {vs : List Value} {ns : List Int}
  (KX:K.In s₁.heap) (hns:s₁.heap.Ns mainGlobals mg) (hb:s₁.heap.Ns builtinsNs mb) (hbb:∀ x:Str,x ≠ "__name__" -> mb x = bootBuiltins x) (VC:s₁.heap.NoLimit) (hg:s₁.gens = #[])
  (ha:s₁.heap.get? a = some { cls := .type "list",data := .seq vs.toArray }) (hi:IntsAre vs ns) (hl:ns.length <= sizeLine) (hr:Dc k callerA)
  (F:∀ base:Heap,K.In base -> base.Ns mainGlobals mg -> Aj P w K mg base CX k fa fd [x] sp) (GA:∀ (s:Shared) (u:Value),BindsTo s fd ⟨[u],[]⟩ [(x,u)])
  (sC:∀ H:Hp,gk H -> Ba K H a (ns.map V.int) -> sp [.ref a] H (fun v _=>v = .bl true) fun _ _ _=>False)
  (VD:∀ H e s',CX [] H s₁ (fun _ _ _=>False) e s' -> False) :
  codeAny (model P w) callerA (.call (.ref fa) ⟨[.ref a],[]⟩) (fun r s'=>r = .ok (.ret (.bool true)) /\ OldK s₁.heap s'.heap /\ s'.os = s₁.os /\ AllBare s'.gens) s₁:=by
 have rv:=Nj hi
 have VE:=hi.length
 have core : ∀ H : Hp, gk H -> Ba K H a (ns.map V.int) -> Fz P w H s₁.heap -> (∀ b, H b ≠ none -> b = a) -> (H a ≠ none -> K.lookup a = none) ->
   codeAny (model P w) callerA (.call (.ref fa) ⟨[.ref a],[]⟩) (fun r s'=>r = .ok (.ret (.bool true)) /\ OldK s₁.heap s'.heap /\ s'.os = s₁.os /\ AllBare s'.gens) s₁:=by
  intro H hO hS aC hA hK
  have kS:∀ {b:Addr} {o:Obj},s₁.heap.get? b = some o -> H b = none -> (Oz s₁.heap H).get? b = some o:=fun e n=>Z3 e n
  have FX:∀ {b:Addr} {o:Obj} {es:Array DictEntry} {ep:Nat},s₁.heap.get? b = some o -> o.data = .dict es ep -> H b = none:=fun {b o es ep} e d=>by
   cases q:H b with
   | none=>rfl
   | some u =>
    have e':b = a:=hA b (by rw [q]; simp)
    subst e'
    rw [ha] at e; cases e
    have d':Data.seq vs.toArray _ = Data.dict es ep:=d
    cases d'
  have RU:∀ {b:Addr} {m:Str -> Option Value},s₁.heap.Ns b m -> (Oz s₁.heap H).Ns b m:=fun {b m} ⟨o,es,ep,e,d,r⟩=>⟨o,es,ep,kS e (FX e d),d,r⟩
  have hKb:K.In (Oz s₁.heap H):=fun b o e=>kS (KX b o e) (by
   cases q:H b with
   | none=>rfl
   | some u =>
    have e':b = a:=hA b (by rw [q]; simp)
    subst e'
    rw [hK (by rw [q]; simp)] at e; cases e)
  have hM:Mod K mg (Oz s₁.heap H):=⟨hKb,RU hns,⟨mb,RU hb,hbb⟩,let ⟨mc,h1,h2⟩ := VC; ⟨mc,RU h1,h2⟩⟩
  have e0:Zn P w K mg (Oz s₁.heap H) callerA [] s₁ H:=⟨rfl,hM,fun b o e=>bi e,Nat.le_of_eq (Vz _ _),trivial,fun b hb=>absurd (show b ∈ ([]:List Addr) from hb) (by simp),aC,.of_eq hg⟩
  refine codeAny_mono ((F _ hKb (RU hns)).run callerA [] s₁ H ⟨[.ref a],[]⟩ [.ref a] [.ref a] _ _ hr e0 (GA s₁ (.ref a)) (.cons rfl .nil) (sC H hO hS)) fun r s' h=>?_
  cases r with
  | error e=>exact (VD H e s' h).elim
  | ok fl =>
   cases fl with
   | next=>exact False.elim h
   | brk=>exact False.elim h
   | cont=>exact False.elim h
   | ret u =>
    obtain ⟨v,H',os,bare,un,VF,r',q⟩ := h
    have q':v = .bl true:=q
    subst q'
    obtain rfl:u = Value.bool true:=r'
    refine ⟨rfl,OldK.of_keep fun b o e=>?_,os,bare⟩
    cases q:H b with
    | none=>exact un.keep b o e q (by intro z; exact absurd (show b ∈ ([]:List Addr) from z) (by simp)) (by simp)
    | some u =>
     rcases hO b with z | ⟨ob,xs,z⟩
     ·rw [q] at z; cases z
     ·have z2:=un.cZ b ob _ z
      obtain ⟨e1,_⟩ := aC b _ z
      obtain ⟨e2,_⟩ := VF b _ z2
      rw [e] at e1; cases e1
      exact e2
 cases hk:K.lookup a with
 | some o =>
  have e:=KX a o hk
  rw [ha] at e
  cases e
  refine core (fun _=>none) (fun _=>.inl rfl) (.inr ⟨_,vs.toArray,_,hk,rfl,rfl,rfl,by rw [List.size_toArray,VE]; exact hl,by simpa using rv⟩) (fun b u z=>by have z':(none:Option HO) = some u:=z; cases z') (fun b z=>absurd rfl z) fun z=>absurd rfl z
 | none =>
  refine core (fun b=>if b = a then some (.aP { cls := .type "list",data := .seq vs.toArray } (.lst (ns.map V.int))) else none) (fun b=>?_) (.inl (.inr ⟨{ cls := .type "list",data := .seq vs.toArray },if_pos rfl⟩)) (fun b u z=>?_) (fun b z=>?_) fun _=>hk
  ·by_cases hb:b = a
   ·exact .inr ⟨_,_,if_pos hb⟩
   ·exact .inl (if_neg hb)
  ·by_cases hb:b = a
   ·have z':=(if_pos hb).symm.trans z
    cases z'
    subst hb
    exact ⟨ha,by rw [List.length_map]; exact hl,vs,_,rv,ha⟩
   ·have z':=(if_neg hb).symm.trans z
    cases z'
  ·by_cases hb:b = a
   ·exact hb
   ·exact absurd (if_neg hb) z
def Ar (s:Stmt):Arguments:=match s with
 | .FunctionDef _ a _ _ _ _ _ _ _ _=>a
 | _=>{ posonlyargs:=[],args:=[],vararg:=none,kwonlyargs:=[],kw_defaults:=[],kwarg:=none,defaults:=[] }
def Am (s:Stmt):List Stmt:=match s with
 | .FunctionDef _ _ b _ _ _ _ _ _ _=>b
 | _=>[]
def A8 (s:Stmt):Scope:=match s with
 | .FunctionDef _ _ _ _ _ _ sc _ _ _=>sc
 | _=>{ kind := .function,names:=[],isGenerator:=false,isCoroutine:=false }
abbrev Bm:Xf:=fun _ _ _ _ _ _=>False
abbrev E0:XK:=fun _ _ _=>False
theorem B0 {X:Cx}:Tw Bm X E0:=fun _ _ _ _ _ _ _ h=>h.elim
structure Fy (K:PySem.W.Frag) (x qual:Str) (st:Stmt) (f:Addr) (fd:FuncData):Prop where
 ex:∃ (oc:Value) (od:Option Addr) (kV doc pm:Value) (an:Option Addr) (aM ct:Value) (iG:Array (Option Value)),
  fd = PySem.W.fnOf x qual (Ar st) (Am st) (A8 st) .none kV doc pm an aM ct /\ K.lookup f = some ⟨oc,od,.func fd,iG⟩ /\ PySem.W.codeIn K aM qual = true
 kp:PySem.W.keepIn K (.ref f) = true
section
variable {P:Program} {w:World} {K:PySem.W.Frag} {mg:Str -> Option Value} {base:Heap}
theorem Fy.ok {x qual : Str} {st : Stmt} {f : Addr} {fd : FuncData} {N ps : List Str} {k : Nat} {sp : Sp} (F : Fy K x qual st f fd) (S : As N ps (A8 st)) (len : ∀ vs H Q E, sp vs H Q E -> vs.length = ps.length)
  (iP:∀ (aM:Value) (A:Around) (outer:List Env) (s:Shared) (H:Hp) (vs:List V) (Q:VK) (E:XK),Dc k (A.deeper (envOfC qual (A8 st) s.heap.objs.size f aM)) -> sp vs H Q E ->
   ∃ t,S7 (Sj Bm P w K mg base N qual (A8 st) f aM A outer s H E).ER (Am st) t /\ t { nx:=fun _ H'=>Q .aL H',rt:=Q } (start N vs) H):Aj P w K mg base Bm (k + 1) f fd ps sp:=by
 obtain ⟨oc,od,kV,doc,pm,an,aM,ct,iG,rfl,lk,nA⟩ := F.ex
 refine d6 lk nA S len fun A outer s H vs Q E hr sC=>?_
 obtain ⟨t,h,q⟩ := iP aM A outer s H vs Q E hr sC
 exact ⟨t,h.ER,q⟩
theorem Fy.binds {x qual : Str} {st : Stmt} {f : Addr} {fd : FuncData} {ps : List Str} (F : Fy K x qual st f fd)
  (h:∀ (kV doc pm:Value) (an:Option Addr) (aM ct:Value) (us:List Value),us.length = ps.length -> bindArgs (PySem.W.fnOf x qual (Ar st) (Am st) (A8 st) .none kV doc pm an aM ct) ⟨us,[]⟩ = pure (ps.zip us)):Az K fd ps []:=by
 obtain ⟨oc,od,kV,doc,pm,an,aM,ct,iG,rfl,lk,nA⟩ := F.ex
 exact .all (h kV doc pm an aM ct)
theorem Bd {x qual : Str} {st : Stmt} {f : Addr} {oc : Value} {od an : Option Addr} {iG : Array (Option Value)} {kV doc pm aM ct : Value} (l : K.lookup f = some ⟨oc, od, .func (PySem.W.fnOf x qual (Ar st) (Am st) (A8 st) .none kV doc pm an aM ct), iG⟩)
  (c:PySem.W.codeIn K aM qual = true) (k:PySem.W.keepIn K (.ref f) = true):Fy K x qual st f (PySem.W.fnOf x qual (Ar st) (Am st) (A8 st) .none kV doc pm an aM ct):=⟨⟨oc,od,kV,doc,pm,an,aM,ct,iG,rfl,l,c⟩,k⟩
end
theorem B7 {n:Nat} (h:n <= 1000):n < sizeLine:=Nat.lt_of_le_of_lt h (by decide)
section
variable {X:Cx}
theorem pv (i : Nat) {x : Str} {pos : Pos} (hN : X.N[i]? = some x := by rfl) (hv : og X.env.scope x := by first | exact Or.inl rfl | exact Or.inr (Or.inl rfl) | exact Or.inr (Or.inr rfl)) (hd : (x == ("__debug__" : Str)) = false := by decide)
  (nA:(x == ("__classdict__" : Str)) = false:=by decide):PE X (.Name x pos) (l5 i):=fo hN hv hd nA
end
theorem Ej {c A B:Prop} [Decidable c] (h1:c -> A) (h2:¬ c -> B):if c then A else B:=by
 by_cases h:c
 ·rw [if_pos h]
  exact h1 h
 ·rw [if_neg h]
  exact h2 h
def A9 (H H':Hp):Prop := ∀ b o,H b = some o -> H' b = some o
theorem A9.refl (H:Hp):A9 H H:=fun _ _ h=>h
theorem A9.trans {H H1 H2:Hp} (a:A9 H H1) (b:A9 H1 H2):A9 H H2:=fun c o h=>b c o (a c o h)
theorem A9.free {H H':Hp} (e:A9 H H') {l:Addr} (h:H' l = Option.none):H l = Option.none:=by
 cases q:H l with
 | none=>rfl
 | some o =>
  rw [e l o q] at h
  cases h
theorem A9.seq {K:PySem.W.Frag} {H H':Hp} {a:Addr} {xs:List V} (e:A9 H H') (h:Ba K H a xs):Ba K H' a xs:=by
 rcases h with (h | ⟨o,h⟩) | h
 ·exact .inl (.inl (e _ _ h))
 ·exact .inl (.inr ⟨o,e _ _ h⟩)
 ·exact .inr h
def El (cells:List (Str × Addr)):List (Str × NameKind) -> List (Str × Addr) -> List (Str × Addr)
 | [],cs=>cs
 | (n,k) :: r,cs=>if k == NameKind.free then El cells r ((n,(cells.lookup n).getD 0) :: cs) else El cells r cs
theorem Jb {cells : List (Str × Addr)} {x : Str} {c : Addr} : ∀ {names : List (Str × NameKind)} {cs : List (Str × Addr)}, (El cells names cs).lookup x = some c ->
  cs.lookup x = some c \/ ((x,NameKind.free) ∈ names /\ c = (cells.lookup x).getD 0)
 | [],cs,h=>.inl h
 | (n,k) :: r,cs,h=>by
  unfold El at h
  by_cases hk:(k == NameKind.free) = true
  ·rw [if_pos hk] at h
   rcases Jb h with h1 | ⟨h1,h2⟩
   ·rw [List.lookup_cons] at h1
    by_cases hx:(x == n) = true
    ·rw [hx] at h1
     have e:x = n:=eq_of_beq hx
     have e2:k = NameKind.free:=eq_of_beq hk
     subst e e2
     exact .inr ⟨List.mem_cons_self,(Option.some.inj h1).symm⟩
    ·have iW:(x == n) = false:=by simpa using hx
     rw [iW] at h1
     exact .inl h1
   ·exact .inr ⟨List.mem_cons_of_mem _ h1,h2⟩
  ·rw [if_neg hk] at h
   rcases Jb h with h1 | ⟨h1,h2⟩
   ·exact .inl h1
   ·exact .inr ⟨List.mem_cons_of_mem _ h1,h2⟩
theorem Hl {cells:List (Str × Addr)} {x:Str}:∀ {names:List (Str × NameKind)} {cs:List (Str × Addr)},(∃ c,cs.lookup x = some c) -> ∃ c,(El cells names cs).lookup x = some c
 | [],cs,h=>h
 | (n,k) :: r,cs,h=>by
  unfold El
  by_cases hk:(k == NameKind.free) = true
  ·rw [if_pos hk]
   refine Hl ?_
   rw [List.lookup_cons]
   cases hx:x == n with
   | true=>exact ⟨_,rfl⟩
   | false=>exact h
  ·rw [if_neg hk]
   exact Hl h
theorem F5 {cells:List (Str × Addr)} {x:Str}:∀ {names:List (Str × NameKind)} {cs:List (Str × Addr)},(x,NameKind.free) ∈ names -> ∃ c,(El cells names cs).lookup x = some c
 | [],cs,h=>by cases h
 | (n,k) :: r,cs,h=>by
  unfold El
  rcases List.mem_cons.mp h with e | h
  ·have e1:x = n:=congrArg Prod.fst e
   have e2:NameKind.free = k:=congrArg Prod.snd e
   subst e1 e2
   rw [if_pos (by decide)]
   refine Hl ⟨(cells.lookup x).getD 0,?_⟩
   rw [List.lookup_cons,beq_self_eq_true]
  ·by_cases hk:(k == NameKind.free) = true
   ·rw [if_pos hk]
    exact F5 h
   ·rw [if_neg hk]
    exact F5 h
theorem Fk {env : Env} : ∀ {names : List (Str × NameKind)} {x : Str} {k' : NameKind}, (∀ y ∈ names, y.2 ≠ NameKind.cell) -> k' ≠ .local -> (k' = .cell \/ k' = .free) ->
  (names.map fun (n,k)=>if (k == NameKind.free && env.scope.kind == .function && env.kindOf n == some .cell) then (n,NameKind.cell) else (n,k)).lookup x = some k' -> (x,NameKind.free) ∈ names
 | [],_,_,_,_,_,h=>by simp at h
 | (n,k) :: r,x,k',hc,hl,bP,h=>by
  have ih:=@Fk env r x k' (fun y hy=>hc y (List.mem_cons_of_mem _ hy)) hl bP
  have h0:List.lookup x ((if (k == NameKind.free && env.scope.kind == .function && env.kindOf n == some .cell) = true then (n,NameKind.cell) else (n,k)) :: (r.map fun (n,k)=>if (k == NameKind.free && env.scope.kind == .function && env.kindOf n == some .cell) then (n,NameKind.cell) else (n,k))) = some k':=h
  by_cases xi:(k == NameKind.free && env.scope.kind == .function && env.kindOf n == some .cell) = true
  ·rw [if_pos xi,List.lookup_cons] at h0
   have e2:k = NameKind.free:=by
    have q:=(Bool.and_eq_true_iff.mp (Bool.and_eq_true_iff.mp xi).1).1
    exact eq_of_beq q
   cases hx:x == n with
   | true =>
    have e:x = n:=eq_of_beq hx
    subst e e2
    exact List.mem_cons_self
   | false =>
    rw [hx] at h0
    exact List.mem_cons_of_mem _ (ih h0)
  ·rw [if_neg xi,List.lookup_cons] at h0
   cases hx:x == n with
   | true =>
    rw [hx] at h0
    have e:x = n:=eq_of_beq hx
    have e3:k = k':=Option.some.inj h0
    subst e e3
    rcases bP with z | z
    ·exact absurd z (hc _ List.mem_cons_self)
    ·subst z
     exact List.mem_cons_self
   | false =>
    rw [hx] at h0
    exact List.mem_cons_of_mem _ (ih h0)
structure Cf (sc scope:Scope) (N bK:List Str) (fr:List Nat):Prop where
 kind:scope.kind = .function
 jW:∀ y ∈ scope.names,y.2 ≠ NameKind.cell
 loc:∀ y ∈ scope.names,y.2 = NameKind.local -> scope.names.lookup y.1 = some NameKind.local
 free:∀ y ∈ scope.names,y.2 = NameKind.free -> sc.names.lookup y.1 = some NameKind.cell
 jL:∀ j ∈ fr,(N[j]?.bind fun x=>scope.names.lookup x) = some NameKind.free
def Bn (N bK:List Str) (fr:List Nat):List Str:=bK ++ fr.map fun j=>(N[j]?).getD ⟨#[]⟩
def D7 (fr:List Nat) (σ:St):St:=fr.map fun j=>(σ[j]?).getD none
def Ev (n:Nat) (fr:List Nat) (σ:St):St:=List.replicate n none ++ D7 fr σ
def Cg (X:Cx) (Nc:List Str) (scope:Scope) (C:Addr) (s2:Shared) (H2:Hp) (fp:List Addr):Cx :=
 { X with N:=Nc,s₀:=s2,H₀:=H2,env:=compEnvC scope (El X.env.cells scope.names []) C X.env,outer:=X.stack,ex:=fp,fn:=fun _=>false,pn:=[],xe:=fun _ _=>False }
def n9 (X:Cx) (ifs:List Expr) (t:TT):Prop :=
 ∀ (pins:List (Addr × Obj)) (s:Shared) (σ:St) (H:Hp) (Q:Bool -> Hp -> Prop),Ai X pins σ H s -> t σ H Q ->
  wpAny (model X.prog X.w) X.A (forIn ifs true fun c r=>if r = true then do let ok <- isTrue c X.env (eval c X.env); pure (ForInStep.yield ok) else pure (ForInStep.yield r)) (TP X pins σ Q) X.xe s
def L6:TT:=fun _ H Q=>Q true H
theorem Cp {X:Cx}:n9 X [] L6:=fun _ _ _ H _ I h=>wpAny_tests_nil ⟨H,I,h⟩
theorem V6 {X:Cx} {c:Expr} {t:TT} (h:PT X c t):n9 X [c] t:=fun pins s σ H Q I hq=>wpAny_tests_one (h pins s σ H Q I hq)
section
variable {prog:Program} {w:World} {A:Around} {R:Result -> Shared -> Prop} {s:Shared}
theorem Pn {elt target iter : Expr} {ifs : List Expr} {scope : Scope} {pos : Pos} {it acc : Value} {env : Env} (I : Nat -> Shared -> Prop)
  (turn:∀ n s,I n s -> wpAny (model prog w) A (pyNext it) (fun r s₁=>match r with
   | none=>R (.ok .next) s₁
   | some v => wpAny (model prog w) A (letOwnedTupleGo target it v) (fun _ s₁' => wpAny (model prog w) A (assign target env v) (fun _ s₂ =>
     wpAny (model prog w) A (forIn ifs true fun c r=>if r = true then do let ok <- isTrue c env (eval c env); pure (ForInStep.yield ok) else pure (ForInStep.yield r)) (fun ok s₃ =>
      if ok = true then wpAny (model prog w) A (eval elt env) (fun x s₄ =>
       wpAny (model prog w) A (call (.builtin "list.append") [acc,x]) (fun _ s₅=>∃ m,m < n /\ I m s₅) (fun _ _=>False) s₄) (fun _ _=>False) s₃
      else ∃ m,m < n /\ I m s₃) (fun _ _=>False) s₂) (fun _ _=>False) s₁') (fun _ _=>False) s₁) (fun _ _=>False) s)
  (n:Nat) (h:I n s) :
  codeAny (model prog w) A (.compLoop (.ListComp elt [⟨target,iter,ifs,0⟩] scope pos) 0 it acc env) R s:=by
 refine codeAny_loop rfl I (fun n s hI=>?_) n h
 show wpAny _ A ((compTurn (.ListComp elt [⟨target,iter,ifs,0⟩] scope pos) 0 it acc env).onRaise (fun x=>do noteFrame x env; theTreesLotGoes x)) _ _ s
 refine wpAny_noted ?_
 rw [compTurn_list]
 refine wpAny_bind (wpAny_standAt (wpAny_bind (wpAny_mono (turn n s hI) (fun r s₁ h₁=>?_) fun _ _ h'=>h'.elim)))
 cases r with
 | none=>exact wpAny_pure h₁
 | some v =>
  refine wpAny_bind (wpAny_mono h₁ (fun _ s₁' h₁'=>?_) fun _ _ h'=>h'.elim)
  refine wpAny_bind (wpAny_mono h₁' (fun _ s₂ h₂=>wpAny_bind (wpAny_mono h₂ (fun ok s₃ h₃=>?_) fun _ _ h'=>h'.elim)) fun _ _ h'=>h'.elim)
  cases ok with
  | false=>exact wpAny_pure ⟨rfl,h₃⟩
  | true =>
   exact wpAny_bind (wpAny_bind (wpAny_mono h₃ (fun x s₄ h₄=>wpAny_bind (wpAny_mono h₄ (fun _ s₅ h₅=>wpAny_pure (wpAny_pure ⟨rfl,h₅⟩)) fun _ _ h'=>h'.elim)) fun _ _ h'=>h'.elim))
end
def Dv (n:Nat) (fr:List Nat) (J:It) (g:TG) (tt:TT) (te:TE) (σ:St) (D:Addr) (H1:Hp) (Q:Hp -> Prop):Prop :=
 ∃ W:Nat -> Nat -> List V -> Hp -> Prop,(∃ m,W 0 m [] (upd H1 D (.lst []))) /\ ∀ i m ys H',W i m ys H' ->
  (J.stop i H' /\ Q H') \/ (J.go i H' /\ ∀ x H2,J.wZ i H' x H2 -> g x (Ev n fr σ) H2 fun σ3 H3=>(∃ zs:St,zs.length = n /\ σ3 = zs ++ D7 fr σ) /\ tt σ3 H3 fun b H4 =>
   if b = true then te σ3 H4 fun y H5=>H5 D = some (.lst ys) /\ ys.length < sizeLine /\ ∃ m',m' < m /\ W (i + 1) m' (ys ++ [y]) (upd H5 D (.lst (ys ++ [y])))
   else ∃ m',m' < m /\ W (i + 1) m' ys H4)
def mr (n:Nat) (fr:List Nat) (wi:TI) (g:TG) (tt:TT) (te:TE):TE:=fun σ H Q=>wi σ H fun J H1=>∀ D,H1 D = none -> Dv n fr J g tt te σ D H1 (Q (.ref D))
def Yh (n:Nat) (fr:List Nat) (wi:TI) (g:TG) (tt:TT) (te:TE) (i:Nat):TS:=fun D σ H=>wi σ H fun J H1=>∀ l,H1 l = none -> Dv n fr J g tt te σ l H1 (D.nx (σ.set i (some (.ref l))))
section
variable {X:Cx} {tg iter elt:Expr} {ifs:List Expr} {scope sc:Scope} {bK:List Str} {fr:List Nat} {wi:TI} {g:TG} {tt:TT} {te:TE} {pos:Pos}
theorem N2 {pins : List (Addr × Obj)} {σ : St} {H2 : Hp} {s2 : Shared} {it : Addr} {fp : List Addr} {tn : Nat -> Heap -> Prop} {J : It} {RR : Value -> Addr -> Result -> Shared -> Prop} {E : Value -> Shared -> Prop} {Qf : Hp -> Prop}
  (sY:X.env.scope = sc) (S:Cf sc scope X.N bK fr) (hc:X.calm = true)
  (hg:∀ C s2 H2 fp,PG (Cg X (Bn X.N bK fr) scope C s2 H2 fp) tg g) (ht:∀ C s2 H2 fp,n9 (Cg X (Bn X.N bK fr) scope C s2 H2 fp) ifs tt) (he:∀ C s2 H2 fp,PE (Cg X (Bn X.N bK fr) scope C s2 H2 fp) elt te)
  (I2:Ai X pins σ H2 s2) (T:S4 X.prog X.w X.K tg J fp it tn) (aH:tn 0 s2.heap) (f2:∀ b ∈ fp,Lp X pins H2 b)
  (run:Dv bK.length fr J g tt te σ s2.heap.objs.size H2 Qf)
  (hRR:∀ (C:Addr) (H3:Hp) (s4:Shared),Ai X pins σ H3 s4 -> Lp X pins H3 C -> (∃ m,s4.heap.Ns C m) -> Qf H3 -> RR (.ref s2.heap.objs.size) C (.ok .next) s4) :
  wpAny (model X.prog X.w) X.A (newList []) (fun acc s₃=>wpAny (model X.prog X.w) X.A (newFunctionEnv scope X.env.globals (El X.env.cells scope.names []) [] X.env.qual none .none (some X.env)) (fun GB s₄ =>
   codeAny (model X.prog X.w) X.A (.compStart (.ListComp elt [⟨tg,iter,ifs,0⟩] scope pos) 0 (.ref it) acc { GB with scope:=relabel scope X.env }) (RR acc GB.locals) s₄) E s₃) E s2:=by
 refine wpAny_newObj_type (wpAny_newFunctionEnv S.jW (by intro y hy; simp at hy) (fun h₁ xj sZ=>?_) S.kind)
 dsimp only at xj sZ ⊢
 generalize VG:s2.heap.push { cls := .type "list",dict:=none,data := .seq ([]:List Value).toArray } = G2 at xj sZ ⊢
 have hC:G2.objs.size = s2.heap.objs.size + 1:=by rw [<- VG,Heap.size_push]
 have RV:s2.heap.objs.size ≠ G2.objs.size:=by rw [hC]; exact Nat.ne_of_lt (Nat.lt_succ_self _)
 have hle:s2.heap.objs.size <= G2.objs.size:=by rw [hC]; exact Nat.le_succ _
 have below:∀ b,b < s2.heap.objs.size -> b ≠ G2.objs.size /\ b ≠ s2.heap.objs.size:=fun b hb=>⟨Nat.ne_of_lt (Nat.lt_of_lt_of_le hb hle),Nat.ne_of_lt hb⟩
 have old:∀ b o,s2.heap.get? b = some o -> h₁.get? b = some o:=fun b o e=>sZ.extBut b o (below b (Heap.lt_size e)).1 (Heap.get?_push_of_some _ (VG ▸ Heap.get?_push_of_some _ e))
 have VH:h₁.get? s2.heap.objs.size = some { cls := .type "list",data := .seq ([]:List Value).toArray 0 }:=sZ.extBut _ _ RV (Heap.get?_push_of_some _ (VG ▸ Heap.get?_push_size _ rfl))
 have xk:∀ y ∈ scope.names,y.2 = NameKind.free -> ∃ c,X.env.cells.lookup y.1 = some c:=fun y hy e=>I2.ok.has y.1 (.inl (by show X.env.scope.names.lookup y.1 = _; rw [sY]; exact S.free y hy e))
 have jX:∀ x c,(El X.env.cells scope.names []).lookup x = some c -> X.env.cells.lookup x = some c:=fun x c e=>by
  rcases Jb e with z | ⟨z1,z2⟩
  ·simp at z
  ·obtain ⟨c',e'⟩ := xk _ z1 rfl
   rw [z2,e']
   rfl
 have xl:∀ x c,X.env.cells.lookup x = some c -> c < s2.heap.objs.size:=fun x c e=>by
  obtain ⟨v,q⟩ := I2.cell x c e
  exact q.lt
 have xm:∀ b ∈ fp,b < s2.heap.objs.size:=fun b hb=>by
  obtain ⟨o,e,_⟩ := T.obj 0 _ aH b hb
  exact Heap.lt_size e
 have VI:(Cg X (Bn X.N bK fr) scope G2.objs.size s2 H2 fp).Ok:=by
  refine ⟨I2.ok.mod,S.kind,I2.ok.glob,I2.ok.blt,hle,fun x y c e1 e2=>I2.ok.inj x y c (jX x c e1) (jX y c e2),fun x hx=>?_,fun x c z _=>absurd z Bool.false_ne_true,I2.ok.hd,I2.ok.frames,.inl rfl,
   fun b hb=>⟨(below b (xm b hb)).1,fun x c e=>(f2 b hb).2.2.2.2.1 x c (jX x c e)⟩,I2.bs,Nat.le_trans I2.ok.rZ I2.sz,fun b o e hb=>?_,fun b hb z=>?_,I2.stack,I2.kP⟩
  ·rcases hx with hx | hx
   ·exact F5 (Fk (env:=X.env) S.jW (by decide) (.inl rfl) hx)
   ·exact F5 (Fk (env:=X.env) S.jW (by decide) (.inr rfl) hx)
  ·rcases (f2 b hb).2.2.2.1 with z | z
   ·exact I2.ok.jQ b o e z
   ·exact absurd (Nat.lt_of_lt_of_le (Heap.lt_size e) (Nat.le_trans I2.ok.rZ z)) (Nat.lt_irrefl _)
  ·rcases List.mem_cons.mp (I2.jS b z) with z | z
   ·exact (f2 b hb).2.1 z
   ·exact (f2 b hb).2.2.1 z
 have I3:Ai (Cg X (Bn X.N bK fr) scope G2.objs.size s2 H2 fp) [] (Ev bK.length fr σ) (upd H2 s2.heap.objs.size (.lst [])) { s2 with heap:=h₁,toks:=s2.toks + ([]:List (Str × Value)).length }:=by
  refine ⟨VI,rfl,I2.bare,Un.laid old (Nat.le_refl _) I2.fresh,⟨_,xj,fun i x v e1 e2 e3=>?_⟩,fun x c e=>?_,?_,fun x c e=>?_,fun p hp=>absurd (show p ∈ ([]:List (Addr × Obj)) from hp) (by simp),I2.aC.laid old (Nat.le_refl _) ⟨Nat.zero_le _,[],0,.nil,VH⟩,?_⟩
  ·-- a name of the comprehension that has a value at the start is one of the def's cells
   have hi:bK.length <= i:=by
    refine Nat.le_of_not_lt fun aI=>?_
    unfold Ev at e2
    rw [List.getElem?_append_left (by simpa using aI),List.getElem?_replicate,if_pos aI] at e2
    cases e2
   have RX:(D7 fr σ)[i - bK.length]? = some (some v):=by
    unfold Ev at e2
    rw [List.getElem?_append_right (by simpa using hi)] at e2
    simpa using e2
   have nH:(fr.map fun j=>(X.N[j]?).getD ⟨#[]⟩)[i - bK.length]? = some x:=by
    have e1:(Bn X.N bK fr)[i]? = some x:=e1
    unfold Bn at e1
    rw [List.getElem?_append_right hi] at e1
    exact e1
   unfold D7 at RX
   rw [List.getElem?_map] at nH RX
   cases ej:fr[i - bK.length]? with
   | none=>rw [ej] at nH; cases nH
   | some j =>
    rw [ej] at nH RX
    have e1j:(X.N[j]?).getD ⟨#[]⟩ = x:=Option.some.inj nH
    have RY:(σ[j]?).getD none = some v:=Option.some.inj RX
    have fG:=S.jL j (List.mem_of_getElem? ej)
    cases eN:X.N[j]? with
    | none=>rw [eN] at fG; cases fG
    | some x' =>
     rw [eN] at fG e1j
     have ex:x' = x:=e1j
     subst ex
     have hfx:scope.names.lookup x' = some NameKind.free:=fG
     have hσ:σ[j]? = some (some v):=by
      cases eσ:σ[j]? with
      | none=>rw [eσ] at RY; cases RY
      | some o=>rw [eσ] at RY; exact congrArg some RY
     have bR:=PySem.mem_of_lookup hfx
     have hkc:X.env.scope.names.lookup x' = some NameKind.cell:=by rw [sY]; exact S.free _ bR rfl
     obtain ⟨m,hn,hl⟩ := I2.loc
     obtain ⟨u,ru,lk⟩ := hl j x' v eN hσ (.inr (.inl hkc))
     refine ⟨u,ru,.inr ⟨?_,?_⟩⟩
     ·have e3:(relabel scope X.env).names.lookup x' = some NameKind.local \/ (relabel scope X.env).names.lookup x' = some NameKind.cell \/ (relabel scope X.env).names.lookup x' = some NameKind.free:=e3
      rcases e3 with z | z | z
      ·exfalso
       have key:∀ (names:List (Str × NameKind)),names.lookup x' = some NameKind.free -> (names.map fun (n,k)=>if (k == NameKind.free && X.env.scope.kind == .function && X.env.kindOf n == some .cell) then (n,NameKind.cell) else (n,k)).lookup x' ≠ some NameKind.local:=by
        intro names
        induction names with
        | nil=>intro h; simp at h
        | cons p r ih =>
         obtain ⟨n,k⟩ := p
         intro h h2
         have h2:List.lookup x' ((if (k == NameKind.free && X.env.scope.kind == .function && X.env.kindOf n == some .cell) = true then (n,NameKind.cell) else (n,k)) :: (r.map fun (n,k)=>if (k == NameKind.free && X.env.scope.kind == .function && X.env.kindOf n == some .cell) then (n,NameKind.cell) else (n,k))) = some NameKind.local:=h2
         rw [List.lookup_cons] at h
         cases hx:x' == n with
         | true =>
          rw [hx] at h
          have ek:k = NameKind.free:=Option.some.inj h
          subst ek
          split at h2
          ·rw [List.lookup_cons,hx] at h2; cases h2
          ·rw [List.lookup_cons,hx] at h2; cases h2
         | false =>
          rw [hx] at h
          split at h2
          ·rw [List.lookup_cons,hx] at h2; exact ih h h2
          ·rw [List.lookup_cons,hx] at h2; exact ih h h2
       exact key scope.names hfx z
      ·exact .inl z
      ·exact .inr z
     ·obtain ⟨c,ec⟩ := F5 (cells:=X.env.cells) (cs:=[]) bR
      rcases lk with ⟨k1,_⟩ | ⟨_,c',ec',ic⟩
      ·have k1:X.env.scope.names.lookup x' = some NameKind.local:=k1
       rw [hkc] at k1; cases k1
      ·have q:=jX _ _ ec
       rw [ec'] at q
       have q':c' = c:=Option.some.inj q
       subst q'
       exact ⟨_,ec,ic.keeps old⟩
  ·obtain ⟨v,q⟩ := I2.cell x c (jX x c e)
   exact ⟨v,q.keeps old⟩
  ·show upd H2 s2.heap.objs.size (.lst []) G2.objs.size = none
   rw [Ac RV.symm]
   exact I2.aC.fresh hle
  ·rw [Ac (Nat.ne_of_lt (xl x c (jX x c e)))]
   exact I2.aV x c (jX x c e)
  ·unfold Ev D7
   show _ = (Bn X.N bK fr).length
   unfold Bn
   simp
 obtain ⟨W,⟨m0,w0⟩,turn⟩ := run
 have stat:∀ {H':Hp},(∀ b ∈ fp,H' b = none) -> ∀ b ∈ fp,Lp (Cg X (Bn X.N bK fr) scope G2.objs.size s2 H2 fp) [] H' b:=fun hn b hb =>
  ⟨hn b hb,(below b (xm b hb)).1,VI.jR b hb,.inl hb,(VI.FT b hb).2,fun p hp=>absurd (show p ∈ ([]:List (Addr × Obj)) from hp) (by simp)⟩
 have RS:∀ b ∈ fp,upd H2 s2.heap.objs.size (.lst []) b = none:=fun b hb=>by rw [Ac (below b (xm b hb)).2]; exact (f2 b hb).1
 have fB:tn 0 h₁:=T.keep 0 _ _ aH fun b _ o e=>old b o e
 have fin:∀ {H3:Hp} {s4:Shared},Ai (Cg X (Bn X.N bK fr) scope G2.objs.size s2 H2 fp) [] (Ev bK.length fr σ) H3 s4 -> Qf H3 -> RR (.ref s2.heap.objs.size) G2.objs.size (.ok .next) s4:=fun {H3 s4} I4 q=>by
  obtain ⟨m,hn,_⟩ := id I4.loc
  have ub:Un (jL X.stack) fp H2 H3 s2.heap s4.heap:=I4.base
  refine hRR G2.objs.size H3 s4 (I2.FV (ch:=fp) (s':=s4) I4.os ub I4.aC I4.bare fun b hb=>⟨(f2 b hb).2.2.2.1,(f2 b hb).2.1,(f2 b hb).2.2.2.2.1,(f2 b hb).2.2.2.2.2⟩) (I2.jT hle I4.free) ⟨m,hn⟩ q
 have loop : ∀ s₃ : Shared, s₃ = { s2 with heap := h₁, toks := s2.toks + ([] : List (Str × Value)).length } ->
   codeAny (model X.prog X.w) X.A (.compLoop (.ListComp elt [⟨tg,iter,ifs,0⟩] scope pos) 0 (.ref it) (.ref s2.heap.objs.size) (compEnvC scope (El X.env.cells scope.names []) G2.objs.size X.env)) (RR (.ref s2.heap.objs.size) G2.objs.size) s₃:=by
  rintro s₃ rfl
  refine Pn (fun n s'=>∃ i ys H',Ai (Cg X (Bn X.N bK fr) scope G2.objs.size s2 H2 fp) [] (Ev bK.length fr σ) H' s' /\ tn i s'.heap /\ (∀ b ∈ fp,H' b = none) /\ W i n ys H') ?_ m0 ⟨0,[],_,I3,fB,RS,w0⟩
  rintro n s5 ⟨i,ys,H3,J3,sti,fri,w3⟩
  rcases turn i n ys H3 w3 with ⟨stop,q⟩ | ⟨go,step⟩
  ·refine wpAny_mono (T.done (Cg X (Bn X.N bK fr) scope G2.objs.size s2 H2 fp) rfl rfl rfl hc i [] s5 _ H3 (fun _ _=>False) J3 (stat fri) sti stop) (fun r s6 ⟨hr,J4⟩=>?_) (fun _ _ f=>f)
   subst hr
   exact fin J4 q
  ·refine wpAny_mono (T.item (Cg X (Bn X.N bK fr) scope G2.objs.size s2 H2 fp) rfl rfl rfl hc i [] s5 _ H3 (fun _ _=>False) J3 (stat fri) sti go) (fun r s6 ⟨u,hr,h6⟩=>?_) (fun _ _ f=>f)
   subst hr
   refine wpAny_mono h6 (fun _ s7 ⟨x,H7,J7,r7,y7,EU,fr7⟩=>?_) (fun _ _ f=>f)
   have J7':=J7.pinned (stat fr7) (T.obj _ _ EU)
   refine wpAny_mono (hg G2.objs.size s2 H2 fp _ s7 _ H7 x u _ J7' r7 (step x H7 y7)) (fun _ s8 ⟨σ8,H8,J8,⟨zs,hz,e8⟩,q8⟩=>?_) (fun _ _ f=>f)
   have again : ∀ {H9 : Hp} {s9 : Shared} {GC : List V}, Ai (Cg X (Bn X.N bK fr) scope G2.objs.size s2 H2 fp) ([] ++ Ls fp s7.heap) σ8 H9 s9 -> (∃ m', m' < n /\ W (i + 1) m' GC H9) ->
     ∃ m,m < n /\ ∃ i ys H',Ai (Cg X (Bn X.N bK fr) scope G2.objs.size s2 H2 fp) [] (Ev bK.length fr σ) H' s9 /\ tn i s9.heap /\ (∀ b ∈ fp,H' b = none) /\ W i m ys H':=fun {H9 s9 GC} J9 ⟨m',hm,w9⟩=>by
    refine ⟨m',hm,i + 1,GC,H9,J9.dD.weak ?_ ?_,T.keep _ _ _ EU fun b hb o e=>(J9.pin (b,o) (List.mem_append_right _ (List.mem_append_right _ (Fq hb e)))).1,fun b hb=>?_,w9⟩
    ·rw [e8]; unfold Ev; simp [hz]
    ·intro k v ek
     rw [e8]
     unfold Ev at ek
     by_cases hk:k < bK.length
     ·rw [List.getElem?_append_left (by simpa using hk),List.getElem?_replicate,if_pos hk] at ek
      cases ek
     ·rw [List.getElem?_append_right (by simpa using hk)] at ek
      rw [List.getElem?_append_right (by omega),hz]
      simpa using ek
    ·obtain ⟨o,e,d⟩ := T.obj _ _ EU b hb
     exact (J9.pin (b,o) (List.mem_append_right _ (List.mem_append_right _ (Fq hb e)))).2.1
   refine wpAny_mono (ht G2.objs.size s2 H2 fp _ s8 σ8 H8 _ J8 q8) (fun ok s9 ⟨H9,J9,q9⟩=>?_) (fun _ _ f=>f)
   cases ok with
   | false =>
    rw [if_neg Bool.false_ne_true] at q9 ⊢
    exact again J9 q9
   | true =>
    rw [if_pos rfl] at q9 ⊢
    refine wpAny_mono (he G2.objs.size s2 H2 fp _ s9 σ8 H9 _ J9 q9) (fun y xn ⟨v10,lW,J10,r10,hD,hlen,VJ⟩=>?_) (fun _ _ f=>f)
    refine wpAny_mono (Cy (X:=Cg X (Bn X.N bK fr) scope G2.objs.size s2 H2 fp) _ xn σ8 lW (.ref s2.heap.objs.size) [v10] (.ref s2.heap.objs.size) [y] (fun _ uY=>uY = upd lW s2.heap.objs.size (.lst (ys ++ [v10]))) J10 rfl (.cons r10 .nil) ⟨_,ys,v10,rfl,rfl,hD,hlen,rfl⟩) (fun _ tE ⟨_,uY,J11,_,RZ⟩=>?_) (fun _ _ f=>f)
    subst RZ
    exact again J11 VJ
 exact codeAny_compStart_list (loop _ rfl) (T.self _ 0 _ _ _ fB (loop _ rfl))
theorem E6 (hi : PI X tg iter wi) (sc : Scope) (sY : X.env.scope = sc) (S : Cf sc scope X.N bK fr) (hc : X.calm = true) (nI : closureFor scope X.env = pure (El X.env.cells scope.names []))
  (hg:∀ C s2 H2 fp,PG (Cg X (Bn X.N bK fr) scope C s2 H2 fp) tg g) (ht:∀ C s2 H2 fp,n9 (Cg X (Bn X.N bK fr) scope C s2 H2 fp) ifs tt) (he:∀ C s2 H2 fp,PE (Cg X (Bn X.N bK fr) scope C s2 H2 fp) elt te)
  (hs:∀ x,foldedSetIterable iter X.env x = pure x:=by intro _; rfl):PE X (.ListComp elt [⟨tg,iter,ifs,0⟩] scope pos) (mr bK.length fr wi g tt te):=by
 intro pins s σ H Q I h
 rw [eval_ListComp]
 refine wpAny_comprehension_free (use:=none) rfl hs nI S.kind S.loc (wpAny_mono (hi pins s σ H _ I h) (fun v s1 h1=>wpAny_mono h1 (fun RQ s2 h2=>?_) fun _ _ e=>e) fun _ _ e=>e)
 obtain ⟨it,fp,tn,J,H2,e,I2,T,aH,f2,R2⟩ := h2
 subst e
 refine N2 (RR:=fun acc C=>compPost (model X.prog X.w) X.A X.xe none (EP X pins σ Q) acc C) sY S hc hg ht he I2 T aH f2 (R2 _ I2.fresh) ?_
 intro C H3 s4 I4 fC ⟨m,hn⟩ q
 refine ⟨m,hn,fun h' GD=>⟨.ref s2.heap.objs.size,H3,?_,rfl,q⟩⟩
 obtain ⟨hh,gg,dd,VL,oo⟩ := s4
 exact I4.turned (h':=h') (t':=VL) (it:=C) (fun b o hb e=>GD.extBut b o hb e) fC.1 fC.2.1 fC.2.2.2.1 fC.2.2.2.2.1 fC.2.2.2.2.2
theorem D6 {i : Nat} {y : Str} {py GF : Pos} (hN : X.N.Nodup) (hiy : X.N[i]? = some y) (hi : PI X tg iter wi) (sc : Scope) (sY : X.env.scope = sc) (S : Cf sc scope X.N bK fr) (hc : X.calm = true)
  (nI:closureFor scope X.env = pure (El X.env.cells scope.names []))
  (hg:∀ C s2 H2 fp,PG (Cg X (Bn X.N bK fr) scope C s2 H2 fp) tg g) (ht:∀ C s2 H2 fp,n9 (Cg X (Bn X.N bK fr) scope C s2 H2 fp) ifs tt) (he:∀ C s2 H2 fp,PE (Cg X (Bn X.N bK fr) scope C s2 H2 fp) elt te)
  (hy:X.env.scope.names.lookup y = some NameKind.local)
  (hsw:swapsWith (.ListComp elt [⟨tg,iter,ifs,0⟩] scope pos) (some (.Name y py)) GF.line X.env = pure true)
  (hs:∀ x,foldedSetIterable iter X.env x = pure x:=by intro _; rfl) :
  PS X (.Assign [.Name y py] (.ListComp elt [⟨tg,iter,ifs,0⟩] scope pos) GF) (Yh bK.length fr wi g tt te i):=by
 intro pins s σ H D I h
 rw [exec_Assign_Name_used _ _ _ _ hsw]
 refine wpAny_bind (wpAny_standAt (wpAny_bind ?_))
 show wpAny _ X.A (do let _ <- comprehension (.ListComp elt [⟨tg,iter,ifs,0⟩] scope pos) scope X.env _ (newList []) false (eval iter X.env) (some (assign (.Name y py) X.env))) _ _ s
 refine wpAny_bind (wpAny_mono (wpAny_comprehension_free (use:=some (assign (.Name y py) X.env)) (Q:=fun _ s'=>SP X pins D .next s') rfl hs nI S.kind S.loc
  (wpAny_mono (hi pins s σ H _ I h) (fun v s1 h1=>wpAny_mono h1 (fun RQ s2 h2=>?_) fun _ _ e=>e) fun _ _ e=>e)) (fun _ s' hq=>wpAny_pure (wpAny_pure hq)) fun _ _ e=>e)
 obtain ⟨it,fp,tn,J,H2,e,I2,T,aH,f2,R2⟩ := h2
 subst e
 refine N2 (RR:=fun acc C=>compPost (model X.prog X.w) X.A X.xe (some (assign (.Name y py) X.env)) (fun _ s'=>SP X pins D .next s') acc C) sY S hc hg ht he I2 T aH f2 (R2 _ I2.fresh) ?_
 intro C H3 s4 I4 fC ⟨m,hn⟩ q
 refine wpAny_assign_Name (O6 (v := .ref s2.heap.objs.size) I4 hN hiy (.inl hy) rfl (fun s5 I5 ⟨a,VM,ha⟩=>?_) (.inr hy))
 have GG:C ≠ a:=by
  rcases ha with z | z
  ·rw [z]; exact fC.2.1
  ·exact fun z2=>fC.2.2.2.2.1 y a z z2.symm
 refine ⟨m,hn.sameBut VM GG,fun h' GD=>⟨_,H3,?_,q⟩⟩
 obtain ⟨hh,gg,dd,VL,oo⟩ := s5
 exact I5.turned (h':=h') (t':=VL) (it:=C) (fun b o hb e=>GD.extBut b o hb e) fC.1 fC.2.1 fC.2.2.2.1 fC.2.2.2.2.1 fC.2.2.2.2.2
end
open PySem.Builtin.Int (intBits)
section
variable {X:Cx}
theorem Zm:K1 X (binaryOp .Mult) (rI IntMulOk fun i j=>.int (i * j)):=qb fun _ _ _ _ _ _ _ hc q=>mul_int q hc
end
theorem nh {a b:Int} {m n:Nat} (ha:intBits a <= m) (hb:intBits b <= n) (h:m + n <= 134217728):IntMulOk a b:=PyProof.Rows.mulOk_of_bits ha hb h
def Zq (T C:String):Option Bool:=if (Value.type T == Value.type C) = true then some true else if PySem.W.kitMeta C = true then (fastBuiltinMro T).map (·.contains (Value.type C)) else none
theorem Yw (K:PySem.W.Frag) (T C:String):PySem.W.kitOne K (.type T) (.type C) = Zq T C:=rfl
theorem P3:Zq "bool" "bool" = some true:=by decide +kernel
theorem Pd:Zq "list" "list" = some true:=by decide +kernel
section
variable {X:Cx}
def kz (K:PySem.W.Frag):List V -> Hp -> VK -> Prop:=fun xs H Q=>∃ x T C b,xs = [x,.ty C] /\ Jj K H x (.type T) /\ Zq T C = some b /\ Q (.bl b) H
theorem Y5:Dl X (.builtin "isinstance") (kz X.K):=by
 intro pins s σ H xs us Q I r h
 obtain ⟨x,T,C,b,rfl,ty,e,q⟩ := h
 obtain ⟨u,w',rfl,rx,rc⟩ := Yd r
 obtain rfl:w' = Value.type C:=rc
 exact W0 I rx ty ((Yw X.K T C).trans e) fun tk=>⟨.bl b,H,I.tok _,rfl,q⟩
theorem cr {x:Str} {T:String} {pos:Pos} (hg:Gl X x) (hm:X.mg x = none) (hv:bootBuiltins x = some (.type T)) (hn:x ≠ "__name__" := by decide) (hd:(x == ("__debug__" : Str)) = false:=by decide):PE X (.Name x pos) (tC (.ty T)) :=
 al hg hm hv rfl hn hd
end
mutual
def Rp (H:Hp):PyData -> V -> Prop
 | .none,v=>v = .aL
 | .bool b,v=>v = .bl b
 | .int i,v=>v = .int i
 | .tuple ds,v=>∃ a xs,v = .ref a /\ H a = some (.tup xs) /\ aB H ds xs
 | .list ds,v=>∃ a xs,v = .ref a /\ H a = some (.lst xs) /\ aB H ds xs
 | .str x,v=>v = .str x /\ PyData.strOk x = true
 | .dict _,_=>False
def aB (H:Hp):List PyData -> List V -> Prop
 | [],vs=>vs = []
 | d :: ds,vs=>∃ x xs,vs = x :: xs /\ Rp H d x /\ aB H ds xs
end
mutual
theorem Cu {H:Hp}:∀ (d:PyData) (v:V),Rp H d v -> d.canLay0 = true
 | .none,_,_=>rfl
 | .bool _,_,_=>rfl
 | .int _,_,_=>rfl
 | .tuple ds,_,h=>by
  unfold Rp at h
  obtain ⟨a,xs,_,_,h⟩ := h
  exact dY ds xs h
 | .list ds,_,h=>by
  unfold Rp at h
  obtain ⟨a,xs,_,_,h⟩ := h
  exact dY ds xs h
 | .str x,v,h=>by
  unfold Rp at h
  exact h.2
 | .dict _,_,h=>by unfold Rp at h; exact h.elim
theorem dY {H:Hp}:∀ (ds:List PyData) (vs:List V),aB H ds vs -> PyData.canLayAll0 ds = true
 | [],_,_=>rfl
 | d :: ds,vs,h=>by
  unfold aB at h
  obtain ⟨x,xs,_,h1,h2⟩ := h
  show (d.canLay0 && PyData.canLayAll0 ds) = true
  rw [Cu d x h1,dY ds xs h2]
  rfl
end
section
variable {X:Cx} {pins:List (Addr × Obj)} {σ:St} {H:Hp} {s:Shared}
mutual
theorem Cv (I:Ai X pins σ H s):∀ (d:PyData) (v:V) (u:Value),Rp H d v -> Aw v u -> ∃ as,Reads s.heap u d as
 | .none,v,u,h,r=>by
  unfold Rp at h
  subst h
  cases r
  exact ⟨_,.none⟩
 | .bool b,v,u,h,r=>by
  unfold Rp at h
  subst h
  cases r
  exact ⟨_,.bool b⟩
 | .int i,v,u,h,r=>by
  unfold Rp at h
  subst h
  obtain ⟨t,rfl⟩ := r
  exact ⟨_,.int i t⟩
 | .tuple ds,v,u,h,r=>by
  unfold Rp at h
  obtain ⟨a,xs,rfl,ha,h⟩ := h
  cases r
  obtain ⟨_,aA,rv,p⟩ := I.aC a _ ha
  obtain ⟨o,h1,h2,n,h3⟩ := p
  obtain ⟨as,q⟩ := bS I ds xs aA h rv
  exact ⟨_,.tuple h1 h2 h3 (by simpa using q)⟩
 | .list ds,v,u,h,r=>by
  unfold Rp at h
  obtain ⟨a,xs,rfl,ha,h⟩ := h
  cases r
  obtain ⟨_,aA,n,rv,p⟩ := I.aC a _ ha
  obtain ⟨as,q⟩ := bS I ds xs aA h rv
  exact ⟨_,.list p rfl rfl (by simpa using q)⟩
 | .str x,v,u,h,r=>by
  unfold Rp at h
  obtain ⟨rfl,_⟩ := h
  obtain ⟨t,rfl⟩ := r
  exact ⟨_,.str x t⟩
 | .dict _,_,_,h,_=>by unfold Rp at h; exact h.elim
theorem bS (I:Ai X pins σ H s):∀ (ds:List PyData) (vs:List V) (us:List Value),aB H ds vs -> Ay vs us -> ∃ as,ReadsAll s.heap us ds as
 | [],vs,us,h,r=>by
  unfold aB at h
  subst h
  cases r
  exact ⟨_,.nil⟩
 | d :: ds,vs,us,h,r=>by
  unfold aB at h
  obtain ⟨x,xs,rfl,h1,h2⟩ := h
  cases r with
  | cons r1 r2 =>
   obtain ⟨as,q1⟩ := Cv I d x _ h1 r1
   obtain ⟨bs,q2⟩ := bS I ds xs _ h2 r2
   exact ⟨_,.cons q1 q2⟩
end
end
section
variable {X:Cx} {k:Nat}
def pp (neg:Bool):R2:=fun x y H Q=>∃ d e:PyData,Rp H d x /\ Rp H e y /\ d.depth <= 60 /\ Q (.bl (if neg then !PyData.eqv d e else PyData.eqv d e)) H
theorem ja (hr:Dc k X.A):K1 X (compareOp .NotEq) (pp true):=by
 intro pins s σ H x y v u Q I rx ry h
 obtain ⟨d,e,h1,h2,hd,q⟩ := h
 obtain ⟨as,q1⟩ := Cv I d x v h1 rx
 obtain ⟨bs,q2⟩ := Cv I e y u h2 ry
 have hu:=hr.units
 exact PySem.SeqAt.compareNe_reads q1 q2 (Cu d x h1) (Cu e y h2) (by omega) ⟨.bl (!PyData.eqv d e),H,I,rfl,q⟩
end
theorem Ve {H:Hp}:∀ ns:List Int,aB H (ns.map PyData.int) (ns.map V.int)
 | []=>by unfold aB; rfl
 | n :: ns=>by
  show aB H (PyData.int n :: ns.map PyData.int) (V.int n :: ns.map V.int)
  unfold aB
  exact ⟨_,_,rfl,by unfold Rp; rfl,Ve ns⟩
theorem A9.new {H H':Hp} {p:Addr} {o:HO} (e:A9 H H') (h:H p = none):A9 H (upd H' p o):=fun b u q=>by
 rw [Ac (Ah q h)]
 exact e b u q
theorem A9.upd {H:Hp} {p:Addr} {o:HO} (h:H p = none):A9 H (upd H p o):=(A9.refl H).new h
theorem nJ {l : PySem.W.OpenLaw} {n k : Nat} {q : Program} {loose : List Str} {XP : (Str -> Option Value) -> Heap -> Prop} {YP : World -> Heap -> Prop} {d : DefRec} {K : Params -> PySem.W.Frag} {CX : World -> Xf} {sp : World -> Sp} {x : Str}
  (hn:l.most = some n) (EV:n <= sizeLine) (VN:d.params.defaults = []) (hr:Dc k callerA)
  (hY:∀ (w:World) (h:Heap),YP w h -> (K w.params).In h)
  (F:∀ (w:World) (mg:Str -> Option Value) (fa:Addr) (h:Heap),(K w.params).In h -> h.Ns mainGlobals mg -> mg d.name = some (.ref fa) ->
   ∃ fd:FuncData,(∀ (s:Shared) (u:Value),BindsTo s fd ⟨[u],[]⟩ [(x,u)]) /\
    ∀ base:Heap,(K w.params).In base -> base.Ns mainGlobals mg -> Aj l.prog w (K w.params) mg base (CX w) k fa fd [x] (sp w))
  (sC:∀ (w:World) (H:Hp) (a:Addr) (ns:List Int),ns.length <= n -> (∀ z ∈ ns,intBits z <= 2 ^ 20) -> gk H -> Ba (K w.params) H a (ns.map V.int) -> sp w [.ref a] H (fun v _=>v = .bl true) fun _ _ _=>False)
  (VD:∀ (w:World) (H:Hp) (s:Shared) (e:Value) (s':Shared),CX w [] H s (fun _ _ _=>False) e s' -> False) :
  PySem.W.WalkO q loose XP YP l.row.toRowW d [] (fun f vs=>PySem.call f vs):=by
 intro w s₀ s₁ mg mb G Y fa o pm cd doc dV kV ho hd nA hD hmg hg args vals as sX VO hrd fW hlo
 obtain rfl:dV = .none:=PySem.W.Dflts.none hD VN
 obtain rfl:kV = .none:=PySem.W.Dflts.noKw hD
 obtain ⟨a,vs,ns,rfl,rfl,VP,hints,hlen⟩ := Att.lU hn sX fW
 have big:∀ z ∈ ns,intBits z <= 2 ^ 20:=fun z hz=>by
  have l1:=(PySem.W.layW_cons VO).1
  have l2:=PySem.W.layableW_item l1 (.int z) (List.mem_map.mpr ⟨z,hz,rfl⟩)
  have l3:=(PySem.W.layableW_iff.mp l2).2.2
  simpa only [PySem.W.WData.weight,Builtin.Int.intBits] using l3
 have KX:=hY w _ Y
 obtain ⟨fd,hb,hF⟩ := F w mg fa _ KX G.T.g hmg
 refine PySem.W.enter_call (codeAny_mono (Xg KX G.T.g G.T.b G.T.builtins G.T.nolimit hg VP hints (Nat.le_trans hlen EV) hr hF hb (fun H hO hS=>sC w H a ns hlen big hO hS) fun H e s'=>VD w H s₁ e s') fun r s' hq=>?_)
 obtain ⟨rfl,h2,h3,h4⟩ := hq
 exact ⟨.inl ⟨.bool true,.bool true,[],rfl,fun _=>rfl,.bool true,Att.lV l _,fun _=>⟨List.Pairwise.nil,fun _ hm=>(nomatch hm)⟩⟩,h2,h3,h4⟩
section
variable {X:Cx} {tg:Expr}
def qh (K:PySem.W.Frag):R2:=fun x y H Q=>∃ p xs i v,x = .ref p /\ y = .int i /\ (Ba K H p xs \/ C7 K H p xs) /\ Ra xs i = some v /\ Q v H
theorem Bf (K:PySem.W.Frag) (hK:X.K = K:=by rfl):nz X (qh K):=by
 subst hK
 intro value slice pins s σ H x y v u Q I rx ry h hs
 obtain ⟨p,xs,i,z,e1,e2,h | h,ea,q⟩ := h
 ·exact ae value slice pins s σ H x y v u Q I rx ry ⟨p,xs,i,z,e1,e2,h,ea,q⟩ hs
 ·exact fb value slice pins s σ H x y v u Q I rx ry ⟨p,xs,i,z,e1,e2,h,ea,q⟩ hs
def ql (K:PySem.W.Frag):List V -> Hp -> VK -> Prop:=fun xs H Q=>∃ p ys,xs = [.ref p] /\ (Ba K H p ys \/ C7 K H p ys) /\ Q (.int ys.length) H
theorem Cz (K:PySem.W.Frag) (hK:X.K = K:=by rfl):Dl X (.builtin "len") (ql K):=by
 subst hK
 exact P7
theorem Ob (K:PySem.W.Frag) (hK:X.K = K:=by rfl):Dl X (.builtin "isinstance") (kz K):=by
 subst hK
 exact Y5
theorem iu (K:PySem.W.Frag) (hK:X.K = K:=by rfl):K1 X (compareOp .In) (sj K false):=by
 subst hK
 exact X9
theorem Hx (K:PySem.W.Frag) (hK:X.K = K:=by rfl):qt X (kf K):=by
 subst hK
 exact ai
theorem Ep (K : PySem.W.Frag) {es : List Expr} {kk : Nat} {t : bm} {n : Nat} {pos : Pos} (hc : X.calm = true) (h : jt X es t) (hK : X.K = K := by rfl)
  (hn:(assignEach es X.env).length = n:=by rfl) (cE:(assignEach es X.env).findIdx? (·.1) = none:=by rfl):PG X (.Tuple es kk pos) (b8 K n t):=by
 subst hK
 exact de hc h hn cE
def Nq (K:PySem.W.Frag) (tl:TE):TI:=fun σ H R=>tl σ H fun x H1=>∃ a,x = .ref a /\ (((∃ xs,Ba K H1 a xs) /\ R (dy K a) H1) \/ ((∃ xs,C7 K H1 a xs) /\ R (jo K a) H1))
theorem Df {l:Expr} {tl:TE} (hl:PE X l tl):PI X tg l (Nq X.K tl):=by
 intro pins s σ H R I h
 refine Ca (hl pins s σ H _ I h) fun v s1 aJ=>?_
 obtain ⟨x,H1,I1,r1,q1⟩ := aJ
 obtain ⟨a,e,q1⟩ := q1
 subst e
 cases r1
 rcases q1 with ⟨⟨xs,hq⟩,q⟩ | ⟨⟨xs,hq⟩,q⟩
 ·obtain ⟨aA,rv,p,hz⟩ := I1.list hq
  refine wpAny_pyIter_list p.isList ?_
  refine ⟨s1.heap.objs.size,[s1.heap.objs.size],_,_,H1,rfl,I1.kept (t':=s1.toks) fun b o e=>Heap.get?_push_of_some _ e,Wr a _,⟨_,Heap.get?_push_size _ rfl,rfl,rfl⟩,fun b hb=>?_,q⟩
  have e:b = s1.heap.objs.size:=by simpa using hb
  subst e
  exact I1.jT (Nat.le_refl _) (I1.aC.fresh (Nat.le_refl _))
 ·obtain ⟨aA,rv,p,hz⟩ := I1.tuple hq
  refine wpAny_pyIter_tuple (show s1.heap.IsTuple a aA.toArray from p) ?_
  refine ⟨s1.heap.objs.size,[s1.heap.objs.size],_,_,H1,rfl,I1.kept (t':=s1.toks) fun b o e=>Heap.get?_push_of_some _ e,Sx a _,⟨_,Heap.get?_push_size _ rfl,rfl,rfl⟩,fun b hb=>?_,q⟩
  have e:b = s1.heap.objs.size:=by simpa using hb
  subst e
  exact I1.jT (Nat.le_refl _) (I1.aC.fresh (Nat.le_refl _))
end
theorem Dp {fr : List Nat} {te : TE} {σ : St} {D : Addr} {H1 : Hp} {Q : Hp -> Prop} {lo : Int} {cnt : Nat} (Pv : Nat -> List V -> Hp -> Prop) (h0 : Pv 0 [] (upd H1 D (.lst [])))
  (hs:∀ i ys H,i < cnt -> Pv i ys H -> ∀ Qe:VK,(∀ y H5,H5 D = some (.lst ys) -> ys.length < sizeLine -> Pv (i + 1) (ys ++ [y]) (upd H5 D (.lst (ys ++ [y]))) -> Qe y H5) -> te (some (.int (lo + i)) :: D7 fr σ) H Qe)
  (hd:∀ ys H,Pv cnt ys H -> Q H):Dv 1 fr (dc lo cnt) (Fd 0) L6 te σ D H1 Q:=by
 refine ⟨fun i m ys H=>m = cnt - i /\ i <= cnt /\ Pv i ys H,⟨cnt,by simp,Nat.zero_le _,h0⟩,?_⟩
 rintro i m ys H' ⟨rfl,hi,p⟩
 by_cases aI:i < cnt
 ·refine .inr ⟨aI,fun x H2 y=>?_⟩
  obtain ⟨e,y⟩ := y
  subst e y
  refine ⟨⟨[some (.int (lo + i))],rfl,rfl⟩,?_⟩
  simp only [L6,↓reduceIte]
  exact hs i ys _ aI p _ fun y H5 hD hz pv=>⟨hD,hz,cnt - (i + 1),by omega,rfl,aI,pv⟩
 ·have e:i = cnt:=by omega
  subst e
  exact .inl ⟨Nat.le_refl _,hd ys H' p⟩
theorem Gx {K : PySem.W.Frag} {a : Addr} {xs : List V} {fr : List Nat} {te : TE} {σ : St} {D : Addr} {H1 : Hp} {Q : Hp -> Prop} (Pv : Nat -> List V -> Hp -> Prop) (h0 : Pv 0 [] (upd H1 D (.lst [])))
  (hl:∀ i ys H,i <= xs.length -> Pv i ys H -> Ba K H a xs)
  (hs:∀ i x ys H,xs[i]? = some x -> Pv i ys H -> ∀ Qe:VK,(∀ y H5,H5 D = some (.lst ys) -> ys.length < sizeLine -> Pv (i + 1) (ys ++ [y]) (upd H5 D (.lst (ys ++ [y]))) -> Qe y H5) -> te (some x :: D7 fr σ) H Qe)
  (hd:∀ ys H,Pv xs.length ys H -> Q H):Dv 1 fr (dy K a) (Fd 0) L6 te σ D H1 Q:=by
 refine ⟨fun i m ys H=>m = xs.length - i /\ i <= xs.length /\ Pv i ys H,⟨xs.length,by simp,Nat.zero_le _,h0⟩,?_⟩
 rintro i m ys H' ⟨rfl,hi,p⟩
 have q:=hl i ys H' hi p
 by_cases aI:i < xs.length
 ·refine .inr ⟨⟨xs,xs[i],q,by simp [aI]⟩,fun x H2 y=>?_⟩
  obtain ⟨e,y⟩ := y
  subst e
  refine ⟨⟨[some x],rfl,rfl⟩,?_⟩
  simp only [L6,↓reduceIte]
  exact hs i x ys _ (y xs q) p _ fun y H5 hD hz pv=>⟨hD,hz,xs.length - (i + 1),by omega,rfl,aI,pv⟩
 ·have e:i = xs.length:=by omega
  subst e
  exact .inl ⟨⟨xs,q,Nat.le_refl _⟩,hd ys H' p⟩
theorem Xv {K : PySem.W.Frag} {a : Addr} {xs : List V} {fr : List Nat} {te : TE} {σ : St} {D : Addr} {H1 : Hp} {Q : Hp -> Prop} (Pv : Nat -> List V -> Hp -> Prop) (h0 : Pv 0 [] (upd H1 D (.lst [])))
  (hl:∀ i ys H,i <= xs.length -> Pv i ys H -> C7 K H a xs)
  (hs:∀ i x ys H,xs[i]? = some x -> Pv i ys H -> ∀ Qe:VK,(∀ y H5,H5 D = some (.lst ys) -> ys.length < sizeLine -> Pv (i + 1) (ys ++ [y]) (upd H5 D (.lst (ys ++ [y]))) -> Qe y H5) -> te (some x :: D7 fr σ) H Qe)
  (hd:∀ ys H,Pv xs.length ys H -> Q H):Dv 1 fr (jo K a) (Fd 0) L6 te σ D H1 Q:=by
 refine ⟨fun i m ys H=>m = xs.length - i /\ i <= xs.length /\ Pv i ys H,⟨xs.length,by simp,Nat.zero_le _,h0⟩,?_⟩
 rintro i m ys H' ⟨rfl,hi,p⟩
 have q:=hl i ys H' hi p
 by_cases aI:i < xs.length
 ·refine .inr ⟨⟨xs,xs[i],q,by simp [aI]⟩,fun x H2 y=>?_⟩
  obtain ⟨e,y⟩ := y
  subst e
  refine ⟨⟨[some x],rfl,rfl⟩,?_⟩
  simp only [L6,↓reduceIte]
  exact hs i x ys _ (y xs q) p _ fun y H5 hD hz pv=>⟨hD,hz,xs.length - (i + 1),by omega,rfl,aI,pv⟩
 ·have e:i = xs.length:=by omega
  subst e
  exact .inl ⟨⟨xs,q,Nat.le_refl _⟩,hd ys H' p⟩
def Dz (ns:List Int) (k:Int):Int:=(ns[k.toNat]?).getD 0
theorem bv {ns:List Int} {k:Int} (h0:0 <= k) (h:k < ns.length):Ra (ns.map V.int) k = some (.int (Dz ns k)):=by
 obtain ⟨j,rfl⟩ : ∃ j:Nat,k = j:=⟨k.toNat,by omega⟩
 have hj:j < ns.length:=by omega
 refine Vh ?_
 unfold Dz
 rw [List.getElem?_map,Int.toNat_natCast,List.getElem?_eq_getElem hj]
 rfl
theorem W8 {ns:List Int} {k:Int} (h0:0 <= k) (h:¬ k < ns.length):Dz ns k = 0:=by
 unfold Dz
 rw [List.getElem?_eq_none (by omega)]
 rfl
theorem C7.same {K:PySem.W.Frag} {H H':Hp} {a:Addr} {xs:List V} (e:A9 H H') (h:C7 K H a xs):C7 K H' a xs:=by
 rcases h with (h | ⟨o,h⟩) | h
 ·exact .inl (.inl (e _ _ h))
 ·exact .inl (.inr ⟨o,e _ _ h⟩)
 ·exact .inr h
theorem N7 {c:Bool} {A B:Prop} (hc:c = true) (h:A):if c = true then A else B:=by rw [if_pos hc]; exact h
theorem Ix {c:Bool} {A B:Prop} (hc:c = false) (h:B):if c = true then A else B:=by rw [if_neg (by rw [hc]; exact Bool.false_ne_true)]; exact h
theorem Bo {xs:List V} (h:xs.length <= 1000:=by simp):xs.length <= sizeLine:=Nat.le_of_lt (B7 h)
theorem Kc {n:Nat} (h:n <= 1000):n <= sizeLine:=Nat.le_of_lt (B7 h)
def dT (ws:List Int):PyData := .tuple (ws.map PyData.int)
def dL (ws:List Int):PyData := .list (ws.map PyData.int)
def dP (d e:PyData):PyData := .tuple [d,e]
def dO:Option Int -> PyData
 | none=>.none
 | some i=>.int i
def vO:Option Int -> V
 | none=>.aL
 | some i=>.int i
theorem G0 {H:Hp} (i:Int):Rp H (.int i) (.int i):=by unfold Rp; rfl
theorem Yy {H:Hp}:Rp H .none .aL:=by unfold Rp; rfl
theorem kr {H:Hp} (b:Bool):Rp H (.bool b) (.bl b):=by unfold Rp; rfl
theorem Za {H:Hp} {t:Addr} {ws:List Int} (h:H t = some (.tup (ws.map V.int))):Rp H (dT ws) (.ref t):=by
 unfold dT Rp
 exact ⟨t,_,rfl,h,Ve ws⟩
theorem Vi {H:Hp} {p:Addr} {d e:PyData} {x y:V} (h:H p = some (.tup [x,y])) (hd:Rp H d x) (he:Rp H e y):Rp H (dP d e) (.ref p):=by
 unfold dP Rp
 refine ⟨p,_,rfl,h,?_⟩
 unfold aB
 refine ⟨x,_,rfl,hd,?_⟩
 unfold aB
 refine ⟨y,_,rfl,he,?_⟩
 unfold aB
 rfl
theorem Ha:∀ ws:List Int,PyData.depthAll (ws.map PyData.int) = 0
 | []=>rfl
 | w :: ws=>by
  show max (PyData.depth (.int w)) (PyData.depthAll (ws.map PyData.int)) = 0
  rw [Ha ws]
  rfl
theorem Xp (ws:List Int):(dT ws).depth = 1:=by
 show PyData.depthAll (ws.map PyData.int) + 1 = 1
 rw [Ha]
theorem Qh (d e:PyData):(dP d e).depth = max d.depth e.depth + 1:=by
 show max d.depth (max e.depth 0) + 1 = _
 rw [Nat.max_zero]
theorem Eo:∀ xs ys:List Int,PyData.eqvAll (xs.map PyData.int) (ys.map PyData.int) = decide (xs = ys)
 | [],[]=>rfl
 | x :: xs,y :: ys=>by
  show (PyData.eqv (.int x) (.int y) && PyData.eqvAll (xs.map PyData.int) (ys.map PyData.int)) = _
  rw [Eo xs ys]
  show ((x == y) && decide (xs = ys)) = _
  by_cases h1:x = y <;> by_cases h2:xs = ys <;> simp [h1,h2]
 | [],_ :: _=>rfl
 | _ :: _,[]=>rfl
theorem Y6 (xs ys:List Int):PyData.eqv (dT xs) (dT ys) = decide (xs = ys):=Eo xs ys
theorem iz (a b c d:PyData):PyData.eqv (dP a b) (dP c d) = (PyData.eqv a c && PyData.eqv b d):=by
 show (PyData.eqv a c && (PyData.eqv b d && true)) = _
 rw [Bool.and_true]
section
variable {X:Cx} {pins:List (Addr × Obj)} {σ:St} {H:Hp} {s:Shared} {h':Heap}
theorem Ai.iX {ch : List Addr} {T : Addr} {o : HO} {t' : Nat} (I : Ai X pins σ H s) (fV : ∀ b ∈ ch, Lp X pins H b) (k : ∀ b ob, b ∉ ch -> s.heap.get? b = some ob -> h'.get? b = some ob)
  (hT:s.heap.objs.size <= T) (new:Bj X.prog X.w (upd H T o) h' T o):Ai X pins σ (upd H T o) { s with heap:=h',toks:=t' }:=by
 have hn:H T = none:=I.aC.fresh hT
 have off:∀ b u,H b = some u -> b ∉ ch:=fun b u e hb=>by
  have z:=(fV b hb).1
  rw [e] at z
  cases z
 refine I.call (g':=s.gens) (d':=s.drawn) (t':=t') (ch:=ch) ⟨fun b ob e _ _ hc=>k b ob hc e,fun b ob e _ _ hc=>⟨ob.slots,k b ob hc e⟩,fun b ob e n hc=>?_,fun b ob e hc=>⟨ob,k b ob hc e⟩,fun b xs e=>?_,fun b ob u e=>?_,fun b ps e=>⟨#[],?_⟩⟩ (fun b u e=>?_) I.bare
  (fun b hb=>⟨(fV b hb).2.2.2.1,(fV b hb).2.1,(fV b hb).2.2.2.2.1,(fV b hb).2.2.2.2.2⟩)
 ·rw [Ac (Nat.ne_of_lt (Nat.lt_of_lt_of_le (Heap.lt_size e) hT))]
  exact n
 ·rw [Ac (Ah e hn)]
  exact e
 ·rw [Ac (Ah e hn)]
  exact e
 ·rw [Ac (Ah e hn),e]
  simp
 ·by_cases hb:b = T
  ·subst hb
   rw [A5] at e
   cases e
   exact new
  ·rw [Ac hb] at e
   refine (I.aC b u e).fA (fun c v hc q=>k c v ?_ q) (fun c q=>?_) fun c xs q=>?_
   ·rcases hc with rfl | hc
    ·exact off _ _ e
    ·exact off _ _ hc
   ·rw [Ac (Ah q hn)]
    exact q
   ·rw [Ac (Ah q hn)]
    exact q
theorem Ai.dG {ch:List Addr} {t':Nat} (I:Ai X pins σ H s) (fV:∀ b ∈ ch,Lp X pins H b) (k:∀ b ob,b ∉ ch -> s.heap.get? b = some ob -> h'.get? b = some ob):Ai X pins σ H { s with heap:=h',toks:=t' }:=by
 have off:∀ b u,H b = some u -> b ∉ ch:=fun b u e hb=>by
  have z:=(fV b hb).1
  rw [e] at z
  cases z
 refine I.call (g':=s.gens) (d':=s.drawn) (t':=t') (ch:=ch) ⟨fun b ob e _ _ hc=>k b ob hc e,fun b ob e _ _ hc=>⟨ob.slots,k b ob hc e⟩,fun b ob e n hc=>n,fun b ob e hc=>⟨ob,k b ob hc e⟩,fun b xs e=>e,fun b ob u e=>e,fun b ps e=>⟨#[],by rw [e]; simp⟩⟩ (fun b u e=>?_) I.bare
  (fun b hb=>⟨(fV b hb).2.2.2.1,(fV b hb).2.1,(fV b hb).2.2.2.2.1,(fV b hb).2.2.2.2.2⟩)
 refine (I.aC b u e).fA (fun c v hc q=>k c v ?_ q) (fun c q=>q) fun c xs q=>q
 rcases hc with rfl | hc
 ·exact off _ _ e
 ·exact off _ _ hc
end
def uv (K:PySem.W.Frag) (l1 l2:Addr):It :=
 ⟨fun i H=>∃ xs ys x y,Ba K H l1 xs /\ Ba K H l2 ys /\ xs[i]? = some x /\ ys[i]? = some y,
  fun i H v H'=>∃ T x y,v = .ref T /\ H T = none /\ H' = upd H T (.tup [x,y]) /\ (∀ xs,Ba K H l1 xs -> xs[i]? = some x) /\ ∀ ys,Ba K H l2 ys -> ys[i]? = some y,
  fun i H=>∃ xs ys,Ba K H l1 xs /\ Ba K H l2 ys /\ (xs.length <= i \/ ys.length <= i)⟩
section
variable {X:Cx}
def u9 (K:PySem.W.Frag) (ta:TA):TI:=fun σ H R=>ta σ H fun vs H1=>∃ a b,vs = [.ref a,.ref b] /\ (∃ xs,Ba K H1 a xs) /\ (∃ ys,Ba K H1 b ys) /\ R (uv K a b) H1
end
def uo (K:PySem.W.Frag) (l:Addr):It :=
 ⟨fun i H=>∃ xs x,Ba K H l xs /\ xs[i]? = some x,
  fun i H v H'=>∃ T x,v = .ref T /\ H T = none /\ H' = upd H T (.tup [.int i,x]) /\ ∀ xs,Ba K H l xs -> xs[i]? = some x,
  fun i H=>∃ xs,Ba K H l xs /\ xs.length <= i⟩
section
variable {X:Cx}
def rf (K:PySem.W.Frag) (ta:TA):TI:=fun σ H R=>ta σ H fun vs H1=>∃ a,vs = [.ref a] /\ (∃ xs,Ba K H1 a xs) /\ R (uo K a) H1
end
section
variable {X:Cx}
end
section
variable {X:Cx}
def pc (K:PySem.W.Frag):V -> List V -> Hp -> VK -> Prop:=fun x vs H Q=>∃ (l:Addr) (ns:List Int) (y:Int) (j:Nat),x = .ref l /\ vs = [.int y] /\ Ba K H l (ns.map V.int) /\ ns[j]? = some y /\ (∀ m,m < j -> ns[m]? ≠ some y) /\ Q (.int (j:Nat)) H
end
structure a9 (K:PySem.W.Frag) (x qual:Str) (st:Stmt) (f:Addr) (fd:FuncData):Prop where
 ex:∃ (oc:Value) (od:Option Addr) (dV kV doc pm:Value) (an:Option Addr) (aM ct:Value) (iG:Array (Option Value)),
  fd = PySem.W.fnOf x qual (Ar st) (Am st) (A8 st) dV kV doc pm an aM ct /\ K.lookup f = some ⟨oc,od,.func fd,iG⟩ /\ PySem.W.codeIn K aM qual = true
section
variable {P:Program} {w:World} {K:PySem.W.Frag} {mg:Str -> Option Value} {base:Heap}
theorem a9.ok {x qual : Str} {st : Stmt} {f : Addr} {fd : FuncData} {N ps : List Str} {k : Nat} {sp : Sp} (F : a9 K x qual st f fd) (S : As N ps (A8 st)) (len : ∀ vs H Q E, sp vs H Q E -> vs.length = ps.length)
  (iP:∀ (aM:Value) (A:Around) (outer:List Env) (s:Shared) (H:Hp) (vs:List V) (Q:VK) (E:XK),Dc k (A.deeper (envOfC qual (A8 st) s.heap.objs.size f aM)) -> sp vs H Q E ->
   ∃ t,S7 (Sj Bm P w K mg base N qual (A8 st) f aM A outer s H E).ER (Am st) t /\ t { nx:=fun _ H'=>Q .aL H',rt:=Q } (start N vs) H):Aj P w K mg base Bm (k + 1) f fd ps sp:=by
 obtain ⟨oc,od,dV,kV,doc,pm,an,aM,ct,iG,rfl,lk,nA⟩ := F.ex
 refine d6 lk nA S len fun A outer s H vs Q E hr sC=>?_
 obtain ⟨t,h,q⟩ := iP aM A outer s H vs Q E hr sC
 exact ⟨t,h.ER,q⟩
end
section
variable {X:Cx} {a b c:Expr} {rest:List Expr} {ta tb:TE} {tA uX:TT} {t u:TS} {pos:Pos}
def lv (ta tb:TE):TE:=fun σ H Q=>ta σ H fun x H1=>∃ c d:Bool,x = .bl c /\ (c = true -> ∀ Q':VK,Q' (.bl d) H1 -> tb σ H1 Q') /\ Q (.bl (c && d)) H1
def uc (ta tb:TE):TE:=fun σ H Q=>ta σ H fun x H1=>∃ c d:Bool,x = .bl c /\ (c = false -> ∀ Q':VK,Q' (.bl d) H1 -> tb σ H1 Q') /\ Q (.bl (c || d)) H1
theorem Ur (ha:PE X a ta) (hb:PE X (.BoolOp .And (b :: rest) pos) tb):PE X (.BoolOp .And (a :: b :: rest) pos) (lv ta tb):=by
 intro pins s σ H Q I h
 refine BoolOp_and (Ca (ha pins s σ H _ I h) fun v s1 aJ=>?_)
 obtain ⟨x,H1,I1,r1,q1⟩ := aJ
 obtain ⟨c,d,rfl,q0,q1⟩ := q1
 cases r1
 refine wpAny_truthy_bool ?_
 cases c with
 | true=>exact hb pins s1 σ H1 Q I1 (q0 rfl Q q1)
 | false=>exact ⟨.bl false,H1,I1,rfl,q1⟩
def jw (t u:TT):TT:=fun σ H Q=>t σ H fun c H1=>∃ d:Bool,(c = true -> ∀ Q':Bool -> Hp -> Prop,Q' d H1 -> u σ H1 Q') /\ Q (c && d) H1
def ow (t u:TT):TT:=fun σ H Q=>t σ H fun c H1=>∃ d:Bool,(c = false -> ∀ Q':Bool -> Hp -> Prop,Q' d H1 -> u σ H1 Q') /\ Q (c || d) H1
theorem K7 (ha:PT X a tA) (hb:PW X (.BoolOp .And (b :: rest) pos) uX):PW X (.BoolOp .And (a :: b :: rest) pos) (jw tA uX):=by
 intro wh pins s σ H Q I h
 refine isTrue_and (Ca (ha pins s σ H _ I h) fun c s1 aJ=>?_)
 obtain ⟨H1,I1,d,q0,q1⟩ := aJ
 cases c with
 | true=>exact hb wh pins s1 σ H1 Q I1 (q0 rfl Q q1)
 | false=>exact ⟨H1,I1,q1⟩
theorem fh (ha:PT X a tA) (hb:PW X (.BoolOp .Or (b :: rest) pos) uX):PW X (.BoolOp .Or (a :: b :: rest) pos) (ow tA uX):=by
 intro wh pins s σ H Q I h
 refine isTrue_or (Ca (ha pins s σ H _ I h) fun c s1 aJ=>?_)
 obtain ⟨H1,I1,d,q0,q1⟩ := aJ
 cases c with
 | true=>exact ⟨H1,I1,q1⟩
 | false=>exact hb wh pins s1 σ H1 Q I1 (q0 rfl Q q1)
theorem SP.mono {pins:List (Addr × Obj)} {D D':Hn} {f:Flow} {s':Shared} (h:SP X pins D f s') (hn:∀ σ H,D.nx σ H -> D'.nx σ H) (hr:∀ v H,D.rt v H -> D'.rt v H) (hb:∀ σ H,D.bk σ H -> D'.bk σ H) (hc:∀ σ H,D.ct σ H -> D'.ct σ H):SP X pins D' f s':=by
 cases f with
 | next=>obtain ⟨σ',H',I,q⟩ := h; exact ⟨σ',H',I,hn _ _ q⟩
 | brk=>obtain ⟨σ',H',I,q⟩ := h; exact ⟨σ',H',I,hb _ _ q⟩
 | cont=>obtain ⟨σ',H',I,q⟩ := h; exact ⟨σ',H',I,hc _ _ q⟩
 | ret v=>obtain ⟨x,σ',H',I,r,q⟩ := h; exact ⟨x,σ',H',I,r,hr _ _ q⟩
def om (c:TT) (t u:TS):TS:=fun D σ H=>c σ H fun b H1=>∃ N:St -> Hp -> Prop,(b = true -> t { D with nx:=N } σ H1) /\ (b = false -> u { D with nx:=N } σ H1) /\ ∀ σ' H',N σ' H' -> D.nx σ' H'
theorem Dn {c:Expr} {a b:List Stmt} {tc:TT} (hc:PT X c tc) (ha:S7 X a t) (hb:S7 X b u):PS X (.If c a b pos) (om tc t u):=by
 intro pins s σ H D I h
 refine wpAny_If (Ca (hc pins s σ H _ I h) fun d s1 aJ=>?_)
 obtain ⟨H1,I1,N,q1,q2,q3⟩ := aJ
 cases d with
 | true=>exact Ca (ha pins s1 σ H1 _ I1 (q1 rfl)) fun f s2 q=>q.mono q3 (fun _ _ z=>z) (fun _ _ z=>z) fun _ _ z=>z
 | false=>exact Ca (hb pins s1 σ H1 _ I1 (q2 rfl)) fun f s2 q=>q.mono q3 (fun _ _ z=>z) (fun _ _ z=>z) fun _ _ z=>z
end
section
variable {P:Program} {w:World} {A:Around} {E:Value -> Shared -> Prop} {s:Shared}
theorem Sd {I T : Addr} {k : Nat} {vs : Array Value} {v : Value} {Q : Value -> Shared -> Prop} (hI : s.heap.IsTupleIter I T k) (hT : s.heap.IsTuple T vs) (hv : vs[k]? = some v)
  (q:∀ h',h'.IsTupleIter I T (k + 1) -> Heap.SameBut I s.heap h' -> Q v { s with heap:=h' }):wpAny (model P w) A (Builtin.SmallTypes.nextOf (.ref I)) Q E s:=by
 obtain ⟨oI,eI,cI,dI⟩ := id hI
 obtain ⟨oT,eT,_,nT,VQ⟩ := hT
 unfold Builtin.SmallTypes.nextOf
 refine wpAny_bind (wpAny_callSpecial?_slot (name:=Str.ofString "__next__") hI.typeIs F.slot_tuple_iterator_next (wpAny_call_entry F.slot_tuple_iterator_next hI.typeIs F.entry_tuple_iterator_next ?_ (F.args_tuple_iterator_next_1 _)))
 show wpAny _ _ (field (.ref I) 0 >>= _) _ _ s
 refine wpAny_bind (wpAny_field eI dI (x := .ref T) rfl ?_)
 show wpAny _ _ (if (Value.ref T == Value.none) = true then _ else _) _ _ s
 rw [if_neg (show ¬ ((Value.ref T == Value.none) = true) from Bool.false_ne_true)]
 show wpAny _ _ (field (.ref I) 1 >>= _) _ _ s
 refine wpAny_bind (wpAny_field eI dI (x := .int k 0) rfl ?_)
 show wpAny _ _ (seqItems? (.ref T) >>= _) _ _ s
 refine wpAny_bind (wpAny_seqItems eT VQ ?_)
 simp only [Int.toNat_natCast,hv]
 refine wpAny_bind (wpAny_setField eI dI (by simp) (wpAny_pure ⟨v,rfl,wpAny_pure (q _ ⟨_,Heap.get?_update_self _ eI (Obj.isFreed_of_fields (Obj.data_mapFields dI _)),(Obj.cls_mapFields ..).trans cI,?_⟩ (Heap.SameBut.update ..))⟩))
 rw [Obj.data_mapFields dI]
 simp [rawInt]
theorem Wm {I T : Addr} {k : Nat} {vs : Array Value} {Q : Value -> Shared -> Prop} (no : A.handled = none) (hI : s.heap.IsTupleIter I T k) (hT : s.heap.IsTuple T vs) (hv : vs[k]? = none)
  (q:∀ h' e,Heap.ExtBut I s.heap h' -> (∃ o,h'.get? e = some o /\ o.cls = .type "StopIteration") -> E (.ref e) { s with heap:=h' }):wpAny (model P w) A (Builtin.SmallTypes.nextOf (.ref I)) Q E s:=by
 obtain ⟨oI,eI,cI,dI⟩ := id hI
 obtain ⟨oT,eT,_,nT,VQ⟩ := hT
 unfold Builtin.SmallTypes.nextOf
 refine wpAny_bind (wpAny_callSpecial?_slot (name:=Str.ofString "__next__") hI.typeIs F.slot_tuple_iterator_next (wpAny_call_entry F.slot_tuple_iterator_next hI.typeIs F.entry_tuple_iterator_next ?_ (F.args_tuple_iterator_next_1 _)))
 show wpAny _ _ (field (.ref I) 0 >>= _) _ _ s
 refine wpAny_bind (wpAny_field eI dI (x := .ref T) rfl ?_)
 show wpAny _ _ (if (Value.ref T == Value.none) = true then _ else _) _ _ s
 rw [if_neg (show ¬ ((Value.ref T == Value.none) = true) from Bool.false_ne_true)]
 show wpAny _ _ (field (.ref I) 1 >>= _) _ _ s
 refine wpAny_bind (wpAny_field eI dI (x := .int k 0) rfl ?_)
 show wpAny _ _ (seqItems? (.ref T) >>= _) _ _ s
 refine wpAny_bind (wpAny_seqItems eT VQ ?_)
 simp only [Int.toNat_natCast,hv]
 refine wpAny_bind (wpAny_rule (wpAny_bind (wpAny_setField eI dI (by simp) ?_)))
 show wpAny _ _ (newExc (.type "StopIteration") [] >>= fun _=>_) _ _ _
 refine wpAny_bind ?_
 simp only [newExc,newTuple]
 refine wpAny_bind (wpAny_newObj_type (wpAny_bind (m:=firstArgMember _ _) (wpAny_of_eq (a:=Value.none) (by first | rfl | (simp only [firstArgMember]; rfl)) (wpAny_newObj_type ?_ (by size_fits)))) (by size_fits))
 simp only [raiseNew]
 refine wpAny_bind (wpAny_handled ?_)
 first | rw [show A.in1.handled = none from no] | rw [no]
 refine wpAny_bind (wpAny_pure (wpAny_throw (q _ _ (((Heap.SameBut.update ..).extBut.push _).push _) ⟨_,Heap.get?_push_size _ rfl,rfl⟩)))
end
theorem dz {P:Program} {w:World} {A:Around} (no:A.handled = none) (I T:Addr) (ne:T ≠ I) (vs:Array Value):Draws P w A I [I,T] vs.size (fun i v=>vs[i]? = some v) (fun i h=>h.IsTupleIter I T i /\ h.IsTuple T vs) where
 live:=fun _ _ st=>let ⟨o,e,_⟩ := st.1; ⟨o,e⟩
 frame:=fun _ _ _ st k=>⟨st.1.at fun o e=>k I (by simp) o e,let ⟨o,e,r⟩ := st.2; ⟨o,k T (by simp) o e,r⟩⟩
 item:=fun i s Q E hi st q=>Sd st.1 st.2 (v:=vs[i]) (by simp [hi]) fun h' aE sb=>q _ h' s.toks (by simp [hi]) ⟨aE,st.2.extBut sb.extBut ne⟩ sb
 done:=fun s Q E st q=>Wm no st.1 st.2 (by simp) q
def J0:Bool -> Heap -> Addr -> Addr -> Nat -> Prop
 | true,h,I,T,i=>h.IsTupleIter I T i
 | false,h,I,T,i=>h.IsListIter I T i
def Qn:Bool -> Heap -> Addr -> Array Value -> Prop
 | true,h,T,vs=>h.IsTuple T vs
 | false,h,T,vs=>h.IsList T vs
def Xn:Bool -> String
 | true=>"tuple_iterator"
 | false=>"list_iterator"
def Sq:Bool -> PySem.W.Frag -> Hp -> Addr -> List V -> Prop
 | true,K,H,a,xs=>C7 K H a xs
 | false,K,H,a,xs=>Ba K H a xs
theorem Qp {P:Program} {w:World} {A:Around} (no:A.handled = none) (b:Bool) (I T:Addr) (ne:T ≠ I) (vs:Array Value):Draws P w A I [I,T] vs.size (fun i v=>vs[i]? = some v) (fun i h=>J0 b h I T i /\ Qn b h T vs):=by
 cases b
 ·exact Draws.list no I T ne vs
 ·exact dz no I T ne vs
theorem J0.data {b:Bool} {h:Heap} {I T:Addr} {i:Nat} (x:J0 b h I T i):∃ o,h.get? I = some o /\ o.cls = .type (Xn b) /\ o.data = .fields #[.ref T,.int i 0]:=by cases b <;> exact x
theorem J0.of {b:Bool} {h:Heap} {I T:Addr} {i:Nat} (x:∃ o,h.get? I = some o /\ o.cls = .type (Xn b) /\ o.data = .fields #[.ref T,.int i 0]):J0 b h I T i:=by cases b <;> exact x
theorem J0.at' {b:Bool} {h h':Heap} {I T:Addr} {i:Nat} (x:J0 b h I T i) (k:∀ o,h.get? I = some o -> h'.get? I = some o):J0 b h' I T i:=by
 obtain ⟨o,e,r⟩ := x.data
 exact .of ⟨o,k _ e,r⟩
theorem Qn.at' {b:Bool} {h h':Heap} {T:Addr} {vs:Array Value} (x:Qn b h T vs) (k:∀ o,h.get? T = some o -> h'.get? T = some o):Qn b h' T vs:=by
 cases b <;> exact let ⟨o,e,r⟩ := x; ⟨o,k _ e,r⟩
theorem Qn.lt {b:Bool} {h:Heap} {T:Addr} {vs:Array Value} (x:Qn b h T vs):T < h.objs.size:=by
 cases b <;> exact let ⟨_,e,_⟩ := x; Heap.lt_size e
theorem J0.lt {b:Bool} {h:Heap} {I T:Addr} {i:Nat} (x:J0 b h I T i):I < h.objs.size:=by
 obtain ⟨_,e,_⟩ := x.data
 exact Heap.lt_size e
theorem J0.ne {b c:Bool} {h:Heap} {I T:Addr} {i:Nat} {vs:Array Value} (x:J0 b h I T i) (y:Qn c h T vs):T ≠ I:=by
 rintro rfl
 obtain ⟨o,e,k,_⟩ := x.data
 cases c <;> (obtain ⟨o',e',k',_⟩ := y; rw [e] at e'; cases e'; rw [k] at k'; cases b <;> simp [Xn] at k')
section
variable {X:Cx} {pins:List (Addr × Obj)} {σ:St} {H:Hp} {s:Shared}
theorem Ai.sq {b:Bool} {a:Addr} {xs:List V} (I:Ai X pins σ H s) (q:Sq b X.K H a xs):∃ us,Ay xs us /\ Qn b s.heap a us.toArray:=by
 cases b
 ·obtain ⟨us,r,p,_⟩ := I.list q
  exact ⟨us,r,p.isList⟩
 ·obtain ⟨us,r,p,_⟩ := I.tuple q
  exact ⟨us,r,p⟩
theorem Ai.xo {b:Bool} {a:Addr} {xs ys:List V} (I:Ai X pins σ H s) (q:Sq b X.K H a xs) (r:Sq b X.K H a ys):xs = ys:=by
 cases b
 ·exact I.iO q r
 ·exact I.gI q r
end
open AutoSeq1 (wpAny_loadPart')
structure v0 (z TI TO i1 i2 l1 l2:Nat):Prop where
 a:TI ≠ z
 b:TO ≠ z
 c:i1 ≠ z
 d:i2 ≠ z
 e:TI ≠ TO
 f:TI ≠ i1
 g:TI ≠ i2
 h:TO ≠ i1
 i:TO ≠ i2
 j:i1 ≠ i2
 k1:l1 ≠ z /\ l1 ≠ TO /\ l1 ≠ i1 /\ l1 ≠ i2
 k2:l2 ≠ z /\ l2 ≠ TO /\ l2 ≠ i1 /\ l2 ≠ i2
section
variable {P:Program} {w:World} {A:Around} {E:Value -> Shared -> Prop} {s:Shared}
abbrev jn (b1:Bool) (h:Heap) (l1:Addr):Heap:=h.push { cls := .type (Xn b1),data := .fields #[.ref l1,.int 0 0] }
abbrev rk (b1 b2:Bool) (h:Heap) (l1 l2:Addr):Heap:=(jn b1 h l1).push { cls := .type (Xn b2),data := .fields #[.ref l2,.int 0 0] }
abbrev rq (b1 b2:Bool) (h:Heap) (l1 l2:Addr):Heap:=(rk b1 b2 h l1 l2).push { cls := .type "tuple",data := .seq #[.ref h.objs.size,.ref (jn b1 h l1).objs.size] }
abbrev uq (b1 b2:Bool) (h:Heap) (l1 l2:Addr):Heap:=(rq b1 b2 h l1 l2).push { cls := .type "tuple",data := .seq #[.none,.none] }
abbrev uw (b1 b2:Bool) (h:Heap) (l1 l2:Addr):Heap:=(uq b1 b2 h l1 l2).push { cls := .type "zip",data := .fields #[.none,.bool false,.bool false,.ref (rk b1 b2 h l1 l2).objs.size,.ref (rq b1 b2 h l1 l2).objs.size] }
end
open AutoSeq1 (wpAny_loadPart')
section
variable {P:Program} {w:World} {A:Around} {E:Value -> Shared -> Prop} {s:Shared}
end
def pd (K:PySem.W.Frag) (b1 b2:Bool) (l1 l2:Addr):It :=
 ⟨fun i H=>∃ xs ys x y,Sq b1 K H l1 xs /\ Sq b2 K H l2 ys /\ xs[i]? = some x /\ ys[i]? = some y,
  fun i H v H'=>∃ T x y,v = .ref T /\ H T = none /\ H' = upd H T (.tup [x,y]) /\ (∀ xs,Sq b1 K H l1 xs -> xs[i]? = some x) /\ ∀ ys,Sq b2 K H l2 ys -> ys[i]? = some y,
  fun i H=>∃ xs ys,Sq b1 K H l1 xs /\ Sq b2 K H l2 ys /\ (xs.length = i \/ (i < xs.length /\ ys.length = i))⟩
section
variable {X:Cx}
def so (K:PySem.W.Frag) (ta:TA):TI:=fun σ H R=>ta σ H fun vs H1=>∃ (b1 b2:Bool) (a b:Addr),vs = [.ref a,.ref b] /\ (∃ xs,Sq b1 K H1 a xs) /\ (∃ ys,Sq b2 K H1 b ys) /\ R (pd K b1 b2 a b) H1
end
def gm (K:PySem.W.Frag) (b:Bool) (l:Addr):It :=
 ⟨fun i H=>∃ xs x,Sq b K H l xs /\ xs[i]? = some x,
  fun i H v H'=>∃ T x,v = .ref T /\ H T = none /\ H' = upd H T (.tup [.int i,x]) /\ ∀ xs,Sq b K H l xs -> xs[i]? = some x,
  fun i H=>∃ xs,Sq b K H l xs /\ xs.length = i⟩
theorem Ud {P : Program} {w : World} {K : PySem.W.Frag} {elts : List Expr} {kk : Nat} {pos : Pos} {b : Bool} {e it l : Addr} (cY : e ≠ it) (VR : e ≠ l) :
  S4 P w K (.Tuple elts kk pos) (gm K b l) [e,it] e (fun i h=>(∃ old,IsEnum h e it i old) /\ J0 b h it l i) where
 mem:=List.mem_cons_self
 obj:=fun i h ⟨⟨old,he⟩,h1⟩ c hc=>by
  obtain ⟨o1,e1,c1,d1⟩ := h1.data
  simp only [List.mem_cons,List.not_mem_nil,or_false] at hc
  rcases hc with rfl | rfl
  ·exact ⟨_,he,fun v q=>by cases q⟩
  ·exact ⟨_,e1,fun v q=>by rw [d1] at q; cases q⟩
 keep:=fun i h h' ⟨⟨old,he⟩,h1⟩ hk=>⟨⟨old,hk e (by simp) _ he⟩,h1.at' fun o q=>hk it (by simp) o q⟩
 item:=by
  intro X hP hw hK hc i pins s σ H E I SA ⟨⟨old,he⟩,h1⟩ ⟨xs,x,q1,ex⟩
  subst hP hw hK
  obtain ⟨lX,r1,p1⟩ := I.sq q1
  obtain ⟨u1,eu1,VS⟩ := r1.get ex
  have VT:i < lX.toArray.size:=by
   have:=(List.getElem?_eq_some_iff.mp eu1).1
   simpa using this
  refine wpAny_pyNext_enum_itemD (Qp (A:=X.A.in1) (I.ok.hd hc) b it l (h1.ne p1) lX.toArray) he ⟨h1,p1⟩ VT cY (by simp [cY,VR]) fun u h' tk eu a1 a2 a3 a4 hk=>⟨_,rfl,?_⟩
  have e2:u = u1:=Option.some.inj (eu.symm.trans (by simpa using eu1))
  subst e2
  refine wpAny_letOwnedTupleGo_enum a1 fun VU VW xp=>?_
  have GH:e < s.heap.objs.size:=Heap.lt_size he
  have GI:VU.get? s.heap.objs.size = some { cls := .type "tuple",data := .seq #[.int i tk,u] }:=xp.extBut _ _ (Nat.ne_of_gt GH) a3
  refine ⟨.ref s.heap.objs.size,upd H s.heap.objs.size (.tup [.int i,x]),I.iX (t':=tk + 1) (ch:=[e,it]) SA (fun c o hc ec=>?_) (Nat.le_refl _) ?_,rfl,⟨_,x,rfl,I.fresh,rfl,fun xs' q=>?_⟩,⟨⟨u,?_⟩,?_⟩,fun c hc=>?_⟩
  ·simp only [List.mem_cons,List.not_mem_nil,or_false,not_or] at hc
   exact xp.extBut _ _ hc.1 (hk c o hc.1 hc.2 ec)
  ·exact ⟨⟨Nat.le_trans (by decide:2 <= 1000) (Kc (Nat.le_refl _)),_,GI,rfl⟩,[.int i tk,u],.cons ⟨_,rfl⟩ (.cons VS .nil),⟨_,GI,rfl,0,rfl⟩⟩
  ·rw [I.xo q q1]
   exact ex
  ·have z:=VW
   rw [show ((i:Int) + 1) = ((i + 1:Nat):Int) by omega] at z
   exact z
  ·exact a2.1.at' fun o eo=>xp.extBut _ _ (Ne.symm cY) eo
  ·rw [Ac]
   ·exact (SA c hc).1
   ·simp only [List.mem_cons,List.not_mem_nil,or_false] at hc
    rcases hc with rfl | rfl
    ·exact Nat.ne_of_lt GH
    ·exact Nat.ne_of_lt h1.lt
 done:=by
  intro X hP hw hK hc i pins s σ H E I SA ⟨⟨old,he⟩,h1⟩ ⟨xs,q1,hl⟩
  subst hP hw hK
  obtain ⟨lX,r1,p1⟩ := I.sq q1
  have n1:=r1.length
  have n2:i = lX.toArray.size:=by simp only [List.size_toArray]; omega
  subst n2
  refine wpAny_pyNext_enum_endD (Qp (A:=X.A.in1) (I.ok.hd hc) b it l (h1.ne p1) lX.toArray) he ⟨h1,p1⟩ fun h' hk=>⟨rfl,I.dG (t':=s.toks) (ch:=[e,it]) SA fun c o hc ec=>?_⟩
  simp only [List.mem_cons,List.not_mem_nil,or_false,not_or] at hc
  exact hk c o hc.2 ec
 self:=fun A i s Q E ⟨⟨old,he⟩,_⟩ hQ=>wpAny_pyIter_enum he hQ
theorem Qo (l : Addr) (items : Array Value) (n : Nat) (VX : Option Addr) (sl : Array (Option Value)) :
  Meets (Builtin.«enumerate.__new__» ⟨[.type "enumerate",.ref l],[]⟩) (fun _ R s=>s.heap.get? l = some { cls := .type "tuple",dict:=VX,data := .seq items n,slots:=sl } /\
   R (.ok (.ret (.ref (jn true s.heap l).objs.size))) { s with heap:=(jn true s.heap l).push { cls := .type "enumerate",data := .fields #[.none,.bool false,.ref s.heap.objs.size,rawInt 0,.none,.none] } }) :=
 .of_wp fun prog w A R s h=>by
  obtain ⟨hp,g,d,tk,os⟩ := s
  obtain ⟨hl,h⟩ := h
  have hJ:=sub_enumerate
  have hT:Heap.IsTuple (Shared.heap ⟨hp,g,d,tk,os⟩) l items:=⟨_,hl,rfl,n,rfl⟩
  wp_walk using wpAny_loadPart' hl
  refine wpAny_stack_any fun st=>wpAny_pure ?_
  split
  ·rename_i c _ _ _ _ _
   cases (c == Value.type "enumerate")
   ·wp_walk using wpAny_loadPart' hl,wpAny_pyIter_tuple hT
    exact ⟨_,rfl,h⟩
   ·wp_walk using wpAny_loadPart' hl,wpAny_pyIter_tuple hT
    exact ⟨_,rfl,h⟩
  ·wp_walk using wpAny_loadPart' hl,wpAny_pyIter_tuple hT
   exact ⟨_,rfl,h⟩
theorem Ua {P : Program} {w : World} {A : Around} {E : Value -> Shared -> Prop} {s : Shared} {l : Addr} {items : Array Value} {Q : Value -> Shared -> Prop} (hT : s.heap.IsTuple l items)
  (h:∀ h',IsEnum h' (s.heap.objs.size + 1) s.heap.objs.size 0 .none -> h'.IsTupleIter s.heap.objs.size l 0 -> (∀ b o,s.heap.get? b = some o -> h'.get? b = some o) -> Q (.ref (s.heap.objs.size + 1)) { s with heap:=h' }) :
  wpAny (model P w) A (call (.type "enumerate") [.ref l]) Q E s:=by
 obtain ⟨⟨c,VX,dt,sl⟩,hl,hc,n,hd⟩ := hT
 have jM:c = .type "tuple" := hc
 have rV:dt = .seq items n:=hd
 subst jM rV
 refine callType_new F.called_enumerate (by decide) (F.typeCall_enumerate_1 _) (F.newCall_enumerate_1 _) (fun obj=>F.args_object_init_2 obj _) F.entry_enumerate_new (Qo l items n VX sl) ⟨hl,?_⟩
 have hz:(jn true s.heap l).objs.size = s.heap.objs.size + 1:=Heap.size_push ..
 show _ /\ _
 rw [hz]
 have he:=Heap.get?_push_size (jn true s.heap l) (o:={ cls := .type "enumerate",data := .fields #[.none,.bool false,.ref s.heap.objs.size,rawInt 0,.none,.none] }) rfl
 rw [hz] at he
 exact ⟨⟨_,he,rfl⟩,h _ he ⟨_,Heap.get?_push_of_some _ (Heap.get?_push_size _ rfl),rfl,rfl⟩ fun b o x=>Heap.get?_push_of_some _ (Heap.get?_push_of_some _ x)⟩
section
variable {X:Cx}
def dn (K:PySem.W.Frag) (ta:TA):TI:=fun σ H R=>ta σ H fun vs H1=>∃ (b:Bool) (a:Addr),vs = [.ref a] /\ (∃ xs,Sq b K H1 a xs) /\ R (gm K b a) H1
theorem Xt {elts : List Expr} {kk : Nat} {lT : Pos} {a : Expr} {ta : TA} {p pos : Pos} (hg : Gl X "enumerate") (hm : X.mg "enumerate" = none) (ha : PA X [a] ta) (hs : starEach [a] X.env = [(false, eval a X.env)] := by rfl) :
  PI X (.Tuple elts kk lT) (.Call (.Name "enumerate" p) [a] [] pos) (dn X.K ta):=by
 intro pins s σ H R I h
 refine Call_ (Jm I hg hm boot_enumerate (PyProof.Rows.callWith_type1 (Ca (ha pos pins s σ H _ I h) fun us s1 ⟨vs,H1,I1,r1,q1⟩=>?_) hs rfl))
 obtain ⟨b,l1,e,⟨xs,hx⟩,q⟩ := q1
 subst e
 obtain ⟨u1,rfl,VS⟩ := I9 r1
 cases VS
 obtain ⟨lX,rr1,p1⟩ := I1.sq hx
 have VT:=p1.lt
 have fin : ∀ h', IsEnum h' (s1.heap.objs.size + 1) s1.heap.objs.size 0 .none -> J0 b h' s1.heap.objs.size l1 0 -> (∀ b o, s1.heap.get? b = some o -> h'.get? b = some o) ->
   wpAny (model X.prog X.w) X.A (pyIter (.ref (s1.heap.objs.size + 1))) (qu X pins σ (.Tuple elts kk lT) R) X.xe { s1 with heap:=h' }:=fun h' a1 a2 hk=>by
  refine wpAny_pyIter_enum a1 ?_
  have I2:Ai X pins σ H1 { s1 with heap:=h' }:=I1.kept (t':=s1.toks) hk
  refine ⟨s1.heap.objs.size + 1,[s1.heap.objs.size + 1,s1.heap.objs.size],_,_,H1,rfl,I2,Ud (Nat.ne_of_gt (Nat.lt_succ_self _)) (Nat.ne_of_gt (Nat.lt_succ_of_lt VT)),⟨⟨_,a1⟩,a2⟩,fun c hc=>?_,q⟩
  have hle:s1.heap.objs.size <= c:=by
   simp only [List.mem_cons,List.not_mem_nil,or_false] at hc
   rcases hc with rfl | rfl <;> omega
  exact I1.jT hle (I1.aC.fresh hle)
 cases b with
 | false=>exact call_enumerate_list p1 fun h' a1 a2 a3 hk=>fin h' a1 a2 hk
 | true=>exact Ua p1 fun h' a1 a2 hk=>fin h' a1 a2 hk
end
abbrev km (K:PySem.W.Frag):TG:=b8 K 2 (N8 (Fd 0) (N8 (Fd 1) i8))
theorem Sz {K : PySem.W.Frag} {b1 : Bool} {c : Addr} {xs : List V} {fr : List Nat} {tt : TT} {te : TE} {σ : St} {D : Addr} {H1 : Hp} {Q : Hp -> Prop} (Pv : Nat -> List V -> Hp -> Prop) (h0 : Pv 0 [] (upd H1 D (.lst [])))
  (hl:∀ i zs H,i <= xs.length -> Pv i zs H -> Sq b1 K H c xs)
  (hs:∀ i x T zs H,xs[i]? = some x -> Pv i zs H -> H T = none -> tt (some (.int i) :: some x :: D7 fr σ) (upd H T (.tup [.int i,x])) fun b H4 =>
   if b = true then te (some (.int i) :: some x :: D7 fr σ) H4 fun v H5=>H5 D = some (.lst zs) /\ zs.length < sizeLine /\ Pv (i + 1) (zs ++ [v]) (upd H5 D (.lst (zs ++ [v]))) else Pv (i + 1) zs H4)
  (mt:∀ σ H Q Q',(∀ b H',Q b H' -> Q' b H') -> tt σ H Q -> tt σ H Q') (me:∀ σ H Q Q',(∀ v H',Q v H' -> Q' v H') -> te σ H Q -> te σ H Q')
  (hd:∀ zs H,Pv xs.length zs H -> Q H):Dv 2 fr (gm K b1 c) (km K) tt te σ D H1 Q:=by
 refine ⟨fun i m zs H=>m = xs.length - i /\ i <= xs.length /\ Pv i zs H,⟨xs.length,by simp,Nat.zero_le _,h0⟩,?_⟩
 rintro i m zs H' ⟨rfl,hi,p⟩
 have q1:=hl i zs H' hi p
 by_cases aI:i < xs.length
 ·refine .inr ⟨⟨xs,xs[i],q1,by simp [aI]⟩,fun v H2 y=>?_⟩
  obtain ⟨T,x,rfl,hT,rfl,e1⟩ := y
  refine ⟨T,_,rfl,C7.of A5,rfl,_,_,rfl,x,_,rfl,rfl,⟨[some (.int i),some x],rfl,rfl⟩,?_⟩
  refine mt _ _ _ _ ?_ (hs i x T zs H' (e1 xs q1) p hT)
  intro b H4 q
  cases b with
  | false=>exact ⟨xs.length - (i + 1),by omega,rfl,aI,q⟩
  | true=>exact me _ _ _ _ (fun v H5 ⟨r1,r2,r3⟩=>⟨r1,r2,xs.length - (i + 1),by omega,rfl,aI,r3⟩) q
 ·have e:i = xs.length:=by omega
  subst e
  exact .inl ⟨⟨xs,q1,rfl⟩,hd zs H' p⟩
section
variable {X:Cx} {a b:Expr} {rest:List Expr} {ta tb:TE} {tA uX:TT} {pos:Pos}
def kc (ta tb:TE):TE:=fun σ H Q=>ta σ H fun x H1=>∃ (c:Bool) (N:Bool -> Hp -> Prop),x = .bl c /\ (c = false -> N false H1) /\ (c = true -> tb σ H1 fun y H2=>∃ d:Bool,y = .bl d /\ N d H2) /\ ∀ d H2,N d H2 -> Q (.bl d) H2
def qm (ta tb:TE):TE:=fun σ H Q=>ta σ H fun x H1=>∃ (c:Bool) (N:Bool -> Hp -> Prop),x = .bl c /\ (c = true -> N true H1) /\ (c = false -> tb σ H1 fun y H2=>∃ d:Bool,y = .bl d /\ N d H2) /\ ∀ d H2,N d H2 -> Q (.bl d) H2
theorem c0 (ha:PE X a ta) (hb:PE X (.BoolOp .And (b :: rest) pos) tb):PE X (.BoolOp .And (a :: b :: rest) pos) (kc ta tb):=by
 intro pins s σ H Q I h
 refine BoolOp_and (Ca (ha pins s σ H _ I h) fun v s1 aJ=>?_)
 obtain ⟨x,H1,I1,r1,q1⟩ := aJ
 obtain ⟨c,N,rfl,q0,q1,q2⟩ := q1
 cases r1
 refine wpAny_truthy_bool ?_
 cases c with
 | true=>exact Ca (hb pins s1 σ H1 _ I1 (q1 rfl)) fun v s2 ⟨y,H2,I2,r2,d,e,n⟩=>⟨y,H2,I2,r2,by rw [e]; exact q2 d H2 n⟩
 | false=>exact ⟨.bl false,H1,I1,rfl,q2 _ _ (q0 rfl)⟩
theorem gw (ha:PE X a ta) (hb:PE X (.BoolOp .Or (b :: rest) pos) tb):PE X (.BoolOp .Or (a :: b :: rest) pos) (qm ta tb):=by
 intro pins s σ H Q I h
 refine BoolOp_or (Ca (ha pins s σ H _ I h) fun v s1 aJ=>?_)
 obtain ⟨x,H1,I1,r1,q1⟩ := aJ
 obtain ⟨c,N,rfl,q0,q1,q2⟩ := q1
 cases r1
 refine wpAny_truthy_bool ?_
 cases c with
 | false=>exact Ca (hb pins s1 σ H1 _ I1 (q1 rfl)) fun v s2 ⟨y,H2,I2,r2,d,e,n⟩=>⟨y,H2,I2,r2,by rw [e]; exact q2 d H2 n⟩
 | true=>exact ⟨.bl true,H1,I1,rfl,q2 _ _ (q0 rfl)⟩
def rn (t u:TT):TT:=fun σ H Q=>t σ H fun c H1=>∃ N:Bool -> Hp -> Prop,(c = false -> N false H1) /\ (c = true -> u σ H1 N) /\ ∀ d H2,N d H2 -> Q d H2
def oy (t u:TT):TT:=fun σ H Q=>t σ H fun c H1=>∃ N:Bool -> Hp -> Prop,(c = true -> N true H1) /\ (c = false -> u σ H1 N) /\ ∀ d H2,N d H2 -> Q d H2
theorem U2 (ha:PT X a tA) (hb:PW X (.BoolOp .Or (b :: rest) pos) uX):PW X (.BoolOp .Or (a :: b :: rest) pos) (oy tA uX):=by
 intro wh pins s σ H Q I h
 refine isTrue_or (Ca (ha pins s σ H _ I h) fun c s1 aJ=>?_)
 obtain ⟨H1,I1,N,q0,q1,q2⟩ := aJ
 cases c with
 | true=>exact ⟨H1,I1,q2 _ _ (q0 rfl)⟩
 | false=>exact Ca (hb wh pins s1 σ H1 _ I1 (q1 rfl)) fun d s2 ⟨H2,I2,n⟩=>⟨H2,I2,q2 d H2 n⟩
end
section
variable {P:Program} {w:World} {A:Around} {E:Value -> Shared -> Prop} {s:Shared}
end
section
variable {X:Cx}
def mq (K:PySem.W.Frag) (ta:TA):TE:=fun σ H Q=>ta σ H fun vs H1=>∃ l xs,vs = [.ref l] /\ Ba K H1 l xs /\ ∀ d,H1 d = none -> Q (.ref d) (upd H1 d (.lst xs.reverse))
end
section
variable {X:Cx}
def t0 (i j:Int):Prop:=0 < j /\ intBits j <= 8999
end
section
variable {X:Cx} {tg:Expr}
def rj (lo c:Int) (n:Nat):It:=⟨fun i _=>i < n,fun i H x H'=>H' = H /\ x = .int (lo + i * c),fun i _=>n <= i⟩
def jp (a b c:Int):Nat:=if a < b then ((b - a - 1) / c + 1).toNat else 0
def tm (ta:TA):TI:=fun σ H R=>ta σ H fun vs H1=>∃ i j c:Int,vs = [.int i,.int j,.int c] /\ (-(2 ^ 60) <= i /\ i < 2 ^ 60 /\ -(2 ^ 60) <= j /\ j < 2 ^ 60) /\ (0 < c /\ c < 2 ^ 30) /\ R (rj i c (jp i j c)) H1
end
theorem Bj.here {P:Program} {w:World} {H:Hp} {h:Heap} {a:Addr} {o:HO} (x:Bj P w H h a o):∃ ob,h.get? a = some ob:=by
 cases o with
 | lst xs=>obtain ⟨_,_,_,_,e⟩ := x; exact ⟨_,e⟩
 | tup xs=>obtain ⟨_,_,_,o,e,_⟩ := x; exact ⟨_,e⟩
 | dK kvs=>obtain ⟨_,_,_,_,o,_,_,e,_⟩ := x; exact ⟨_,e⟩
 | dT kvs=>obtain ⟨_,_,_,_,o,_,_,e,_⟩ := x; exact ⟨_,e⟩
 | set S n=>obtain ⟨o,_,_,_,e,_⟩ := x; exact ⟨_,e⟩
 | ins C dx fs=>obtain ⟨_,_,_,e,_⟩ := x; exact ⟨_,e⟩
 | own y=>exact x
 | xd fs=>obtain ⟨mA,⟨od,es,ep,e,c⟩,r⟩ := x; exact ⟨_,e⟩
 | RO lo hi=>obtain ⟨t,u,v,e⟩ := x; exact ⟨_,e⟩
 | aP ob u=>exact ⟨_,x.1⟩
 | rY ps=>exact ⟨_,(show h.get? a = some _ from x)⟩
 | met f y=>exact ⟨_,(show h.get? a = some _ from x)⟩
 | ext φ=>exact x.2.1
theorem Fz.off {P:Program} {w:World} {H:Hp} {h:Heap} {a:Addr} (ok:Fz P w H h) (e:h.get? a = none):H a = none:=by
 cases q:H a with
 | none=>rfl
 | some u =>
  obtain ⟨ob,z⟩ := (ok a u q).here
  rw [e] at z
  cases z
def Fx (a:Addr) (cls:Value) (h:Heap):Prop := ∃ o vs,h.get? a = some o /\ o.cls = cls /\ o.data = .fields vs
def kj (a:Addr) (h:Heap):Prop := ∃ o vs,h.get? a = some o /\ o.data = .fields vs
theorem b7 {P:Program} {w:World} {H:Hp} {h:Heap} {a:Addr} {cls:Value} (x:Fx a cls h):Bj P w H h a (.ext (Fx a cls)):=by
 refine ⟨x,?_,?_⟩
 ·obtain ⟨o,_,e,_⟩ := x
  exact ⟨o,e⟩
 ·rintro h1 h2 ⟨o,vs,e,c⟩ k
  exact ⟨o,vs,k o e,c⟩
def o6 (h:Heap) (a T:Addr):Prop := ∃ oe vs oT ts a0,h.get? a = some oe /\ oe.data = .fields vs /\ vs[0]? = some a0 /\ vs[1]? = some (.ref T) /\ T ≠ a /\ h.get? T = some oT /\ oT.data = .fields ts /\ ts[3]? = some .none
structure cp (P:Program) (w:World) (fr:List Addr) (H:Hp) (h:Heap) (H':Hp) (h':Heap) (a T:Addr) (cls:Value):Prop where
 un:Un fr [] H H' h h'
 ok:Fz P w H' h'
 exc:H' a = some (.ext (Fx a cls))
 off:H' T = none
 new:h.get? T = none
 tr:o6 h' a T
def u5 (P:Program) (w:World):Xf:=fun outer H s E e s'=>∃ (a T:Addr) (cls:Value) (H':Hp),e = .ref a /\ s'.os = s.os /\ AllBare s'.gens /\ cp P w (jL outer) H s.heap H' s'.heap a T cls /\ E cls none H'
theorem ju {P : Program} {w : World} {fr old : List Addr} {H H' : Hp} {h h' h2 : Heap} {a T : Addr} {cls : Value} (u : Un fr [] H H' h h') (ok : Fz P w H' h') (fG : ∀ b ∈ fr, H' b = none)
  (EW:∀ b ∈ fr,∃ o,h'.get? b = some o /\ ∀ vs,o.data ≠ .fields vs) (ha:H' a = some (.ext (Fx a cls))) (hold:∀ b ∈ old,H' b = none /\ h.get? b = none)
  (st:(PySem.W.hideAll h' (fr ++ a :: old)).StaysIn h2) (sl:h'.UpToSlots h2) (xa:Fx a cls h2) (xT:kj T h2) (nT:(PySem.W.hideAll h' (fr ++ a :: old)).get? T = none) (na:T ≠ a) :
  Un fr [] H H' h h2 /\ Fz P w H' h2 /\ H' T = none /\ h.get? T = none:=by
 have hT:H' T = none /\ h.get? T = none:=by
  cases q:h'.get? T with
  | none =>
   refine ⟨ok.off q,?_⟩
   cases z:h.get? T with
   | none=>rfl
   | some o =>
    obtain ⟨o',e⟩ := u.there T o z (by simp)
    rw [q] at e
    cases e
  | some o =>
   by_cases hm:T ∈ fr ++ a :: old
   ·rcases List.mem_append.mp hm with z | z
    ·obtain ⟨o1,e1,d1⟩ := EW T z
     obtain ⟨FR,e2⟩ := sl T o1 e1 d1
     obtain ⟨o3,vs,e3,d3⟩ := xT
     rw [e2] at e3
     cases e3
     exact absurd d3 (d1 vs)
    ·rcases List.mem_cons.mp z with z | z
     ·exact absurd z na
     ·exact hold T z
   ·have:=PySem.W.hideAll_get _ q hm
    rw [nT] at this
    cases this
 have nK:∀ b o u',h'.get? b = some o -> H' b = some u' -> b ≠ a -> h2.get? b = some o:=fun b o u' e q n1=>by
  refine st b o (PySem.W.hideAll_get _ e fun hm=>?_)
  rcases List.mem_append.mp hm with z | z
  ·rw [fG b z] at q
   cases q
  ·rcases List.mem_cons.mp z with z | z
   ·exact n1 z
   ·rw [(hold b z).1] at q
    cases q
 have uZ:∀ b o o',h.get? b = some o -> h'.get? b = some o' -> H' b = none -> b ∉ fr -> h2.get? b = some o':=fun b o o' e e' q n=>by
  refine st b o' (PySem.W.hideAll_get _ e' fun hm=>?_)
  rcases List.mem_append.mp hm with z | z
  ·exact n z
  ·rcases List.mem_cons.mp z with z | z
   ·rw [z,ha] at q
    cases q
   ·rw [(hold b z).2] at e
    cases e
 refine ⟨⟨fun b o e q n _=>uZ b o o e (u.keep b o e q n (by simp)) (u.free b o e q (by simp)) n,fun b o e q n _=>?_,fun b o e q _=>u.free b o e q (by simp),fun b o e _=>?_,u.dU,u.cZ,u.dW⟩,fun b v q=>?_,hT⟩
 ·obtain ⟨sl1,e1⟩ := u.slot b o e q n (by simp)
  obtain ⟨o2,e2,d2⟩ := EW b n
  rw [e1] at e2
  cases e2
  obtain ⟨sl3,e3⟩ := sl b _ e1 d2
  exact ⟨sl3,e3⟩
 ·obtain ⟨o',e'⟩ := u.there b o e (by simp)
  cases q:H' b with
  | none =>
   by_cases n:b ∈ fr
   ·obtain ⟨o1,e1,d1⟩ := EW b n
    obtain ⟨FR,e2⟩ := sl b o1 e1 d1
    exact ⟨_,e2⟩
   ·exact ⟨_,uZ b o o' e e' q n⟩
  | some v =>
   by_cases n1:b = a
   ·obtain ⟨o2,_,e2,_⟩ := xa
    rw [n1]
    exact ⟨_,e2⟩
   ·exact ⟨_,nK b o' v e' q n1⟩
 ·by_cases n1:b = a
  ·subst n1
   rw [ha] at q
   cases q
   exact b7 xa
  ·refine (ok b v q).fA (fun c x hc e=>?_) (fun c e=>e) fun c xs e=>e
   rcases hc with z | z
   ·subst z
    exact nK c x v e q n1
   ·refine nK c x _ e z fun e2=>?_
    rw [e2,ha] at z
    cases z
section
variable {X:Cx} {pins:List (Addr × Obj)} {σ:St} {H:Hp} {s:Shared}
theorem Ai.EW (I:Ai X pins σ H s):∀ b ∈ jL X.stack,∃ o,s.heap.get? b = some o /\ ∀ vs,o.data ≠ .fields vs:=fun b hb=>(I.stack.mem hb).2
theorem cp.cls {P:Program} {w:World} {fr:List Addr} {H H':Hp} {h h':Heap} {a T:Addr} {cls:Value} (F:cp P w fr H h H' h' a T cls):Fx a cls h':=(F.ok a _ F.exc).1
theorem cp.on {P : Program} {w : World} {fr old : List Addr} {H H' : Hp} {h h' h2 : Heap} {a : Addr} {cls a0 : Value} (un : Un fr [] H H' h h') (ok : Fz P w H' h') (exc : H' a = some (.ext (Fx a cls))) (fG : ∀ b ∈ fr, H' b = none)
  (EW:∀ b ∈ fr,∃ o,h'.get? b = some o /\ ∀ vs,o.data ≠ .fields vs) (hold:∀ b ∈ old,H' b = none /\ h.get? b = none)
  (st:(PySem.W.hideAll h' (fr ++ a :: old)).StaysIn h2) (sl:h'.UpToSlots h2) (tr:h2.TracedW (PySem.W.hideAll h' (fr ++ a :: old)) a cls a0):∃ T,cp P w fr H h H' h2 a T cls:=by
 obtain ⟨oe,vs,T,oT,ts,q1,⟨q2,q3⟩,q4,q5,q6,q7,q8,q9,VJ⟩ := tr
 obtain ⟨u,k,n1,n2⟩ := ju (T:=T) un ok fG EW exc hold st sl ⟨oe,vs,q1,q2,q4⟩ ⟨oT,ts,q8,q9⟩ q6 q7
 exact ⟨T,u,k,exc,n1,n2,oe,vs,oT,ts,a0,q1,q4,q3,q5,q7,q8,q9,VJ⟩
end
section
variable {P:Program} {w:World} {K:PySem.W.Frag} {mg:Str -> Option Value} {base:Heap} {N:List Str} {qual:Str} {scope:Scope} {f:Addr} {cd:Value} {A:Around} {outer:List Env} {s₀:Shared} {H₀:Hp} {E:XK}
def sw (X:Cx) (R:St -> XK -> Prop):Prop := ∀ (pins:List (Addr × Obj)) (σ:St) (H:Hp) (s:Shared) (e:Value) (s':Shared) (E:XK),R σ E -> Ai X pins σ H s -> u5 X.prog X.w X.stack H s E e s' -> X.xe e s'
def RD (E:XK):St -> XK -> Prop:=fun _ E1=>∀ c d H,E1 c d H -> E c d H
def qx (X:Cx) (E:XK):Prop := ∀ (pins:List (Addr × Obj)) (σ:St) (H:Hp) (s:Shared) (h':Heap) (e:Addr) (cls:Value) (vs:List Value),Ai X pins σ H s -> Heap.MadeExcOf s.heap h' e cls vs ->
 (∀ H2,A9 H H2 -> E cls none H2) -> X.xe (.ref e) { s with heap:=h' }
end
def qw (K:PySem.W.Frag) (C:Addr):Prop:=PySem.W.excIn K C [.type "ValueError",.type "Exception",.type "BaseException",.type "object"] "ValueError.__new__" = true
section
variable {X:Cx} {x:Str} {C:Addr} {p np aS pos:Pos} {e:Expr} {es:List Expr} {t:TA} {E:XK}
def pq (C:Addr) (t:TA) (E:XK):TS:=fun _ σ H=>t σ H fun vs H1=>vs.length <= sizeLine /\ ∀ H2,A9 H1 H2 -> E (.ref C) none H2
variable {k:Nat} {f:Addr} {fd:FuncData} {ps:List Str} {sp:Sp} {nB:List V} {ds:List Value} {R:St -> XK -> Prop}
def oq (sp:Sp) (nB:List V) (R:St -> XK -> Prop) (t:TA):TE:=fun σ H Q=>t σ H fun vs H1=>∃ E,R σ E /\ sp (vs ++ nB) H1 Q E
end
section
variable {P:Program} {w:World} {K:PySem.W.Frag} {mg:Str -> Option Value} {base:Heap} {x qual:Str} {st:Stmt} {f:Addr} {fd:FuncData} {N ps:List Str} {k:Nat} {sp:Sp}
end
open PySem.W (Looks)
inductive Hg (X:Cx) (C:Addr):List Expr -> List Addr -> Prop
 | nil:Hg X C [] []
 | cons {x : Str} {p : Pos} {c : Addr} {es : List Expr} {cs : List Addr} (hg : Gl X x) (hm : X.mg x = some (.ref c)) (hd : (x == ("__debug__" : Str)) = false)
   (hb:PySem.W.subIn X.K (.ref c) (.type "BaseException") = some true) (hn:PySem.W.subIn X.K (.ref C) (.ref c) = some false) (he:∀ env:Env,starEach (.Name x p :: es) env = (false,eval (.Name x p) env) :: starEach es env) (r:Hg X C es cs):Hg X C (.Name x p :: es) (c :: cs)
section
variable {X:Cx} {pins:List (Addr × Obj)} {σ:St} {H:Hp} {s:Shared} {C:Addr}
theorem Hg.len {es:List Expr} {cs:List Addr} (r:Hg X C es cs):cs.length = es.length:=by
 induction r with
 | nil=>rfl
 | cons _ _ _ _ _ _ _ ih=>simp [ih]
def rl (K:PySem.W.Frag):List V -> Hp -> VK -> Prop:=fun xs H Q=>∃ (a:Addr) (t c:Value) (v:V),xs = [.ref a,v] /\ H a = some (.ext (Fx a t)) /\ (∀ u,Aw v u -> u = c) /\ PySem.W.kitOne K t c = some true /\ Q (.bl true) H
end
abbrev Cx.at (X:Cx) (A:Around):Cx:={ X with A:=A,calm:=false,xe:=fun _ _=>False }
abbrev Cx.SD (X:Cx) (pn:List (Addr × Obj)) (W:Value -> Shared -> Prop):Cx:={ X with pn:=pn,xe:=W }
section
variable {X:Cx} {pins:List (Addr × Obj)} {σ:St} {H:Hp} {s:Shared}
theorem Ai.at (I:Ai X pins σ H s) {A:Around} (hA:A.frames = X.A.frames):Ai (X.at A) pins σ H s :=
 ⟨⟨I.ok.mod,I.ok.kind,I.ok.glob,I.ok.blt,I.ok.above,I.ok.inj,I.ok.has,I.ok.wX,fun z=>(nomatch z),hA.trans I.ok.frames,I.ok.EO,I.ok.FT,I.ok.bs,I.ok.rZ,I.ok.jQ,I.ok.jR,I.ok.dX,I.ok.uU⟩,I.os,I.bare,I.base,I.loc,I.cell,I.free,I.aV,I.pin,I.aC,I.len⟩
theorem Ai.back {A:Around} (ok:X.Ok) (I:Ai (X.at A) pins σ H s):Ai X pins σ H s:=⟨ok,I.os,I.bare,I.base,I.loc,I.cell,I.free,I.aV,I.pin,I.aC,I.len⟩
theorem Ai.SD {W:Value -> Shared -> Prop} (I:Ai X pins σ H s):Ai (X.SD (X.pn ++ pins) W) [] σ H s :=
 ⟨⟨I.ok.mod,I.ok.kind,I.ok.glob,I.ok.blt,I.ok.above,I.ok.inj,I.ok.has,I.ok.wX,I.ok.hd,I.ok.frames,I.ok.EO,I.ok.FT,I.ok.bs,I.ok.rZ,I.ok.jQ,I.ok.jR,I.ok.dX,I.ok.uU⟩,I.os,I.bare,I.base,I.loc,I.cell,I.free,I.aV,
  fun p hp=>I.pin p (by rwa [List.append_nil] at hp),I.aC,I.len⟩
theorem Ai.out {W:Value -> Shared -> Prop} {kR:List (Addr × Obj)} (ok:X.Ok) (I:Ai (X.SD (X.pn ++ pins) W) kR σ H s):Ai X pins σ H s :=
 ⟨ok,I.os,I.bare,I.base,I.loc,I.cell,I.free,I.aV,fun p hp=>I.pin p (List.mem_append_left _ hp),I.aC,I.len⟩
theorem SP.out {W:Value -> Shared -> Prop} {D:Hn} {f:Flow} {s':Shared} (ok:X.Ok) (h:SP (X.SD (X.pn ++ pins) W) [] D f s'):SP X pins D f s':=by
 cases f with
 | next=>obtain ⟨σ',H',I,q⟩ := h; exact ⟨σ',H',I.out ok,q⟩
 | brk=>obtain ⟨σ',H',I,q⟩ := h; exact ⟨σ',H',I.out ok,q⟩
 | cont=>obtain ⟨σ',H',I,q⟩ := h; exact ⟨σ',H',I.out ok,q⟩
 | ret u=>obtain ⟨v,σ',H',I,r,q⟩ := h; exact ⟨v,σ',H',I.out ok,r,q⟩
theorem cp.kept {P:Program} {w:World} {fr:List Addr} {H H':Hp} {h h' h2:Heap} {a T:Addr} {cls:Value} (F:cp P w fr H h H' h' a T cls) (k:∀ b o,h'.get? b = some o -> h2.get? b = some o):cp P w fr H h H' h2 a T cls:=by
 obtain ⟨oe,vs,oT,ts,a0,e1,d1,h0,h1,nT,e2,d2,h3⟩ := F.tr
 exact ⟨F.un.trans (Un.kept k),F.ok.kept k,F.exc,F.off,F.new,oe,vs,oT,ts,a0,k _ _ e1,d1,h0,h1,nT,k _ _ e2,d2,h3⟩
def RT (tu:TS) (C:Addr) (i:Nat) (D:Hn):St -> XK -> Prop:=fun σ1 E=>∀ cls H',E cls none H' -> cls = .ref C /\ ∀ a,H' a = some (.ext (Fx a (.ref C))) ->
 tu { nx:=fun σ' H4=>D.nx (σ'.set i none) H4,rt:=fun _ _=>False } (σ1.set i (some (.ref a))) H'
def u7 (tb:(St -> XK -> Prop) -> TS) (tu:TS) (C:Addr) (i:Nat):TS:=fun D σ H=>tb (RT tu C i D) D σ H
theorem Hg.all {C:Addr} {es:List Expr} {cs:List Addr} (r:Hg X C es cs):∀ c ∈ cs,PySem.W.subIn X.K (.ref c) (.type "BaseException") = some true /\ PySem.W.subIn X.K (.ref C) (.ref c) = some false:=by
 induction r with
 | nil=>exact fun _ z=>nomatch z
 | cons _ _ _ hb hn _ _ ih =>
  intro c hc
  rcases List.mem_cons.mp hc with e | hc
  ·rw [e]
   exact ⟨hb,hn⟩
  ·exact ih c hc
end
section
variable {X:Cx}
end
def Nu (val:Nat -> Int) (j:Nat) (m:Int):Prop:=(∃ i,i <= j /\ m = val i) /\ ∀ i,i <= j -> val i <= m
theorem Nu.up {val:Nat -> Int} {j:Nat} {m:Int} (h:Nu val j m) (b:m < val (j + 1)):Nu val (j + 1) (val (j + 1)):=by
 refine ⟨⟨j + 1,Nat.le_refl _,rfl⟩,fun i hi=>?_⟩
 rcases Nat.lt_or_ge j i with z | z
 ·have e:i = j + 1:=by omega
  rw [e]
  omega
 ·have:=h.2 i z
  omega
theorem Nu.same {val:Nat -> Int} {j:Nat} {m:Int} (h:Nu val j m) (b:¬ m < val (j + 1)):Nu val (j + 1) m:=by
 obtain ⟨⟨i0,z0,e0⟩,h2⟩ := h
 refine ⟨⟨i0,by omega,e0⟩,fun i hi=>?_⟩
 rcases Nat.lt_or_ge j i with z | z
 ·have e:i = j + 1:=by omega
  rw [e]
  omega
 ·exact h2 i z
section
variable {prog:Program} {w:World} {A:Around} {R:Result -> Shared -> Prop} {I S:Addr} {fp wr:List Addr} {n:Nat} {P:Nat -> Value -> Prop} {St:Nat -> Heap -> Prop} {val:Nat -> Int}
end
section
variable {prog:Program} {w:World} {A:Around} {E:Value -> Shared -> Prop} {s:Shared} {l:Addr}
theorem Oo {id : String} {b : Builtin} {args : Args} {Q : Value -> Shared -> Prop} (hk : builtinKind id = none) (hp : plainId id = true) (hb : entryFor table id = some b) (ha : argsOk id args)
  (hc:wpAny (model prog w) A.in1 (b args) (fun fin s'=>match fin with
   | .done f=>(match (Except.ok f:Result) with | .ok (.ret v)=>Q v s' | .ok _=>False | .error e=>E e s')
   | .again c'=>c'.quiet = true /\ codeAny (model prog w) A c' (fun r s'=>match r with | .ok (.ret v)=>Q v s' | .ok _=>False | .error e=>E e s') s') E s) :
  wpAny (model prog w) A (call (.builtin id) args.pos args.kw) Q E s:=by
 refine wpAny_call (codeAny_call_builtin hp hb ?_)
 simp only [checkBuiltinCall,hk]
 cases hs:Manifest.signature? id with
 | none=>exact wpAny_pure hc
 | some sg =>
  have h2:Bind.checkArgs id sg args = pure ():=by simpa only [argsOk,hs] using ha
  have h3:(⟨args.pos,args.kw⟩ : Args) = args:=rfl
  simp only [h3,h2]
  exact wpAny_pure hc
end
section
variable {X:Cx} {p pos UW:Pos} {e d:Expr} {t:TA} {td:TE} {x:Str}
def sd (K:PySem.W.Frag) (t:TA) (td:TE):TE:=fun σ H Q=>t σ H fun vs H1=>cy td lz σ H1 fun ys H2=>∃ (a:Addr) (ns:List Int) (dv:Int),vs = [.ref a] /\ ys = [.int dv] /\ Ba K H2 a (ns.map V.int) /\
 ∀ m:Int,(ns = [] -> m = dv) -> (ns ≠ [] -> m ∈ ns /\ ∀ b ∈ ns,b <= m) -> Q (.int m) H2
end
open PySem PySem.Spec PyProof.Rows PySem.SeqAt
def dh (A:Around) (s:Shared) (x y:Value) (b:Bool):Prop := ∀ (prog:Program) (w:World) (E:Value -> Shared -> Prop) (Q:Value -> Shared -> Prop),Q (.bool b) s -> wpAny (model prog w) A (richCompare .Lt x y) Q E s
theorem jb (l b : Addr) (xs ys : Array Value) (n n2 : Nat) (dd ES : Option Addr) (sl ET : Array (Option Value)) (e : Nat -> Bool) (r : Bool) :
  Meets (Builtin.«tuple.__lt__» ⟨[.ref l,.ref b],[]⟩)
   (fun A R s=>s.heap.get? l = some { cls := .type "tuple",dict:=dd,data := .seq xs n,slots:=sl } /\ s.heap.get? b = some { cls := .type "tuple",dict:=ES,data := .seq ys n2,slots:=ET } /\
    (∀ j (h1:j < xs.size) (h2:j < ys.size),EqAt A.in1 s xs[j] ys[j] (e j)) /\ (∀ j (h1:j < xs.size) (h2:j < ys.size),(∀ i,i < j -> e i = true) -> e j = false -> dh A.in1 s xs[j] ys[j] r) /\
    ((∀ j,j < min xs.size ys.size -> e j = true) -> r = decide (xs.size < ys.size)) /\ R (.ok (.ret (.bool r))) s) :=
 .of_wp fun prog w A R s h=>by
  obtain ⟨hp,g,d,tk,os⟩ := s
  obtain ⟨hl,hb,he,hf,hz,h⟩ := h
  have f2:=AutoSeq1.sub_tuple_tuple
  have hZ:(xs.toList.zip ys.toList).length = min xs.size ys.size:=by simp
  wp_walk using wpAny_loadPart' hl,wpAny_loadPart' hb,wpAny_forIn_list _ (fun rest b s'=>b.1 = none /\ s' = ⟨hp,g,d,tk,os⟩ /\ ∃ i,rest = (xs.toList.zip ys.toList).drop i /\ ∀ k,k < i -> k < min xs.size ys.size -> e k = true) _
  case turn =>
   rintro ⟨y,x⟩ rest b s' ⟨iH,rfl,i,hq,hR⟩
   have aI:i < (xs.toList.zip ys.toList).length:=by
    apply Classical.byContradiction
    intro z
    rw [List.drop_of_length_le (by omega)] at hq
    cases hq
   have h1:i < xs.size:=by omega
   have h2:i < ys.size:=by omega
   rw [List.drop_eq_getElem_cons aI] at hq
   injection hq with GJ nL
   have hy:y = xs[i]:=by simpa using congrArg Prod.fst GJ
   have hx:x = ys[i]:=by simpa using congrArg Prod.snd GJ
   subst hy hx
   refine wpAny_bind (he i h1 h2 prog w _ _ ?_)
   cases hy:e i with
   | true =>
    wp_walk
    refine ⟨rfl,rfl,i + 1,nL,fun k hk nM=>?_⟩
    by_cases z:k = i
    ·rw [z]
     exact hy
    ·exact hR k (by omega) nM
   | false =>
    have sE:=hf i h1 h2 (fun k hk=>hR k hk (by omega)) hy prog w
    wp_walk using sE _ _
    exact ⟨_,rfl,h⟩
  case fin =>
   rintro ⟨b1,b2⟩ s' ⟨iH,rfl,i,hq,hR⟩
   simp only at iH
   subst iH
   have EX:min xs.size ys.size <= i:=by
    apply Classical.byContradiction
    intro z
    rw [List.drop_eq_getElem_cons (by omega)] at hq
    cases hq
   have hr:=hz fun j hj=>hR j (by omega) hj
   wp_walk
   refine ⟨_,rfl,?_⟩
   rw [hr] at h
   simpa [Builtin.Tuple.tupleCompareSizes] using h
  case h =>
   exact ⟨rfl,rfl,0,rfl,fun k hk=>absurd hk (Nat.not_lt_zero k)⟩
mutual
def Gy:PyData -> PyData -> Bool
 | .int a,.int b=>decide (a < b)
 | .tuple xs,.tuple ys=>aD xs ys
 | _,_=>false
def aD:List PyData -> List PyData -> Bool
 | [],[]=>false
 | [],_ :: _=>true
 | _ :: _,[]=>false
 | x :: xs,y :: ys=>if PyData.eqv x y then aD xs ys else Gy x y
end
mutual
def Gc:PyData -> PyData -> Prop
 | .int _,.int _=>True
 | .tuple xs,.tuple ys=>aK xs ys
 | _,_=>False
def aK:List PyData -> List PyData -> Prop
 | x :: xs,y :: ys=>Gc x y /\ aK xs ys
 | _,_=>True
end
theorem N3:∀ (xs ys:List PyData),(∀ j,j < min xs.length ys.length -> pairEq xs ys j = true) -> aD xs ys = decide (xs.length < ys.length)
 | [],[],_=>rfl
 | [],y :: ys,_=>by simp [aD]
 | x :: xs,[],_=>by simp [aD]
 | x :: xs,y :: ys,h=>by
  have h0:PyData.eqv x y = true:=h 0 (by simp only [List.length_cons]; omega)
  have ih:=N3 xs ys fun j hj=>h (j + 1) (by simp only [List.length_cons]; omega)
  rw [aD,if_pos h0,ih]
  simp
mutual
theorem Ib : ∀ (da db : PyData) (A : Around) (s : Shared) (a b : Value) (as bs : List Addr), Reads s.heap a da as -> Reads s.heap b db bs -> da.canLay0 = true -> db.canLay0 = true -> Gc da db ->
  A.units + min da.depth db.depth < cLine -> dh A s a b (Gy da db)
 | .int x,db,A,s,_,_,_,_,ra,rb,_,_,hc,hu=>by
  cases db with
  | int y =>
   cases ra with
   | int _ t =>
    cases rb with
    | int _ u =>
     intro prog w E Q h
     exact richCompare_gives (op := .Lt) (typeIs_int s _ t) (typeIs_int s _ u) F.slot_int_lt F.entry_int_lt (F.args_int_lt_2 _ _) (gives_int_lt _ _ t u) (fun z=>nomatch z) h
  | none=>exact hc.elim
  | bool _=>exact hc.elim
  | str _=>exact hc.elim
  | list _=>exact hc.elim
  | tuple _=>exact hc.elim
  | dict _=>exact hc.elim
 | .tuple xs,db,A,s,_,_,_,_,ra,rb,ha,hb,hc,hu=>by
  cases db with
  | tuple ys =>
   cases ra with
   | @tuple l o vs n _ as₁ h1 h2 h3 h4 =>
    cases rb with
    | @tuple l' o' tH n' _ bs₁ k1 k2 k3 k4 =>
     obtain ⟨oc,od,VY,iG⟩ := o
     obtain ⟨oc',VZ,WA,xq⟩ := o'
     simp only at h2 h3 k2 k3
     subst h2 h3 k2 k3
     have n1:vs.size = xs.length:=by simpa using ReadsAll.length _ _ _ h4
     have n2:tH.size = ys.length:=by simpa using ReadsAll.length _ _ _ k4
     intro prog w E Q h
     refine richCompare_meets_room (op := .Lt) ⟨_,h1,rfl⟩ ⟨_,k1,rfl⟩ F.slot_tuple_lt F.entry_tuple_lt (F.args_tuple_lt_2 _ _) (jb l l' vs tH n n' od VZ iG xq (pairEq xs ys) (aD xs ys)) ⟨h1,k1,fun j j1 j2=>?_,fun j j1 j2 f1 f2=>?_,fun f=>?_,(fun z=>nomatch z),h⟩ (room_here hu)
     ·have:=eqAt_readsAll xs ys A.in1 s vs.toList tH.toList _ _ h4 k4 ha hb (room_in hu) j (by simpa using j1) (by simpa using j2)
      simpa using this
     ·have:=eO xs ys A.in1 s vs.toList tH.toList _ _ h4 k4 ha hb hc (room_in hu) j (by simpa using j1) (by simpa using j2) f1 f2
      simpa using this
     ·rw [n1,n2] at f ⊢
      exact N3 xs ys f
  | none=>exact hc.elim
  | bool _=>exact hc.elim
  | str _=>exact hc.elim
  | list _=>exact hc.elim
  | int _=>exact hc.elim
  | dict _=>exact hc.elim
 | .none,_,_,_,_,_,_,_,_,_,_,_,hc,_=>hc.elim
 | .bool _,_,_,_,_,_,_,_,_,_,_,_,hc,_=>hc.elim
 | .str _,_,_,_,_,_,_,_,_,_,_,_,hc,_=>hc.elim
 | .list _,_,_,_,_,_,_,_,_,_,_,_,hc,_=>hc.elim
 | .dict _,_,_,_,_,_,_,_,_,_,_,_,hc,_=>hc.elim
theorem eO : ∀ (xs ys : List PyData) (A : Around) (s : Shared) (vs ws : List Value) (as bs : List Addr), ReadsAll s.heap vs xs as -> ReadsAll s.heap ws ys bs -> PyData.canLayAll0 xs = true -> PyData.canLayAll0 ys = true -> aK xs ys ->
  A.units + min (PyData.depthAll xs) (PyData.depthAll ys) < cLine -> ∀ j (h1:j < vs.length) (h2:j < ws.length),(∀ i,i < j -> pairEq xs ys i = true) -> pairEq xs ys j = false -> dh A s vs[j] ws[j] (aD xs ys)
 | [],_,_,_,_,_,_,_,ra,_,_,_,_,_,j,h1,_,_,_=>by cases ra; exact absurd h1 (Nat.not_lt_zero _)
 | _ :: _,[],_,_,_,_,_,_,_,rb,_,_,_,_,j,_,h2,_,_=>by cases rb; exact absurd h2 (Nat.not_lt_zero _)
 | x :: xs,y :: ys,A,s,_,_,_,_,ra,rb,ca,cb,hc,hu,j,h1,h2,f1,f2=>by
  cases ra with
  | cons r1 r2 =>
   cases rb with
   | cons q1 q2 =>
    have v8:x.canLay0 = true /\ PyData.canLayAll0 xs = true:=by simpa [PyData.canLayAll0] using ca
    have v9:y.canLay0 = true /\ PyData.canLayAll0 ys = true:=by simpa [PyData.canLayAll0] using cb
    have hd:A.units + min x.depth y.depth < cLine /\ A.units + min (PyData.depthAll xs) (PyData.depthAll ys) < cLine:=by
     simp only [PyData.depthAll] at hu
     omega
    cases j with
    | zero =>
     have e:aD (x :: xs) (y :: ys) = Gy x y:=by
      have f3:PyData.eqv x y = false:=f2
      rw [aD,f3]
      rfl
     rw [e]
     exact Ib x y A s _ _ _ _ r1 q1 v8.1 v9.1 hc.1 hd.1
    | succ j =>
     have e:aD (x :: xs) (y :: ys) = aD xs ys:=by
      have f3:PyData.eqv x y = true:=f1 0 (Nat.succ_pos _)
      rw [aD,f3]
      rfl
     rw [e]
     exact eO xs ys A s _ _ _ _ r2 q2 v8.2 v9.2 hc.2 hd.2 j (Nat.lt_of_succ_lt_succ h1) (Nat.lt_of_succ_lt_succ h2) (fun i hi=>f1 (i + 1) (Nat.succ_lt_succ hi)) f2
end
section
variable {X:Cx} {k:Nat}
def o0:R2:=fun x y H Q=>∃ d e:PyData,Rp H d x /\ Rp H e y /\ Gc d e /\ d.depth <= 60 /\ Q (.bl (Gy d e)) H
theorem du (hr:Dc k X.A):K1 X (compareOp .Lt) o0:=by
 intro pins s σ H x y v u Q I rx ry h
 obtain ⟨d,e,h1,h2,hc,hd,q⟩ := h
 obtain ⟨as,q1⟩ := Cv I d x v h1 rx
 obtain ⟨bs,q2⟩ := Cv I e y u h2 ry
 have hu:=hr.units
 exact Ib d e X.A s v u as bs q1 q2 (Cu d x h1) (Cu e y h2) hc (by omega) _ _ _ _ ⟨.bl (Gy d e),H,I,rfl,q⟩
end
section
variable {X:Cx}
def ml (K:PySem.W.Frag):R2:=fun x y H Q=>∃ a b xs ys,x = .ref a /\ y = .ref b /\ C7 K H a xs /\ H b = some (.tup ys) /\ ys ≠ [] /\ xs.length + ys.length <= sizeLine /\
 ∀ p H',A9 H H' -> H' p = some (.tup (xs ++ ys)) -> Q (.ref p) H'
theorem Zj (K:PySem.W.Frag) (hK:X.K = K:=by rfl):K1 X (binaryOp .Add) (ml K):=by
 subst hK
 intro pins s σ H x y v u Q I rx ry h
 obtain ⟨a,b,xs,ys,rfl,rfl,ha,hb,hy,hz,q⟩ := h
 by_cases hx:xs = []
 ·subst hx
  cases rx
  cases ry
  obtain ⟨aA,r1,p1,_⟩ := I.tuple ha
  obtain ⟨gZ,r2,p2,_⟩ := I.tuple (C7.of hb)
  cases r1
  obtain ⟨⟨c1,d1,t1,l1⟩,ho,hc,n,hd⟩ := p1
  obtain ⟨⟨c2,d2,t2,l2⟩,iQ,jV,n2,hd2⟩ := p2
  simp only at hc hd jV hd2
  subst hc hd jV hd2
  exact concat_meets ⟨_,ho,rfl⟩ ⟨_,iQ,rfl⟩ noFill_tuple_add seq_tuple_add PySem.F.slot_tuple_add PySem.F.entry_tuple_add (PySem.F.args_tuple_add_2 _ _) (tuple_addW0 a b _ _ n n2 d1 d2 l1 l2 rfl) ⟨ho,iQ,.ref b,H,I,rfl,q b H (A9.refl H) hb⟩
 ·exact Zk pins s σ H _ _ v u Q I rx ry ⟨a,b,xs,ys,rfl,rfl,ha,C7.of hb,hx,hz,fun e=>absurd e hy,fun _ p hp=>q p _ (A9.upd hp) A5⟩
end
def Yz (h:Heap) (a t:Addr) (i:Int):Prop := ∃ o,h.get? a = some o /\ o.cls = .type "reversed" /\ o.data = .fields #[.ref t,rawInt i]
section
variable {prog:Program} {w:World} {A:Around} {E:Value -> Shared -> Prop} {s:Shared}
theorem Yz.ty {a t:Addr} {i:Int} (x:Yz s.heap a t i):s.TypeIs (.ref a) "reversed" := let ⟨o,ho,hc,_⟩ := x; ⟨o,ho,hc⟩
theorem Yz.at {h h':Heap} {a t:Addr} {i:Int} (x:Yz h a t i) (e:∀ o,h.get? a = some o -> h'.get? a = some o):Yz h' a t i:=let ⟨o,ho,r⟩ := x; ⟨o,e _ ho,r⟩
end
def qg (t:Addr) (i:Int):Obj:={ cls := .type "reversed",data := .fields #[.ref t,rawInt i] }
section
variable {prog:Program} {w:World} {A:Around} {E:Value -> Shared -> Prop} {s:Shared}
end
def u4 (K:PySem.W.Frag) (a:Addr) (xs:List V):It :=
 ⟨fun i H=>C7 K H a xs /\ i < xs.length,fun i H x H'=>H' = H /\ xs.reverse[i]? = some x,fun i H=>C7 K H a xs /\ xs.length <= i⟩
def ud (K:PySem.W.Frag) (ta:TA):TI:=fun σ H R=>ta σ H fun vs H1=>∃ t xs,vs = [.ref t] /\ C7 K H1 t xs /\ R (u4 K t xs) H1
section
variable {X:Cx} {tg:Expr}
end
section
variable {P:Program} {w:World} {A:Around} {E:Value -> Shared -> Prop} {s:Shared}
end
section
variable {X:Cx}
def ny (K:PySem.W.Frag) (ta:TA):TE:=fun σ H Q=>ta σ H fun vs H1=>∃ l xs,vs = [.ref l] /\ Ba K H1 l xs /\ ∀ d,H1 d = none -> Q (.ref d) (upd H1 d (.tup xs.reverse))
end
section
variable {X:Cx}
end
section
variable {prog:Program} {w:World} {A:Around} {E:Value -> Shared -> Prop} {I:Addr} {fp wr:List Addr} {St:Nat -> Heap -> Prop} {items:Array Value}
end
section
variable {X:Cx} {pos:Pos}
def um (K:PySem.W.Frag) (n:Nat) (t:bm):TG:=fun v σ H Q=>∃ a xs,v = .ref a /\ Ba K H a xs /\ xs.length = n /\ t xs σ H Q
end
open PySem.W (Looks)
section
variable {prog:Program} {w:World} {A:Around} {E:Value -> Shared -> Prop} {K:PySem.W.Frag} {x C:Addr} {h:Heap} {g:Array GenState} {d:Drawn} {t:Nat} {os:OsState}
structure l6 (K:PySem.W.Frag) (C:Addr):Prop where
 ga:PySem.W.findIn K (.ref C) "__getattribute__" = some (some (.builtin "BaseException.__getattribute__"))
 gt:PySem.W.findIn K (.ref C) "__getattr__" = some none
 cl:PySem.W.findIn K (.ref C) "__class__" = some (some (.builtin "object.__class__"))
 gs:PySem.W.specialIn K (.builtin "object.__class__") "__get__" = some (some (.builtin "getset_descriptor.__get__"))
 tk:PySem.W.takesIn K (.builtin "object.__class__") = some true
 ob:PySem.W.mroIn K C (.type "object") = some true
 be:PySem.W.subIn K (.ref C) (.type "BaseException") = some true
end
section
variable {X:Cx}
def rm (K:PySem.W.Frag):List V -> Hp -> VK -> Prop:=fun xs H Q=>∃ (a C:Addr) (c:Value) (v:V) (b:Bool),xs = [.ref a,v] /\ H a = some (.ext (Fx a (.ref C))) /\ (∀ u,Aw v u -> u = c) /\ l6 K C /\ PySem.W.kitOne K (.ref C) c = some b /\ Q (.bl b) H
end
open PySem.W (Looks)
section
variable {X:Cx}
def uk (K:PySem.W.Frag) (tu:TS) (Y:Addr) (i:Nat) (D:Hn):St -> XK -> Prop:=fun σ1 E=>∀ cls H',E cls none H' -> ∃ C,cls = .ref C /\ PySem.W.subIn K (.ref C) (.ref Y) = some true /\ ∀ a,H' a = some (.ext (Fx a (.ref C))) ->
 tu { nx:=fun σ' H4=>D.nx (σ'.set i none) H4,rt:=fun _ _=>False } (σ1.set i (some (.ref a))) H'
def rh (K:PySem.W.Frag) (tb:(St -> XK -> Prop) -> TS) (tu:TS) (Y:Addr) (i:Nat):TS:=fun D σ H=>tb (uk K tu Y i D) D σ H
end
section
variable {X:Cx}
def ul (i j:Int):Prop:=0 <= j /\ ((intBits i:Nat):Int) + j <= 2 ^ 27
end
theorem Tq {K : PySem.W.Frag} {a : Addr} {xs : List V} {fr : List Nat} {tt : TT} {te : TE} {σ : St} {D : Addr} {H1 : Hp} {Q : Hp -> Prop} (Pv : Nat -> List V -> Hp -> Prop) (h0 : Pv 0 [] (upd H1 D (.lst [])))
  (hl:∀ i ys H,i <= xs.length -> Pv i ys H -> Ba K H a xs)
  (hs:∀ i x ys H,xs[i]? = some x -> Pv i ys H -> tt (some x :: D7 fr σ) H fun b H4 =>
   if b = true then te (some x :: D7 fr σ) H4 fun v H5=>H5 D = some (.lst ys) /\ ys.length < sizeLine /\ Pv (i + 1) (ys ++ [v]) (upd H5 D (.lst (ys ++ [v]))) else Pv (i + 1) ys H4)
  (mt:∀ σ H Q Q',(∀ b H',Q b H' -> Q' b H') -> tt σ H Q -> tt σ H Q') (me:∀ σ H Q Q',(∀ v H',Q v H' -> Q' v H') -> te σ H Q -> te σ H Q')
  (hd:∀ ys H,Pv xs.length ys H -> Q H):Dv 1 fr (dy K a) (Fd 0) tt te σ D H1 Q:=by
 refine ⟨fun i m ys H=>m = xs.length - i /\ i <= xs.length /\ Pv i ys H,⟨xs.length,by simp,Nat.zero_le _,h0⟩,?_⟩
 rintro i m ys H' ⟨rfl,hi,p⟩
 have q1:=hl i ys H' hi p
 by_cases aI:i < xs.length
 ·refine .inr ⟨⟨xs,xs[i],q1,by simp [aI]⟩,fun x H2 y=>?_⟩
  obtain ⟨e,y⟩ := y
  subst e
  refine ⟨⟨[some x],rfl,rfl⟩,?_⟩
  refine mt _ _ _ _ ?_ (hs i x ys _ (y xs q1) p)
  intro b H4 q
  cases b with
  | false=>exact ⟨xs.length - (i + 1),by omega,rfl,aI,q⟩
  | true=>exact me _ _ _ _ (fun v H5 ⟨r1,r2,r3⟩=>⟨r1,r2,xs.length - (i + 1),by omega,rfl,aI,r3⟩) q
 ·have e:i = xs.length:=by omega
  subst e
  exact .inl ⟨⟨xs,q1,Nat.le_refl _⟩,hd ys H' p⟩
section
variable {prog:Program} {w:World} {A:Around} {E:Value -> Shared -> Prop} {s:Shared} {l:Addr} {xs:Array (Int × Tok)}
end
section
variable {X:Cx}
end
section
variable {X:Cx}
def sr (K:PySem.W.Frag):R2:=fun x y H Q=>∃ a b xs ys,x = .ref a /\ y = .ref b /\ H a = some (.tup xs) /\ H b = some (.tup ys) /\ xs.length + ys.length <= sizeLine /\
 ∀ p H',A9 H H' -> H' p = some (.tup (xs ++ ys)) -> Q (.ref p) H'
end
structure uy (K:PySem.W.Frag) (C:Addr):Prop where
 makes:PySem.W.makesIn K C = true
 init:PySem.W.findIn K (.ref C) "__init__" = some (some (.builtin "object.__init__"))
 kp:PySem.W.keepIn K (.ref C) = true
def o5 (C:Addr):TE:=fun σ H Q=>∀ x dx,H x = none -> H dx = none -> dx ≠ x -> Q (.ref x) (upd (upd H dx (.own x)) x (.ins C dx []))
section
variable {X:Cx} {C:Addr} {x:Str} {p pos:Pos}
end
section
variable {K:PySem.W.Frag} {x C:Addr}
theorem Nv:∀ (as:List Addr) (us:List Value),Ay (as.map V.ref) us -> us = as.map Value.ref
 | [],us,r=>by
  cases r
  rfl
 | a :: as,us,r=>by
  cases r with
  | cons h t =>
   cases (show _ = Value.ref a from h)
   rw [Nv as _ t]
   rfl
end
section
variable {X:Cx}
def sn (K:PySem.W.Frag):List V -> Hp -> VK -> Prop:=fun xs H Q=>∃ (a C tp:Addr) (as:List Addr) (b:Bool),xs = [.ref a,.ref tp] /\ H a = some (.ext (Fx a (.ref C))) /\ H tp = some (.tup (as.map V.ref)) /\ l6 K C /\ qw K C /\
 PySem.W.kitAny K (.ref C) (as.map Value.ref) = some b /\ Q (.bl b) H
end
section
variable {X:Cx}
def nv (K:PySem.W.Frag):V -> List V -> Hp -> VK -> Prop:=fun x vs H Q=>∃ (l:Addr) (ns:List Int) (y:Int) (j:Nat),x = .ref l /\ vs = [.int y] /\ C7 K H l (ns.map V.int) /\ ns[j]? = some y /\ (∀ m,m < j -> ns[m]? ≠ some y) /\ Q (.int (j:Nat)) H
end
section
variable {X:Cx}
end
section
variable {X:Cx} {tg:Expr}
def se (ta:TA):TI:=fun σ H R=>ta σ H fun vs H1=>∃ i j:Int,vs = [.int i,.int j,.int (-1)] /\ (-(2 ^ 60) <= i /\ i < 2 ^ 60 /\ -(2 ^ 60) <= j /\ j < 2 ^ 60) /\ R (rj i (-1) (i - j).toNat) H1
end
section
variable {κ:Type} [DecidableEq κ]
def Ae (kvs:List (κ × V)) (k:κ):Option V:=(kvs.find? fun kv=>decide (kv.1 = k)).map (·.2)
def B8 (kvs:List (κ × V)) (k:κ) (v:V):List (κ × V) :=
 if (kvs.any fun kv=>decide (kv.1 = k)) = true then kvs.map (fun kv=>if kv.1 = k then (kv.1,v) else kv) else kvs ++ [(k,v)]
def Br (kvs:List (κ × V)) (k:κ):List (κ × V):=kvs.filter fun kv=>decide (kv.1 ≠ k)
theorem C4 {p:κ × V} {r:List (κ × V)} {k:κ} (e:p.1 = k):Ae (p :: r) k = some p.2:=by simp [Ae,List.find?_cons,e]
theorem C5 {p:κ × V} {r:List (κ × V)} {k:κ} (e:¬ p.1 = k):Ae (p :: r) k = Ae r k:=by simp [Ae,List.find?_cons,e]
theorem E2 (k:κ):∀ kvs:List (κ × V),(kvs.any fun kv=>decide (kv.1 = k)) = (Ae kvs k).isSome
 | []=>rfl
 | p :: r=>by
  rw [List.any_cons]
  by_cases e:p.1 = k
  ·simp only [C4 e,decide_eq_true e,Bool.true_or,Option.isSome_some]
  ·rw [C5 e,decide_eq_false e,Bool.false_or]; exact E2 k r
theorem Ql (k j:κ) (y:V):∀ kvs:List (κ × V),Ae (kvs.map fun kv=>if kv.1 = k then (kv.1,y) else kv) j = (Ae kvs j).map fun x=>if j = k then y else x
 | []=>rfl
 | p :: r=>by
  have ih:=Ql k j y r
  rw [List.map_cons]
  by_cases h:p.1 = k
  ·rw [if_pos h]
   by_cases e:p.1 = j
   ·rw [C4 (p:=(p.1,y)) e,C4 e,Option.map_some,if_pos (e.symm.trans h)]
   ·rw [C5 (p:=(p.1,y)) e,C5 e,ih]
  ·rw [if_neg h]
   by_cases e:p.1 = j
   ·rw [C4 (p:=p) e,C4 e,Option.map_some,if_neg (fun z=>h (e.trans z))]
   ·rw [C5 (p:=p) e,C5 e,ih]
theorem O1 (k j:κ) (y:V):∀ kvs:List (κ × V),Ae kvs k = none -> Ae (kvs ++ [(k,y)]) j = if j = k then some y else Ae kvs j
 | [],_=>by
  by_cases e:k = j
  ·rw [if_pos e.symm]; exact C4 (p:=(k,y)) e
  ·rw [if_neg (fun z=>e z.symm)]; exact C5 (p:=(k,y)) e
 | p :: r,hn=>by
  rw [List.cons_append]
  have hk:¬ p.1 = k:=fun z=>by rw [C4 z] at hn; cases hn
  rw [C5 hk] at hn
  have ih:=O1 k j y r hn
  by_cases e:p.1 = j
  ·rw [C4 e,C4 e,if_neg (fun z=>hk (e.trans z))]
  ·rw [C5 e,C5 e,ih]
theorem Ez (kvs:List (κ × V)) (k j:κ) (y:V):Ae (B8 kvs k y) j = if j = k then some y else Ae kvs j:=by
 unfold B8
 by_cases a:(kvs.any fun kv=>decide (kv.1 = k)) = true
 ·rw [if_pos a,Ql]
  rw [E2] at a
  by_cases e:j = k
  ·obtain ⟨x,hx⟩ := Option.isSome_iff_exists.mp a
   rw [if_pos e,e,hx,Option.map_some,if_pos rfl]
  ·rw [if_neg e]
   cases Ae kvs j with
   | none=>rfl
   | some x=>rw [Option.map_some,if_neg e]
 ·rw [if_neg a]
  refine O1 k j y kvs ?_
  rw [E2] at a
  cases q:Ae kvs k with
  | none=>rfl
  | some x=>rw [q] at a; exact (a rfl).elim
theorem D9 (kvs:List (κ × V)) (k:κ) (v:V):(B8 kvs k v).length <= kvs.length + 1:=by
 unfold B8
 split
 ·rw [List.length_map]; omega
 ·rw [List.length_append,List.length_cons,List.length_nil]; omega
theorem Cj {kvs:List (κ × V)} {k:κ} (v:V) (h:Ae kvs k = none):B8 kvs k v = kvs ++ [(k,v)]:=by
 unfold B8
 rw [E2,h]
 exact if_neg (by decide)
theorem Iq.bE {o:Option V} {u:Option Value} (r:Iq o u):o.isSome = u.isSome:=by
 cases o with
 | none=>cases u with
  | none=>rfl
  | some _=>exact (show False from r).elim
 | some _=>cases u with
  | none=>exact (show False from r).elim
  | some _=>rfl
theorem Iq.getD {o:Option V} {u:Option Value} {d:V} {d':Value} (r:Iq o u) (rd:Aw d d'):Aw (o.getD d) (u.getD d'):=by
 cases o with
 | none=>cases u with
  | none=>exact rd
  | some _=>exact (show False from r).elim
 | some _=>cases u with
  | none=>exact (show False from r).elim
  | some _=>exact r
theorem KV.val {kvs:List (κ × V)} {vs:List (κ × Value)} (r:KV kvs vs) (k:κ):Iq (Ae kvs k) (valueAt vs k):=by
 unfold KV at r
 induction r with
 | nil=>exact True.intro
 | @cons p q ps qs h t ih =>
  obtain ⟨h1,h2⟩ := h
  by_cases e:p.1 = k
  ·have e':q.1 = k:=h1.symm.trans e
   have b:valueAt (q :: qs) k = some q.2:=by simp [valueAt,List.find?_cons,e']
   rw [C4 e,b]; exact h2
  ·have e':¬ q.1 = k:=fun z=>e (h1.trans z)
   have b:valueAt (q :: qs) k = valueAt qs k:=by simp [valueAt,List.find?_cons,e']
   rw [C5 e,b]; exact ih
theorem KV.any {kvs:List (κ × V)} {vs:List (κ × Value)} (r:KV kvs vs) (k:κ):(kvs.any fun kv=>decide (kv.1 = k)) = vs.any fun kv=>decide (kv.1 = k):=by
 unfold KV at r
 induction r with
 | nil=>rfl
 | cons h t ih=>rw [List.any_cons,List.any_cons,ih,h.1]
theorem KV.xr {kvs : List (κ × V)} {vs : List (κ × Value)} (r : KV kvs vs) (k : κ) {y : V} {u : Value} (ry : Aw y u) :
  KV (kvs.map fun kv=>if kv.1 = k then (kv.1,y) else kv) (vs.map fun kv=>if kv.1 = k then (kv.1,u) else kv):=by
 unfold KV at r ⊢
 induction r with
 | nil=>exact .nil
 | @cons p q ps qs h t ih =>
  rw [List.map_cons,List.map_cons]
  refine .cons ?_ ih
  obtain ⟨h1,h2⟩ := h
  by_cases e:p.1 = k
  ·rw [if_pos e,if_pos (h1.symm.trans e)]; exact ⟨h1,ry⟩
  ·rw [if_neg e,if_neg (fun z=>e (h1.trans z))]; exact ⟨h1,h2⟩
theorem KV.put {kvs:List (κ × V)} {vs:List (κ × Value)} (r:KV kvs vs) (k:κ) {y:V} {u:Value} (ry:Aw y u):KV (B8 kvs k y) (stored vs k u):=by
 unfold B8 stored
 rw [r.any k]
 by_cases e:(vs.any fun kv=>decide (kv.1 = k)) = true
 ·rw [if_pos e,if_pos e]; exact r.xr k ry
 ·rw [if_neg e,if_neg e]; exact Paired.snoc r ⟨rfl,ry⟩
theorem KV.drop {kvs:List (κ × V)} {vs:List (κ × Value)} (r:KV kvs vs) (k:κ):KV (Br kvs k) (without vs k):=by
 unfold KV at r ⊢
 unfold Br without
 induction r with
 | nil=>exact .nil
 | @cons p q ps qs h t ih =>
  obtain ⟨h1,h2⟩ := h
  rw [List.filter_cons,List.filter_cons]
  by_cases e:p.1 = k
  ·have a:¬ decide (p.1 ≠ k) = true:=by simp [e]
   have b:¬ decide (q.1 ≠ k) = true:=by simp [h1.symm.trans e]
   rw [if_neg a,if_neg b]; exact ih
  ·have e':¬ q.1 = k:=fun z=>e (h1.trans z)
   have a:decide (p.1 ≠ k) = true:=by simp [e]
   have b:decide (q.1 ≠ k) = true:=by simp [e']
   rw [if_pos a,if_pos b]; exact .cons ⟨h1,h2⟩ ih
theorem KV.keys {kvs:List (κ × V)} {vs:List (κ × Value)} (r:KV kvs vs):kvs.map (·.1) = vs.map (·.1):=by
 unfold KV at r
 induction r with
 | nil=>rfl
 | cons h t ih=>rw [List.map_cons,List.map_cons,ih,h.1]
theorem KV.length {kvs:List (κ × V)} {vs:List (κ × Value)} (r:KV kvs vs):kvs.length = vs.length:=Paired.length r
theorem Qx (kvs:List (κ × V)) (k:κ):(Br kvs k).length <= kvs.length:=List.length_filter_le _ _
end
theorem N9 {P:Program} {w:World} {k:Du} {u:Value} (r:Aw (kV k) u):(Dg P w).is k u = true:=by
 cases k with
 | inl i=>obtain ⟨t,e⟩ := (show ∃ t,u = Value.int i t from r); subst e; exact Qw P w i t
 | inr x=>obtain ⟨t,e⟩ := (show ∃ t,u = Value.str x t from r); subst e; exact Re P w x t
abbrev KT (H:Hp):List ((List Int × Int) × V) -> List ((List Int × Int) × Addr × Value) -> Prop:=Paired fun p q=>p.1 = q.1 /\ Dt H q.2.1 p.1 /\ Aw p.2 q.2.2
theorem KT.val {H:Hp} {kvs:List ((List Int × Int) × V)} {xs:List ((List Int × Int) × Addr × Value)} (r:KT H kvs xs) (k:(List Int × Int)):Iq (Ae kvs k) ((atKey xs k).map (·.2)):=by
 induction r with
 | nil=>exact True.intro
 | @cons p q ps qs h t ih =>
  obtain ⟨h1,_,h2⟩ := h
  by_cases e:p.1 = k
  ·have e':q.1 = k:=h1.symm.trans e
   have b:atKey (q :: qs) k = some q.2:=by simp [atKey,List.find?_cons,e']
   rw [C4 e,b]; exact h2
  ·have e':¬ q.1 = k:=fun z=>e (h1.trans z)
   have b:atKey (q :: qs) k = atKey qs k:=by simp [atKey,List.find?_cons,e']
   rw [C5 e,b]; exact ih
theorem KT.xr {H : Hp} {kvs : List ((List Int × Int) × V)} {xs : List ((List Int × Int) × Addr × Value)} (r : KT H kvs xs) (k : (List Int × Int)) {y : V} {u : Value} (ry : Aw y u) :
  KT H (kvs.map fun kv=>if kv.1 = k then (kv.1,y) else kv) (xs.map (putAt k u)):=by
 induction r with
 | nil=>exact .nil
 | @cons p q ps qs h t ih =>
  rw [List.map_cons,List.map_cons]
  refine .cons ?_ ih
  obtain ⟨h1,h2,h3⟩ := h
  unfold putAt
  by_cases e:p.1 = k
  ·rw [if_pos e,if_pos (h1.symm.trans e)]; exact ⟨h1,h2,ry⟩
  ·rw [if_neg e,if_neg (fun z=>e (h1.trans z))]; exact ⟨h1,h2,h3⟩
theorem KT.put {H : Hp} {kvs : List ((List Int × Int) × V)} {xs : List ((List Int × Int) × Addr × Value)} (r : KT H kvs xs) (k : (List Int × Int)) {b : Addr} {y : V} {u : Value} (hb : Dt H b k) (ry : Aw y u) :
  KT H (B8 kvs k y) (storedH xs k b u):=by
 have e:(kvs.any fun kv=>decide (kv.1 = k)) = (atKey xs k).isSome:=by
  rw [E2,(r.val k).bE,Option.isSome_map]
 unfold B8 storedH
 rw [e]
 by_cases q:(atKey xs k).isSome = true
 ·rw [if_pos q,if_pos q]; exact r.xr k ry
 ·rw [if_neg q,if_neg q]; exact Paired.snoc r ⟨rfl,hb,ry⟩
theorem KT.keeps {H H':Hp} {kvs:List ((List Int × Int) × V)} {xs:List ((List Int × Int) × Addr × Value)} (r:KT H kvs xs) (ht:∀ b ys,H b = some (.tup ys) -> H' b = some (.tup ys)):KT H' kvs xs :=
 Paired.FP r fun _ _ z=>⟨z.1,z.2.1.up ht,z.2.2⟩
section
variable {P:Program} {w:World} {H:Hp} {h:Heap} {a:Addr}
theorem d9 {u:HO} (ok:Fz P w H h) (e:Rd H a u):Bj P w H h a u:=e.ok ok
theorem Jp {kvs:List (Du × V)} (ok:Fz P w H h) (e:Rd H a (.dK kvs)):kvs.length <= sizeLine /\ (a == sysModules) = false /\ ∃ vs,KV kvs vs /\ h.DictOf (Dg P w) a vs :=
 show Bj P w H h a (.dK kvs) from d9 ok e
theorem d5 {kvs:List (Du × V)} (ok:Fz P w H h) (e:H a = some (.dK kvs)):kvs.length <= sizeLine /\ (a == sysModules) = false /\ ∃ vs,KV kvs vs /\ h.DictOf (Dg P w) a vs:=Jp ok (.inl e)
theorem Qu {P:Program} {w:World}:∀ {ks:List Int} {us:List Value},Ay (ks.map V.int) us -> ItemsAre (intKind P w) ks us
 | [],us,r=>by
  cases r
  exact .nil
 | k :: ks,us,r=>by
  cases r with
  | cons h t =>
   obtain ⟨tk,rfl⟩ := h
   exact .cons (by simp [intKind,Value.isInt]) (Qu t)
theorem D5 {P:Program} {w:World} {A:Around} (hu:A.units + 20 < cLine):(Bx P w).room A.in1:=by
 first | (show A.units + 1 + 8 < cLine; omega) | (show A.units + 8 < cLine; omega)
theorem Gd {ks:List Int × Int} (ok:Fz P w H h) (e:Dt H a ks):(Bx P w).is h ks a:=by
 obtain ⟨u,e1,e2⟩ := e
 obtain ⟨_,aA,r,o,h1,h2,n,h3⟩ := (show Bj P w H h a (.tup [.ref u,.int ks.2]) from ok a _ e1)
 obtain ⟨_,gZ,r2,o2,g1,g2,m,g3⟩ := (show Bj P w H h u (.tup (ks.1.map V.int)) from ok u _ e2)
 cases r with
 | cons r1 rr =>
  cases rr with
  | cons r3 rr =>
   cases rr
   cases (show _ = Value.ref u from r1)
   obtain ⟨t,rfl⟩ := r3
   exact ⟨o,n,u,t,h1,h2,h3,o2,gZ.toArray,m,g1,g2,g3,by simpa using Qu r2⟩
theorem Kt {kvs : List ((List Int × Int) × V)} (ok : Fz P w H h) (e : Rd H a (.dT kvs)) : kvs.length <= sizeLine /\ (a == sysModules) = false /\
  ∃ xs,KT H kvs xs /\ h.DictOfH (Bx P w) a xs:=by
 obtain ⟨z,y,xs,r,o,es,ep,h1,h2,h3,h4,h5⟩ := (show Bj P w H h a (.dT kvs) from d9 ok e)
 refine ⟨z,y,xs,r,o,es,ep,h1,h2,h3,h4,fun x hx=>?_,h5⟩
 have all:∀ {l:List ((List Int × Int) × V)} {m:List ((List Int × Int) × Addr × Value)},KT H l m -> ∀ x ∈ m,(Bx P w).is h x.1 x.2.1:=by
  intro l m q
  induction q with
  | nil=>intro x hx; exact nomatch hx
  | @cons p q ps qs hq t ih =>
   intro x hx
   rcases List.mem_cons.mp hx with e | hx
   ·subst e
    exact Gd ok (by rw [<- hq.1]; exact hq.2.1)
   ·exact ih x hx
 exact all r x hx
theorem Xl {kvs : List ((List Int × Int) × V)} (ok : Fz P w H h) (e : H a = some (.dT kvs)) : kvs.length <= sizeLine /\ (a == sysModules) = false /\
  ∃ xs,KT H kvs xs /\ h.DictOfH (Bx P w) a xs:=Kt ok (.inl e)
end
def D4 (H:Hp) (a:Addr) (y:V) (r:Option V):Prop :=
 (∃ kvs k,Rd H a (.dK kvs) /\ y = kV k /\ r = Ae kvs k) \/ ∃ kvs k b,Rd H a (.dT kvs) /\ y = .ref b /\ Dt H b k /\ r = Ae kvs k
def K0 (H:Hp) (a:Addr) (y v:V) (H':Hp):Prop :=
 (∃ kvs k,H a = some (.dK kvs) /\ y = kV k /\ kvs.length < sizeLine /\ H' = upd H a (.dK (B8 kvs k v))) \/
 ∃ kvs k b,H a = some (.dT kvs) /\ y = .ref b /\ Dt H b k /\ kvs.length < sizeLine /\ H' = upd H a (.dT (B8 kvs k v))
theorem D4.k {H:Hp} {a:Addr} {kvs:List (Du × V)} {k:Du} (e:H a = some (.dK kvs)):D4 H a (kV k) (Ae kvs k) := .inl ⟨kvs,k,.inl e,rfl,rfl⟩
theorem D4.t {H:Hp} {a b:Addr} {kvs:List ((List Int × Int) × V)} {k:(List Int × Int)} (e:H a = some (.dT kvs)) (eb:Dt H b k):D4 H a (.ref b) (Ae kvs k) := .inr ⟨kvs,k,b,.inl e,rfl,eb,rfl⟩
theorem K0.k {H:Hp} {a:Addr} {kvs:List (Du × V)} {k:Du} {v:V} (e:H a = some (.dK kvs)) (hl:kvs.length < sizeLine):K0 H a (kV k) v (upd H a (.dK (B8 kvs k v))) := .inl ⟨kvs,k,e,rfl,hl,rfl⟩
theorem K0.t {H : Hp} {a b : Addr} {kvs : List ((List Int × Int) × V)} {k : (List Int × Int)} {v : V} (e : H a = some (.dT kvs)) (eb : Dt H b k) (hl : kvs.length < sizeLine) :
  K0 H a (.ref b) v (upd H a (.dT (B8 kvs k v))) := .inr ⟨kvs,k,b,e,rfl,eb,hl,rfl⟩
section
variable {X:Cx} {pins:List (Addr × Obj)} {σ:St} {H:Hp} {s:Shared} {a:Addr} {y v:V} {u r:Value} {o:Option V} {A:Around} {E:Value -> Shared -> Prop}
theorem Ai.big (I:Ai X pins σ H s):sysModules < s.heap.objs.size:=by
 have h:mainGlobals < s.heap.objs.size:=(I.mod.glob.keeps I.bk).lt
 exact Nat.lt_trans (by decide) h
theorem W2 {Q : Value -> Shared -> Prop} (hu : A.units + 20 < cLine) (I : Ai X pins σ H s) (g : D4 H a y (some v)) (ry : Aw y u) (h : ∀ w' s', Ai X pins σ H s' -> Aw v w' -> Q w' s') :
  wpAny (model X.prog X.w) A (getItem (.ref a) u) Q E s:=by
 rcases g with ⟨kvs,k,e,ey,l⟩ | ⟨kvs,k,b,e,ey,eb,l⟩
 ·subst ey
  obtain ⟨z,hd,vs,rel,dd⟩ := Jp I.aC e
  obtain ⟨w',hw,gJ⟩ := Iq.some_of (v:=v) (o:=valueAt vs k) (by rw [l]; exact rel.val k)
  exact wpAny_getItem_of (N9 ry) dd.mapOf hw (h w' _ (I.tok _) gJ)
 ·subst ey
  cases (show u = Value.ref b from ry)
  obtain ⟨z,hd,xs,rel,dd⟩ := Kt I.aC e
  obtain ⟨w',hw,gJ⟩ := Iq.some_of (v:=v) (o:=(atKey xs k).map (·.2)) (by rw [l]; exact rel.val k)
  obtain ⟨p,hp,xt⟩ := Option.map_eq_some_iff.mp hw
  refine wpAny_getItem_heap (D5 hu) (Gd I.aC eb) dd hp ?_
  rw [xt]
  exact h w' _ (I.tok _) gJ
theorem r6 {Q : Value -> Shared -> Prop} (hu : A.units + 20 < cLine) (I : Ai X pins σ H s) (g : D4 H a y o) (ry : Aw y u) (h : ∀ s', Ai X pins σ H s' -> Q (.bool o.isSome) s') :
  wpAny (model X.prog X.w) A (compareOp .In u (.ref a)) Q E s:=by
 rcases g with ⟨kvs,k,e,ey,l⟩ | ⟨kvs,k,b,e,ey,eb,l⟩
 ·subst ey
  obtain ⟨z,hd,vs,rel,dd⟩ := Jp I.aC e
  refine wpAny_in_of (N9 ry) hd dd.mapOf ?_
  rw [<- (rel.val k).bE,<- l]
  exact h _ (I.tok _)
 ·subst ey
  cases (show u = Value.ref b from ry)
  obtain ⟨z,hd,xs,rel,dd⟩ := Kt I.aC e
  refine wpAny_in_heap (D5 hu) (Gd I.aC eb) hd dd ?_
  have q:=(rel.val k).bE
  rw [Option.isSome_map] at q
  rw [<- q,<- l]
  exact h _ (I.tok _)
theorem bw {Q : Value -> Shared -> Prop} (hu : A.units + 20 < cLine) (I : Ai X pins σ H s) (g : D4 H a y o) (ry : Aw y u) (h : ∀ s', Ai X pins σ H s' -> Q (.bool (!o.isSome)) s') :
  wpAny (model X.prog X.w) A (compareOp .NotIn u (.ref a)) Q E s:=by
 rcases g with ⟨kvs,k,e,ey,l⟩ | ⟨kvs,k,b,e,ey,eb,l⟩
 ·subst ey
  obtain ⟨z,hd,vs,rel,dd⟩ := Jp I.aC e
  refine wpAny_notIn_of (N9 ry) hd dd.mapOf ?_
  rw [<- (rel.val k).bE,<- l]
  exact h _ (I.tok _)
 ·subst ey
  cases (show u = Value.ref b from ry)
  obtain ⟨z,hd,xs,rel,dd⟩ := Kt I.aC e
  refine wpAny_notIn_heap (D5 hu) (Gd I.aC eb) hd dd ?_
  have q:=(rel.val k).bE
  rw [Option.isSome_map] at q
  rw [<- q,<- l]
  exact h _ (I.tok _)
theorem Kd {h' : Heap} {t' : Nat} {ob : HO} (I : Ai X pins σ H s) (mu : m7 (H a)) (hs : Heap.SameBut a s.heap h') (he : ∃ q, h'.get? a = some q) (new : Bj X.prog X.w (upd H a ob) h' a ob) :
  Ai X pins σ (upd H a ob) { s with heap:=h',toks:=t' } :=
 I.write (x:=a) (e:=a) mu (.inl rfl) (fun b q hb z=>(hs.2 b hb).trans z) he new
theorem Xu {P : Program} {w : World} {H' : Hp} {h' : Heap} {kvs : List (Du × V)} {vs : List (Du × Value)} (z : kvs.length <= sizeLine) (hd : (a == sysModules) = false) (rel : KV kvs vs) (dd : h'.DictOf (Dg P w) a vs) :
  Bj P w H' h' a (.dK kvs):=⟨z,hd,vs,rel,dd⟩
theorem X7 {H' : Hp} {Q : Unit -> Shared -> Prop} (hu : A.units + 20 < cLine) (I : Ai X pins σ H s) (g : K0 H a y v H') (ry : Aw y u) (rv : Aw v r) (h : ∀ s', Ai X pins σ H' s' -> Q () s') :
  wpAny (model X.prog X.w) A (setItem (.ref a) u r) Q E s:=by
 rcases g with ⟨kvs,k,e,ey,l,eH⟩ | ⟨kvs,k,b,e,ey,eb,l,eH⟩
 ·subst ey eH
  obtain ⟨z,hd,vs,rel,dd⟩ := d5 I.aC e
  have hz:vs.length <= sizeLine:=by rw [<- rel.length]; exact z
  have hl:(B8 kvs k v).length <= sizeLine:=by have:=D9 kvs k v; omega
  refine wpAny_setItem_pairs (hsz:=hz) (N9 ry) dd fun h' tI hs=>h _ ?_
  have he:∃ q,h'.get? a = some q:=let ⟨q,_,_,hq,_⟩ := tI; ⟨q,hq⟩
  exact Kd I (by rw [e]; exact True.intro) hs he (Xu hl hd (rel.put k rv) tI)
 ·subst ey eH
  cases (show u = Value.ref b from ry)
  obtain ⟨z,hd,xs,rel,dd⟩ := Xl I.aC e
  have hz:xs.length <= sizeLine:=by rw [<- Paired.length rel]; exact z
  have hl:(B8 kvs k v).length <= sizeLine:=by have:=D9 kvs k v; omega
  refine wpAny_setItem_heap (hsz:=hz) (D5 hu) (Gd I.aC eb) dd fun h' tI hs=>h _ ?_
  obtain ⟨q,es,ep,hq,h2,h3,h4,_,h5⟩ := tI
  refine Kd I (by rw [e]; exact True.intro) hs ⟨q,hq⟩ ⟨hl,hd,_,(rel.put k eb rv).keeps fun c ys ec=>?_,q,es,ep,hq,h2,h3,h4,h5⟩
  rw [Ac (Bp ec e (fun z=>nomatch z))]
  exact ec
end
section
variable {X:Cx} {pins:List (Addr × Obj)} {σ:St} {H:Hp} {s:Shared} {a:Addr} {kvs:List (Du × V)} {k:Du} {u:Value} {A:Around} {E:Value -> Shared -> Prop}
theorem m8 {v : V} {more : List Value} {Q : Value -> Shared -> Prop} (I : Ai X pins σ H s) (e : H a = some (.dK kvs)) (ry : Aw (kV k) u) (l : Ae kvs k = some v) (hm : more = [] \/ ∃ x, more = [x])
  (h:∀ w' s',Ai X pins σ (upd H a (.dK (Br kvs k))) s' -> Aw v w' -> Q w' s'):wpAny (model X.prog X.w) A (call (.builtin "dict.pop") (.ref a :: u :: more)) Q E s:=by
 obtain ⟨z,hd,vs,rel,dd⟩ := d5 I.aC e
 obtain ⟨w',hw,gJ⟩ := Iq.some_of (v:=v) (o:=valueAt vs k) (by rw [<- l]; exact rel.val k)
 have hp:(keyPart u).isSome = true:=by
  cases k with
  | inl i=>obtain ⟨t,q⟩ := (show ∃ t,u = Value.int i t from ry); subst q; rfl
  | inr x=>obtain ⟨t,q⟩ := (show ∃ t,u = Value.str x t from ry); subst q; rfl
 have ha:argsOk "dict.pop" ⟨.ref a :: u :: more,[]⟩ := by
  rcases hm with q | ⟨x,q⟩
  ·subst q; exact PySem.F.args_dict_pop_2 _ _
  ·subst q; exact PySem.F.args_dict_pop_3 _ _ _
 refine call_meetsIn PySem.F.slot_dict_pop dd.typeIs PySem.F.entry_dict_pop ha (meets_dict_pop_there (Dg X.prog X.w) a (N9 ry) more hm hp)
  ⟨vs,w',dd,by rw [<- rel.length]; exact z,hw,fun h' tI hs=>h w' _ ?_ gJ⟩
 have he:∃ q,h'.get? a = some q:=let ⟨q,_,_,hq,_⟩ := tI; ⟨q,hq⟩
 exact Kd I (by rw [e]; exact True.intro) hs he (Xu (Nat.le_trans (Qx kvs k) z) hd (rel.drop k) tI)
end
def js (i:Expr):Prop := ∀ ov iv,subscripted i false ov iv = operate [ov,iv] (getItem ov iv)
theorem af {prog : Program} {w : World} {A : Around} {E : Value -> Shared -> Prop} {s : Shared} {env : Env} {value slice : Expr} {pos : Pos} {T id : String} {Q : Value -> Shared -> Prop}
  (hl:typeLookup (.type T) "__getitem__" = pure (some (.builtin id))) (hs:js slice)
  (h:wpAny (model prog w) A (eval value env) (fun o s₁=>wpAny (model prog w) A (eval slice env) (fun i s₂=>s₂.TypeIs o T /\ wpAny (model prog w) A (getItem o i) Q E s₂) E s₁) E s) :
  wpAny (model prog w) A (eval (.Subscript value slice pos) env) Q E s:=by
 refine Subscript_ (wpAny_mono h (fun o s₁ h₁=>wpAny_mono h₁ (fun i s₂ h₂=>?_) fun _ _ x=>x) fun _ _ x=>x)
 obtain ⟨hT,h₂⟩ := h₂
 unfold subscriptTail
 refine wpAny_bind ?_
 rw [getitemInPython_of_ne hT.not_modules]
 refine wpAny_bind (wpAny_specialOf hT hl ?_)
 have fin:wpAny (model prog w) A (subscripted slice false o i) (fun r s₃=>wpAny (model prog w) A (letTemporaryGo value o r >>= fun _=>pure r) Q E s₃) E s₂:=by
  rw [hs o i]
  exact wpAny_operating (wpAny_mono h₂ (fun r s₃ h₃=>wpAny_bind (wpAny_letTemporaryGo (wpAny_pure h₃))) fun _ _ x=>x)
 first
  | exact wpAny_pure (wpAny_bind fin)
  | exact wpAny_bind (wpAny_pure (wpAny_bind fin))
  | exact wpAny_bind fin
theorem R0 {X:Cx} {pins:List (Addr × Obj)} {σ:St} {H:Hp} {s:Shared} {a:Addr} {y:V} {o:Option V} (I:Ai X pins σ H s) (g:D4 H a y o):s.TypeIs (.ref a) "dict" := by
 rcases g with ⟨kvs,k,e,_,_⟩ | ⟨kvs,k,b,e,_,_,_⟩
 ·obtain ⟨_,_,vs,_,dd⟩ := Jp I.aC e
  exact dd.typeIs
 ·obtain ⟨_,_,xs,_,dd⟩ := Kt I.aC e
  exact dd.typeIs
def nc (td ty:TE):TE:=fun σ H Q=>td σ H fun x H1=>ty σ H1 fun y H2=>∃ a v,x = .ref a /\ D4 H2 a y (some v) /\ Q v H2
def qe (ty td:TE):TE:=fun σ H Q=>ty σ H fun y H1=>td σ H1 fun x H2=>∃ a o,x = .ref a /\ D4 H2 a y o /\ Q (.bl o.isSome) H2
def Zl (ty td:TE):TE:=fun σ H Q=>ty σ H fun y H1=>td σ H1 fun x H2=>∃ a o,x = .ref a /\ D4 H2 a y o /\ Q (.bl (!o.isSome)) H2
def mw (td ty tv:TE):TS:=fun D σ H=>tv σ H fun v H1=>td σ H1 fun x H2=>ty σ H2 fun y H3=>∃ a H4,x = .ref a /\ K0 H3 a y v H4 /\ D.nx σ H4
def tw (td ty tv:TE) (rd:V -> V -> Hp -> VK -> Prop):TS:=fun D σ H=>td σ H fun x H1=>ty σ H1 fun y H2=>∃ a v,x = .ref a /\ D4 H2 a y (some v) /\
 tv σ H2 fun y2 H3=>rd v y2 H3 fun z H4=>∃ H5,K0 H4 a y z H5 /\ D.nx σ H5
def rg (td ty:TE):TS:=fun D σ H=>td σ H fun x H1=>ty σ H1 fun y H2=>∃ a kvs k,x = .ref a /\ H2 a = some (.dK kvs) /\ y = kV k /\ (Ae kvs k).isSome = true /\ D.nx σ (upd H2 a (.dK (Br kvs k)))
section
variable {X:Cx} {o i e value:Expr} {pos pos' lT:Pos} {td ty tv:TE}
theorem Fn (hu:X.A.units + 20 < cLine) (ho:PE X o td) (hi:PE X i ty) (hs:js i):PE X (.Subscript o i pos) (nc td ty):=by
 intro pins s σ H Q I h
 refine af PySem.F.slot_dict_getitem.lookup hs (Ca (ho pins s σ H _ I h) fun u s1 ⟨x,H1,I1,rx,q1⟩=>Ca (hi pins s1 σ H1 _ I1 q1) fun iv s2 aJ=>?_)
 obtain ⟨y,H2,I2,ry,a,v,ex,g,q2⟩ := aJ
 subst ex
 obtain rfl:u = Value.ref a:=rx
 exact ⟨R0 I2 g,W2 hu I2 g ry fun w' s3 I3 gJ=>⟨v,H2,I3,gJ,q2⟩⟩
theorem Td (hu:X.A.units + 20 < cLine) (hi:PE X i ty) (ho:PE X o td):PC X .In i o (qe ty td):=by
 intro pins s σ H Q I h
 refine Ca (hi pins s σ H _ I h) fun iv s1 ⟨y,H1,I1,ry,q1⟩=>Ca (ho pins s1 σ H1 _ I1 q1) fun u s2 aJ=>?_
 obtain ⟨x,H2,I2,rx,a,ov,ex,g,q2⟩ := aJ
 subst ex
 obtain rfl:u = Value.ref a:=rx
 exact r6 hu I2 g ry fun s3 I3=>⟨.bl ov.isSome,H2,I3,rfl,q2⟩
theorem Ec (hu:X.A.units + 20 < cLine) (hi:PE X i ty) (ho:PE X o td):PC X .NotIn i o (Zl ty td):=by
 intro pins s σ H Q I h
 refine Ca (hi pins s σ H _ I h) fun iv s1 ⟨y,H1,I1,ry,q1⟩=>Ca (ho pins s1 σ H1 _ I1 q1) fun u s2 aJ=>?_
 obtain ⟨x,H2,I2,rx,a,ov,ex,g,q2⟩ := aJ
 subst ex
 obtain rfl:u = Value.ref a:=rx
 exact bw hu I2 g ry fun s3 I3=>⟨.bl (!ov.isSome),H2,I3,rfl,q2⟩
theorem Gw (hu : X.A.units + 20 < cLine) (ho : PE X o td) (hi : PE X i ty) (hv : PE X value tv) (hs : swapsWith value (some (.Subscript o i pos')) pos.line X.env = pure false) :
  PS X (.Assign [.Subscript o i pos'] value pos) (mw td ty tv):=by
 intro pins s σ H D I h
 refine wpAny_Assign_Subscript (Ca (hv pins s σ H _ I h) fun r s1 ⟨v,H1,I1,rv,q1⟩=>Ca (ho pins s1 σ H1 _ I1 q1) fun u s2 ⟨x,H2,I2,rx,q2⟩=>Ca (hi pins s2 σ H2 _ I2 q2) fun iv s3 ⟨y,H3,I3,ry,a,H4,ex,g,q3⟩=>?_) hs
 subst ex
 obtain rfl:u = Value.ref a:=rx
 exact X7 hu I3 g ry rv fun s4 I4=>⟨σ,H4,I4,q3⟩
end
theorem Yi {P:Program} {w:World} {H:Hp} (h:Heap) (hb:sysModules < h.objs.size):Bj P w H (h.push { cls := .type "dict",data := .dict #[] }) h.objs.size (.dK []) :=
 ⟨Nat.zero_le _,beq_eq_false_iff_ne.mpr (Ne.symm (Nat.ne_of_lt hb)),[],.nil,Heap.DictOf.new h⟩
theorem Ym {P:Program} {w:World} {H:Hp} (h:Heap) (hb:sysModules < h.objs.size):Bj P w H (h.push { cls := .type "dict",data := .dict #[] }) h.objs.size (.dT []) :=
 ⟨Nat.zero_le _,beq_eq_false_iff_ne.mpr (Ne.symm (Nat.ne_of_lt hb)),[],.nil,_,#[],0,Heap.get?_push_size _ rfl,⟨rfl,rfl,rfl⟩,rfl,rfl,List.nodup_nil⟩
def j6:TE:=fun _ H Q=>∀ p,H p = none -> Q (.ref p) (upd H p (.dK []))
def ig:TE:=fun _ H Q=>∀ p,H p = none -> Q (.ref p) (upd H p (.dT []))
section
variable {X:Cx} {pos:Pos}
theorem Z5:PE X (.Dict [] [] pos) j6:=fun pins s σ H Q I h =>
 wpAny_Dict_empty ⟨.ref s.heap.objs.size,_,I.laid (a:=s.heap.objs.size) (o := .dK []) (t':=s.toks) (fun _ _ q=>Heap.get?_push_of_some _ q) (Nat.le_refl _) (Yi s.heap I.big),rfl,h _ (I.aC.fresh (Nat.le_refl _))⟩
theorem Fg:PE X (.Dict [] [] pos) ig:=fun pins s σ H Q I h =>
 wpAny_Dict_empty ⟨.ref s.heap.objs.size,_,I.laid (a:=s.heap.objs.size) (o := .dT []) (t':=s.toks) (fun _ _ q=>Heap.get?_push_of_some _ q) (Nat.le_refl _) (Ym s.heap I.big),rfl,h _ (I.aC.fresh (Nat.le_refl _))⟩
end
def Pk:List (TE × TE) -> St -> Hp -> (List (V × V) -> Hp -> Prop) -> Prop
 | [],_,H,Q=>Q [] H
 | (tk,tv) :: r,σ,H,Q=>tk σ H fun x H1=>tv σ H1 fun y H2=>Pk r σ H2 fun ps H3=>Q ((x,y) :: ps) H3
abbrev VV:List (V × V) -> List (Value × Value) -> Prop:=Paired fun p q=>Aw p.1 q.1 /\ Aw p.2 q.2
def uz (X:Cx) (pos:Pos) (keys:List (Option Expr)) (values:List Expr) (WB:List (TE × TE)):Prop :=
 ∀ (pins:List (Addr × Obj)) (s:Shared) (σ:St) (H:Hp) (Q:List (V × V) -> Hp -> Prop),Ai X pins σ H s -> Pk WB σ H Q ->
  wpAny (model X.prog X.w) X.A (evalPairs (pairTrees keys values X.env pos)) (fun vs s'=>∃ ps H',Ai X pins σ H' s' /\ VV ps vs /\ Q ps H') X.xe s
def dj (kvs more:List (Du × V)):List (Du × V):=more.foldl (fun acc kv=>B8 acc kv.1 kv.2) kvs
def tf (WB:List (TE × TE)):TE:=fun σ H Q=>∀ p,H p = none -> Pk WB σ (upd H p (.dK [])) fun ps H2=>H2 p = some (.dK []) /\ ∃ kvs:List (Du × V),ps = kvs.map (fun kv=>(kV kv.1,kv.2)) /\ kvs.length <= 15 /\ Q (.ref p) (upd H2 p (.dK (dj [] kvs)))
structure M1 (X:Cx) (o:Expr) (m:Str) (apos:Pos) (e:Expr) (aS:Pos):Prop where
 base:attributeBase o m X.env (eval o X.env) = eval o X.env
 vc:((backTo aS (starEach [e] X.env)).all (fun x=>!x.1) && (backToKw aS (keywordEach [] X.env)).all (fun x=>x.1.isSome)
  && decide (([e]:List Expr).length + ([]:List Keyword).length + (if ([]:List Keyword).isEmpty then 0 else 1) < 30)) = true
 line:(apos.endLine == aS.line) = true
 trees:backTo aS (starEach [e] X.env) = [(false,eval e X.env)]
structure M2 (X:Cx) (o:Expr) (m:Str) (apos:Pos) (e f:Expr) (aS:Pos):Prop where
 base:attributeBase o m X.env (eval o X.env) = eval o X.env
 vc:((backTo aS (starEach [e,f] X.env)).all (fun x=>!x.1) && (backToKw aS (keywordEach [] X.env)).all (fun x=>x.1.isSome)
  && decide (([e,f]:List Expr).length + ([]:List Keyword).length + (if ([]:List Keyword).isEmpty then 0 else 1) < 30)) = true
 line:(apos.endLine == aS.line) = true
 trees:backTo aS (starEach [e,f] X.env) = [(false,eval e X.env),(false,eval f X.env)]
def jk (H:Hp) (a:Addr):Prop:=(∃ kvs,Rd H a (.dK kvs)) \/ ∃ kvs,Rd H a (.dT kvs)
theorem Tk {X : Cx} {pins : List (Addr × Obj)} {σ : St} {H : Hp} {s : Shared} {a : Addr} (I : Ai X pins σ H s) (d : jk H a) :
  s.TypeIs (.ref a) "dict" /\ (∀ b,Value.ref a = .ref b -> ∃ ob,s.heap.get? b = some ob /\ ob.dict = none) /\ (a == sysModules) = false:=by
 rcases d with ⟨kvs,e⟩ | ⟨kvs,e⟩
 ·obtain ⟨_,hd,vs,_,dd⟩ := Jp I.aC e
  refine ⟨dd.typeIs,fun b q=>?_,hd⟩
  cases q
  obtain ⟨ob,_,_,h1,h2,_⟩ := dd
  exact ⟨ob,h1,h2.2.1⟩
 ·obtain ⟨_,hd,xs,_,dd⟩ := Kt I.aC e
  refine ⟨dd.typeIs,fun b q=>?_,hd⟩
  cases q
  obtain ⟨ob,_,_,h1,h2,_⟩ := dd
  exact ⟨ob,h1,h2.2.1⟩
section
variable {X:Cx} {pins:List (Addr × Obj)} {σ:St} {H:Hp} {s:Shared} {a:Addr} {y d:V} {u r:Value} {o:Option V} {A:Around} {E:Value -> Shared -> Prop}
theorem fk {Q : Value -> Shared -> Prop} (hu : A.units + 20 < cLine) (I : Ai X pins σ H s) (g : D4 H a y o) (ry : Aw y u) (rd : Aw d r) (h : ∀ w' s', Ai X pins σ H s' -> Aw (o.getD d) w' -> Q w' s') :
  wpAny (model X.prog X.w) A (call (.builtin "dict.get") [.ref a,u,r]) Q E s:=by
 rcases g with ⟨kvs,k,e,ey,l⟩ | ⟨kvs,k,b,e,ey,eb,l⟩
 ·subst ey
  obtain ⟨z,hd,vs,rel,dd⟩ := Jp I.aC e
  refine call_meetsIn PySem.F.slot_dict_get dd.typeIs PySem.F.entry_dict_get (PySem.F.args_dict_get_3 _ _ _) (meets_dict_get_default (Dg X.prog X.w) a (N9 ry) hd r) ⟨_,dd.mapOf,h _ _ (I.tok _) ?_⟩
  rw [l]
  exact (rel.val k).getD rd
 ·subst ey
  cases (show u = Value.ref b from ry)
  obtain ⟨z,hd,xs,rel,dd⟩ := Kt I.aC e
  refine call_meetsIn PySem.F.slot_dict_get dd.typeIs PySem.F.entry_dict_get (PySem.F.args_dict_get_3 _ _ _) (meetsH_dict_get_default (Bx X.prog X.w) a b hd r) ⟨D5 hu,k,xs,Gd I.aC eb,dd,h _ _ (I.tok _) ?_⟩
  rw [l]
  exact (rel.val k).getD rd
end
def o9 (td ty:TE):TE:=fun σ H Q=>td σ H fun x H1=>∃ a,x = .ref a /\ jk H1 a /\ ty σ H1 fun y H2=>∃ o,D4 H2 a y o /\ Q (o.getD .aL) H2
def ie (td ty tx:TE):TE:=fun σ H Q=>td σ H fun x H1=>∃ a,x = .ref a /\ jk H1 a /\ ty σ H1 fun y H2=>tx σ H2 fun z H3=>∃ o,D4 H3 a y o /\ Q (o.getD z) H3
def dk (td ty:TE):TE:=fun σ H Q=>td σ H fun x H1=>∃ a,x = .ref a /\ jk H1 a /\ ty σ H1 fun y H2=>∃ kvs k v,H2 a = some (.dK kvs) /\ y = kV k /\ Ae kvs k = some v /\ Q v (upd H2 a (.dK (Br kvs k)))
def pi (td ty tx:TE):TE:=fun σ H Q=>td σ H fun x H1=>∃ a,x = .ref a /\ jk H1 a /\ ty σ H1 fun y H2=>tx σ H2 fun z H3=>∃ kvs k,H3 a = some (.dK kvs) /\ y = kV k /\
 (∀ v,Ae kvs k = some v -> Q v (upd H3 a (.dK (Br kvs k)))) /\ (Ae kvs k = none -> Q z H3)
section
variable {X:Cx} {o e f:Expr} {apos aS:Pos} {td ty tx:TE}
theorem Zb (hu:X.A.units + 20 < cLine) (ho:PE X o td) (he:PE X e ty) (hf:PE X f tx) (m:M2 X o "get" apos e f aS):PE X (.Call (.Attribute o "get" apos) [e,f] [] aS) (ie td ty tx):=by
 intro pins s σ H Q I h
 refine wpAny_Call_method m.base m.vc m.line PySem.F.plainAttrs_dict PySem.F.slot_dict_get PySem.F.type_dict_get (Ca (ho pins s σ H _ I h) fun u s1 aJ=>?_)
 obtain ⟨x,H1,I1,rx,a,ex,d,q1⟩ := aJ
 subst ex
 obtain rfl:u = Value.ref a:=rx
 obtain ⟨t1,t2,_⟩ := Tk I1 d
 refine ⟨t1,t2,?_⟩
 rw [m.trees]
 refine Calls.callWith_builtin rfl (Calls.evalArgs_plain (Calls.spliced_cons (Ca (he pins s1 σ H1 _ I1 q1) fun iv s2 ⟨y,H2,I2,ry,q2⟩ =>
  Calls.spliced_cons (Ca (hf pins s2 σ H2 _ I2 q2) fun fv s3 ⟨z,H3,I3,rz,ov,g,q3⟩=>Calls.spliced_nil ?_))))
 exact fk hu I3 g ry rz fun w' s4 I4 gJ=>⟨_,H3,I4,gJ,q3⟩
theorem Yp (ho:PE X o td) (he:PE X e ty) (m:M1 X o "pop" apos e aS):PE X (.Call (.Attribute o "pop" apos) [e] [] aS) (dk td ty):=by
 intro pins s σ H Q I h
 refine wpAny_Call_method m.base m.vc m.line PySem.F.plainAttrs_dict PySem.F.slot_dict_pop PySem.F.type_dict_pop (Ca (ho pins s σ H _ I h) fun u s1 aJ=>?_)
 obtain ⟨x,H1,I1,rx,a,ex,d,q1⟩ := aJ
 subst ex
 obtain rfl:u = Value.ref a:=rx
 obtain ⟨t1,t2,_⟩ := Tk I1 d
 refine ⟨t1,t2,?_⟩
 rw [m.trees]
 refine Calls.callWith_builtin rfl (Calls.evalArgs_plain (Calls.spliced_cons (Ca (he pins s1 σ H1 _ I1 q1) fun iv s2 ⟨y,H2,I2,ry,kvs,k,v,ea,ey,l,q2⟩=>Calls.spliced_nil ?_)))
 subst ey
 exact m8 I2 ea ry l (.inl rfl) fun w' s3 I3 gJ=>⟨v,_,I3,gJ,q2⟩
end
section
variable {X:Cx} {pins:List (Addr × Obj)} {σ:St} {H:Hp} {s:Shared} {a:Addr} {kvs:List (Du × V)} {A:Around} {E:Value -> Shared -> Prop}
end
section
variable {X:Cx} {pins:List (Addr × Obj)} {σ:St} {H:Hp} {s:Shared} {a:Addr} {y:V} {u:Value} {A:Around} {E:Value -> Shared -> Prop}
end
section
variable {κ:Type} [DecidableEq κ]
theorem Kr {kvs:List (κ × V)} {k:κ} (h:Ae kvs k = none):¬ k ∈ kvs.map (·.1):=by
 intro m
 obtain ⟨p,hp,e⟩ := List.mem_map.mp m
 have q:(kvs.any fun kv=>decide (kv.1 = k)) = true:=List.any_eq_true.mpr ⟨p,hp,decide_eq_true e⟩
 rw [E2,h] at q
 exact absurd q (by simp)
theorem Vl {kvs:List (κ × V)} {k:κ} {v:V} (h:Ae kvs k = some v):k ∈ kvs.map (·.1):=by
 have q:(kvs.any fun kv=>decide (kv.1 = k)) = true:=by
  rw [E2,h]
  all_goals rfl
 obtain ⟨p,hp,e⟩ := List.any_eq_true.mp q
 exact List.mem_map.mpr ⟨p,hp,of_decide_eq_true e⟩
theorem V4:∀ {l:List κ} {k:κ},l.Nodup -> ¬ k ∈ l -> (l ++ [k]).Nodup
 | [],k,_,_=>by simp
 | a :: r,k,h,hk=>by
  obtain ⟨h1,h2⟩ := List.nodup_cons.mp h
  show (a :: (r ++ [k])).Nodup
  refine List.nodup_cons.mpr ⟨fun m=>?_,V4 h2 fun m=>hk (List.mem_cons.mpr (Or.inr m))⟩
  rcases List.mem_append.mp m with q | q
  ·exact h1 q
  ·exact hk (List.mem_cons.mpr (Or.inl (List.mem_singleton.mp q).symm))
theorem V1 {kvs:List (κ × V)} {k:κ} (v:V) (hn:(kvs.map (·.1)).Nodup) (h:Ae kvs k = none):((B8 kvs k v).map (·.1)).Nodup:=by
 rw [Cj v h,List.map_append]
 exact V4 hn (Kr h)
theorem Wf {p:κ × V} {r:List (κ × V)} {k:κ} (e:p.1 = k):Br (p :: r) k = Br r k:=by
 unfold Br
 rw [List.filter_cons,if_neg (by simp [e])]
end
section
variable {P:Program} {w:World} {A:Around} {E:Value -> Shared -> Prop} {s:Shared}
theorem Yr {it d : Addr} {i n ep : Nat} {ok ov key val : Value} {Q : Value -> Shared -> Prop} (hit : IsItemIter s.heap it d i n ep ok ov)
  (hQ:∀ h',IsItemIterOut h' it d i n ep key val s.heap.objs.size -> h'.get? s.heap.objs.size = some { cls := .type "tuple",data := .seq #[key,val] } -> (∀ b o,b ≠ it -> s.heap.get? b = some o -> h'.get? b = some o) -> Q (.ref s.heap.objs.size) { s with heap:=h' }) :
  wpAny (model P w) A (Builtin.Dict_items.pairFromOwner (.ref it) 6 key val) Q E s:=by
 unfold Builtin.Dict_items.pairFromOwner; refine wpAny_bind (wpAny_newTuple ?_)
 have aI:it < s.heap.objs.size:=Heap.lt_size hit
 have a1:IsItemIter (s.heap.push { cls := .type "tuple",data := .seq #[key,val] }) it d i n ep ok ov:=Heap.get?_push_of_some _ hit
 have a2:(s.heap.push { cls := .type "tuple",data := .seq #[key,val] }).get? s.heap.objs.size = some { cls := .type "tuple",data := .seq #[key,val] }:=Heap.get?_push_size _ rfl
 have a3:∀ b o,s.heap.get? b = some o -> (s.heap.push { cls := .type "tuple",data := .seq #[key,val] }).get? b = some o:=fun b o z=>Heap.get?_push_of_some _ z
 show wpAny (model P w) A (Builtin.Dict_items.ownedTupleIsFree (.ref it) >>= _) Q E { s with heap:=s.heap.push { cls := .type "tuple",data := .seq #[key,val] } }
 generalize s.heap.push { cls := .type "tuple",data := .seq #[key,val] } = h1 at a1 a2 a3 ⊢
 unfold Builtin.Dict_items.ownedTupleIsFree; refine wpAny_bind (wpAny_bind (wpAny_field a1 rfl (x := .none) rfl (wpAny_pure ?_))); simp only [if_true]
 refine wpAny_bind (wpAny_field a1 rfl (x:=ok) rfl (wpAny_bind (wpAny_field a1 rfl (x:=ov) rfl ?_)))
 refine wpAny_bind (wpAny_setField_rec a1 (by simp) fun h2 b2 c2=>wpAny_bind ?_)
 have b2':IsItemIter h2 it d i n ep key ov:=b2
 refine wpAny_setField_rec b2' (by simp) fun h3 b3 c3=>wpAny_bind ?_
 have b3':IsItemIter h3 it d i n ep key val:=b3
 refine wpAny_setField_rec b3' (by simp) fun h4 b4 c4=>wpAny_bind ?_
 have b4':IsItemIterOut h4 it d i n ep key val s.heap.objs.size:=b4
 refine wpAny_setField_rec b4' (by simp) fun h5 b5 c5=>wpAny_bind (wpAny_letGo (wpAny_pure ?_))
 have up:∀ b o,b ≠ it -> h1.get? b = some o -> h5.get? b = some o:=fun b o hb z=>c5.extBut b o hb (c4.extBut b o hb (c3.extBut b o hb (c2.extBut b o hb z)))
 exact hQ h5 b5 (up _ _ (Nat.ne_of_gt aI) a2) fun b o hb z=>up b o hb (a3 b o z)
theorem Qq {it d : Addr} {i ep : Nat} {es : Array DictEntry} {ok ov : Value} {o : Obj} {Q : Option Value -> Shared -> Prop} (hit : IsItemIter s.heap it d i es.size ep ok ov) (dZ : s.heap.get? d = some o) (bG : o.data = .dict es ep)
  {en:DictEntry} (he:es[i]? = some en)
  (hQ:∀ h',IsItemIterOut h' it d (i + 1) es.size ep en.key en.val s.heap.objs.size -> h'.get? s.heap.objs.size = some { cls := .type "tuple",data := .seq #[en.key,en.val] } -> (∀ b o,b ≠ it -> s.heap.get? b = some o -> h'.get? b = some o) -> Q (some (.ref s.heap.objs.size)) { s with heap:=h' }) :
  wpAny (model P w) A (pyNext (.ref it)) Q E s:=by
 have hT:s.TypeIs (.ref it) "dict_itemiterator" := ⟨_,hit,rfl⟩
 have own:Builtin.Dict_items.ownsTuple "dict_itemiterator" = true:=by decide
 unfold pyNext; refine wpAny_bind (wpAny_attempt (wpAny_callSpecial?_slot (name:=Str.ofString "__next__") hT F.slot_dict_itemiterator_next (wpAny_call_entry F.slot_dict_itemiterator_next hT F.entry_dict_itemiterator_next ?_ (F.args_dict_itemiterator_next_1 _))))
 refine wpAny_bind (wpAny_pure (wpAny_bind (wpAny_bind (wpAny_bind (wpAny_typeNameOfWhole_itemiter hT (wpAny_pure (wpAny_bind (wpAny_fieldsOf hit rfl ?_))))))))
 simp only [own,if_true]; show wpAny _ _ (if (Value.ref d == Value.none) = true then _ else _) _ _ s
 rw [if_neg (show ¬ (Value.ref d == Value.none) = true from Bool.false_ne_true)]; refine wpAny_bind (wpAny_pure (wpAny_bind (wpAny_dictEntries dZ bG ?_)))
 rw [if_neg (show ¬ ((es.size:Int) != (es.size:Int)) = true by simp)]; refine wpAny_bind (wpAny_pure (wpAny_bind (wpAny_dictEpoch dZ bG ?_)))
 rw [if_neg (show ¬ ((ep:Int) != (ep:Int)) = true by simp)]; refine wpAny_pure ?_
 simp only [show ¬ ((i:Int) < 0) by omega,if_false,Int.toNat_natCast,he]
 refine wpAny_bind (wpAny_bind (wpAny_typeNameOfWhole_itemiter hT (wpAny_pure (wpAny_bind (wpAny_isOneOf_itemiter hT ?_)))))
 show wpAny _ _ (setField (.ref it) 3 (rawInt ((i:Int) + 1)) >>= _) _ _ s; refine wpAny_bind (wpAny_setField_rec hit (by simp) fun h1 b1 c1=>?_)
 have GK:IsItemIter h1 it d (i + 1) es.size ep ok ov:=by
  have e:((i + 1:Nat):Int) = (i:Int) + 1:=by omega
  unfold IsItemIter; rw [e]; simpa [rawInt] using b1
 have GL:Shared.TypeIs { s with heap:=h1 } (.ref it) "dict_itemiterator" := ⟨_,GK,rfl⟩
 refine wpAny_bind (wpAny_holding (wpAny_bind (wpAny_isOneOf_itemiter GL (wpAny_bind (wpAny_isOneOf_itemiter GL ?_)))))
 have z1:h1.objs.size = s.heap.objs.size:=c1.1
 refine Yr (s:={ s with heap:=h1 }) GK fun h2 e1 e2 e3=>?_
 rw [show (Shared.heap { s with heap:=h1 }).objs.size = s.heap.objs.size from z1] at e1 e2 ⊢
 exact wpAny_pure ⟨_,rfl,wpAny_pure (hQ h2 e1 e2 fun b o hb z=>e3 b o hb (c1.extBut b o hb z))⟩
end
section
variable {X:Cx}
def tq (K:PySem.W.Frag):V -> List V -> Hp -> VK -> Prop:=fun x xs H Q=>∃ (sep:Str) (a:Addr) (zs:List Str),x = .str sep /\ xs = [.ref a] /\ Ba K H a (zs.map V.str) /\ zs.length <= 500 /\ (∀ z ∈ zs,z.length <= 30000) /\ sep.length <= 500 /\ Q (.str (Txt.join sep zs)) H
def tj (K:PySem.W.Frag):List V -> Hp -> VK -> Prop:=fun xs H Q=>∃ (a C dx:Addr) (fs:List (Str × V)) (c:Value) (v:V),xs = [.ref a,v] /\ H a = some (.ins C dx fs) /\ (∀ u,Aw v u -> u = c) /\ PySem.W.kitOne K (.ref C) c = some true /\ Q (.bl true) H
def su (K:PySem.W.Frag):R2:=fun x y H Q=>∃ a b xs ys,x = .ref a /\ y = .ref b /\ Ba K H a xs /\ Ba K H b ys /\ xs.length + ys.length <= sizeLine /\ ∀ p,H p = none -> Q (.ref p) (upd H p (.lst (xs ++ ys)))
end
theorem Uq:entryFor table "dict.update.loop" = some Builtin.«dict.update.loop» := entryFor_of_tree (by kernel_rfl)
theorem Pt:plainId "dict.update.loop" = true:=by decide +kernel
section
variable {P:Program} {w:World} {A:Around} {R:Result -> Shared -> Prop} {K:Type} [DecidableEq K] {knd:HeapKind P w K}
def Gi (ps:Nat -> K × Addr × Value) (xs:List (K × Addr × Value)) (i k:Nat):List (K × Addr × Value):=(List.range' i k).foldl (fun xs j=>storedH xs (ps j).1 (ps j).2.1 (ps j).2.2) xs
theorem Rb {xs:List (K × Addr × Value)} {k:K} {a:Addr} {v:Value}:(storedH xs k a v).length <= xs.length + 1:=by
 cases h:atKey xs k with
 | none =>
  rw [storedH_new h,List.length_append]
  exact Nat.le_refl _
 | some p =>
  unfold storedH
  simp [h]
theorem iw {l I d : Addr} {items : Array Value} {ps : Nat -> K × Addr × Value} {h0 : Heap} (no : A.in1.handled = none) (hu : knd.room A.in1) (hlI : l ≠ I) (hdI : d ≠ I) (GN : d ≠ l)
  (hit:∀ j v,items[j]? = some v -> ∃ t o n,v = .ref t /\ t ≠ I /\ t ≠ d /\ h0.get? t = some o /\ o.cls = .type "tuple" /\ o.data = .seq #[.ref (ps j).2.1,(ps j).2.2] n)
  (jN:∀ j,j < items.size -> ∀ h:Heap,(∀ b o,b ≠ I -> b ≠ d -> h0.get? b = some o -> h.get? b = some o) -> knd.is h (ps j).1 (ps j).2.1) (SE:∀ (h h':Heap) (j:Nat) xs,h.IsListIter I l j -> h.DictOfH knd d xs -> (∀ b o,b ≠ I -> h.get? b = some o -> h'.get? b = some o) -> h'.DictOfH knd d xs) :
  ∀ (k i:Nat) (s:Shared) (xs:List (K × Addr × Value)) (tk:Tok),items.size = i + k -> (s.heap.IsListIter I l i /\ s.heap.IsList l items) -> s.heap.DictOfH knd d xs -> (∀ b o,b ≠ I -> b ≠ d -> h0.get? b = some o -> s.heap.get? b = some o) -> xs.length + k <= sizeLine ->
   (∀ h' nN,h'.DictOfH knd d (Gi ps xs i k) -> (∀ b o,b ≠ I -> b ≠ d -> s.heap.get? b = some o -> h'.get? b = some o) -> R (.ok (.ret .none)) { s with heap:=h',toks:=nN }) ->
   codeAny (model P w) A (.builtin "dict.update.loop" ⟨[.ref d,.ref I,.int i tk,.none],[]⟩) R s:=by
 have W:=Walks.list (prog:=P) (w:=w) (A:=A.in1) no I l hlI items
 intro k
 induction k with
 | zero =>
  intro i s xs tk hk cE hm hf hz hR
  refine codeAny_builtin Uq ?_
  rw [Around.under_plainId Pt _]
  show wpAny (model P w) A.in1 (pyNext (.ref I) >>= _) _ _ s
  have ei:i = items.size:=by omega
  refine wpAny_bind (W.done s _ _ (ei ▸ cE) fun h1 hU k1=>?_)
  show wpAny (model P w) A.in1 (Builtin.Dict.addKeywords d [] >>= _) _ _ _
  refine wpAny_bind ?_
  unfold Builtin.Dict.addKeywords
  refine wpAny_pure (wpAny_pure ?_)
  have jO:∀ b o,b ≠ I -> s.heap.get? b = some o -> h1.get? b = some o:=fun b o hb e=>k1 b o (by simpa using hb) e
  exact hR h1 hU (SE _ _ _ _ cE.1 hm jO) fun b o hb _ e=>jO b o hb e
 | succ k ih =>
  intro i s xs tk hk cE hm hf hz hR
  refine codeAny_builtin Uq ?_
  rw [Around.under_plainId Pt _]
  show wpAny (model P w) A.in1 (pyNext (.ref I) >>= _) _ _ s
  refine wpAny_bind (W.item i s _ _ (by omega) cE fun v h1 hU hP bB k1=>?_)
  have jO:∀ b o,b ≠ I -> s.heap.get? b = some o -> h1.get? b = some o:=fun b o hb e=>k1 b o (by simpa using hb) e
  obtain ⟨t,o,n,rfl,htI,htd,ht,hc,hd⟩ := hit i _ hP
  have ht1:=jO _ _ htI (hf _ _ htI htd ht)
  have iY:=SE _ _ _ _ cE.1 hm jO
  have hf1:∀ b o,b ≠ I -> b ≠ d -> h0.get? b = some o -> h1.get? b = some o:=fun b o hb iH e=>jO b o hb (hf b o hb iH e)
  refine wpAny_bind ?_
  refine wpAny_holding ?_
  refine wpAny_bind (wpAny_tryCatch ?_)
  unfold Builtin.Dict.pairItems
  refine wpAny_bind (wpAny_typeOf (T := "tuple") (s:={ s with heap:=h1,toks:=hU }) ⟨o,ht1,hc⟩ ?_)
  rw [if_pos (by decide)]
  refine wpAny_bind (wpAny_seqItems (s:={ s with heap:=h1,toks:=hU }) ht1 hd ?_)
  refine wpAny_pure ?_
  show wpAny (model P w) A.in1 (holding [.ref (ps i).2.1,(ps i).2.2] (dictSet d (.ref (ps i).2.1) (ps i).2.2)) _ _ _
  refine wpAny_holding ?_
  refine wpAny_dictSet_heap (s:={ s with heap:=h1,toks:=hU }) hu (jN i (by omega) h1 hf1) iY (fun h2 lY sS=>?_) (by omega)
  have k2:∀ b o,b ≠ d -> h1.get? b = some o -> h2.get? b = some o:=fun b o hb e=>(sS.2 b hb).trans e
  refine wpAny_pure ⟨plainId_quiet Pt _,?_⟩
  have sE:(storedH xs (ps i).1 (ps i).2.1 (ps i).2.2).length <= xs.length + 1:=Rb
  refine ih (i + 1) _ (storedH xs (ps i).1 (ps i).2.1 (ps i).2.2) _ (by omega) ⟨?_,?_⟩ lY (fun b o hb iH e=>k2 b o iH (hf1 b o hb iH e)) (by omega) fun h' nN dB bP=>?_
  ·exact bB.1.at fun o e=>k2 _ _ hdI.symm e
  ·exact bB.2.at fun o e=>k2 _ _ GN.symm e
  ·exact hR h' nN dB fun b o hb iH e=>bP b o hb iH (k2 b o iH (jO b o hb e))
end
theorem gd:mroOf (.type "dict") = pure [.type "dict",.type "object"]:=by rw [mroOf_type]; kernel_rfl
theorem W9:typeLookup (.type "dict") "__new__" = pure (some (.builtin "dict.__new__")):=by rw [typeLookup_type,builtinLookup_eq_fast]; kernel_rfl
theorem Ou:TypeCalled "dict" "dict.__new__" "dict.__init__" :=
 ⟨by decide +kernel,by decide +kernel,⟨_,_,gd⟩,madeBy_type gd W9 (by decide +kernel),by decide +kernel,by rw [isSubtype_type]; kernel_rfl,PySem.F.slot_dict_init⟩
theorem Lj (a:Value):checkTypeCall "dict" ⟨[a],[]⟩ = pure ():=by kernel_rfl
theorem Mu (a:Value):checkBuiltinCall "dict.__new__" ⟨[.type "dict",a],[]⟩ = pure ():=by kernel_rfl
theorem Jw:entryFor table "dict.__new__" = some Builtin.«dict.__new__» := entryFor_of_tree (by kernel_rfl)
theorem Fv:plainId "dict.__new__" = true:=by decide +kernel
theorem Lr:isSubtype (.type "dict") (.type "dict") = pure true:=by rw [isSubtype_type]; kernel_rfl
theorem K4 (a b:Value):argsOk "dict.__init__" ⟨[a,b],[]⟩ := by
 unfold argsOk
 kernel_rfl
theorem P8:typeLookup (.type "list") (Str.ofString "keys") = pure none:=by rw [typeLookup_type,builtinLookup_eq_fast]; kernel_rfl
section
variable {prog:Program} {w:World} {A:Around} {E:Value -> Shared -> Prop} {s:Shared}
theorem Lv (a : Value) {Q₁ : Value -> Shared -> Prop}
  (h:Q₁ (.ref s.heap.objs.size) { s with heap:=s.heap.push { cls := .type "dict",data := .dict #[] } }) :
  codeAny (model prog w) A (.call (.builtin "dict.__new__") ⟨[.type "dict",a],[]⟩) (wants Q₁ E) s:=by
 refine codeAny_of_tree ?_
 show wpAny _ A.in1 (do checkBuiltinCall "dict.__new__" ⟨[.type "dict",a],[]⟩; again (.builtin "dict.__new__" ⟨[.type "dict",a],[]⟩)) _ _ s
 refine wpAny_bind (wpAny_of_eq (Mu a) (wpAny_pure ⟨plainId_quiet Fv _,codeAny_builtin Jw ?_⟩))
 rw [Around.under_plainId Fv _]
 have hJ:=Lr
 have hm:=gd
 obtain ⟨hp,g,d,tk,os⟩ := s
 unfold Builtin.«dict.__new__»
 dsimp only
 wp_walk
 exact h
theorem bd {l : Addr} {xs : Array Value} {k : Nat} {sl : Array (Option Value)} {Q : Option Value -> Shared -> Prop} (hx : s.heap.get? l = some { cls := .type "list", dict := none, data := .seq xs k, slots := sl })
  (hA:A.handled = none) (h:∀ h' tk,(∀ b o,s.heap.get? b = some o -> h'.get? b = some o) -> Q none { s with heap:=h',toks:=tk }):wpAny (model prog w) A (getAttr? (.ref l) (Str.ofString "keys")) Q E s:=by
 obtain ⟨hp,g,d,tk,os⟩ := s
 have hT:∀ nN,(⟨hp,g,d,nN,os⟩ : Shared).TypeIs (.ref l) "list" := fun _=>⟨_,hx,rfl⟩
 have f3:=PySem.F.slot_list_getattribute.lookup
 have f4:=PySem.F.slot_list_getattribute.bind (.ref l)
 have f5:=am_list_getattr_none
 have f6:=P8
 have f1:=sub_AttributeError
 unfold getAttr? getAttrBy?
 repeat (any_goals (first | assumption | exact hT _ | ((with_reducible show wpAny _ _ (call (Value.builtin "list.__getattribute__") _ _) _ _ _); refine call_meets PySem.F.slot_list_getattribute (hT _) am_entry_list_getattribute (PySem.F.args_list_getattribute_2 _ _) (meets_getattribute_miss_list _ _ _ _ _ _ f6 (by decide)) ⟨hx,hA,fun h' nN e iW=>?_⟩) | wp_step))
 obtain ⟨t',u',he⟩ := iW.there
 show wpAny _ _ (getattributeRaised _ _ _ _ _ _ _) _ _ _
 unfold getattributeRaised
 repeat (any_goals (first | assumption | wp_step))
 exact h h' nN iW.keeps
end
section
variable {P:Program} {w:World} {A:Around} {E:Value -> Shared -> Prop} {s:Shared} {R:Result -> Shared -> Prop}
theorem Rk {d l : Addr} {xs : Array Value} {k : Nat} {sl : Array (Option Value)} {Q : PySem.Fin -> Shared -> Prop} (hA : A.handled = none) (hd : s.TypeIs (.ref d) "dict") (hl : s.heap.get? l = some { cls := .type "list", dict := none, data := .seq xs k, slots := sl })
  (h:∀ (h':Heap) (tk:Nat),(∀ b o,s.heap.get? b = some o -> h'.get? b = some o) -> Q (.again (.builtin "dict.update.loop" ⟨[.ref d,.ref h'.objs.size,.int 0 0,.none],[]⟩)) { s with heap:=h'.push { cls := .type "list_iterator",data := .fields #[.ref l,.int 0 0] },toks:=tk }) :
  wpAny (model P w) A (Builtin.«dict.__init__» ⟨[.ref d,.ref l],[]⟩) Q E s:=by
 unfold Builtin.«dict.__init__» Builtin.Dict.selfAndRest
 refine wpAny_bind (wpAny_bind (wpAny_notOrdered_dict hd ?_))
 refine wpAny_bind ?_
 show wpAny _ _ (pure d) _ _ _
 refine wpAny_pure (wpAny_pure ?_)
 show wpAny _ _ (Builtin.Dict.updateFrom "dict.__init__" d (.ref l) [] .none) _ _ _
 unfold Builtin.Dict.updateFrom
 refine wpAny_bind (wpAny_typeOf (T := "list") ⟨_,hl,rfl⟩ ?_)
 rw [if_pos (by decide)]
 refine wpAny_bind (bd hl hA fun h1 hU k1=>?_)
 rw [if_pos (show (none:Option Value).isNone = true from rfl)]
 refine wpAny_bind (wpAny_rule ?_)
 refine wpAny_bind (wpAny_pyIter_list (s:={ s with heap:=h1,toks:=hU }) (items:=xs) ⟨_,k1 _ _ hl,rfl,k,rfl⟩ ?_)
 exact wpAny_pure (h h1 hU k1)
theorem U6 {K : Type} [DecidableEq K] {knd : HeapKind P w K} {l : Addr} {xs : Array Value} {k : Nat} {sl : Array (Option Value)} {ps : Nat -> K × Addr × Value} {Q : Value -> Shared -> Prop} (hA : A.handled = none) (hu : knd.room A.in1.in1) (hz : xs.size <= sizeLine)
  (hl:s.heap.get? l = some { cls := .type "list",dict:=none,data := .seq xs k,slots:=sl })
  (hit:∀ j v,xs[j]? = some v -> ∃ t o n,v = .ref t /\ s.heap.get? t = some o /\ o.cls = .type "tuple" /\ o.data = .seq #[.ref (ps j).2.1,(ps j).2.2] n)
  (jN:∀ j,j < xs.size -> ∀ h:Heap,(∀ b o,s.heap.get? b = some o -> h.get? b = some o) -> knd.is h (ps j).1 (ps j).2.1)
  (SE:∀ d I (h h':Heap) (j:Nat) xs,h.IsListIter I l j -> h.DictOfH knd d xs -> (∀ b o,b ≠ I -> h.get? b = some o -> h'.get? b = some o) -> h'.DictOfH knd d xs)
  (hem:∀ (h:Heap) d,h.get? d = some { cls := .type "dict",data := .dict #[] } -> h.DictOfH knd d [])
  (q:∀ h' tk,h'.DictOfH knd s.heap.objs.size (Gi ps [] 0 xs.size) -> (∀ b o,s.heap.get? b = some o -> h'.get? b = some o) -> Q (.ref s.heap.objs.size) { s with heap:=h',toks:=tk }) :
  wpAny (model P w) A (call (.type "dict") [.ref l]) Q E s:=by
 refine callType_codes (Q₁:=fun obj s₁=>obj = .ref s.heap.objs.size /\ s₁ = { s with heap:=s.heap.push { cls := .type "dict",data := .dict #[] } }) Ou (Lj _) PySem.F.entry_dict_init (Lv _ ⟨rfl,rfl⟩) fun obj s1 k1=>?_
 obtain ⟨rfl,rfl⟩ := k1
 have hD:(s.heap.push { cls := .type "dict",data := .dict #[] }).get? s.heap.objs.size = some { cls := .type "dict",data := .dict #[] }:=Heap.get?_push_size _ rfl
 refine ⟨⟨_,hD,rfl⟩,K4 _ _,?_⟩
 refine Rk (s:={ s with heap:=s.heap.push { cls := .type "dict",data := .dict #[] } }) hA ⟨_,hD,rfl⟩ (Heap.get?_push_of_some _ hl) fun h1 hU k1=>?_
 refine ⟨plainId_quiet Pt _,?_⟩
 have ks:∀ b o,s.heap.get? b = some o -> h1.get? b = some o:=fun b o e=>k1 b o (Heap.get?_push_of_some _ e)
 have hDl:s.heap.objs.size < h1.objs.size:=Heap.lt_size (k1 _ _ hD)
 have dE:∀ b o,s.heap.get? b = some o -> b ≠ s.heap.objs.size /\ b ≠ h1.objs.size:=fun b o e=>⟨Nat.ne_of_lt (Heap.lt_size e),Nat.ne_of_lt (Heap.lt_size (ks b o e))⟩
 have kp:∀ b o,h1.get? b = some o -> (h1.push { cls := .type "list_iterator",data := .fields #[.ref l,.int 0 0] }).get? b = some o:=fun b o e=>Heap.get?_push_of_some _ e
 have hI:(h1.push { cls := .type "list_iterator",data := .fields #[.ref l,.int 0 0] }).get? h1.objs.size = some { cls := .type "list_iterator",data := .fields #[.ref l,.int 0 0] }:=Heap.get?_push_size _ rfl
 obtain ⟨nl1,nl2⟩ := dE _ _ hl
 refine iw (knd:=knd) (A:=A.in1) (l:=l) (I:=h1.objs.size) (d:=s.heap.objs.size) (items:=xs) (ps:=ps) (h0:=s.heap) hA hu nl2 (Nat.ne_of_lt hDl) nl1.symm ?_ ?_ (SE _ _) xs.size 0 _ [] 0 (by omega) ⟨⟨_,hI,rfl,rfl⟩,⟨_,kp _ _ (ks _ _ hl),rfl,k,rfl⟩⟩ (hem _ _ (kp _ _ (k1 _ _ hD))) (fun b o _ _ e=>kp _ _ (ks b o e)) (by simpa using hz) fun h' nN dB bP=>?_
 ·intro j v hv
  obtain ⟨t,o,n,rfl,ht,hc,hd⟩ := hit j v hv
  exact ⟨t,o,n,rfl,(dE _ _ ht).2,(dE _ _ ht).1,ht,hc,hd⟩
 ·intro j hj h2 hf
  exact jN j hj h2 fun b o e=>hf b o (dE _ _ e).2 (dE _ _ e).1 e
 ·exact ⟨rfl,q h' nN dB fun b o e=>bP b o (dE _ _ e).2 (dE _ _ e).1 (kp _ _ (ks b o e))⟩
end
theorem Bq.frame {prog:Program} {w:World} {h h':Heap} {k:List Int × Int} {a I l:Addr} {j:Nat} (x:Bq prog w h k a) (hI:h.IsListIter I l j) (hk:∀ b o,b ≠ I -> h.get? b = some o -> h'.get? b = some o):Bq prog w h' k a:=by
 obtain ⟨o,n,u,t,ho,hc,hd,o2,aA,n2,iQ,jV,hd2,hi⟩ := x
 obtain ⟨oi,SF,WC,_⟩ := hI
 have n1:a ≠ I:=by
  rintro rfl
  rw [SF] at ho
  cases ho
  rw [WC] at hc
  exact absurd hc (by decide)
 have WD:u ≠ I:=by
  rintro rfl
  rw [SF] at iQ
  cases iQ
  rw [WC] at jV
  exact absurd jV (by decide)
 exact ⟨o,n,u,t,hk _ _ n1 ho,hc,hd,o2,aA,n2,hk _ _ WD iQ,jV,hd2,hi⟩
theorem Bq.ext {prog:Program} {w:World} {h h':Heap} {k:List Int × Int} {a:Addr} (x:Bq prog w h k a) (hk:∀ b o,h.get? b = some o -> h'.get? b = some o):Bq prog w h' k a:=by
 obtain ⟨o,n,u,t,ho,hc,hd,o2,aA,n2,iQ,jV,hd2,hi⟩ := x
 exact ⟨o,n,u,t,hk _ _ ho,hc,hd,o2,aA,n2,hk _ _ iQ,jV,hd2,hi⟩
theorem Sn {prog:Program} {w:World} {d I l:Addr} {h h':Heap} {j:Nat} {xs:List ((List Int × Int) × Addr × Value)} (hI:h.IsListIter I l j) (hm:h.DictOfH (Bx prog w) d xs) (hk:∀ b o,b ≠ I -> h.get? b = some o -> h'.get? b = some o):h'.DictOfH (Bx prog w) d xs:=by
 obtain ⟨o,es,ep,ho,hc,hd,he,GO,hn⟩ := hm
 have n1:d ≠ I:=by
  rintro rfl
  obtain ⟨oi,SF,WC,hdi⟩ := hI
  rw [SF] at ho
  cases ho
  rw [hdi] at hd
  exact nomatch hd
 exact ⟨o,es,ep,hk _ _ n1 ho,hc,hd,he,fun x hx=>Bq.frame (GO x hx) hI hk,hn⟩
def Bv (kvs:List ((List Int × Int) × V)) (ps:List ((List Int × Int) × V)):List ((List Int × Int) × V):=ps.foldl (fun acc p=>B8 acc p.1 p.2) kvs
theorem Fs:∀ (ps kvs:List ((List Int × Int) × V)),(Bv kvs ps).length <= kvs.length + ps.length
 | [],kvs=>Nat.le_refl _
 | p :: ps,kvs=>by
  have h1:=Fs ps (B8 kvs p.1 p.2)
  have h2:=D9 kvs p.1 p.2
  show (Bv (B8 kvs p.1 p.2) ps).length <= _
  rw [List.length_cons]
  omega
theorem Zc {H : Hp} {ps : List ((List Int × Int) × V)} {f : Nat -> (List Int × Int) × Addr × Value} (hf : ∀ (j : Nat) q, ps[j]? = some q -> (f j).1 = q.1 /\ Dt H (f j).2.1 q.1 /\ Aw q.2 (f j).2.2) :
  ∀ (k i:Nat) (kvs:List ((List Int × Int) × V)) (xs:List ((List Int × Int) × Addr × Value)),i + k = ps.length -> KT H kvs xs -> KT H (Bv kvs (ps.drop i)) (Gi f xs i k)
 | 0,i,kvs,xs,e,r=>by
  rw [List.drop_of_length_le (by omega)]
  exact r
 | k + 1,i,kvs,xs,e,r=>by
  have hi:i < ps.length:=by omega
  obtain ⟨e1,e2,e3⟩ := hf i ps[i] (List.getElem?_eq_getElem hi)
  rw [List.drop_eq_getElem_cons hi]
  show KT H (Bv (B8 kvs ps[i].1 ps[i].2) (ps.drop (i + 1))) (Gi f (storedH xs (f i).1 (f i).2.1 (f i).2.2) (i + 1) k)
  rw [e1]
  exact Zc hf k (i + 1) _ _ (by omega) (r.put _ e2 e3)
section
variable {X:Cx}
def dw (K:PySem.W.Frag):List V -> Hp -> VK -> Prop:=fun xs H Q=>∃ (p:Addr) (us:List V) (ps:List ((List Int × Int) × V)),xs = [.ref p] /\ Ba K H p us /\ us.length = ps.length /\
 (∀ (j:Nat) u q,us[j]? = some u -> ps[j]? = some q -> ∃ t b,u = .ref t /\ H t = some (.tup [.ref b,q.2]) /\ Dt H b q.1) /\ ∀ d,H d = none -> Q (.ref d) (upd H d (.dT (Bv [] ps)))
theorem Tj (K:PySem.W.Frag) (hu:X.A.units + 24 < cLine) (hc:X.calm = true) (hK:X.K = K:=by rfl):Dl X (.type "dict") (dw K):=by
 subst hK
 intro pins s σ H xs WE Q I r h
 obtain ⟨p,us,ps,rfl,hq,hlen,eF,q⟩ := h
 obtain ⟨u0,rfl,ru⟩ := Ay.one r
 cases ru
 obtain ⟨aA,rv,pl,hz⟩ := I.list hq
 obtain ⟨⟨ocls,od,odata,iG⟩,n,e,mT,vd,vf⟩ := pl
 simp only at mT vd vf
 subst mT vd vf
 have sE:=Ay.length rv
 have ex:∀ j:Nat,∃ x:(List Int × Int) × Addr × Value,∀ q,ps[j]? = some q -> (x.1 = q.1 /\ Dt H x.2.1 q.1 /\ Aw q.2 x.2.2) /\ ∀ v,aA[j]? = some v -> ∃ t o n,v = .ref t /\ s.heap.get? t = some o /\ o.cls = .type "tuple" /\ o.data = .seq #[.ref x.2.1,x.2.2] n:=by
  intro j
  cases hj:ps[j]? with
  | none=>exact ⟨(([],0),0,.none),fun q z=>nomatch z⟩
  | some q =>
   have WG:=(List.getElem?_eq_some_iff.mp hj).1
   have hju:us[j]? = some us[j]:=List.getElem?_eq_getElem (by omega)
   obtain ⟨t,b,eu,ht,hb⟩ := eF j _ q hju hj
   obtain ⟨_,gZ,r2,o,h1,h2,m,h3⟩ := I.aC t _ ht
   obtain ⟨v1,v2,rfl,rv1,rv2⟩ := Ay.two r2
   cases rv1
   refine ⟨(q.1,b,v2),fun q' z=>?_⟩
   cases z
   refine ⟨⟨rfl,hb,rv2⟩,fun v hv=>?_⟩
   obtain ⟨w',ew,gJ⟩ := rv.get hju
   rw [ew] at hv
   cases hv
   rw [eu] at gJ
   cases gJ
   exact ⟨t,o,m,rfl,h1,h2,h3⟩
 obtain ⟨f,hf⟩ := Classical.axiomOfChoice ex
 have hA:=I.ok.hd hc
 refine U6 (knd:=Bx X.prog X.w) (ps:=f) hA (D5 (A:=X.A.in1) (by show X.A.units + 1 + 20 < cLine; omega)) (by rw [List.size_toArray]; omega) e ?_ ?_ (fun d I' h h' j xs hI hm hk=>Sn hI hm hk) ?_ fun h' tk hm hk=>?_
 ·intro j v hv
  rw [List.getElem?_toArray] at hv
  have WG:=(List.getElem?_eq_some_iff.mp hv).1
  exact (hf j _ (List.getElem?_eq_getElem (show j < ps.length by omega))).2 v hv
 ·intro j hj h2 nM
  rw [List.size_toArray] at hj
  obtain ⟨⟨e1,e2,_⟩,_⟩ := hf j _ (List.getElem?_eq_getElem (show j < ps.length by omega))
  rw [e1]
  exact Bq.ext (Gd I.aC e2) nM
 ·intro h2 d hd
  exact ⟨_,#[],0,hd,⟨rfl,rfl,rfl⟩,rfl,rfl,(fun x hx=>nomatch hx),List.nodup_nil⟩
 ·have fG:H s.heap.objs.size = none:=I.aC.fresh (Nat.le_refl _)
  rw [List.size_toArray] at hm
  have kt:KT H (Bv [] (ps.drop 0)) (Gi f [] 0 aA.length):=Zc (fun j q z=>(hf j q z).1) aA.length 0 [] [] (by omega) .nil
  rw [List.drop_zero] at kt
  obtain ⟨o,es,ep,ho,hex,hd,he,_,hn⟩ := hm
  have SG:(Bv [] ps).length <= sizeLine:=by
   have z1:=Fs ps []
   rw [List.length_nil] at z1
   omega
  have GP:Bj X.prog X.w (upd H s.heap.objs.size (.dT (Bv [] ps))) h' s.heap.objs.size (.dT (Bv [] ps)) :=
   ⟨SG,beq_eq_false_iff_ne.mpr (Ne.symm (Nat.ne_of_lt I.big)),_,kt.keeps (fun b ys eb=>by rw [Ac (Ah eb fG)]; exact eb),o,es,ep,ho,hex,hd,he,hn⟩
  exact ⟨.ref s.heap.objs.size,_,I.laid (t':=tk) hk (Nat.le_refl _) GP,rfl,q _ fG⟩
end
section
variable {X:Cx} {pins:List (Addr × Obj)} {σ:St} {H:Hp} {s:Shared} {k:Nat}
theorem Gu (I:Ai X pins σ H s) {d:PyData} {v:V} {u:Value} (h:Rp H d v) (r:Aw v u):∃ as,Reads s.heap u d as:=Cv I d v u h r
noncomputable def Hz (h:Heap) (d:PyData) (w:Value):Bool:=open Classical in if z:∃ e as,Reads h w e as /\ e.canLay0 = true then PyData.eqv z.choose d else false
theorem Kw {h:Heap} {d e:PyData} {w:Value} {as:List Addr} (r:Reads h w e as) (hc:e.canLay0 = true):Hz h d w = PyData.eqv e d:=by
 have z:∃ e as,Reads h w e as /\ e.canLay0 = true:=⟨e,as,r,hc⟩
 unfold Hz
 rw [dif_pos z]
 obtain ⟨bs,r',jM⟩ := z.choose_spec
 rw [(PySem.SeqAt.Reads.unique e _ w as bs hc r r')]
theorem Qt (I:Ai X pins σ H s) {d:PyData}:∀ {ds:List PyData} {vs:List V} {us:List Value},aB H ds vs -> Ay vs us -> us.any (Hz s.heap d) = ds.any fun e=>PyData.eqv e d
 | [],vs,us,h,r=>by
  unfold aB at h
  subst h
  cases r
  rfl
 | e :: ds,vs,us,h,r=>by
  unfold aB at h
  obtain ⟨x,xs,rfl,h1,h2⟩ := h
  cases r with
  | cons r1 r2 =>
   obtain ⟨as,q⟩ := Gu I h1 r1
   rw [List.any_cons,List.any_cons,Kw q (Cu e x h1),Qt I h2 r2]
theorem L7 (I:Ai X pins σ H s) {A:Around} {d:PyData} {x:V} {v:Value} (hx:Rp H d x) (rx:Aw x v) (hu:A.units + d.depth < cLine):∀ {ds:List PyData} {vs:List V} {us:List Value},aB H ds vs -> Ay vs us -> ∀ w ∈ us,SeqAt.EqAt A s w v (Hz s.heap d w)
 | [],vs,us,h,r,w,hw=>by
  unfold aB at h
  subst h
  cases r
  cases hw
 | e :: ds,vs,us,h,r,w,hw=>by
  unfold aB at h
  obtain ⟨y,ys,rfl,h1,h2⟩ := h
  cases r with
  | cons r1 r2 =>
   rcases List.mem_cons.mp hw with z | z
   ·subst z
    obtain ⟨as,q⟩ := Gu I h1 r1
    obtain ⟨bs,q2⟩ := Gu I hx rx
    rw [Kw q (Cu e y h1)]
    exact PySem.SeqAt.eqAt_reads e d A s _ _ _ _ q q2 (Cu e y h1) (Cu d x hx) (by omega)
   ·exact L7 I hx rx hu h2 r2 w z
end
section
variable {X:Cx} {k:Nat}
def qo (K:PySem.W.Frag) (neg:Bool):R2:=fun x y H Q=>∃ (p:Addr) (us:List V) (d:PyData) (ds:List PyData),y = .ref p /\ Ba K H p us /\ Rp H d x /\ aB H ds us /\ d.depth <= 50 /\ Q (.bl (if neg then !(ds.any fun e=>PyData.eqv e d) else ds.any fun e=>PyData.eqv e d)) H
theorem Wz (K:PySem.W.Frag) (hr:Dc k X.A) (hK:X.K = K:=by rfl):K1 X (compareOp .NotIn) (qo K true):=by
 subst hK
 intro pins s σ H x y v u Q I rx ry h
 obtain ⟨p,us,d,ds,rfl,hq,hx,hall,hd,q⟩ := h
 cases ry
 obtain ⟨aA,r,pl,hz⟩ := I.list hq
 have hu:=hr.units
 refine SeqAt.notIn_listAt (Hz s.heap d) pl.isList (fun w hw=>L7 I hx rx (by show X.A.units + 1 + d.depth < cLine; omega) hall r w (by simpa using hw)) ⟨.bl _,H,I,rfl,?_⟩
 rw [show aA.toArray.any (Hz s.heap d) = aA.any (Hz s.heap d) by simp,Qt I hall r]
 exact q
end
abbrev ou (K:PySem.W.Frag):TG:=b8 K 3 (N8 (Fd 0) (N8 (Fd 1) (N8 (Fd 2) i8)))
theorem E8 {k:Nat} {A:Around} (hr:Dc k A):A.units + 20 < cLine:=by have:=hr.units; omega
theorem pk {k:Nat} {A:Around} (hr:Dc k A):A.units + 24 < cLine:=by have:=hr.units; omega
section
variable {X:Cx}
theorem Q9 {e:Expr} {t:TE} (h:PE X e t):PE X e (fun σ H Q=>∃ N:VK,t σ H N /\ ∀ v H',N v H' -> Q v H'):=by
 intro pins s σ H Q I z
 obtain ⟨N,z,m⟩ := z
 refine Ca (h pins s σ H N I z) fun v s1 z1=>?_
 obtain ⟨x,H1,I1,r1,q1⟩ := z1
 exact ⟨x,H1,I1,r1,m _ _ q1⟩
end
def Hy:HO -> Prop
 | .dK _=>True
 | .dT _=>True
 | _=>False
section
variable {X:Cx} {pins:List (Addr × Obj)} {σ:St} {H:Hp} {s:Shared} {d:Addr}
theorem Ai.swap {v u:HO} (I:Ai X pins σ H s) (e:H d = some v) (n1:∀ xs,v ≠ .tup xs) (n2:∀ ps,v ≠ .rY ps) (n3:∀ y,v ≠ .own y) (n4:∀ o u,X.H₀ d ≠ some (.aP o u)) (ok:Bj X.prog X.w (upd H d u) s.heap d u):Ai X pins σ (upd H d u) s:=by
 have ht:∀ b xs,H b = some (.tup xs) -> (upd H d u) b = some (.tup xs):=fun b xs z=>by
  rw [Ac (fun y=>by rw [y,e] at z; exact n1 _ (Option.some.inj z))]
  exact z
 have hn:∀ b,H b = none -> (upd H d u) b = none:=fun b z=>by
  rw [Ac (fun y=>by rw [y,e] at z; cases z)]
  exact z
 refine ⟨I.ok,I.os,I.bare,⟨I.base.keep,I.base.slot,fun b o q n hx=>hn b (I.base.free b o q n hx),I.base.there,fun b xs q=>ht b xs (I.base.dU b xs q),fun b o x q=>?_,fun b ps q=>?_⟩,I.loc,I.cell,hn _ I.free,fun x c z=>hn c (I.aV x c z),fun p hp=>?_,fun b o q=>?_,I.len⟩
 ·have hb : b ≠ d := fun y => by
   rw [y] at q
   exact n4 o x q
  rw [Ac hb]
  exact I.base.cZ b o x q
 ·obtain ⟨m,z⟩ := I.base.dW b ps q
  refine ⟨m,?_⟩
  rw [Ac (fun y=>by rw [y,e] at z; exact n2 _ (Option.some.inj z))]
  exact z
 ·obtain ⟨a,b,c⟩ := I.pin p hp
  exact ⟨a,hn _ b,c⟩
 ·by_cases hb:b = d
  ·subst hb
   rw [A5] at q
   cases q
   exact ok
  ·rw [Ac hb] at q
   refine (I.aC b o q).fA (fun _ _ _ z=>z) (fun c z=>?_) ht
   rw [Ac (fun y=>by rw [y,e] at z; exact n3 _ (Option.some.inj z))]
   exact z
theorem Ai.xu {v:HO} (I:Ai X pins σ H s) (e:H d = some v) (hv:Hy v):∀ o u,X.H₀ d ≠ some (.aP o u):=fun o u z=>by
 have y:=I.base.cZ d o u z
 rw [e] at y
 cases y
 exact hv
theorem Ai.aP {v:HO} (I:Ai X pins σ H s) (e:H d = some v) (hv:Hy v):∃ o,s.heap.get? d = some o /\ Ai X pins σ (upd H d (.aP o v)) s:=by
 have aC:=I.aC d v e
 obtain ⟨o,ho⟩ : ∃ o,s.heap.get? d = some o:=by
  cases v with
  | dK kvs=>obtain ⟨_,_,_,_,o,_,_,z,_⟩ := aC; exact ⟨o,z⟩
  | dT kvs=>obtain ⟨_,_,_,_,o,_,_,z,_⟩ := aC; exact ⟨o,z⟩
  | _=>exact hv.elim
 have n1:∀ xs,v ≠ .tup xs:=fun xs z=>by rw [z] at hv; exact hv
 have n2:∀ ps,v ≠ .rY ps:=fun ps z=>by rw [z] at hv; exact hv
 have n3:∀ y,v ≠ .own y:=fun y z=>by rw [z] at hv; exact hv
 refine ⟨o,ho,I.swap e n1 n2 n3 (I.xu e hv) ⟨ho,aC.fA (fun _ _ _ z=>z) (fun c z=>?_) (fun b xs z=>?_)⟩⟩
 ·rw [Ac (fun y=>by rw [y,e] at z; exact n3 _ (Option.some.inj z))]
  exact z
 ·rw [Ac (fun y=>by rw [y,e] at z; exact n1 _ (Option.some.inj z))]
  exact z
theorem Ai.GQ {v:HO} {o:Obj} (I:Ai X pins σ H s) (e:H d = some (.aP o v)) (n4:∀ o u,X.H₀ d ≠ some (.aP o u)):Ai X pins σ (upd H d v) s:=by
 refine I.swap e (fun _ z=>nomatch z) (fun _ z=>nomatch z) (fun _ z=>nomatch z) n4 ((I.aC d _ e).2.fA (fun _ _ _ z=>z) (fun c z=>?_) (fun b xs z=>?_))
 ·rw [Ac (fun y=>by rw [y,e] at z; cases z)]
  exact z
 ·rw [Ac (fun y=>by rw [y,e] at z; cases z)]
  exact z
end
def mf (t:TS):TS:=fun D σ H=>∃ d u,Hy u /\ H d = some u /\ t { D with nx:=fun σ' H'=>∃ o,H' d = some (.aP o u) /\ D.nx σ' (upd H' d u) } σ H
def jz (t:TE):TE:=fun σ H Q=>∃ d u,Hy u /\ H d = some u /\ t σ H fun v H'=>∃ o,H' d = some (.aP o u) /\ Q v (upd H' d u)
section
variable {X:Cx}
theorem Pl {st:Stmt} {t:TS} (h:PS X st t):PS X st (mf t):=by
 intro pins s σ H D I z
 obtain ⟨d,u,hu,e,z⟩ := z
 have n4:=I.xu e hu
 refine Ca (h pins s σ H _ I z) fun f s1 q=>?_
 cases f with
 | next =>
  obtain ⟨σ',H',I',o,e',q'⟩ := q
  exact ⟨σ',_,I'.GQ e' n4,q'⟩
 | brk=>exact q
 | cont=>exact q
 | ret v=>exact q
theorem Vk {e:Expr} {t:TE} (h:PE X e t):PE X e (jz t):=by
 intro pins s σ H Q I z
 obtain ⟨d,u,hu,e0,z⟩ := z
 have n4:=I.xu e0 hu
 refine Ca (h pins s σ H _ I z) fun v s1 q=>?_
 obtain ⟨x,H',I',r,o,e',q'⟩ := q
 exact ⟨x,_,I'.GQ e' n4,r,q'⟩
end
section
variable {P:Program} {w:World} {A:Around} {E:Value -> Shared -> Prop} {s:Shared}
theorem S0 {d : Addr} {o : Obj} {Q : Value -> Shared -> Prop} (hs : (d == sysModules) = false) (ho : s.heap.get? d = some o) (hx : o.ExactDict)
  (h:Q (.ref s.heap.objs.size) { s with heap:=s.heap.push { cls := .type "dict_items",data := .fields #[.ref d] } }):wpAny (model P w) A (call (.builtin "dict.items") [.ref d]) Q E s:=by
 have hT:s.TypeIs (.ref d) "dict" := ⟨o,ho,hx.1⟩
 refine wpAny_call_entry F.slot_dict_items hT F.entry_dict_items ?_ (F.args_dict_items_1 _)
 unfold Builtin.«dict.items» Builtin.Dict.noArgs
 refine wpAny_bind (wpAny_bind (wpAny_notOrdered_dict hT ?_))
 refine wpAny_bind (wpAny_of_eq (a:=()) rfl ?_)
 refine wpAny_bind (wpAny_of_eq (a:=Value.ref d) rfl ?_)
 refine wpAny_of_eq (a:=d) rfl ?_
 refine wpAny_bind ?_
 unfold Builtin.Dict.showsAll
 rw [hs,if_neg Bool.false_ne_true]
 refine wpAny_pure ?_
 refine wpAny_bind ?_
 unfold newFields
 exact wpAny_newObj_type (wpAny_pure ⟨_,rfl,h⟩)
theorem Uv {v d : Addr} {o : Obj} {es : Array DictEntry} {ep : Nat} {Q : Value -> Shared -> Prop} (hv : s.heap.IsItemsView v d) (ho : s.heap.get? d = some o) (bG : o.data = .dict es ep)
  (h:Q (.ref s.heap.objs.size) { s with heap:=s.heap.push { cls := .type "dict_itemiterator",data := .fields #[.none,.bool false,.ref d,.int 0 0,.int es.size 0,.int ep 0,.none,.none] } }):wpAny (model P w) A (pyIter (.ref v)) Q E s:=by
 obtain ⟨ov,SH,hc,hd⟩ := hv
 have hT:s.TypeIs (.ref v) "dict_items" := ⟨ov,SH,hc⟩
 refine wpAny_pyIter_slot hT F.slot_dict_items_iter (wpAny_call_entry F.slot_dict_items_iter hT F.entry_dict_items_iter ?_ (F.args_dict_items_iter_1 _))
 unfold Builtin.«dict_items.__iter__» Builtin.Dict_items.slot0 Builtin.Dict_items.dictOf Builtin.Dict_items.newIterator
 refine wpAny_bind (wpAny_bind (wpAny_of_eq (a:=(Value.ref v,[])) rfl (wpAny_pure ?_)))
 refine wpAny_bind (wpAny_bind (wpAny_field SH hd (x := .ref d) rfl (wpAny_of_eq (a:=d) rfl ?_)))
 refine wpAny_bind (wpAny_bind (wpAny_dictEntries ho bG (wpAny_bind (wpAny_dictEpoch ho bG ?_))))
 show wpAny (model P w) _ (newObj (.type "dict_itemiterator") (.fields #[.none,.bool false,.ref d,.int 0 0,.int es.size 0,.int ep 0,.none,.none]) none) _ _ _
 refine wpAny_newObj_type (wpAny_pure ⟨_,rfl,"dict_itemiterator",_,⟨_,Heap.get?_push_size _ rfl,rfl⟩,F.slot_dict_itemiterator_next.lookup,h⟩)
theorem Xq {it d : Addr} {i ep : Nat} {es : Array DictEntry} {ok ov : Value} {o : Obj} {Q : Option Value -> Shared -> Prop} (hh : A.handled = none) (hit : IsItemIter s.heap it d i es.size ep ok ov) (dZ : s.heap.get? d = some o) (bG : o.data = .dict es ep)
  (he:es[i]? = none) (hQ:∀ h',Heap.ExtBut it s.heap h' -> Q none { s with heap:=h' }):wpAny (model P w) A (pyNext (.ref it)) Q E s:=by
 have hT:s.TypeIs (.ref it) "dict_itemiterator" := ⟨_,hit,rfl⟩
 have own:Builtin.Dict_items.ownsTuple "dict_itemiterator" = true:=by decide
 unfold pyNext; refine wpAny_bind (wpAny_attempt (wpAny_callSpecial?_slot (name:=Str.ofString "__next__") hT F.slot_dict_itemiterator_next (wpAny_call_entry F.slot_dict_itemiterator_next hT F.entry_dict_itemiterator_next ?_ (F.args_dict_itemiterator_next_1 _))))
 refine wpAny_bind (wpAny_pure (wpAny_bind (wpAny_bind (wpAny_bind (wpAny_typeNameOfWhole_itemiter hT (wpAny_pure (wpAny_bind (wpAny_fieldsOf hit rfl ?_))))))))
 simp only [own,if_true]; show wpAny _ _ (if (Value.ref d == Value.none) = true then _ else _) _ _ s
 rw [if_neg (show ¬ (Value.ref d == Value.none) = true from Bool.false_ne_true)]; refine wpAny_bind (wpAny_pure (wpAny_bind (wpAny_dictEntries dZ bG ?_)))
 rw [if_neg (show ¬ ((es.size:Int) != (es.size:Int)) = true by simp)]; refine wpAny_bind (wpAny_pure (wpAny_bind (wpAny_dictEpoch dZ bG ?_)))
 rw [if_neg (show ¬ ((ep:Int) != (ep:Int)) = true by simp)]; refine wpAny_pure ?_
 simp only [show ¬ ((i:Int) < 0) by omega,if_false,Int.toNat_natCast,he]
 refine wpAny_bind (wpAny_bind (wpAny_typeNameOfWhole_itemiter hT (wpAny_pure ?_)))
 show wpAny _ _ (setField (.ref it) 2 Value.none >>= _) _ _ s
 refine wpAny_bind (wpAny_setField hit rfl (by simp) ?_)
 generalize hg:Heap.update s.heap it (Obj.mapFields (·.setIfInBounds 2 Value.none)) = h2
 have eb:Heap.ExtBut it s.heap h2:=by
  rw [<- hg]
  exact fun b ob hb e=>(Heap.get?_update_other _ _ (Ne.symm hb)).trans e
 show wpAny (model P w) _ (newExc (.type "StopIteration") [] >>= _) _ _ { s with heap:=h2 }
 refine wpAny_bind ?_; simp only [newExc,newTuple]
 refine wpAny_bind (wpAny_newObj_type (T := "tuple") ?_ (by size_fits))
 refine wpAny_bind (m:=firstArgMember _ _) (wpAny_of_eq (a:=Value.none) (by first | rfl | simp only [firstArgMember]) ?_)
 refine wpAny_newObj_type (T := "StopIteration") ?_ (by size_fits)
 simp only [raiseNew]; refine wpAny_bind (wpAny_handled ?_)
 first | rw [show A.in1.handled = Option.none from hh] | rw [hh]
 refine wpAny_bind (wpAny_pure (wpAny_throw ?_)); refine wpAny_bind (wpAny_isInstance (T := "StopIteration") (b:=true) ⟨_,Heap.get?_push_size _ rfl,rfl⟩ isSubtype_stop ?_)
 exact wpAny_pure (hQ _ ((eb.push _).push _))
end
theorem Wv:entryFor table "dict_itemiterator.__iter__" = some Builtin.«dict_keyiterator.__iter__» :=
 entryFor_alias (id' := "dict_keyiterator.__iter__") (by kernel_rfl) (by first | rfl | decide +kernel | (unfold String.splitOn; simp +decide [String.splitOnAux])) (by decide +kernel) (by kernel_rfl)
def jj:HO -> Hp -> Nat -> V -> V -> Prop
 | .dT kvs,H,i,x,y=>∃ k b,kvs[i]? = some (k,y) /\ x = .ref b /\ Dt H b k
 | .dK kvs,_,i,x,y=>∃ k,kvs[i]? = some (k,y) /\ x = kV k
 | _,_,_,_,_=>False
def Cd:HO -> Nat
 | .dT kvs=>kvs.length
 | .dK kvs=>kvs.length
 | _=>0
def i9 (d:Addr) (o:Obj) (u:HO):It :=
 ⟨fun i H=>H d = some (.aP o u) /\ i < Cd u,fun i H v H'=>∃ T x y,v = .ref T /\ H T = none /\ H' = upd H T (.tup [x,y]) /\ jj u H i x y,fun i H=>H d = some (.aP o u) /\ Cd u <= i⟩
theorem bp {P:Program} {w:World} {k:Du} {u:Value} (h:(Dg P w).is k u = true):Aw (kV k) u:=by
 have h':Ic k u = true:=h
 cases k with
 | inl i =>
  cases u <;> simp [Ic,Value.isInt] at h'
  subst h'
  exact ⟨_,rfl⟩
 | inr x =>
  cases u <;> simp [Ic,Value.isStrOf] at h'
  subst h'
  exact ⟨_,rfl⟩
theorem Fi {α β:Type} {F:α -> β -> Prop}:∀ {xs:List α} {ys:List β} {i:Nat},Paired F xs ys -> i < xs.length -> ∃ x y,xs[i]? = some x /\ ys[i]? = some y /\ F x y
 | _,_,i,.nil,h=>absurd h (by simp)
 | _,_,0,.cons r _,_=>⟨_,_,rfl,rfl,r⟩
 | _,_,i + 1,.cons _ t,h=>by
  obtain ⟨x,y,e1,e2,e3⟩ := Fi (i:=i) t (by simpa using h)
  exact ⟨x,y,by simpa using e1,by simpa using e2,e3⟩
theorem Si {α β:Type} {F:α -> β -> Prop} {xs:List α} {ys:List β} (h:Paired F xs ys):xs.length = ys.length:=by
 induction h with
 | nil=>rfl
 | cons r t ih=>rw [List.length_cons,List.length_cons,ih]
theorem O9 {P:Program} {w:World} {K:Type} [DecidableEq K] {knd:PySem.KeyKind P w K}:∀ {es:List DictEntry} {vs:List (K × Value)} {i:Nat} {kv:K × Value},Pairs knd es vs -> vs[i]? = some kv -> ∃ e,es[i]? = some e /\ knd.is kv.1 e.key = true /\ e.val = kv.2
 | _,_,i,kv,.nil,h=>by simp at h
 | _,_,0,kv,.cons h1 h2 _,h=>by
  cases (show some _ = some _ from h)
  exact ⟨_,rfl,h1,h2⟩
 | _,_,i + 1,kv,.cons _ _ t,h=>by
  obtain ⟨e,e1,e2⟩ := O9 t (i:=i) (by simpa using h)
  exact ⟨e,by simpa using e1,e2⟩
theorem We {P:Program} {w:World} {K:Type} [DecidableEq K] {knd:PySem.KeyKind P w K} {es:List DictEntry} {vs:List (K × Value)} (h:Pairs knd es vs):es.length = vs.length:=by
 induction h with
 | nil=>rfl
 | cons r q t ih=>rw [List.length_cons,List.length_cons,ih]
theorem Pb {P : Program} {w : World} {H : Hp} {h : Heap} {d : Addr} {o : Obj} {u : HO} {es : Array DictEntry} {ep : Nat} (ok : Bj P w H h d u) (hu : Hy u) (ho : h.get? d = some o) (hd : o.data = .dict es ep) :
  es.size = Cd u /\ ∀ i,i < Cd u -> ∃ e x y,es[i]? = some e /\ Aw x e.key /\ Aw y e.val /\ jj u H i x y:=by
 cases u with
 | dT kvs =>
  obtain ⟨_,_,xs,r,o',lR,lS,h1,h2,h3,h4,h5⟩ := ok
  rw [ho] at h1
  cases h1
  rw [hd] at h3
  cases h3
  have hl:=Si r
  refine ⟨?_,fun i hi=>?_⟩
  ·show es.size = kvs.length
   rw [<- Array.length_toList,h4,List.length_map,hl]
  ·obtain ⟨p,q,e1,e2,e3,e4,e5⟩ := Fi r hi
   refine ⟨entryOfKey (Bx P w) q,.ref q.2.1,p.2,?_,rfl,e5,p.1,q.2.1,e1,rfl,e4⟩
   rw [<- Array.getElem?_toList,h4,List.getElem?_map,e2]
   rfl
 | dK kvs =>
  obtain ⟨_,_,vs,r,o',lR,lS,h1,h2,h3,h4,h5,h6⟩ := ok
  rw [ho] at h1
  cases h1
  rw [hd] at h3
  cases h3
  have hl:kvs.length = vs.length:=r.length
  refine ⟨?_,fun i hi=>?_⟩
  ·show es.size = kvs.length
   rw [<- Array.length_toList,We h5,hl]
  ·obtain ⟨p,q,e1,e2,e3⟩ := Fi r hi
   obtain ⟨e,f1,f2,f3⟩ := O9 h5 e2
   refine ⟨e,kV p.1,p.2,by rw [<- Array.getElem?_toList]; exact f1,?_,?_,p.1,e1,rfl⟩
   ·rw [e3.1]
    exact bp f2
   ·rw [f3]
    exact e3.2
 | _=>exact hu.elim
theorem Ta {P : Program} {w : World} {K : PySem.W.Frag} {elts : List Expr} {kk : Nat} {pos : Pos} {it d : Addr} {o : Obj} {u : HO} {es : Array DictEntry} {ep : Nat} (hu : Hy u) (hd : o.data = .dict es ep) (cY : d ≠ it) :
  S4 P w K (.Tuple elts kk pos) (i9 d o u) [it] it (fun i h=>∃ ok ov,IsItemIter h it d i es.size ep ok ov) where
 mem:=by simp
 obj:=fun i h ⟨ok,ov,st⟩ b hb=>by
  have e:b = it:=by simpa using hb
  subst e
  exact ⟨_,st,fun v z=>by cases z⟩
 keep:=fun i h h' ⟨ok,ov,st⟩ k=>⟨ok,ov,k it (by simp) _ st⟩
 item:=by
  intro X hP hw hK hc i pins s σ H E I hf ⟨ok,ov,st⟩ ⟨hV,GR⟩
  subst hP hw hK
  obtain ⟨ho,aC⟩ := I.aC d _ hV
  obtain ⟨hsz,kT⟩ := Pb aC hu ho hd
  obtain ⟨e,x,y,e1,rx,ry,hi⟩ := kT i GR
  have aI:it < s.heap.objs.size:=Heap.lt_size st
  refine Qq st ho hd e1 fun h' a1 a2 a3=>⟨_,rfl,?_⟩
  refine wpAny_letOwnedTupleGo_items (s:={ s with heap:=h' }) a1 fun VU b1 b2=>?_
  have GI:VU.get? s.heap.objs.size = some { cls := .type "tuple",data := .seq #[e.key,e.val] }:=b2.extBut _ _ (Nat.ne_of_gt aI) a2
  refine ⟨.ref s.heap.objs.size,upd H s.heap.objs.size (.tup [x,y]),I.iX (t':=s.toks) (ch:=[it]) hf (fun c ob hc e=>?_) (Nat.le_refl _) ?_,rfl,⟨_,x,y,rfl,I.fresh,rfl,hi⟩,⟨_,_,b1⟩,fun c hc=>?_⟩
  ·have jM:c ≠ it:=by simpa using hc
   exact b2.extBut _ _ jM (a3 c ob jM e)
  ·exact ⟨⟨Nat.le_trans (by decide:2 <= 1000) (Kc (Nat.le_refl _)),_,GI,rfl⟩,[e.key,e.val],.cons rx (.cons ry .nil),⟨_,GI,rfl,0,rfl⟩⟩
  ·have jM:c = it:=by simpa using hc
   subst jM
   rw [Ac (Nat.ne_of_lt aI)]
   exact (hf c hc).1
 done:=by
  intro X hP hw hK hc i pins s σ H E I hf ⟨ok,ov,st⟩ ⟨hV,GR⟩
  subst hP hw hK
  obtain ⟨ho,aC⟩ := I.aC d _ hV
  obtain ⟨hsz,kT⟩ := Pb aC hu ho hd
  refine Xq (I.ok.hd hc) st ho hd (Array.getElem?_eq_none (by omega)) fun h' eb=>⟨rfl,I.dG (t':=s.toks) (ch:=[it]) hf fun c ob hc e=>?_⟩
  have jM:c ≠ it:=by simpa using hc
  exact eb c ob jM e
 self:=fun A i s Q E ⟨ok,ov,st⟩ hQ=>by
  have hT:s.TypeIs (.ref it) "dict_itemiterator" := ⟨_,st,rfl⟩
  refine wpAny_pyIter_slot hT F.slot_dict_itemiterator_iter (wpAny_call_entry F.slot_dict_itemiterator_iter hT Wv ?_ (F.args_dict_itemiterator_iter_1 _))
  exact wpAny_pure ⟨_,rfl,"dict_itemiterator",_,hT,F.slot_dict_itemiterator_next.lookup,hQ⟩
section
variable {X:Cx}
def ir (td:TE):TI:=fun σ H R=>td σ H fun x H1=>∃ d u,x = .ref d /\ Hy u /\ H1 d = some u /\ ∀ o,R (i9 d o u) (upd H1 d (.aP o u))
theorem Ig {elts : List Expr} {kk : Nat} {lT apos pos : Pos} {e : Expr} {td : TE} (he : PE X e td) (iT : attributeBase e "items" X.env (eval e X.env) = eval e X.env := by rfl) (iU : (apos.endLine == pos.line) = true := by rfl) :
  PI X (.Tuple elts kk lT) (.Call (.Attribute e "items" apos) [] [] pos) (ir td):=by
 intro pins s σ H R I h
 refine wpAny_Call_method0_late iT iU (Ca (he pins s σ H _ I h) fun v s1 aJ=>?_)
 obtain ⟨x,H1,I1,r1,d,u,ex,hu,hd,q⟩ := aJ
 subst ex
 obtain rfl:v = Value.ref d:=r1
 obtain ⟨o,ho,I2⟩ := I1.aP hd hu
 obtain ⟨es,ep,hx,bG,xv⟩ : ∃ es ep,o.ExactDict /\ o.data = .dict es ep /\ (d == sysModules) = false:=by
  have aC:=I1.aC d u hd
  cases u with
  | dT kvs =>
   obtain ⟨_,y,xs,r,o',lR,lS,h1,h2,h3,_⟩ := aC
   rw [ho] at h1
   cases h1
   exact ⟨lR,lS,h2,h3,y⟩
  | dK kvs =>
   obtain ⟨_,y,vs,r,o',lR,lS,h1,h2,h3,_⟩ := aC
   rw [ho] at h1
   cases h1
   exact ⟨lR,lS,h2,h3,y⟩
  | _=>exact hu.elim
 have hT:s1.TypeIs (.ref d) "dict" := ⟨o,ho,hx.1⟩
 refine ⟨"dict","dict.items",PySem.F.plainAttrs_dict,PySem.F.slot_dict_items,PySem.F.type_dict_items,hT,?_,Calls.callWith_builtin rfl (PySem.evalArgs_none (S0 xv ho hx ?_))⟩
 ·intro a z
  cases z
  exact ⟨o,ho,hx.2.1⟩
 have SH:(s1.heap.push { cls := .type "dict_items",data := .fields #[.ref d] }).get? d = some o:=Heap.get?_push_of_some _ ho
 refine Uv (s:={ s1 with heap:=s1.heap.push { cls := .type "dict_items",data := .fields #[.ref d] } }) ⟨_,Heap.get?_push_size _ rfl,rfl,rfl⟩ SH bG ?_
 have hk:∀ b ob,s1.heap.get? b = some ob -> ((s1.heap.push { cls := .type "dict_items",data := .fields #[.ref d] }).push { cls := .type "dict_itemiterator",data := .fields #[.none,.bool false,.ref d,.int 0 0,.int es.size 0,.int ep 0,.none,.none] }).get? b = some ob:=fun b ob z=>Heap.get?_push_of_some _ (Heap.get?_push_of_some _ z)
 have hsz:(s1.heap.push { cls := .type "dict_items",data := .fields #[.ref d] }).objs.size = s1.heap.objs.size + 1:=by simp [Heap.push]
 have GN:d < s1.heap.objs.size:=Heap.lt_size ho
 refine ⟨_,[_],_,i9 d o u,upd H1 d (.aP o u),rfl,I2.kept (t':=s1.toks) hk,Ta (es:=es) (ep:=ep) hu bG ?_,⟨.none,.none,Heap.get?_push_size _ rfl⟩,fun c hc=>?_,q o⟩
 ·rw [hsz]
  exact Nat.ne_of_lt (Nat.lt_succ_of_lt GN)
 ·have hle : s1.heap.objs.size <= c := by
   have:c = (s1.heap.push { cls := .type "dict_items",data := .fields #[.ref d] }).objs.size:=by simpa using hc
   rw [this,hsz]
   omega
  exact I2.jT hle (I2.aC.fresh hle)
end
theorem No {o : Obj} {u : HO} {d : Addr} {g : TG} {tb : TS} {D : Hn} {σ : St} {H : Hp} (Pv : Nat -> St -> Hp -> Prop) (h0 : Pv 0 σ H) (hl : ∀ i σ H, i <= Cd u -> Pv i σ H -> H d = some (.aP o u))
  (hs:∀ i x y T σ H,i < Cd u -> jj u H i x y -> Pv i σ H -> H T = none -> g (.ref T) σ (upd H T (.tup [x,y])) fun σ2 H2=>tb { D with nx:=Pv (i + 1),ct:=Pv (i + 1),bk:=D.nx } σ2 H2) (hd:∀ σ H,Pv (Cd u) σ H -> D.nx σ H) :
  ∃ W:Nat -> Nat -> St -> Hp -> Prop,(∃ m,W 0 m σ H) /\ ∀ i m σ H,W i m σ H ->
   ((i9 d o u).stop i H /\ D.nx σ H) \/ ((i9 d o u).go i H /\ ∃ N:St -> Hp -> Prop,(∀ σ' H',N σ' H' -> ∃ m',m' < m /\ W (i + 1) m' σ' H') /\ ∀ x H',(i9 d o u).wZ i H x H' -> g x σ H' fun σ2 H2=>tb { D with nx:=N,ct:=N,bk:=D.nx } σ2 H2):=by
 refine ⟨fun i m σ H=>m = Cd u - i /\ i <= Cd u /\ Pv i σ H,⟨Cd u,by simp,Nat.zero_le _,h0⟩,?_⟩
 rintro i m σ H ⟨rfl,hi,p⟩
 have q1:=hl i σ H hi p
 by_cases aI:i < Cd u
 ·refine .inr ⟨⟨q1,aI⟩,Pv (i + 1),fun σ' H' p'=>⟨Cd u - (i + 1),by omega,rfl,aI,p'⟩,fun v H' y=>?_⟩
  obtain ⟨T,x,z,rfl,hT,rfl,e1⟩ := y
  exact hs i x z T σ H aI e1 p hT
 ·have e:i = Cd u:=by omega
  subst e
  exact .inl ⟨⟨q1,Nat.le_refl _⟩,hd σ H p⟩
theorem Kn {K : PySem.W.Frag} {o : Obj} {u : HO} {d : Addr} {fr : List Nat} {tt : TT} {te : TE} {σ : St} {D : Addr} {H1 : Hp} {Q : Hp -> Prop} (Pv : Nat -> List V -> Hp -> Prop) (h0 : Pv 0 [] (upd H1 D (.lst [])))
  (hl:∀ i zs H,i <= Cd u -> Pv i zs H -> H d = some (.aP o u))
  (hs:∀ i x y T zs H,i < Cd u -> jj u H i x y -> Pv i zs H -> H T = none -> tt (some x :: some y :: D7 fr σ) (upd H T (.tup [x,y])) fun b H4 =>
   if b = true then te (some x :: some y :: D7 fr σ) H4 fun v H5=>H5 D = some (.lst zs) /\ zs.length < sizeLine /\ Pv (i + 1) (zs ++ [v]) (upd H5 D (.lst (zs ++ [v]))) else Pv (i + 1) zs H4)
  (mt:∀ σ H Q Q',(∀ b H',Q b H' -> Q' b H') -> tt σ H Q -> tt σ H Q') (me:∀ σ H Q Q',(∀ v H',Q v H' -> Q' v H') -> te σ H Q -> te σ H Q')
  (hd:∀ zs H,Pv (Cd u) zs H -> Q H):Dv 2 fr (i9 d o u) (km K) tt te σ D H1 Q:=by
 refine ⟨fun i m zs H=>m = Cd u - i /\ i <= Cd u /\ Pv i zs H,⟨Cd u,by simp,Nat.zero_le _,h0⟩,?_⟩
 rintro i m zs H' ⟨rfl,hi,p⟩
 have q1:=hl i zs H' hi p
 by_cases aI:i < Cd u
 ·refine .inr ⟨⟨q1,aI⟩,fun v H2 y=>?_⟩
  obtain ⟨T,x,z,rfl,hT,rfl,e1⟩ := y
  refine ⟨T,_,rfl,C7.of A5,rfl,x,_,rfl,z,_,rfl,rfl,⟨[some x,some z],rfl,rfl⟩,?_⟩
  refine mt _ _ _ _ ?_ (hs i x z T zs H' aI e1 p hT)
  intro b H4 q
  cases b with
  | false=>exact ⟨Cd u - (i + 1),by omega,rfl,aI,q⟩
  | true=>exact me _ _ _ _ (fun v H5 ⟨r1,r2,r3⟩=>⟨r1,r2,Cd u - (i + 1),by omega,rfl,aI,r3⟩) q
 ·have e:i = Cd u:=by omega
  subst e
  exact .inl ⟨⟨q1,Nat.le_refl _⟩,hd zs H' p⟩
section
variable {prog:Program} {w:World} {K:Type} [DecidableEq K] {knd:HeapKind prog w K} {A:Around} {E:Value -> Shared -> Prop} {s:Shared} {d a:Addr} {k:K} {xs:List (K × Addr × Value)}
theorem Vv {v:Value} (hn:(xs.map (·.1)).Nodup) (xw:k ∉ xs.map (·.1)):((xs ++ [(k,a,v)]).map (·.1)).Nodup:=by
 rw [List.map_append,List.nodup_append]
 refine ⟨hn,by simp,fun x hx y hy=>?_⟩
 have e:y = k:=by simpa using hy
 rw [e]
 exact fun e=>xw (e ▸ hx)
theorem Ys {dflt : Value} {Q : Value -> Shared -> Prop} (hu : knd.room A) (fD : knd.is s.heap k a) (hm : s.heap.DictOfH knd d xs) (hsz : xs.length <= sizeLine)
  (h1:∀ p,atKey xs k = some p -> Q p.2 { s with toks:=s.toks + knd.draws k })
  (h2:atKey xs k = none -> ∀ h',h'.DictOfH knd d (xs ++ [(k,a,dflt)]) -> Heap.SameBut d s.heap h' -> Q dflt { s with heap:=h',toks:=s.toks + knd.draws k }) :
  wpAny (model prog w) A (dictSetDefault d (.ref a) dflt) Q E s:=by
 obtain ⟨o,es,ep,ho,hc,hd,he,GO,hn⟩ := hm
 unfold dictSetDefault
 try with_reducible refine wpAny_holding ?_
 refine wpAny_bind (knd.pyHash hu fD ?_)
 refine wpAny_bind (wpAny_dictFind_heap (s:={ s with toks:=s.toks + knd.draws k }) hu fD ho hd he GO hn ?_ ?_)
 ·intro vg
  have xw:k ∉ xs.map (·.1):=not_mem_keys_of_get vg
  have kT:=atKey_none_of_get vg
  have hz:es.size <= sizeLine:=by
   have e:=size_of_entries he
   omega
  refine wpAny_bind (wpAny_rule (wpAny_bind (wpAny_updateDictKeys (hz:=hz) (s:={ s with toks:=s.toks + knd.draws k }) ho hd (wpAny_pure (h2 kT _
   ⟨_,_,ep + 1,Heap.get?_update_self _ ho (Obj.isFreed_of_dict (Obj.data_mapDictKeys hd _)),hc.mapDictKeys _,Obj.data_mapDictKeys hd _,?_,?_,Vv hn xw⟩ (Heap.SameBut.update ..))))))
  ·simp [he,entryOfKey]
  ·intro x hx
   rcases List.mem_append.mp hx with hx | hx
   ·exact knd.keeps (GO x hx) ho hd (Heap.SameBut.update ..)
   ·cases List.mem_singleton.mp hx
    exact knd.keeps fD ho hd (Heap.SameBut.update ..)
 ·intro j p hj
  have kT:=atKey_of_get hn hj
  refine wpAny_bind (wpAny_dictEntries (s:={ s with toks:=s.toks + knd.draws k }) ho hd ?_)
  rw [entry_at he j,hj]
  exact wpAny_bind (wpAny_rule (wpAny_pure (h1 p kT)))
theorem Sb (hd : (d == sysModules) = false) (dflt : Value) :
  MeetsIn prog w (Builtin.«dict.setdefault» ⟨[.ref d,.ref a,dflt],[]⟩) (fun A R s=>knd.room A.in1 /\ ∃ k xs,knd.is s.heap k a /\ s.heap.DictOfH knd d xs /\ xs.length <= sizeLine /\
   (∀ p,atKey xs k = some p -> R (.ok (.ret p.2)) { s with toks:=s.toks + knd.draws k }) /\
   (atKey xs k = none -> ∀ h',h'.DictOfH knd d (xs ++ [(k,a,dflt)]) -> Heap.SameBut d s.heap h' -> R (.ok (.ret dflt)) { s with heap:=h',toks:=s.toks + knd.draws k })) :=
 .of_wp fun A R s ⟨hu,k,xs,fD,hm,hz,h1,h2⟩=>by
  unfold Builtin.«dict.setdefault» Builtin.Dict.keyAndDefault
  refine wpAny_bind (wpAny_bind (wpAny_notOrdered_dict hm.typeIs ?_))
  show wpAny _ _ (pure (d,Value.ref a,some dflt)) _ _ s
  refine wpAny_pure ?_
  show wpAny _ _ (if (d == sysModules) = true then _ else (dictSetDefault d (.ref a) dflt >>= _)) _ _ s
  rw [if_neg (by rw [hd]; exact Bool.false_ne_true)]
  exact wpAny_bind (Ys hu fD hm hz (fun p hp=>wpAny_pure ⟨p.2,rfl,h1 p hp⟩) fun hn h' dB GD=>wpAny_pure ⟨dflt,rfl,h2 hn h' dB GD⟩)
end
section
variable {X:Cx} {pins:List (Addr × Obj)} {σ:St} {H:Hp} {s:Shared} {a b:Addr} {kvs:List ((List Int × Int) × V)} {k:List Int × Int} {z:V} {r:Value} {A:Around} {E:Value -> Shared -> Prop}
theorem ky {Q : Value -> Shared -> Prop} (hu : A.units + 20 < cLine) (I : Ai X pins σ H s) (e : H a = some (.dT kvs)) (eb : Dt H b k) (hl : kvs.length < sizeLine) (rz : Aw z r)
  (h1:∀ v w' s',Ae kvs k = some v -> Ai X pins σ H s' -> Aw v w' -> Q w' s') (h2:Ae kvs k = none -> ∀ s',Ai X pins σ (upd H a (.dT (B8 kvs k z))) s' -> Q r s') :
  wpAny (model X.prog X.w) A (call (.builtin "dict.setdefault") [.ref a,.ref b,r]) Q E s:=by
 obtain ⟨z0,hd,xs,rel,dd⟩ := Xl I.aC e
 have hz:xs.length <= sizeLine:=by rw [<- Paired.length rel]; exact z0
 have hv:=rel.val k
 refine call_meetsIn PySem.F.slot_dict_setdefault dd.typeIs PySem.F.entry_dict_setdefault (PySem.F.args_dict_setdefault_3 _ _ _) (Sb (knd:=Bx X.prog X.w) hd r) ⟨D5 hu,k,xs,Gd I.aC eb,dd,hz,fun p hp=>?_,fun hn h' tI hs=>?_⟩
 ·rw [hp] at hv
  cases e2:Ae kvs k with
  | none=>rw [e2] at hv; exact hv.elim
  | some v =>
   rw [e2] at hv
   exact h1 v p.2 _ e2 (I.tok _) hv
 ·rw [hn] at hv
  cases e2:Ae kvs k with
  | some v=>rw [e2] at hv; exact hv.elim
  | none =>
   have hp:B8 kvs k z = kvs ++ [(k,z)]:=Cj z e2
   refine h2 e2 _ ?_
   rw [hp]
   obtain ⟨q,es,ep,hq,g2,g3,g4,_,g5⟩ := tI
   refine Kd I (by rw [e]; exact True.intro) hs ⟨q,hq⟩ ⟨by rw [List.length_append,List.length_singleton]; omega,hd,_,KT.keeps (Paired.snoc rel ⟨rfl,eb,rz⟩) (fun c ys ec=>?_),q,es,ep,hq,g2,g3,g4,g5⟩
   rw [Ac (Bp ec e (fun z=>nomatch z))]
   exact ec
end
def jy (td ty tx:TE):TE:=fun σ H Q=>td σ H fun x H1=>∃ a,x = .ref a /\ jk H1 a /\ ty σ H1 fun y H2=>tx σ H2 fun z H3=>∃ kvs k b,y = .ref b /\ Dt H3 b k /\ H3 a = some (.dT kvs) /\ kvs.length < sizeLine /\
 (∀ v,Ae kvs k = some v -> Q v H3) /\ (Ae kvs k = none -> Q z (upd H3 a (.dT (B8 kvs k z))))
section
variable {X:Cx} {o e f:Expr} {apos aS:Pos} {td ty tx:TE}
theorem Zp (hu:X.A.units + 20 < cLine) (ho:PE X o td) (he:PE X e ty) (hf:PE X f tx) (m:M2 X o "setdefault" apos e f aS):PE X (.Call (.Attribute o "setdefault" apos) [e,f] [] aS) (jy td ty tx):=by
 intro pins s σ H Q I h
 refine wpAny_Call_method m.base m.vc m.line PySem.F.plainAttrs_dict PySem.F.slot_dict_setdefault PySem.F.type_dict_setdefault (Ca (ho pins s σ H _ I h) fun u s1 aJ=>?_)
 obtain ⟨x,H1,I1,rx,a,ex,d,q1⟩ := aJ
 subst ex
 obtain rfl:u = Value.ref a:=rx
 obtain ⟨t1,t2,_⟩ := Tk I1 d
 refine ⟨t1,t2,?_⟩
 rw [m.trees]
 refine Calls.callWith_builtin rfl (Calls.evalArgs_plain (Calls.spliced_cons (Ca (he pins s1 σ H1 _ I1 q1) fun iv s2 ⟨y,H2,I2,ry,q2⟩ =>
  Calls.spliced_cons (Ca (hf pins s2 σ H2 _ I2 q2) fun fv s3 ⟨z,H3,I3,rz,kvs,k,b,ey,eb,ea,hl,q3,q4⟩=>Calls.spliced_nil ?_))))
 subst ey
 obtain rfl:iv = Value.ref b:=ry
 exact ky hu I3 ea eb hl rz (fun v w' s4 hv I4 gJ=>⟨v,H3,I4,gJ,q3 v hv⟩) fun hn s4 I4=>⟨z,_,I4,rz,q4 hn⟩
theorem Uk {a : Expr} {ta : TE} (ha : PE X a ta) (he : ∀ whole, isTrue a X.env whole = (do let v <- whole; standAt a.pos; holding [v] (truthy v)) := by intro _; rfl) :
  PT X a (fun σ H Q=>ta σ H fun x H'=>∃ d kvs,x = .ref d /\ Rd H' d (.dK kvs) /\ Q (!kvs.isEmpty) H'):=by
 intro pins s σ H Q I h
 refine isTrue_plain (Ca (ha pins s σ H _ I h) fun v s1 ⟨x,H1,I1,r1,d,kvs,ex,hd,q1⟩=>?_) (he _)
 subst ex
 obtain rfl:v = Value.ref d:=r1
 obtain ⟨z,hs,vs,rel,dd⟩ := Jp I1.aC hd
 have hl:kvs.length = vs.length:=rel.length
 have h24:sizeLine < 2 ^ 30:=by decide
 refine wpAny_truthy_dict hs dd (by omega) ⟨H1,I1.tok _,?_⟩
 have e:kvs.isEmpty = vs.isEmpty:=by
  cases kvs <;> cases vs <;> simp at hl <;> rfl
 rw [<- e]
 exact q1
end
open PySem PySem.Spec PyProof.Rows PySem.SeqAt
def ez (A:Around) (s:Shared) (x y:Value) (b:Bool):Prop := ∀ (prog:Program) (w:World) (E:Value -> Shared -> Prop) (Q:Value -> Shared -> Prop),Q (.bool b) s -> wpAny (model prog w) A (richCompare .Gt x y) Q E s
theorem f8 (l b : Addr) (xs ys : Array Value) (n n2 : Nat) (dd ES : Option Addr) (sl ET : Array (Option Value)) (e : Nat -> Bool) (r : Bool) :
  Meets (Builtin.«tuple.__gt__» ⟨[.ref l,.ref b],[]⟩)
   (fun A R s=>s.heap.get? l = some { cls := .type "tuple",dict:=dd,data := .seq xs n,slots:=sl } /\ s.heap.get? b = some { cls := .type "tuple",dict:=ES,data := .seq ys n2,slots:=ET } /\
    (∀ j (h1:j < xs.size) (h2:j < ys.size),EqAt A.in1 s xs[j] ys[j] (e j)) /\ (∀ j (h1:j < xs.size) (h2:j < ys.size),(∀ i,i < j -> e i = true) -> e j = false -> ez A.in1 s xs[j] ys[j] r) /\
    ((∀ j,j < min xs.size ys.size -> e j = true) -> r = decide (xs.size > ys.size)) /\ R (.ok (.ret (.bool r))) s) :=
 .of_wp fun prog w A R s h=>by
  obtain ⟨hp,g,d,tk,os⟩ := s
  obtain ⟨hl,hb,he,hf,hz,h⟩ := h
  have f2:=AutoSeq1.sub_tuple_tuple
  have hZ:(xs.toList.zip ys.toList).length = min xs.size ys.size:=by simp
  wp_walk using wpAny_loadPart' hl,wpAny_loadPart' hb,wpAny_forIn_list _ (fun rest b s'=>b.1 = none /\ s' = ⟨hp,g,d,tk,os⟩ /\ ∃ i,rest = (xs.toList.zip ys.toList).drop i /\ ∀ k,k < i -> k < min xs.size ys.size -> e k = true) _
  case turn =>
   rintro ⟨y,x⟩ rest b s' ⟨iH,rfl,i,hq,hR⟩
   have aI:i < (xs.toList.zip ys.toList).length:=by
    apply Classical.byContradiction
    intro z
    rw [List.drop_of_length_le (by omega)] at hq
    cases hq
   have h1:i < xs.size:=by omega
   have h2:i < ys.size:=by omega
   rw [List.drop_eq_getElem_cons aI] at hq
   injection hq with GJ nL
   have hy:y = xs[i]:=by simpa using congrArg Prod.fst GJ
   have hx:x = ys[i]:=by simpa using congrArg Prod.snd GJ
   subst hy hx
   refine wpAny_bind (he i h1 h2 prog w _ _ ?_)
   cases hy:e i with
   | true =>
    wp_walk
    refine ⟨rfl,rfl,i + 1,nL,fun k hk nM=>?_⟩
    by_cases z:k = i
    ·rw [z]
     exact hy
    ·exact hR k (by omega) nM
   | false =>
    have sE:=hf i h1 h2 (fun k hk=>hR k hk (by omega)) hy prog w
    wp_walk using sE _ _
    exact ⟨_,rfl,h⟩
  case fin =>
   rintro ⟨b1,b2⟩ s' ⟨iH,rfl,i,hq,hR⟩
   simp only at iH
   subst iH
   have EX:min xs.size ys.size <= i:=by
    apply Classical.byContradiction
    intro z
    rw [List.drop_eq_getElem_cons (by omega)] at hq
    cases hq
   have hr:=hz fun j hj=>hR j (by omega) hj
   wp_walk
   refine ⟨_,rfl,?_⟩
   rw [hr] at h
   simpa [Builtin.Tuple.tupleCompareSizes] using h
  case h =>
   exact ⟨rfl,rfl,0,rfl,fun k hk=>absurd hk (Nat.not_lt_zero k)⟩
mutual
def X2:PyData -> PyData -> Bool
 | .int a,.int b=>decide (a > b)
 | .tuple xs,.tuple ys=>aQ xs ys
 | _,_=>false
def aQ:List PyData -> List PyData -> Bool
 | [],[]=>false
 | [],_ :: _=>false
 | _ :: _,[]=>true
 | x :: xs,y :: ys=>if PyData.eqv x y then aQ xs ys else X2 x y
end
theorem Og:∀ (xs ys:List PyData),(∀ j,j < min xs.length ys.length -> pairEq xs ys j = true) -> aQ xs ys = decide (xs.length > ys.length)
 | [],[],_=>rfl
 | [],y :: ys,_=>by simp [aQ]
 | x :: xs,[],_=>by simp [aQ]
 | x :: xs,y :: ys,h=>by
  have h0:PyData.eqv x y = true:=h 0 (by simp only [List.length_cons]; omega)
  have ih:=Og xs ys fun j hj=>h (j + 1) (by simp only [List.length_cons]; omega)
  rw [aQ,if_pos h0,ih]
  simp
mutual
theorem S2 : ∀ (da db : PyData) (A : Around) (s : Shared) (a b : Value) (as bs : List Addr), Reads s.heap a da as -> Reads s.heap b db bs -> da.canLay0 = true -> db.canLay0 = true -> Gc da db ->
  A.units + min da.depth db.depth < cLine -> ez A s a b (X2 da db)
 | .int x,db,A,s,_,_,_,_,ra,rb,_,_,hc,hu=>by
  cases db with
  | int y =>
   cases ra with
   | int _ t =>
    cases rb with
    | int _ u =>
     intro prog w E Q h
     exact richCompare_gives (op := .Gt) (typeIs_int s _ t) (typeIs_int s _ u) F.slot_int_gt F.entry_int_gt (F.args_int_gt_2 _ _) (gives_int_gt _ _ t u) (fun z=>nomatch z) h
  | none=>exact hc.elim
  | bool _=>exact hc.elim
  | str _=>exact hc.elim
  | list _=>exact hc.elim
  | tuple _=>exact hc.elim
  | dict _=>exact hc.elim
 | .tuple xs,db,A,s,_,_,_,_,ra,rb,ha,hb,hc,hu=>by
  cases db with
  | tuple ys =>
   cases ra with
   | @tuple l o vs n _ as₁ h1 h2 h3 h4 =>
    cases rb with
    | @tuple l' o' tH n' _ bs₁ k1 k2 k3 k4 =>
     obtain ⟨oc,od,VY,iG⟩ := o
     obtain ⟨oc',VZ,WA,xq⟩ := o'
     simp only at h2 h3 k2 k3
     subst h2 h3 k2 k3
     have n1:vs.size = xs.length:=by simpa using ReadsAll.length _ _ _ h4
     have n2:tH.size = ys.length:=by simpa using ReadsAll.length _ _ _ k4
     intro prog w E Q h
     refine richCompare_meets_room (op := .Gt) ⟨_,h1,rfl⟩ ⟨_,k1,rfl⟩ F.slot_tuple_gt F.entry_tuple_gt (F.args_tuple_gt_2 _ _) (f8 l l' vs tH n n' od VZ iG xq (pairEq xs ys) (aQ xs ys)) ⟨h1,k1,fun j j1 j2=>?_,fun j j1 j2 f1 f2=>?_,fun f=>?_,(fun z=>nomatch z),h⟩ (room_here hu)
     ·have:=eqAt_readsAll xs ys A.in1 s vs.toList tH.toList _ _ h4 k4 ha hb (room_in hu) j (by simpa using j1) (by simpa using j2)
      simpa using this
     ·have:=eP xs ys A.in1 s vs.toList tH.toList _ _ h4 k4 ha hb hc (room_in hu) j (by simpa using j1) (by simpa using j2) f1 f2
      simpa using this
     ·rw [n1,n2] at f ⊢
      exact Og xs ys f
  | none=>exact hc.elim
  | bool _=>exact hc.elim
  | str _=>exact hc.elim
  | list _=>exact hc.elim
  | int _=>exact hc.elim
  | dict _=>exact hc.elim
 | .none,_,_,_,_,_,_,_,_,_,_,_,hc,_=>hc.elim
 | .bool _,_,_,_,_,_,_,_,_,_,_,_,hc,_=>hc.elim
 | .str _,_,_,_,_,_,_,_,_,_,_,_,hc,_=>hc.elim
 | .list _,_,_,_,_,_,_,_,_,_,_,_,hc,_=>hc.elim
 | .dict _,_,_,_,_,_,_,_,_,_,_,_,hc,_=>hc.elim
theorem eP : ∀ (xs ys : List PyData) (A : Around) (s : Shared) (vs ws : List Value) (as bs : List Addr), ReadsAll s.heap vs xs as -> ReadsAll s.heap ws ys bs -> PyData.canLayAll0 xs = true -> PyData.canLayAll0 ys = true -> aK xs ys ->
  A.units + min (PyData.depthAll xs) (PyData.depthAll ys) < cLine -> ∀ j (h1:j < vs.length) (h2:j < ws.length),(∀ i,i < j -> pairEq xs ys i = true) -> pairEq xs ys j = false -> ez A s vs[j] ws[j] (aQ xs ys)
 | [],_,_,_,_,_,_,_,ra,_,_,_,_,_,j,h1,_,_,_=>by cases ra; exact absurd h1 (Nat.not_lt_zero _)
 | _ :: _,[],_,_,_,_,_,_,_,rb,_,_,_,_,j,_,h2,_,_=>by cases rb; exact absurd h2 (Nat.not_lt_zero _)
 | x :: xs,y :: ys,A,s,_,_,_,_,ra,rb,ca,cb,hc,hu,j,h1,h2,f1,f2=>by
  cases ra with
  | cons r1 r2 =>
   cases rb with
   | cons q1 q2 =>
    have v8:x.canLay0 = true /\ PyData.canLayAll0 xs = true:=by simpa [PyData.canLayAll0] using ca
    have v9:y.canLay0 = true /\ PyData.canLayAll0 ys = true:=by simpa [PyData.canLayAll0] using cb
    have hd:A.units + min x.depth y.depth < cLine /\ A.units + min (PyData.depthAll xs) (PyData.depthAll ys) < cLine:=by
     simp only [PyData.depthAll] at hu
     omega
    cases j with
    | zero =>
     have e:aQ (x :: xs) (y :: ys) = X2 x y:=by
      have f3:PyData.eqv x y = false:=f2
      rw [aQ,f3]
      rfl
     rw [e]
     exact S2 x y A s _ _ _ _ r1 q1 v8.1 v9.1 hc.1 hd.1
    | succ j =>
     have e:aQ (x :: xs) (y :: ys) = aQ xs ys:=by
      have f3:PyData.eqv x y = true:=f1 0 (Nat.succ_pos _)
      rw [aQ,f3]
      rfl
     rw [e]
     exact eP xs ys A s _ _ _ _ r2 q2 v8.2 v9.2 hc.2 hd.2 j (Nat.lt_of_succ_lt_succ h1) (Nat.lt_of_succ_lt_succ h2) (fun i hi=>f1 (i + 1) (Nat.succ_lt_succ hi)) f2
end
section
variable {X:Cx} {k:Nat}
def u8:R2:=fun x y H Q=>∃ d e:PyData,Rp H d x /\ Rp H e y /\ Gc d e /\ d.depth <= 60 /\ Q (.bl (X2 d e)) H
end
open PySem PySem.Spec PyProof.Rows PySem.SeqAt
theorem Ed (bt:Nat -> Nat -> Bool) (j:Nat):argBest bt (j + 1) = if bt (j + 1) (argBest bt j) = true then j + 1 else argBest bt j:=by
 first
  | rfl
  | (show (if bt (j + 1) (argBest bt j) then j + 1 else argBest bt j) = _; rfl)
section
variable {prog:Program} {w:World} {A:Around} {R:Result -> Shared -> Prop} {I S:Addr} {fp wr:List Addr} {St:Nat -> Heap -> Prop} {aA:Array Value} {bt:Nat -> Nat -> Bool} {Good:Heap -> Prop}
theorem Pw {a : Args} {s : Shared} (h : wpAny (model prog w) A.in1 (Builtin.«min.loop» a) (fun fin s' => match fin with
   | .done f=>R (.ok f) s'
   | .again c'=>c'.quiet = true /\ codeAny (model prog w) A c' R s') (fun e s'=>R (.error e) s') s):codeAny (model prog w) A (.builtin "min.loop" a) R s:=by
 refine codeAny_builtin F.entry_min_loop ?_; rw [Around.under_plainId F.plain_min_loop _]
 exact h
theorem bn (W : Walks prog w A.in1 I fp wr aA.size (fun i v => aA[i]? = some v) St) (hG : ∀ h h', Good h -> (∀ b o, b ∉ wr -> b ≠ S -> h.get? b = some o -> h'.get? b = some o) -> Good h')
  (hc:∀ i j vi vj (s:Shared),Good s.heap -> aA[i]? = some vi -> aA[j]? = some vj -> ∀ E Q,Q (.bool (bt i j)) s -> wpAny (model prog w) A.in1 (richCompare .Lt vi vj) Q E s) (lZ:S ∉ fp) :
  ∀ (k j:Nat) (s:Shared) (vb:Value) (c:Nat),aA.size = j + 1 + k -> St (j + 1) s.heap -> Good s.heap -> aA[argBest bt j]? = some vb ->
  s.heap.get? S = some { cls := .type "list",dict:=none,data := .seq #[vb,vb] c,slots := #[] } ->
  (∀ v h' tk,aA[argBest bt (aA.size - 1)]? = some v -> (∀ b o,b ∉ wr -> b ≠ S -> s.heap.get? b = some o -> h'.get? b = some o) -> R (.ok (.ret v)) { s with heap:=h',toks:=tk }) ->
  codeAny (model prog w) A (.builtin "min.loop" ⟨[.ref I,.none,.ref S],[]⟩) R s:=by
 have tJ:S ∉ wr:=fun z=>lZ (W.sub _ z)
 have nm:(toString "min" ++ toString ".loop" : String) = "min.loop" := by decide
 intro k
 induction k with
 | zero =>
  intro j s vb c hk cE hg nO hS hR
  refine Pw ?_
  refine wpAny_bind ( wpAny_seqItems hS rfl ?_)
  show wpAny (model prog w) A.in1 (tryCatch (pyNext (.ref I)) _ >>= _) _ _ s
  have ej:j + 1 = aA.size:=by omega
  refine wpAny_bind (wpAny_tryCatch (W.done s _ _ (ej ▸ cE) fun h1 hU k1=>?_))
  have hX:=k1 S _ tJ hS
  show wpAny (model prog w) A.in1 (updateSeq S (fun _=>#[]) >>= _) _ _ _
  refine wpAny_bind ?_
  refine wpAny_updateSeq hX rfl (wpAny_bind (wpAny_letGo (wpAny_pure ?_)))
  have e2:aA.size - 1 = j:=by omega
  exact hR vb _ hU (by rw [e2]; exact nO) fun b o z1 z2 e=>(Heap.get?_update_other _ _ (Ne.symm z2)).trans (k1 b o z1 e)
 | succ k ih =>
  intro j s vb c hk cE hg nO hS hR
  refine Pw ?_
  refine wpAny_bind ( wpAny_seqItems hS rfl ?_)
  show wpAny (model prog w) A.in1 (tryCatch (pyNext (.ref I)) _ >>= _) _ _ s
  refine wpAny_bind (wpAny_tryCatch (W.item (j + 1) s _ _ (by omega) cE fun v h1 hU hP bB k1=>?_))
  have hX:=k1 S _ tJ hS
  have hV:Good h1:=hG _ _ hg fun b o z1 _ e=>k1 b o z1 e
  refine wpAny_bind (wpAny_pure ?_)
  refine wpAny_bind (wpAny_tryCatch (wpAny_holding (wpAny_bind ?_)))
  refine hc (j + 1) (argBest bt j) v vb { s with heap:=h1,toks:=hU } hV hP nO _ _ ?_
  refine wpAny_bind (wpAny_holding (wpAny_truthy_bool ?_))
  refine wpAny_bind (wpAny_letGo (wpAny_pure ?_))
  have eb:=Ed bt j
  cases hb:bt (j + 1) (argBest bt j) with
  | true =>
   rw [hb,if_pos rfl] at eb
   simp only [if_true]
   refine wpAny_bind ?_
   refine wpAny_updateSeq hX rfl (wpAny_bind (wpAny_letGo ?_))
   rw [nm]
   refine wpAny_pure ⟨plainId_quiet F.plain_min_loop _,ih (j + 1) _ v _ (by omega) (W.frame _ _ _ bB fun b z o e=>?_) (hG _ _ hV fun b o z1 z2 e=>(Heap.get?_update_other _ _ (Ne.symm z2)).trans e) (by rw [eb]; exact hP) (Heap.get?_update_self _ hX rfl) fun v2 h2 nP top2 k2=>?_⟩
   ·exact (Heap.get?_update_other _ _ (fun y:S = b=>lZ (by rw [y]; exact z))).trans e
   ·exact hR v2 h2 nP top2 fun b o z1 z2 e=>k2 b o z1 z2 ((Heap.get?_update_other _ _ (Ne.symm z2)).trans (k1 b o z1 e))
  | false =>
   rw [hb,if_neg Bool.false_ne_true] at eb
   simp only [Bool.false_eq_true,if_false]
   refine wpAny_bind (wpAny_letGo ?_)
   rw [nm]
   refine wpAny_pure ⟨plainId_quiet F.plain_min_loop _,ih (j + 1) _ vb c (by omega) bB hV (by rw [eb]; exact nO) hX fun v2 h2 nP top2 k2=>?_⟩
   exact hR v2 h2 nP top2 fun b o z1 z2 e=>k2 b o z1 z2 (k1 b o z1 e)
theorem Ue (W : Walks prog w A.in1 I fp wr aA.size (fun i v => aA[i]? = some v) St) (hG : ∀ h h', Good h -> (∀ b o, b ∉ wr -> b ≠ S -> h.get? b = some o -> h'.get? b = some o) -> Good h')
  (hc:∀ i j vi vj (s:Shared),Good s.heap -> aA[i]? = some vi -> aA[j]? = some vj -> ∀ E Q,Q (.bool (bt i j)) s -> wpAny (model prog w) A.in1 (richCompare .Lt vi vj) Q E s) (lZ:S ∉ fp) {s:Shared} {c:Nat} (cE:St 0 s.heap) (hg:Good s.heap)
  (hS:s.heap.get? S = some { cls := .type "list",dict:=none,data := .seq #[] c,slots := #[] }) (hn:0 < aA.size)
  (hR:∀ v h' tk,aA[argBest bt (aA.size - 1)]? = some v -> (∀ b o,b ∉ wr -> b ≠ S -> s.heap.get? b = some o -> h'.get? b = some o) -> R (.ok (.ret v)) { s with heap:=h',toks:=tk }) :
  codeAny (model prog w) A (.builtin "min.loop" ⟨[.ref I,.none,.ref S],[]⟩) R s:=by
 have tJ:S ∉ wr:=fun z=>lZ (W.sub _ z)
 have nm:(toString "min" ++ toString ".loop" : String) = "min.loop" := by decide
 refine Pw ?_
 refine wpAny_bind ( wpAny_seqItems hS rfl ?_)
 show wpAny (model prog w) A.in1 (tryCatch (pyNext (.ref I)) _ >>= _) _ _ s
 refine wpAny_bind (wpAny_tryCatch (W.item 0 s _ _ hn cE fun v h1 hU hP bB k1=>?_))
 have hX:=k1 S _ tJ hS
 have hV:Good h1:=hG _ _ hg fun b o z1 _ e=>k1 b o z1 e
 show wpAny (model prog w) A.in1 (updateSeq S (fun _=>#[v,v]) >>= _) _ _ _
 refine wpAny_bind ?_
 refine wpAny_updateSeq hX rfl ?_
 rw [nm]
 refine wpAny_pure ⟨plainId_quiet F.plain_min_loop _,bn W hG hc lZ (aA.size - 1) 0 _ v _ (by omega) (W.frame _ _ _ bB fun b z o e=>?_) (hG _ _ hV fun b o z1 z2 e=>(Heap.get?_update_other _ _ (Ne.symm z2)).trans e) hP (Heap.get?_update_self _ hX rfl) fun v2 h2 nP top2 k2=>?_⟩
 ·exact (Heap.get?_update_other _ _ (fun y:S = b=>lZ (by rw [y]; exact z))).trans e
 ·exact hR v2 h2 nP top2 fun b o z1 z2 e=>k2 b o z1 z2 ((Heap.get?_update_other _ _ (Ne.symm z2)).trans (k1 b o z1 e))
end
section
variable {prog:Program} {w:World} {A:Around} {R:Result -> Shared -> Prop} {I S:Addr} {fp wr:List Addr} {St:Nat -> Heap -> Prop} {aA:Array Value} {bt:Nat -> Nat -> Bool} {Good:Heap -> Prop}
theorem Ox {a : Args} {s : Shared} (h : wpAny (model prog w) A.in1 (Builtin.«max.loop» a) (fun fin s' => match fin with
   | .done f=>R (.ok f) s'
   | .again c'=>c'.quiet = true /\ codeAny (model prog w) A c' R s') (fun e s'=>R (.error e) s') s):codeAny (model prog w) A (.builtin "max.loop" a) R s:=by
 refine codeAny_builtin F.entry_max_loop ?_; rw [Around.under_plainId F.plain_max_loop _]
 exact h
theorem ag (W : Walks prog w A.in1 I fp wr aA.size (fun i v => aA[i]? = some v) St) (hG : ∀ h h', Good h -> (∀ b o, b ∉ wr -> b ≠ S -> h.get? b = some o -> h'.get? b = some o) -> Good h')
  (hc:∀ i j vi vj (s:Shared),Good s.heap -> aA[i]? = some vi -> aA[j]? = some vj -> ∀ E Q,Q (.bool (bt i j)) s -> wpAny (model prog w) A.in1 (richCompare .Gt vi vj) Q E s) (lZ:S ∉ fp) :
  ∀ (k j:Nat) (s:Shared) (vb:Value) (c:Nat),aA.size = j + 1 + k -> St (j + 1) s.heap -> Good s.heap -> aA[argBest bt j]? = some vb ->
  s.heap.get? S = some { cls := .type "list",dict:=none,data := .seq #[vb,vb] c,slots := #[] } ->
  (∀ v h' tk,aA[argBest bt (aA.size - 1)]? = some v -> (∀ b o,b ∉ wr -> b ≠ S -> s.heap.get? b = some o -> h'.get? b = some o) -> R (.ok (.ret v)) { s with heap:=h',toks:=tk }) ->
  codeAny (model prog w) A (.builtin "max.loop" ⟨[.ref I,.none,.ref S],[]⟩) R s:=by
 have tJ:S ∉ wr:=fun z=>lZ (W.sub _ z)
 have nm:(toString "max" ++ toString ".loop" : String) = "max.loop" := by decide
 intro k
 induction k with
 | zero =>
  intro j s vb c hk cE hg nO hS hR
  refine Ox ?_
  refine wpAny_bind ( wpAny_seqItems hS rfl ?_)
  show wpAny (model prog w) A.in1 (tryCatch (pyNext (.ref I)) _ >>= _) _ _ s
  have ej:j + 1 = aA.size:=by omega
  refine wpAny_bind (wpAny_tryCatch (W.done s _ _ (ej ▸ cE) fun h1 hU k1=>?_))
  have hX:=k1 S _ tJ hS
  show wpAny (model prog w) A.in1 (updateSeq S (fun _=>#[]) >>= _) _ _ _
  refine wpAny_bind ?_
  refine wpAny_updateSeq hX rfl (wpAny_bind (wpAny_letGo (wpAny_pure ?_)))
  have e2:aA.size - 1 = j:=by omega
  exact hR vb _ hU (by rw [e2]; exact nO) fun b o z1 z2 e=>(Heap.get?_update_other _ _ (Ne.symm z2)).trans (k1 b o z1 e)
 | succ k ih =>
  intro j s vb c hk cE hg nO hS hR
  refine Ox ?_
  refine wpAny_bind ( wpAny_seqItems hS rfl ?_)
  show wpAny (model prog w) A.in1 (tryCatch (pyNext (.ref I)) _ >>= _) _ _ s
  refine wpAny_bind (wpAny_tryCatch (W.item (j + 1) s _ _ (by omega) cE fun v h1 hU hP bB k1=>?_))
  have hX:=k1 S _ tJ hS
  have hV:Good h1:=hG _ _ hg fun b o z1 _ e=>k1 b o z1 e
  refine wpAny_bind (wpAny_pure ?_)
  refine wpAny_bind (wpAny_tryCatch (wpAny_holding (wpAny_bind ?_)))
  refine hc (j + 1) (argBest bt j) v vb { s with heap:=h1,toks:=hU } hV hP nO _ _ ?_
  refine wpAny_bind (wpAny_holding (wpAny_truthy_bool ?_))
  refine wpAny_bind (wpAny_letGo (wpAny_pure ?_))
  have eb:=Ed bt j
  cases hb:bt (j + 1) (argBest bt j) with
  | true =>
   rw [hb,if_pos rfl] at eb
   simp only [if_true]
   refine wpAny_bind ?_
   refine wpAny_updateSeq hX rfl (wpAny_bind (wpAny_letGo ?_))
   rw [nm]
   refine wpAny_pure ⟨plainId_quiet F.plain_max_loop _,ih (j + 1) _ v _ (by omega) (W.frame _ _ _ bB fun b z o e=>?_) (hG _ _ hV fun b o z1 z2 e=>(Heap.get?_update_other _ _ (Ne.symm z2)).trans e) (by rw [eb]; exact hP) (Heap.get?_update_self _ hX rfl) fun v2 h2 nP top2 k2=>?_⟩
   ·exact (Heap.get?_update_other _ _ (fun y:S = b=>lZ (by rw [y]; exact z))).trans e
   ·exact hR v2 h2 nP top2 fun b o z1 z2 e=>k2 b o z1 z2 ((Heap.get?_update_other _ _ (Ne.symm z2)).trans (k1 b o z1 e))
  | false =>
   rw [hb,if_neg Bool.false_ne_true] at eb
   simp only [Bool.false_eq_true,if_false]
   refine wpAny_bind (wpAny_letGo ?_)
   rw [nm]
   refine wpAny_pure ⟨plainId_quiet F.plain_max_loop _,ih (j + 1) _ vb c (by omega) bB hV (by rw [eb]; exact nO) hX fun v2 h2 nP top2 k2=>?_⟩
   exact hR v2 h2 nP top2 fun b o z1 z2 e=>k2 b o z1 z2 (k1 b o z1 e)
theorem Tr (W : Walks prog w A.in1 I fp wr aA.size (fun i v => aA[i]? = some v) St) (hG : ∀ h h', Good h -> (∀ b o, b ∉ wr -> b ≠ S -> h.get? b = some o -> h'.get? b = some o) -> Good h')
  (hc:∀ i j vi vj (s:Shared),Good s.heap -> aA[i]? = some vi -> aA[j]? = some vj -> ∀ E Q,Q (.bool (bt i j)) s -> wpAny (model prog w) A.in1 (richCompare .Gt vi vj) Q E s) (lZ:S ∉ fp) {s:Shared} {c:Nat} (cE:St 0 s.heap) (hg:Good s.heap)
  (hS:s.heap.get? S = some { cls := .type "list",dict:=none,data := .seq #[] c,slots := #[] }) (hn:0 < aA.size)
  (hR:∀ v h' tk,aA[argBest bt (aA.size - 1)]? = some v -> (∀ b o,b ∉ wr -> b ≠ S -> s.heap.get? b = some o -> h'.get? b = some o) -> R (.ok (.ret v)) { s with heap:=h',toks:=tk }) :
  codeAny (model prog w) A (.builtin "max.loop" ⟨[.ref I,.none,.ref S],[]⟩) R s:=by
 have tJ:S ∉ wr:=fun z=>lZ (W.sub _ z)
 have nm:(toString "max" ++ toString ".loop" : String) = "max.loop" := by decide
 refine Ox ?_
 refine wpAny_bind ( wpAny_seqItems hS rfl ?_)
 show wpAny (model prog w) A.in1 (tryCatch (pyNext (.ref I)) _ >>= _) _ _ s
 refine wpAny_bind (wpAny_tryCatch (W.item 0 s _ _ hn cE fun v h1 hU hP bB k1=>?_))
 have hX:=k1 S _ tJ hS
 have hV:Good h1:=hG _ _ hg fun b o z1 _ e=>k1 b o z1 e
 show wpAny (model prog w) A.in1 (updateSeq S (fun _=>#[v,v]) >>= _) _ _ _
 refine wpAny_bind ?_
 refine wpAny_updateSeq hX rfl ?_
 rw [nm]
 refine wpAny_pure ⟨plainId_quiet F.plain_max_loop _,ag W hG hc lZ (aA.size - 1) 0 _ v _ (by omega) (W.frame _ _ _ bB fun b z o e=>?_) (hG _ _ hV fun b o z1 z2 e=>(Heap.get?_update_other _ _ (Ne.symm z2)).trans e) hP (Heap.get?_update_self _ hX rfl) fun v2 h2 nP top2 k2=>?_⟩
 ·exact (Heap.get?_update_other _ _ (fun y:S = b=>lZ (by rw [y]; exact z))).trans e
 ·exact hR v2 h2 nP top2 fun b o z1 z2 e=>k2 b o z1 z2 ((Heap.get?_update_other _ _ (Ne.symm z2)).trans (k1 b o z1 e))
end
open PySem PySem.Spec PyProof.Rows PySem.SeqAt
theorem J5 {H:Hp}:∀ {ds:List PyData} {us:List V} {i:Nat} {d:PyData},aB H ds us -> ds[i]? = some d -> ∃ u,us[i]? = some u /\ Rp H d u
 | [],_,i,d,_,e=>by simp at e
 | x :: ds,us,0,d,h,e=>by
  unfold aB at h
  obtain ⟨u,cF,rfl,h1,_⟩ := h
  cases e
  exact ⟨u,rfl,h1⟩
 | x :: ds,us,i + 1,d,h,e=>by
  unfold aB at h
  obtain ⟨u,cF,rfl,_,h2⟩ := h
  obtain ⟨u2,e1,e2⟩ := J5 (i:=i) h2 (by simpa using e)
  exact ⟨u2,by simpa using e1,e2⟩
theorem Fb {H:Hp}:∀ {ds:List PyData} {us:List V},aB H ds us -> us.length = ds.length
 | [],us,h=>by
  unfold aB at h
  rw [h]
  rfl
 | x :: ds,us,h=>by
  unfold aB at h
  obtain ⟨u,cF,rfl,_,h2⟩ := h
  rw [List.length_cons,List.length_cons,Fb h2]
theorem Ih {xs:List V} {us:List Value} {i:Nat} {u:Value} (r:Ay xs us) (h:us[i]? = some u):∃ x,xs[i]? = some x /\ Aw x u:=by
 have hi:=(List.getElem?_eq_some_iff.mp h).1
 have hl:=r.length
 obtain ⟨u2,e1,e2⟩ := r.get (List.getElem?_eq_getElem (show i < xs.length by omega))
 rw [h] at e1
 cases e1
 exact ⟨_,List.getElem?_eq_getElem (by omega),e2⟩
section
variable {X:Cx} {k:Nat}
theorem Wh (a:Value):argsOk "min" ⟨[a],[]⟩ := by
 unfold argsOk
 kernel_rfl
def Kh (ds:List PyData):Nat:=argBest (fun i j=>Gy (ds.getD i .none) (ds.getD j .none)) (ds.length - 1)
theorem ik {pins : List (Addr × Obj)} {s : Shared} {σ : St} {H : Hp} {us : List V} {aA : List Value} {ds : List PyData} (hr : Dc k X.A) (I : Ai X pins σ H s) (rv : Ay us aA) (hd : aB H ds us) (mB : ∀ d ∈ ds, ∀ e ∈ ds, Gc d e) (xx : ∀ d ∈ ds, d.depth <= 50) (i j : Nat) (vi vj : Value) (s' : Shared)
  (hk:∀ b o,s.heap.get? b = some o -> s'.heap.get? b = some o) (h1:aA.toArray[i]? = some vi) (h2:aA.toArray[j]? = some vj) (E Q:Value -> Shared -> Prop) (q:Q (.bool (Gy (ds.getD i .none) (ds.getD j .none))) s'):wpAny (model X.prog X.w) X.A.in1 (richCompare .Lt vi vj) Q E s':=by
 have hl:=Fb hd
 have get:∀ (m:Nat) (vm:Value),aA.toArray[m]? = some vm -> ∃ x,Aw x vm /\ Rp H (ds.getD m .none) x /\ ds.getD m .none ∈ ds:=fun m vm h=>by
  obtain ⟨x,e1,e2⟩ := Ih rv (by simpa using h)
  have hm:m < ds.length:=by
   have:=(List.getElem?_eq_some_iff.mp e1).1
   omega
  have e3:ds[m]? = some (ds.getD m .none):=by
   rw [List.getD_eq_getElem?_getD,List.getElem?_eq_getElem hm]
   rfl
  obtain ⟨x2,f1,f2⟩ := J5 hd e3
  rw [e1] at f1
  cases f1
  exact ⟨x,e2,f2,List.mem_of_getElem? e3⟩
 obtain ⟨x,rx,px,mx⟩ := get i vi h1
 obtain ⟨y,ry,py,my⟩ := get j vj h2
 have I':Ai X pins σ H { s with heap:=s'.heap,toks:=s'.toks }:=I.kept (t':=s'.toks) hk
 obtain ⟨as,q1⟩ := Cv I' _ x vi px rx
 obtain ⟨bs,q2⟩ := Cv I' _ y vj py ry
 have hu:=hr.units
 have d1:=xx _ mx
 exact Ib _ _ X.A.in1 s' vi vj as bs q1 q2 (Cu _ x px) (Cu _ y py) (mB _ mx _ my) (by show X.A.units + 1 + _ < _; omega) _ _ _ _ q
def n0 (K:PySem.W.Frag):List V -> Hp -> VK -> Prop:=fun xs H Q=>∃ (p:Addr) (us:List V) (ds:List PyData),xs = [.ref p] /\ Ba K H p us /\ aB H ds us /\ 0 < us.length /\ (∀ d ∈ ds,∀ e ∈ ds,Gc d e) /\ (∀ d ∈ ds,d.depth <= 50) /\ ∀ v,us[Kh ds]? = some v -> Q v H
theorem Wo (K:PySem.W.Frag) (hr:Dc k X.A) (hc:X.calm = true) (hK:X.K = K:=by rfl):Dl X (.builtin "min") (n0 K):=by
 subst hK
 intro pins s σ H xs WE Q I r h
 obtain ⟨p,us,ds,rfl,hq,hd,cY,mB,xx,q⟩ := h
 obtain ⟨u,rfl,rx⟩ := I9 r
 cases rx
 obtain ⟨aA,rv,pl,hz⟩ := I.list hq
 have hl:=Fb hd
 have hil:=rv.length
 have nm:(toString "min" ++ toString ".loop" : String) = "min.loop" := by decide
 refine Oo (args:=⟨[.ref p],[]⟩) F.kind_min F.plain_min F.entry_min (Wh _) ?_
 show wpAny (model X.prog X.w) X.A.in1 (Builtin.Builtins.bindParams "min" ["key","default"] 0 ⟨[],[]⟩ >>= _) _ _ s
 refine wpAny_bind (wpAny_of_eq (show Builtin.Builtins.bindParams "min" ["key","default"] 0 ⟨[],[]⟩ = pure [none,none] from ?_) ?_)
 ·kernel_rfl
 refine wpAny_bind (wpAny_pure ?_)
 refine wpAny_bind (wpAny_pyIter_list pl.isList ?_)
 refine wpAny_bind (wpAny_newObj_type ?_)
 rw [nm]
 refine wpAny_pure ⟨plainId_quiet F.plain_min_loop _,?_⟩
 have nQ:p < s.heap.objs.size:=pl.lt
 have W:=Walks.list (prog:=X.prog) (w:=X.w) (A:=X.A.in1) (I.ok.hd hc) s.heap.objs.size p (Nat.ne_of_lt nQ) aA.toArray
 have hsz:(s.heap.push { cls := .type "list_iterator",data := .fields #[.ref p,.int 0 0] }).objs.size = s.heap.objs.size + 1:=by simp [Heap.push]
 refine Ue (S:=(s.heap.push { cls := .type "list_iterator",data := .fields #[.ref p,.int 0 0] }).objs.size) (bt:=fun i j=>Gy (ds.getD i .none) (ds.getD j .none)) (Good:=fun h=>∀ b o,s.heap.get? b = some o -> h.get? b = some o) W (fun h h' g kk b o e=>kk b o ?_ ?_ (g b o e)) (fun i j vi vj s' g h1 h2 E Q' q'=>ik hr I rv hd mB xx i j vi vj s' g h1 h2 E Q' q') ?_ ⟨⟨_,Heap.get?_push_of_some _ (Heap.get?_push_size _ rfl),rfl,rfl⟩,?_⟩ (fun b o e=>Heap.get?_push_of_some _ (Heap.get?_push_of_some _ e)) (Heap.get?_push_size _ rfl) (by simp; omega) (fun v h' tk e kk=>?_)
 ·exact fun z=>Nat.ne_of_lt (Heap.lt_size e) (by simpa using z)
 ·rw [hsz]
  exact Nat.ne_of_lt (Nat.lt_succ_of_lt (Heap.lt_size e))
 ·rw [hsz]
  intro z
  have z':s.heap.objs.size + 1 = s.heap.objs.size \/ s.heap.objs.size + 1 = p:=by simpa using z
  rcases z' with z' | z'
  ·exact Nat.succ_ne_self _ z'
  ·exact Nat.lt_irrefl _ (Nat.lt_trans (Nat.lt_succ_self _) (z'.symm ▸ nQ:s.heap.objs.size + 1 < s.heap.objs.size))
 ·obtain ⟨o,ho,r1⟩ := pl.isList
  exact ⟨o,Heap.get?_push_of_some _ (Heap.get?_push_of_some _ ho),r1⟩
 ·have WH : aA.toArray.size - 1 = ds.length - 1 := by
   simp
   omega
  rw [WH] at e
  obtain ⟨x,e1,e2⟩ := Ih rv (by simpa using e)
  refine ⟨x,H,I.kept (t':=tk) (fun b o z=>kk b o ?_ ?_ (Heap.get?_push_of_some _ (Heap.get?_push_of_some _ z))),e2,q x e1⟩
  ·exact fun y=>Nat.ne_of_lt (Heap.lt_size z) (by simpa using y)
  ·rw [hsz]
   exact Nat.ne_of_lt (Nat.lt_succ_of_lt (Heap.lt_size z))
def sh:List V -> Hp -> VK -> Prop:=fun xs H Q=>∃ (x y:V) (d e:PyData),xs = [x,y] /\ Rp H d x /\ Rp H e y /\ (∀ a ∈ [d,e],∀ b ∈ [d,e],Gc a b) /\ d.depth <= 50 /\ e.depth <= 50 /\ Q (if Gy e d = true then y else x) H
end
section
variable {X:Cx} {k:Nat}
theorem Wy (a:Value):argsOk "max" ⟨[a],[]⟩ := by
 unfold argsOk
 kernel_rfl
def Ds (ds:List PyData):Nat:=argBest (fun i j=>X2 (ds.getD i .none) (ds.getD j .none)) (ds.length - 1)
theorem dr {pins : List (Addr × Obj)} {s : Shared} {σ : St} {H : Hp} {us : List V} {aA : List Value} {ds : List PyData} (hr : Dc k X.A) (I : Ai X pins σ H s) (rv : Ay us aA) (hd : aB H ds us) (mB : ∀ d ∈ ds, ∀ e ∈ ds, Gc d e) (xx : ∀ d ∈ ds, d.depth <= 50) (i j : Nat) (vi vj : Value) (s' : Shared)
  (hk:∀ b o,s.heap.get? b = some o -> s'.heap.get? b = some o) (h1:aA.toArray[i]? = some vi) (h2:aA.toArray[j]? = some vj) (E Q:Value -> Shared -> Prop) (q:Q (.bool (X2 (ds.getD i .none) (ds.getD j .none))) s'):wpAny (model X.prog X.w) X.A.in1 (richCompare .Gt vi vj) Q E s':=by
 have hl:=Fb hd
 have get:∀ (m:Nat) (vm:Value),aA.toArray[m]? = some vm -> ∃ x,Aw x vm /\ Rp H (ds.getD m .none) x /\ ds.getD m .none ∈ ds:=fun m vm h=>by
  obtain ⟨x,e1,e2⟩ := Ih rv (by simpa using h)
  have hm:m < ds.length:=by
   have:=(List.getElem?_eq_some_iff.mp e1).1
   omega
  have e3:ds[m]? = some (ds.getD m .none):=by
   rw [List.getD_eq_getElem?_getD,List.getElem?_eq_getElem hm]
   rfl
  obtain ⟨x2,f1,f2⟩ := J5 hd e3
  rw [e1] at f1
  cases f1
  exact ⟨x,e2,f2,List.mem_of_getElem? e3⟩
 obtain ⟨x,rx,px,mx⟩ := get i vi h1
 obtain ⟨y,ry,py,my⟩ := get j vj h2
 have I':Ai X pins σ H { s with heap:=s'.heap,toks:=s'.toks }:=I.kept (t':=s'.toks) hk
 obtain ⟨as,q1⟩ := Cv I' _ x vi px rx
 obtain ⟨bs,q2⟩ := Cv I' _ y vj py ry
 have hu:=hr.units
 have d1:=xx _ mx
 exact S2 _ _ X.A.in1 s' vi vj as bs q1 q2 (Cu _ x px) (Cu _ y py) (mB _ mx _ my) (by show X.A.units + 1 + _ < _; omega) _ _ _ _ q
def mm (K:PySem.W.Frag):List V -> Hp -> VK -> Prop:=fun xs H Q=>∃ (p:Addr) (us:List V) (ds:List PyData),xs = [.ref p] /\ Ba K H p us /\ aB H ds us /\ 0 < us.length /\ (∀ d ∈ ds,∀ e ∈ ds,Gc d e) /\ (∀ d ∈ ds,d.depth <= 50) /\ ∀ v,us[Ds ds]? = some v -> Q v H
theorem Xe (K:PySem.W.Frag) (hr:Dc k X.A) (hc:X.calm = true) (hK:X.K = K:=by rfl):Dl X (.builtin "max") (mm K):=by
 subst hK
 intro pins s σ H xs WE Q I r h
 obtain ⟨p,us,ds,rfl,hq,hd,cY,mB,xx,q⟩ := h
 obtain ⟨u,rfl,rx⟩ := I9 r
 cases rx
 obtain ⟨aA,rv,pl,hz⟩ := I.list hq
 have hl:=Fb hd
 have hil:=rv.length
 have nm:(toString "max" ++ toString ".loop" : String) = "max.loop" := by decide
 refine Oo (args:=⟨[.ref p],[]⟩) F.kind_max F.plain_max F.entry_max (Wy _) ?_
 show wpAny (model X.prog X.w) X.A.in1 (Builtin.Builtins.bindParams "max" ["key","default"] 0 ⟨[],[]⟩ >>= _) _ _ s
 refine wpAny_bind (wpAny_of_eq (show Builtin.Builtins.bindParams "max" ["key","default"] 0 ⟨[],[]⟩ = pure [none,none] from ?_) ?_)
 ·kernel_rfl
 refine wpAny_bind (wpAny_pure ?_)
 refine wpAny_bind (wpAny_pyIter_list pl.isList ?_)
 refine wpAny_bind (wpAny_newObj_type ?_)
 rw [nm]
 refine wpAny_pure ⟨plainId_quiet F.plain_max_loop _,?_⟩
 have nQ:p < s.heap.objs.size:=pl.lt
 have W:=Walks.list (prog:=X.prog) (w:=X.w) (A:=X.A.in1) (I.ok.hd hc) s.heap.objs.size p (Nat.ne_of_lt nQ) aA.toArray
 have hsz:(s.heap.push { cls := .type "list_iterator",data := .fields #[.ref p,.int 0 0] }).objs.size = s.heap.objs.size + 1:=by simp [Heap.push]
 refine Tr (S:=(s.heap.push { cls := .type "list_iterator",data := .fields #[.ref p,.int 0 0] }).objs.size) (bt:=fun i j=>X2 (ds.getD i .none) (ds.getD j .none)) (Good:=fun h=>∀ b o,s.heap.get? b = some o -> h.get? b = some o) W (fun h h' g kk b o e=>kk b o ?_ ?_ (g b o e)) (fun i j vi vj s' g h1 h2 E Q' q'=>dr hr I rv hd mB xx i j vi vj s' g h1 h2 E Q' q') ?_ ⟨⟨_,Heap.get?_push_of_some _ (Heap.get?_push_size _ rfl),rfl,rfl⟩,?_⟩ (fun b o e=>Heap.get?_push_of_some _ (Heap.get?_push_of_some _ e)) (Heap.get?_push_size _ rfl) (by simp; omega) (fun v h' tk e kk=>?_)
 ·exact fun z=>Nat.ne_of_lt (Heap.lt_size e) (by simpa using z)
 ·rw [hsz]
  exact Nat.ne_of_lt (Nat.lt_succ_of_lt (Heap.lt_size e))
 ·rw [hsz]
  intro z
  have z':s.heap.objs.size + 1 = s.heap.objs.size \/ s.heap.objs.size + 1 = p:=by simpa using z
  rcases z' with z' | z'
  ·exact Nat.succ_ne_self _ z'
  ·exact Nat.lt_irrefl _ (Nat.lt_trans (Nat.lt_succ_self _) (z'.symm ▸ nQ:s.heap.objs.size + 1 < s.heap.objs.size))
 ·obtain ⟨o,ho,r1⟩ := pl.isList
  exact ⟨o,Heap.get?_push_of_some _ (Heap.get?_push_of_some _ ho),r1⟩
 ·have WH : aA.toArray.size - 1 = ds.length - 1 := by
   simp
   omega
  rw [WH] at e
  obtain ⟨x,e1,e2⟩ := Ih rv (by simpa using e)
  refine ⟨x,H,I.kept (t':=tk) (fun b o z=>kk b o ?_ ?_ (Heap.get?_push_of_some _ (Heap.get?_push_of_some _ z))),e2,q x e1⟩
  ·exact fun y=>Nat.ne_of_lt (Heap.lt_size z) (by simpa using y)
  ·rw [hsz]
   exact Nat.ne_of_lt (Nat.lt_succ_of_lt (Heap.lt_size z))
def re:List V -> Hp -> VK -> Prop:=fun xs H Q=>∃ (x y:V) (d e:PyData),xs = [x,y] /\ Rp H d x /\ Rp H e y /\ (∀ a ∈ [d,e],∀ b ∈ [d,e],Gc a b) /\ d.depth <= 50 /\ e.depth <= 50 /\ Q (if X2 e d = true then y else x) H
end
section
variable {prog:Program} {w:World} {K:Type} [DecidableEq K] {knd:HeapKind prog w K} {A:Around} {E:Value -> Shared -> Prop} {s:Shared} {d:Addr} {xs:List (K × Addr × Value)}
theorem Sa (knd : HeapKind prog w K) (hd : (d == sysModules) = false) :
  MeetsIn prog w (Builtin.«dict.__len__» ⟨[.ref d],[]⟩) (fun _ R s=>∃ xs,s.heap.DictOfH knd d xs /\ R (.ok (.ret (.int xs.length s.toks))) { s with toks:=s.toks + 1 }) :=
 .of_wp fun A R s ⟨xs,hm,h⟩=>by
  obtain ⟨o,es,ep,ho,hc,WI,he,GO,hn⟩ := hm
  show wpAny _ _ (dictSize d >>= _) _ _ s
  unfold dictSize
  refine wpAny_bind (wpAny_bind (wpAny_dictEntries ho WI (wpAny_pure ?_)))
  show wpAny _ _ (Builtin.Dict.pendingCount d >>= _) _ _ s
  refine wpAny_bind (wpAny_pendingCount_other hd ?_)
  refine wpAny_ret_mkInt ?_
  have e:es.size = xs.length:=size_of_entries he
  rw [Nat.add_zero,e]
  exact h
theorem X6 {Q : Value -> Shared -> Prop} (hd : (d == sysModules) = false) (hm : s.heap.DictOfH knd d xs) (sW : (xs.length : Int) < 2 ^ 63)
  (h:Q (.int xs.length (s.toks + 1)) { s with toks:=s.toks + 1 + 1 }):wpAny (model prog w) A (Builtin.«len» ⟨[.ref d],[]⟩) (fun fin s'=>∃ r,fin = .done (.ret r) /\ Q r s') E s:=by
 unfold Builtin.«len»
 refine wpAny_bind (m:=oneArg "len" _) (wpAny_pure ?_)
 refine wpAny_bind (m:=callSpecial? (.ref d) (Str.ofString "__len__")) (wpAny_callSpecial?_slot (name:=Str.ofString "__len__") hm.typeIs F.slot_dict_len
  (call_meetsIn F.slot_dict_len hm.typeIs F.entry_dict_len (F.args_dict_len_1 _) (Sa knd hd) ⟨xs,hm,?_⟩))
 show wpAny _ _ _ _ _ { s with toks:=s.toks + 1 }
 refine wpAny_bind (wpAny_holding (wpAny_pure ?_))
 refine wpAny_bind (wpAny_letGo ?_)
 show wpAny _ _ (if ((xs.length:Nat):Int) < 0 then _ else _) _ _ _
 rw [if_neg (by omega)]
 show wpAny _ _ (if ((xs.length:Nat):Int) >= 2 ^ 63 then _ else _) _ _ _
 rw [if_neg (by omega)]
 exact wpAny_bind (wpAny_mkInt (wpAny_pure ⟨_,rfl,h⟩))
theorem qi {Q : Value -> Shared -> Prop} (hd : (d == sysModules) = false) (hm : s.heap.DictOfH knd d xs) (sW : (xs.length : Int) < 2 ^ 63)
  (h:Q (.int xs.length (s.toks + 1)) { s with toks:=s.toks + 1 + 1 }):wpAny (model prog w) A (call (.builtin "len") [.ref d]) Q E s :=
 Calls.call_function_entry kind_len plain_len entry_len (args_len1 _) (X6 hd hm sW h)
end
section
variable {X:Cx}
theorem On:Dl X (.builtin "len") (fun xs H Q=>∃ d kvs,xs = [.ref d] /\ H d = some (.dT kvs) /\ Q (.int kvs.length) H):=by
 intro pins s σ H xs us Q I r h
 obtain ⟨d,kvs,rfl,hd,q⟩ := h
 obtain ⟨u,rfl,rx⟩ := I9 r
 cases rx
 obtain ⟨z0,hs,vs,rel,dd⟩ := Xl I.aC hd
 have hl:=Paired.length rel
 have h24:sizeLine < 2 ^ 30:=by decide
 refine qi hs dd (by omega) ⟨.int kvs.length,H,I.tok _,⟨_,by rw [hl]⟩,q⟩
end
section
variable {X:Cx} {pos:Pos} {ke ve:Expr} {tk tv:TE}
def ot (tk tv:TE):TE:=fun σ H Q=>∀ p,H p = none -> Pk [(tk,tv)] σ (upd H p (.dT [])) fun ps H2=>H2 p = some (.dT []) /\ ∃ b k y,ps = [(.ref b,y)] /\ Dt H2 b k /\ Q (.ref p) (upd H2 p (.dT [(k,y)]))
end
section
variable {P:Program} {w:World} {A:Around} {E:Value -> Shared -> Prop} {s:Shared}
end
section
variable {X:Cx}
def qd (P:Program) (w:World):List V -> Hp -> VK -> Prop:=fun xs H Q=>∃ (D:Addr) (kvs:List ((List Int × Int) × V)),xs = [.ref D] /\ H D = some (.dT kvs) /\ (kvs.map fun kv=>Go P w kv.1).Nodup /\ ∀ d,H d = none -> Q (.ref d) (upd H d (.dT kvs))
end
section
variable {X:Cx} {pins:List (Addr × Obj)} {σ:St} {H:Hp} {s:Shared} {k:Nat}
theorem Qv (I:Ai X pins σ H s) {d:PyData}:∀ {ds:List PyData} {vs:List V} {us:List Value},aB H ds vs -> Ay vs us -> ds.length = us.length /\ ∀ (m:Nat) (w:Value) (e:PyData),us[m]? = some w -> ds[m]? = some e -> Hz s.heap d w = PyData.eqv e d
 | [],vs,us,h,r=>by
  unfold aB at h
  subst h
  cases r
  exact ⟨rfl,fun m w e z=>by simp at z⟩
 | e :: ds,vs,us,h,r=>by
  unfold aB at h
  obtain ⟨x,xs,rfl,h1,h2⟩ := h
  cases r with
  | cons r1 r2 =>
   obtain ⟨as,q⟩ := Gu I h1 r1
   obtain ⟨l,ih⟩ := Qv I h2 r2
   refine ⟨by rw [List.length_cons,List.length_cons,l],fun m w e' z1 z2=>?_⟩
   cases m with
   | zero =>
    rw [List.getElem?_cons_zero] at z1 z2
    cases z1
    cases z2
    exact Kw q (Cu e x h1)
   | succ m =>
    rw [List.getElem?_cons_succ] at z1 z2
    exact ih m w e' z1 z2
def bz (K:PySem.W.Frag):V -> List V -> Hp -> VK -> Prop:=fun x vs H Q=>∃ (l:Addr) (us:List V) (y:V) (d:PyData) (ds:List PyData) (j:Nat),x = .ref l /\ vs = [y] /\ Ba K H l us /\ Rp H d y /\ aB H ds us /\ d.depth <= 50 /\ (∃ e,ds[j]? = some e /\ PyData.eqv e d = true) /\ (∀ m e,m < j -> ds[m]? = some e -> PyData.eqv e d = false) /\ Q (.int (j:Nat)) H
theorem Wp (hr:Dc k X.A):k0 X "list.index" (bz X.K):=by
 intro pins s σ H x vs v us Q I rx rv h
 obtain ⟨l,ys,y,d,ds,j,rfl,rfl,hq,hy,hall,hdep,⟨e0,hj,WJ⟩,vg,q⟩ := h
 cases rx
 obtain ⟨u,rfl,ru⟩ := rv.one
 obtain ⟨aA,r,pl,hz⟩ := I.list hq
 obtain ⟨⟨oc,od,VY,iG⟩,n,e,hc,hd,hs⟩ := pl
 obtain rfl:oc = .type "list" := hc
 obtain rfl:VY = .seq aA.toArray n:=hs
 have hlen:=r.length
 have hu:=hr.units
 obtain ⟨sE,kT⟩ := Qv (d:=d) I hall r
 have hjn:j < ds.length:=(List.getElem?_eq_some_iff.mp hj).1
 have h63:=Ho
 refine call_meets F.slot_list_index ⟨_,e,rfl⟩ F.entry_list_index (F.args_list_index_2 _ _) (PySem.SeqAt.list_indexAt l aA.toArray n od iG u (Hz s.heap d) j (by rw [List.size_toArray]; omega) ?_ ?_ ?_) ⟨e,fun z WK=>?_,?_⟩
 ·omega
 ·have hj2:j < aA.length:=by omega
  have e1:aA.toArray[j]'(by rw [List.size_toArray]; omega) = aA[j]:=by simp
  rw [e1,kT j aA[j] e0 (List.getElem?_eq_getElem hj2) hj]
  exact WJ
 ·intro m hm hmj
  rw [List.size_toArray] at hm
  have e1:aA.toArray[m]'(by rw [List.size_toArray]; omega) = aA[m]:=by simp
  rw [e1,kT m aA[m] ds[m] (List.getElem?_eq_getElem hm) (List.getElem?_eq_getElem (by omega))]
  exact vg m _ hmj (List.getElem?_eq_getElem (by omega))
 ·exact L7 I hy ru (by show X.A.units + 1 + d.depth < cLine; omega) hall r z (by simpa using WK)
 ·exact ⟨.int (j:Nat),H,I.tok _,⟨_,rfl⟩,q⟩
end
section
variable {P:Program} {w:World} {A:Around} {E:Value -> Shared -> Prop} {s:Shared}
theorem aq {d : Addr} {o : Obj} {es : Array DictEntry} {ep : Nat} {Q : Value -> Shared -> Prop} (hs : (d == sysModules) = false) (ho : s.heap.get? d = some o) (hx : o.ExactDict) (bG : o.data = .dict es ep)
  (h:Q (.ref s.heap.objs.size) { s with heap:=s.heap.push { cls := .type "dict_keyiterator",data := .fields #[.ref d,.int 0 0,.int es.size 0,.int ep 0] } }):wpAny (model P w) A (pyIter (.ref d)) Q E s:=by
 have hT:s.TypeIs (.ref d) "dict" := ⟨o,ho,hx.1⟩
 refine wpAny_pyIter_slot hT F.slot_dict_iter (wpAny_call_entry F.slot_dict_iter hT F.entry_dict_iter ?_ (F.args_dict_iter_1 _))
 unfold Builtin.«dict.__iter__» Builtin.Dict.dictSlotNone Builtin.Dict.showsAll
 refine wpAny_bind (wpAny_bind (wpAny_notOrdered_dict hT (wpAny_of_eq (a:=Value.ref d) rfl ?_)))
 show wpAny _ _ ((if (d == sysModules) = true then _ else _) >>= _) _ _ s
 rw [hs,if_neg Bool.false_ne_true]
 refine wpAny_bind (wpAny_pure (wpAny_bind (wpAny_dictEntries ho bG (wpAny_bind (wpAny_dictEpoch ho bG ?_)))))
 exact wpAny_bind (wpAny_newObj_type (wpAny_pure ⟨_,rfl,"dict_keyiterator",_,⟨_,Heap.get?_push_size _ rfl,rfl⟩,F.slot_dict_keyiterator_next.lookup,h⟩))
theorem Zz {it d : Addr} {i ep : Nat} {es : Array DictEntry} {od : Obj} {Q : Option Value -> Shared -> Prop} (hit : s.heap.IsKeyIter it d i es.size ep) (dZ : s.heap.get? d = some od) (bG : od.data = .dict es ep) {en : DictEntry} (he : es[i]? = some en)
  (hQ:∀ h',h'.IsKeyIter it d (i + 1) es.size ep -> Heap.SameBut it s.heap h' -> Q (some en.key) { s with heap:=h' }):wpAny (model P w) A (pyNext (.ref it)) Q E s:=by
 obtain ⟨o,ho,hc,hd⟩ := id hit
 have hT:=hit.typeIs
 have own:Builtin.Dict_items.ownsTuple "dict_keyiterator" = false:=by decide
 unfold pyNext
 refine wpAny_bind (wpAny_attempt (wpAny_callSpecial?_slot (name:=Str.ofString "__next__") hT F.slot_dict_keyiterator_next (wpAny_call_entry F.slot_dict_keyiterator_next hT F.entry_dict_keyiterator_next ?_ (F.args_dict_keyiterator_next_1 _))))
 refine wpAny_bind (wpAny_pure (wpAny_bind (wpAny_bind (wpAny_bind (wpAny_typeNameOfWhole_keyiter hT (wpAny_pure (wpAny_bind (wpAny_fieldsOf ho hd ?_))))))))
 simp only [own,Bool.false_eq_true,if_false]; show wpAny _ _ (if (Value.ref d == Value.none) = true then _ else _) _ _ s
 rw [if_neg (show ¬ (Value.ref d == Value.none) = true from Bool.false_ne_true)]; refine wpAny_bind (wpAny_pure (wpAny_bind (wpAny_dictEntries dZ bG ?_)))
 rw [if_neg (show ¬ ((es.size:Int) != (es.size:Int)) = true by simp)]; refine wpAny_bind (wpAny_pure (wpAny_bind (wpAny_dictEpoch dZ bG ?_)))
 rw [if_neg (show ¬ ((ep:Int) != (ep:Int)) = true by simp)]; refine wpAny_pure ?_
 simp only [show ¬ ((i:Int) < 0) by omega,if_false,Int.toNat_natCast,he]
 refine wpAny_bind (wpAny_bind (wpAny_typeNameOfWhole_keyiter hT (wpAny_pure (wpAny_bind (wpAny_isOneOf_keyiter hT ?_)))))
 show wpAny _ _ (setField (.ref it) 1 (rawInt ((i:Int) + 1)) >>= _) _ _ s
 refine wpAny_bind (wpAny_setField ho hd (by simp) ?_)
 have aH:(s.heap.update it (Obj.mapFields (·.setIfInBounds 1 (rawInt ((i:Int) + 1))))).IsKeyIter it d (i + 1) es.size ep :=
  ⟨_,Heap.get?_update_self _ ho (Obj.isFreed_of_fields (Obj.data_mapFields hd _)),(Obj.cls_mapFields ..).trans hc,by rw [Obj.data_mapFields hd]; simp [rawInt]⟩
 refine wpAny_bind (wpAny_holding (wpAny_bind (wpAny_isOneOf_keyiter (s:={ s with heap:=s.heap.update it (Obj.mapFields (·.setIfInBounds 1 (rawInt ((i:Int) + 1)))) }) aH.typeIs ?_)))
 show wpAny _ _ (pure en.key) _ _ _
 exact wpAny_pure (wpAny_pure ⟨_,rfl,wpAny_pure (hQ _ aH (Heap.SameBut.update ..))⟩)
theorem i7 {it d : Addr} {i ep : Nat} {es : Array DictEntry} {od : Obj} {Q : Option Value -> Shared -> Prop} (hh : A.handled = none) (hit : s.heap.IsKeyIter it d i es.size ep) (dZ : s.heap.get? d = some od) (bG : od.data = .dict es ep) (he : es[i]? = none)
  (hQ:∀ h',Heap.ExtBut it s.heap h' -> Q none { s with heap:=h' }):wpAny (model P w) A (pyNext (.ref it)) Q E s:=by
 obtain ⟨o,ho,hc,hd⟩ := id hit
 have hT:=hit.typeIs
 have own:Builtin.Dict_items.ownsTuple "dict_keyiterator" = false:=by decide
 unfold pyNext
 refine wpAny_bind (wpAny_attempt (wpAny_callSpecial?_slot (name:=Str.ofString "__next__") hT F.slot_dict_keyiterator_next (wpAny_call_entry F.slot_dict_keyiterator_next hT F.entry_dict_keyiterator_next ?_ (F.args_dict_keyiterator_next_1 _))))
 refine wpAny_bind (wpAny_pure (wpAny_bind (wpAny_bind (wpAny_bind (wpAny_typeNameOfWhole_keyiter hT (wpAny_pure (wpAny_bind (wpAny_fieldsOf ho hd ?_))))))))
 simp only [own,Bool.false_eq_true,if_false]; show wpAny _ _ (if (Value.ref d == Value.none) = true then _ else _) _ _ s
 rw [if_neg (show ¬ (Value.ref d == Value.none) = true from Bool.false_ne_true)]; refine wpAny_bind (wpAny_pure (wpAny_bind (wpAny_dictEntries dZ bG ?_)))
 rw [if_neg (show ¬ ((es.size:Int) != (es.size:Int)) = true by simp)]; refine wpAny_bind (wpAny_pure (wpAny_bind (wpAny_dictEpoch dZ bG ?_)))
 rw [if_neg (show ¬ ((ep:Int) != (ep:Int)) = true by simp)]; refine wpAny_pure ?_
 simp only [show ¬ ((i:Int) < 0) by omega,if_false,Int.toNat_natCast,he]
 refine wpAny_bind (wpAny_bind (wpAny_typeNameOfWhole_keyiter hT (wpAny_pure ?_)))
 show wpAny _ _ (setField (.ref it) 0 Value.none >>= _) _ _ s
 refine wpAny_bind (wpAny_setField ho hd (by simp) ?_)
 generalize hg:Heap.update s.heap it (Obj.mapFields (·.setIfInBounds 0 Value.none)) = h2
 have eb:Heap.ExtBut it s.heap h2:=by
  rw [<- hg]
  exact fun b ob hb e=>(Heap.get?_update_other _ _ (Ne.symm hb)).trans e
 show wpAny (model P w) _ (newExc (.type "StopIteration") [] >>= _) _ _ { s with heap:=h2 }
 refine wpAny_bind ?_; simp only [newExc,newTuple]
 refine wpAny_bind (wpAny_newObj_type (T := "tuple") ?_ (by size_fits))
 refine wpAny_bind (m:=firstArgMember _ _) (wpAny_of_eq (a:=Value.none) (by first | rfl | simp only [firstArgMember]) ?_)
 refine wpAny_newObj_type (T := "StopIteration") ?_ (by size_fits)
 simp only [raiseNew]; refine wpAny_bind (wpAny_handled ?_)
 first | rw [show A.in1.handled = Option.none from hh] | rw [hh]
 refine wpAny_bind (wpAny_pure (wpAny_throw ?_)); refine wpAny_bind (wpAny_isInstance (T := "StopIteration") (b:=true) ⟨_,Heap.get?_push_size _ rfl,rfl⟩ isSubtype_stop ?_)
 exact wpAny_pure (hQ _ ((eb.push _).push _))
end
def nl (d:Addr) (o:Obj) (u:HO):It :=
 ⟨fun i H=>H d = some (.aP o u) /\ i < Cd u,fun i H v H'=>H' = H /\ ∃ y,jj u H i v y,fun i H=>H d = some (.aP o u) /\ Cd u <= i⟩
theorem X4 {P : Program} {w : World} {K : PySem.W.Frag} {tg : Expr} {it d : Addr} {o : Obj} {u : HO} {es : Array DictEntry} {ep : Nat} (hu : Hy u) (hd : o.data = .dict es ep) :
  S4 P w K tg (nl d o u) [it] it (fun i h=>h.IsKeyIter it d i es.size ep) where
 mem:=by simp
 obj:=fun i h st b hb=>by
  have e:b = it:=by simpa using hb
  subst e
  obtain ⟨ob,e1,_,e3⟩ := st
  exact ⟨ob,e1,fun v z=>by rw [e3] at z; cases z⟩
 keep:=fun i h h' st k=>st.at fun ob e=>k it (by simp) ob e
 item:=by
  intro X hP hw hK hc i pins s σ H E I hf st ⟨hV,GR⟩
  subst hP hw hK
  obtain ⟨ho,aC⟩ := I.aC d _ hV
  obtain ⟨hsz,kT⟩ := Pb aC hu ho hd
  obtain ⟨e,x,y,e1,rx,ry,hi⟩ := kT i GR
  refine Zz st ho hd e1 fun h' aE sb=>?_
  obtain ⟨ob,e2,c2,d2⟩ := id aE
  exact ⟨_,rfl,Us (s:={ s with heap:=h' }) e2 c2 d2 (by decide) ⟨x,H,I.dG (t':=s.toks) (ch:=[it]) hf (fun c ob hc e=>(sb.2 c (by simpa using hc)).trans e),rx,⟨rfl,y,hi⟩,aE,fun b hb=>(hf b hb).1⟩⟩
 done:=by
  intro X hP hw hK hc i pins s σ H E I hf st ⟨hV,GR⟩
  subst hP hw hK
  obtain ⟨ho,aC⟩ := I.aC d _ hV
  obtain ⟨hsz,kT⟩ := Pb aC hu ho hd
  exact i7 (I.ok.hd hc) st ho hd (Array.getElem?_eq_none (by omega)) fun h' eb=>⟨rfl,I.dG (t':=s.toks) (ch:=[it]) hf fun c ob hc e=>eb c ob (by simpa using hc) e⟩
 self:=fun A i s Q E st hQ=>wpAny_pyIter_keyiter st hQ
section
variable {X:Cx}
def mv (td:TE):TI:=fun σ H R=>td σ H fun x H1=>∃ d u,x = .ref d /\ Hy u /\ H1 d = some u /\ ∀ o,R (nl d o u) (upd H1 d (.aP o u))
theorem ci {tg e:Expr} {td:TE} (he:PE X e td):PI X tg e (mv td):=by
 intro pins s σ H R I h
 refine Ca (he pins s σ H _ I h) fun v s1 aJ=>?_
 obtain ⟨x,H1,I1,r1,d,u,ex,hu,hd,q⟩ := aJ
 subst ex
 obtain rfl:v = Value.ref d:=r1
 obtain ⟨o,ho,I2⟩ := I1.aP hd hu
 obtain ⟨es,ep,hx,bG,xv⟩ : ∃ es ep,o.ExactDict /\ o.data = .dict es ep /\ (d == sysModules) = false:=by
  have aC:=I1.aC d u hd
  cases u with
  | dT kvs =>
   obtain ⟨_,y,xs,r,o',lR,lS,h1,h2,h3,_⟩ := aC
   rw [ho] at h1
   cases h1
   exact ⟨lR,lS,h2,h3,y⟩
  | dK kvs =>
   obtain ⟨_,y,vs,r,o',lR,lS,h1,h2,h3,_⟩ := aC
   rw [ho] at h1
   cases h1
   exact ⟨lR,lS,h2,h3,y⟩
  | _=>exact hu.elim
 refine aq xv ho hx bG ?_
 refine ⟨_,[_],_,nl d o u,upd H1 d (.aP o u),rfl,I2.kept (t':=s1.toks) (fun b ob z=>Heap.get?_push_of_some _ z),X4 (es:=es) (ep:=ep) hu bG,⟨_,Heap.get?_push_size _ rfl,rfl,rfl⟩,fun c hc=>?_,q o⟩
 have hle:s1.heap.objs.size <= c:=by
  have:c = s1.heap.objs.size:=by simpa using hc
  rw [this]
  exact Nat.le_refl _
 exact I2.jT hle (I2.aC.fresh hle)
end
theorem X8 {o : Obj} {u : HO} {d : Addr} {fr : List Nat} {te : TE} {σ : St} {D : Addr} {H1 : Hp} {Q : Hp -> Prop} (Pv : Nat -> List V -> Hp -> Prop) (h0 : Pv 0 [] (upd H1 D (.lst [])))
  (hl:∀ i zs H,i <= Cd u -> Pv i zs H -> H d = some (.aP o u))
  (hs:∀ i x y zs H,i < Cd u -> jj u H i x y -> Pv i zs H -> ∀ Qe:VK,(∀ v H5,H5 D = some (.lst zs) -> zs.length < sizeLine -> Pv (i + 1) (zs ++ [v]) (upd H5 D (.lst (zs ++ [v]))) -> Qe v H5) -> te (some x :: D7 fr σ) H Qe)
  (hd:∀ zs H,Pv (Cd u) zs H -> Q H):Dv 1 fr (nl d o u) (Fd 0) L6 te σ D H1 Q:=by
 refine ⟨fun i m zs H=>m = Cd u - i /\ i <= Cd u /\ Pv i zs H,⟨Cd u,by simp,Nat.zero_le _,h0⟩,?_⟩
 rintro i m zs H' ⟨rfl,hi,p⟩
 have q1:=hl i zs H' hi p
 by_cases aI:i < Cd u
 ·refine .inr ⟨⟨q1,aI⟩,fun v H2 y=>?_⟩
  obtain ⟨e,z,e1⟩ := y
  subst e
  refine ⟨⟨[some v],rfl,rfl⟩,?_⟩
  simp only [L6,↓reduceIte]
  exact hs i v z zs _ aI e1 p _ fun y H5 hD hz pv=>⟨hD,hz,Cd u - (i + 1),by omega,rfl,aI,pv⟩
 ·have e:i = Cd u:=by omega
  subst e
  exact .inl ⟨⟨q1,Nat.le_refl _⟩,hd zs H' p⟩
def nk:Expr -> Bool
 | .Starred _ _=>false
 | _=>true
section
variable {X:Cx} {e:Expr} {es:List Expr} {te:TE} {t:TA}
theorem E4 {u u':TE} (h:PE X e u) (hu:u = u':=by rfl):PE X e u':=hu ▸ h
theorem Dk {tg:Expr} {w w':TI} (h:PI X tg e w) (hw:w = w':=by rfl):PI X tg e w':=hw ▸ h
def jr (K:PySem.W.Frag):List V -> Hp -> VK -> Prop:=fun xs H Q=>∃ p ys,xs = [.ref p] /\ ((Ba K H p ys /\ ∀ l,H l = none -> Q (.ref l) (upd H l (.tup ys))) \/ (C7 K H p ys /\ Q (.ref p) H))
theorem Cw (K:PySem.W.Frag) (hK:X.K = K:=by rfl):Dl X (.type "tuple") (jr K):=by
 subst hK
 exact N1
end
def Il:Bool -> Keyed -> Array Keyed -> Nat -> Nat -> Nat -> StateT SortSt Sem (Option Nat):=sortPriv% PySem.Builtin.gallop
def Z6:Array Keyed -> Array Keyed -> StateT SortSt Sem (Array Keyed):=sortPriv% PySem.Builtin.mergeLo
def Y4:Array Keyed -> Array Keyed -> StateT SortSt Sem (Array Keyed):=sortPriv% PySem.Builtin.mergeHi
def fa (f:Keyed -> Nat) (a:Array Keyed) (i:Nat):Nat:=match a[i]? with
 | some p=>f p
 | none=>0
theorem Av {f:Keyed -> Nat} {a:Array Keyed} {i:Nat} {p:Keyed} (h:a[i]? = some p):fa f a i = f p:=by unfold fa; rw [h]
theorem Ef {f:Keyed -> Nat} {a b:Array Keyed} {i j:Nat} (h:a[i]? = b[j]?):fa f a i = fa f b j:=by unfold fa; rw [h]
def Hw (f:Keyed -> Nat) (a:Array Keyed) (lo hi:Nat):Prop := ∀ i j,lo <= i -> i <= j -> j < hi -> fa f a i <= fa f a j
section
variable {prog:Program} {w:World} {A:Around} {E:Value -> Shared -> Prop} {s:Shared} {κ:SortKind} {f:Keyed -> Nat} {a₀:Array Keyed} {st:SortSt}
def Hv (prog:Program) (w:World) (A:Around) (s:Shared) (κ:SortKind) (f:Keyed -> Nat) (a₀:Array Keyed):Prop := ∀ x y,x ∈ a₀ -> y ∈ a₀ -> ∀ (Q:Bool -> Shared -> Prop) (E:Value -> Shared -> Prop),Q (decide (f x < f y)) s -> wpAny (model prog w) A (keyLt' κ x.1 y.1) Q E s
structure Bs (κ:SortKind) (a₀:Array Keyed) (st:SortSt):Prop where
 perm:(arrOf st).Perm a₀
 kind:kindOf st = κ
 failed:failedOf st = none
theorem Bs.size (h:Bs κ a₀ st):(arrOf st).size = a₀.size:=h.perm.size_eq
theorem Bs.mem (h:Bs κ a₀ st) {i:Nat} {p:Keyed} (e:(arrOf st)[i]? = some p):p ∈ a₀:=h.perm.mem_iff.mp (Array.mem_of_getElem? e)
theorem M6 (hA:Hv prog w A s κ f a₀) (hk:kindOf st = κ) {x y:Keyed} (hx:x ∈ a₀) (hy:y ∈ a₀) {Q:Option Bool -> SortSt -> Prop} (h:Q (some (decide (f x < f y))) st):wpS (model prog w) A E s (lt' x y) Q st:=by
 rw [lt'_eq]
 refine wpS_bind (wpS_get ?_)
 rw [hk]
 refine wpS_bind (wpS_lift (wpAny_attempt (hA x y hx hy _ _ ⟨rfl,?_⟩)))
 exact wpS_pure h
theorem Bb {a:Array Keyed} {i:Nat} {p:Keyed} (e:a[i]? = some p) {Q:Keyed -> SortSt -> Prop} (h:Q p st):wpS (model prog w) A E s (elem' a i) Q st:=by
 rw [elem'_eq,e]
 exact wpS_pure h
theorem Bw {a:Array Keyed} {i:Nat} (h:i < a.size):∃ p,a[i]? = some p:=⟨a[i],getElem?_pos a i h⟩
theorem Gn (hA:Hv prog w A s κ f a₀) (hB:Bs κ a₀ st) {i j:Nat} (hi:i < a₀.size) (hj:j < a₀.size) {Q:Option Bool -> SortSt -> Prop} (h:Q (some (decide (fa f (arrOf st) i < fa f (arrOf st) j))) st):wpS (model prog w) A E s (ltAt' i j) Q st:=by
 obtain ⟨p,ep⟩ := Bw (a:=arrOf st) (i:=i) (by rw [hB.size]; exact hi)
 obtain ⟨q,eq⟩ := Bw (a:=arrOf st) (i:=j) (by rw [hB.size]; exact hj)
 rw [Av ep,Av eq] at h
 rw [ltAt'_eq]
 refine wpS_bind (wpS_get ?_)
 exact wpS_bind (Bb ep (wpS_bind (Bb eq (M6 hA hB.kind (hB.mem ep) (hB.mem eq) h))))
theorem Tn (hA : Hv prog w A s κ f a₀) (hk : kindOf st = κ) {left : Bool} {key : Keyed} {arr : Array Keyed} {i : Nat} (fD : key ∈ a₀) (mC : ∀ p, p ∈ arr -> p ∈ a₀) (hi : i < arr.size) {Q : Option Bool -> SortSt -> Prop}
  (h:Q (some (if left = true then decide (fa f arr i < f key) else !decide (f key < fa f arr i))) st):wpS (model prog w) A E s (elem' arr i >>= fun x=>if left = true then lt' x key else lt' key x >>= fun r=>pure (r.map fun b=>!b)) Q st:=by
 obtain ⟨p,ep⟩ := Bw hi
 rw [Av ep] at h
 refine wpS_bind (Bb ep ?_)
 have hp:=mC p (Array.mem_of_getElem? ep)
 cases left with
 | true=>exact M6 hA hk hp fD h
 | false=>exact wpS_bind (M6 hA hk fD hp (wpS_pure h))
theorem Dr (hA : Hv prog w A s κ f a₀) (hk : kindOf st = κ) {left : Bool} {key : Keyed} {arr : Array Keyed} {base n hint : Nat} (fD : key ∈ a₀) (mC : ∀ p, p ∈ arr -> p ∈ a₀) (hn : base + n <= arr.size) (hh : hint < n) (hs : Hw f arr base (base + n)) {Q : Option Nat -> SortSt -> Prop}
  (h:∀ k,k <= n -> (∀ i,i < k -> if left = true then fa f arr (base + i) < f key else fa f arr (base + i) <= f key) -> (∀ i,k <= i -> i < n -> if left = true then f key <= fa f arr (base + i) else f key < fa f arr (base + i)) -> Q (some k) st):wpS (model prog w) A E s (Il left key arr base n hint) Q st:=by
 obtain ⟨P,hP⟩ : ∃ P:Nat -> Bool,∀ i,P i = if left = true then decide (fa f arr (base + i) < f key) else !decide (f key < fa f arr (base + i)):=⟨_,fun _=>rfl⟩
 have mono:∀ i j,i <= j -> j < n -> P j = true -> P i = true:=fun i j h1 h2 h3=>by
  have h4:=hs (base + i) (base + j) (by omega) (by omega) (by omega)
  rw [hP] at h3 ⊢
  cases left <;> simp at h3 ⊢ <;> omega
 have tK:∀ i j,i <= j -> j < n -> P i = false -> P j = false:=fun i j h1 h2 h3=>by
  cases e:P j with
  | false=>rfl
  | true=>rw [mono i j h1 h2 e] at h3; cases h3
 have ask:∀ i,i < n -> ∀ {Q':Option Bool -> SortSt -> Prop},Q' (some (P i)) st -> wpS (model prog w) A E s (elem' arr (base + i) >>= fun x=>if left = true then lt' x key else lt' key x >>= fun r=>pure (r.map fun b=>!b)) Q' st:=fun i hi Q' hq=>by
  rw [hP] at hq
  exact Tn hA hk fD mC (by omega) hq
 have out:∀ k,k <= n -> (∀ i,i < k -> P i = true) -> (∀ i,k <= i -> i < n -> P i = false) -> Q (some k) st:=fun k h1 h2 h3=>by
  refine h k h1 (fun i hi=>?_) (fun i hi mU=>?_)
  ·have:=h2 i hi
   rw [hP] at this
   cases left <;> simp at this ⊢ <;> omega
  ·have:=h3 i hi mU
   rw [hP] at this
   cases left <;> simp at this ⊢ <;> omega
 refine wpS_bind (ask hint hh ?_)
 dsimp only
 cases hr:P hint with
 | true =>
  rw [if_pos rfl]
  refine wpS_bind (wpS_mono (wpS_forRange (I:=fun x c aE=>aE = st /\ ∃ l o,c = (none,l,o) /\ l < o /\ P (hint + l) = true /\ hint + l < n /\ x + 1 <= o) (Q:=fun c aE=>aE = st /\ ∃ l o,c = (none,l,o) /\ l < o /\ P (hint + l) = true /\ hint + l < n /\ (n - hint <= o \/ P (hint + o) = false)) ?_ ?_ ⟨rfl,0,1,rfl,by omega,hr,hh,by omega⟩) ?_)
  ·rintro x c aE _ hx ⟨rfl,l,o,rfl,h1,h2,h3,h4⟩
   dsimp only
   by_cases ho:o >= n - hint
   ·rw [if_pos ho]
    exact wpS_pure ⟨rfl,l,o,rfl,h1,h2,h3,.inl ho⟩
   ·rw [if_neg ho]
    refine wpS_bind (ask (hint + o) (by omega) ?_)
    dsimp only
    cases e:P (hint + o) with
    | false=>exact wpS_pure ⟨rfl,l,o,rfl,h1,h2,h3,.inr e⟩
    | true=>exact wpS_pure ⟨rfl,o,2 * o + 1,rfl,by omega,e,by omega,by omega⟩
  ·rintro c aE ⟨rfl,l,o,rfl,h1,h2,h3,h4⟩
   exact ⟨rfl,l,o,rfl,h1,h2,h3,.inl (by omega)⟩
  rintro c aE ⟨rfl,l,o,rfl,h1,h2,h3,h4⟩
  dsimp only
  refine wpS_bind (wpS_mono (wpS_forRange (I:=fun x c aH=>aH = aE /\ ∃ lo hi,c = (none,lo,hi) /\ lo <= hi /\ hi <= n /\ (∀ i,i < lo -> P i = true) /\ (∀ i,hi <= i -> i < n -> P i = false) /\ hi + x <= lo + n) (Q:=fun c aH=>aH = aE /\ ∃ k,c = (none,k,k) /\ k <= n /\ (∀ i,i < k -> P i = true) /\ (∀ i,k <= i -> i < n -> P i = false)) ?_ ?_ ⟨rfl,_,_,rfl,by omega,by omega,fun i hi=>?_,fun i hi mU=>?_,by omega⟩) ?_)
  ·rintro x c aH _ hx ⟨rfl,lo,hi,rfl,g1,g2,g3,g4,g5⟩
   dsimp only
   by_cases ho:lo >= hi
   ·rw [if_pos ho]
    obtain rfl:lo = hi:=by omega
    exact wpS_pure ⟨rfl,lo,rfl,g2,g3,g4⟩
   ·rw [if_neg ho]
    refine wpS_bind (ask (lo + (hi - lo) / 2) (by omega) ?_)
    dsimp only
    cases e:P (lo + (hi - lo) / 2) with
    | false =>
     refine wpS_pure ⟨rfl,lo,_,rfl,by omega,by omega,g3,fun i GS mU=>tK _ i GS mU e,by omega⟩
    | true =>
     refine wpS_pure ⟨rfl,_,hi,rfl,by omega,g2,fun i GS=>mono i _ (by omega) (by omega) e,g4,by omega⟩
  ·rintro c aH ⟨rfl,lo,hi,rfl,g1,g2,g3,g4,g5⟩
   obtain rfl:lo = hi:=by omega
   exact ⟨rfl,lo,rfl,g2,g3,g4⟩
  ·exact mono i (hint + l) (by omega) h3 h2
  ·rcases h4 with h4 | h4
   ·omega
   ·by_cases z:n - hint <= o
    ·omega
    ·exact tK (hint + o) i (by omega) mU h4
  rintro c aH ⟨rfl,k,rfl,g1,g2,g3⟩
  dsimp only
  exact wpS_pure (out k g1 g2 g3)
 | false =>
  rw [if_neg (by decide)]
  refine wpS_bind (wpS_mono (wpS_forRange (I:=fun x c aE=>aE = st /\ ∃ l o,c = (none,l,o) /\ l < o /\ P (hint - l) = false /\ l <= hint /\ x + 1 <= o) (Q:=fun c aE=>aE = st /\ ∃ l o,c = (none,l,o) /\ l < o /\ P (hint - l) = false /\ l <= hint /\ (hint + 1 <= o \/ P (hint - o) = true)) ?_ ?_ ⟨rfl,0,1,rfl,by omega,hr,by omega,by omega⟩) ?_)
  ·rintro x c aE _ hx ⟨rfl,l,o,rfl,h1,h2,h3,h4⟩
   dsimp only
   by_cases ho:o >= hint + 1
   ·rw [if_pos ho]
    exact wpS_pure ⟨rfl,l,o,rfl,h1,h2,h3,.inl ho⟩
   ·rw [if_neg ho]
    refine wpS_bind (ask (hint - o) (by omega) ?_)
    dsimp only
    cases e:P (hint - o) with
    | true=>exact wpS_pure ⟨rfl,l,o,rfl,h1,h2,h3,.inr e⟩
    | false=>exact wpS_pure ⟨rfl,o,2 * o + 1,rfl,by omega,e,by omega,by omega⟩
  ·rintro c aE ⟨rfl,l,o,rfl,h1,h2,h3,h4⟩
   exact ⟨rfl,l,o,rfl,h1,h2,h3,.inl (by omega)⟩
  rintro c aE ⟨rfl,l,o,rfl,h1,h2,h3,h4⟩
  dsimp only
  refine wpS_bind (wpS_mono (wpS_forRange (I:=fun x c aH=>aH = aE /\ ∃ lo hi,c = (none,lo,hi) /\ lo <= hi /\ hi <= n /\ (∀ i,i < lo -> P i = true) /\ (∀ i,hi <= i -> i < n -> P i = false) /\ hi + x <= lo + n) (Q:=fun c aH=>aH = aE /\ ∃ k,c = (none,k,k) /\ k <= n /\ (∀ i,i < k -> P i = true) /\ (∀ i,k <= i -> i < n -> P i = false)) ?_ ?_ ⟨rfl,_,_,rfl,by omega,by omega,fun i hi=>?_,fun i hi mU=>?_,by omega⟩) ?_)
  ·rintro x c aH _ hx ⟨rfl,lo,hi,rfl,g1,g2,g3,g4,g5⟩
   dsimp only
   by_cases ho:lo >= hi
   ·rw [if_pos ho]
    obtain rfl:lo = hi:=by omega
    exact wpS_pure ⟨rfl,lo,rfl,g2,g3,g4⟩
   ·rw [if_neg ho]
    refine wpS_bind (ask (lo + (hi - lo) / 2) (by omega) ?_)
    dsimp only
    cases e:P (lo + (hi - lo) / 2) with
    | false =>
     refine wpS_pure ⟨rfl,lo,_,rfl,by omega,by omega,g3,fun i GS mU=>tK _ i GS mU e,by omega⟩
    | true =>
     refine wpS_pure ⟨rfl,_,hi,rfl,by omega,g2,fun i GS=>mono i _ (by omega) (by omega) e,g4,by omega⟩
  ·rintro c aH ⟨rfl,lo,hi,rfl,g1,g2,g3,g4,g5⟩
   obtain rfl:lo = hi:=by omega
   exact ⟨rfl,lo,rfl,g2,g3,g4⟩
  ·rcases h4 with h4 | h4
   ·omega
   ·by_cases z:hint + 1 <= o
    ·omega
    ·exact mono i (hint - o) (by omega) (by omega) h4
  ·exact tK (hint - l) i (by omega) mU h2
  rintro c aH ⟨rfl,k,rfl,g1,g2,g3⟩
  dsimp only
  exact wpS_pure (out k g1 g2 g3)
end
section
variable {f:Keyed -> Nat}
def De (f:Keyed -> Nat) (l:List Keyed):Prop:=l.Pairwise fun p q=>f p <= f q
def Hb (f:Keyed -> Nat) (l m:List Keyed):Prop := ∀ p ∈ l,∀ q ∈ m,f p <= f q
theorem Gq {l m:List Keyed} (h1:De f l) (h2:De f m) (h3:Hb f l m):De f (l ++ m):=List.pairwise_append.mpr ⟨h1,h2,h3⟩
theorem Gg {l:List Keyed} (h:De f l) (n:Nat):De f (l.drop n):=h.sublist (List.drop_sublist n l)
theorem Gh {l:List Keyed} (h:De f l) (n:Nat):De f (l.take n):=h.sublist (List.take_sublist n l)
theorem Kk {l:List Keyed} (h:De f l) {i j:Nat} {p q:Keyed} (hi:l[i]? = some p) (hj:l[j]? = some q) (GU:i <= j):f p <= f q:=by
 obtain ⟨h1,e1⟩ := List.getElem?_eq_some_iff.mp hi
 obtain ⟨h2,e2⟩ := List.getElem?_eq_some_iff.mp hj
 rcases Nat.lt_or_ge i j with z | z
 ·have:=List.pairwise_iff_getElem.mp h i j h1 h2 z
  rw [e1,e2] at this
  exact this
 ·obtain rfl:i = j:=by omega
  rw [e1] at e2
  rw [e2]
  exact Nat.le_refl _
theorem Er {l:List Keyed} {i:Nat} {p:Keyed} (h:p ∈ l.drop i):∃ j,l[i + j]? = some p:=by
 obtain ⟨j,hj⟩ := List.mem_iff_getElem?.mp h
 rw [List.getElem?_drop] at hj
 exact ⟨j,hj⟩
theorem Eg {l:List Keyed} {i k:Nat} {p:Keyed} (h:p ∈ (l.drop i).take k):∃ j,j < k /\ l[i + j]? = some p:=by
 obtain ⟨j,hj⟩ := List.mem_iff_getElem?.mp h
 have hjk:j < k:=by
  have:=(List.getElem?_eq_some_iff.mp hj).1
  rw [List.length_take] at this
  omega
 rw [List.getElem?_take_of_lt hjk,List.getElem?_drop] at hj
 exact ⟨j,hjk,hj⟩
def MI (f:Keyed -> Nat) (x y:List Keyed) (i j:Nat) (o:List Keyed):Prop:=o.Perm (x.take i ++ y.take j) /\ De f o /\ Hb f o (x.drop i ++ y.drop j)
theorem Oq (l:List Keyed) (i k:Nat):l.take (i + k) = l.take i ++ (l.drop i).take k:=by rw [List.take_add]
theorem Hj (l:List Keyed) (i k:Nat):l.drop i = (l.drop i).take k ++ l.drop (i + k):=by
 have:=(List.take_append_drop k (l.drop i)).symm
 rw [List.drop_drop] at this
 exact this
theorem MI.iZ {x y o:List Keyed} {i j k:Nat} (h:MI f x y i j o) (hx:De f x) (hle:Hb f ((x.drop i).take k) (y.drop j)):MI f x y (i + k) j (o ++ (x.drop i).take k):=by
 obtain ⟨h1,h2,h3⟩ := h
 have hd:=Hj x i k
 refine ⟨?_,?_,?_⟩
 ·rw [Oq]
  refine (h1.append_right _).trans ?_
  rw [List.append_assoc,List.append_assoc]
  exact List.Perm.append_left _ List.perm_append_comm
 ·refine Gq h2 (Gh (Gg hx i) k) fun p hp q hq=>h3 p hp q (List.mem_append_left _ (List.mem_of_mem_take hq))
 ·intro p hp q hq
  rcases List.mem_append.mp hp with z | z
  ·rcases List.mem_append.mp hq with y' | y'
   ·refine h3 p z q (List.mem_append_left _ ?_)
    rw [hd]
    exact List.mem_append_right _ y'
   ·exact h3 p z q (List.mem_append_right _ y')
  ·rcases List.mem_append.mp hq with y' | y'
   ·have hs:=Gg hx i
    rw [hd] at hs
    exact (List.pairwise_append.mp hs).2.2 p z q y'
   ·exact hle p z q y'
theorem MI.swap {x y o:List Keyed} {i j:Nat} (h:MI f x y i j o):MI f y x j i o:=⟨h.1.trans List.perm_append_comm,h.2.1,fun p hp q hq=>h.2.2 p hp q (List.perm_append_comm.mem_iff.mp hq)⟩
theorem MI.GV {x y o:List Keyed} {i j k:Nat} (h:MI f x y i j o) (hy:De f y) (hle:Hb f ((y.drop j).take k) (x.drop i)):MI f x y i (j + k) (o ++ (y.drop j).take k):=(h.swap.iZ hy hle).swap
def Cs (f:Keyed -> Nat) (x y r:List Keyed):Prop:=r.Perm (x ++ y) /\ De f r
theorem MI.done {x y o:List Keyed} {i j:Nat} (h:MI f x y i j o) (hx:De f x) (hy:De f y) (hle:Hb f (x.drop i) (y.drop j)):Cs f x y (o ++ x.drop i ++ y.drop j):=by
 obtain ⟨h1,h2,h3⟩ := h
 refine ⟨?_,?_⟩
 ·rw [List.append_assoc]
  refine (h1.append_right _).trans ?_
  have e:x ++ y = (x.take i ++ x.drop i) ++ (y.take j ++ y.drop j):=by rw [List.take_append_drop,List.take_append_drop]
  rw [e,List.append_assoc,List.append_assoc]
  refine List.Perm.append_left _ ?_
  rw [<- List.append_assoc,<- List.append_assoc]
  exact List.Perm.append_right _ List.perm_append_comm
 ·rw [List.append_assoc]
  exact Gq h2 (Gq (Gg hx i) (Gg hy j) hle) h3
theorem MI.nR {x y o:List Keyed} {i j:Nat} (h:MI f x y i j o) (hx:De f x) (hy:De f y) (hle:Hb f (y.drop j) (x.drop i)):Cs f x y (o ++ y.drop j ++ x.drop i):=by
 obtain ⟨g1,g2⟩ := h.swap.done hy hx hle
 exact ⟨g1.trans List.perm_append_comm,g2⟩
theorem Q7 {l:List Keyed} {i:Nat} {p:Keyed} (h:l[i]? = some p):(l.drop i).take 1 = [p]:=by
 obtain ⟨h1,e⟩ := List.getElem?_eq_some_iff.mp h
 rw [List.drop_eq_getElem_cons h1,e]
 rfl
theorem MI.vh {x y o:List Keyed} {i j:Nat} {p q:Keyed} (h:MI f x y i j o) (hx:De f x) (hy:De f y) (hp:x[i]? = some p) (hq:y[j]? = some q) (hle:f p <= f q):MI f x y (i + 1) j (o ++ [p]):=by
 rw [<- Q7 hp]
 refine h.iZ hx fun a ha b hb=>?_
 rw [Q7 hp] at ha
 cases List.mem_singleton.mp ha
 obtain ⟨k,hk⟩ := Er hb
 exact Nat.le_trans hle (Kk hy hq hk (by omega))
theorem MI.GW {x y o:List Keyed} {i j:Nat} {p q:Keyed} (h:MI f x y i j o) (hx:De f x) (hy:De f y) (hp:x[i]? = some p) (hq:y[j]? = some q) (hle:f q <= f p):MI f x y i (j + 1) (o ++ [q]):=(h.swap.vh hy hx hq hp hle).swap
end
section
variable {f:Keyed -> Nat} {a b o:Array Keyed} {i j k:Nat}
theorem K8 (a:Array Keyed) (i:Nat):(a.extract i).toList = a.toList.drop i:=by
 rw [Array.toList_extract]
 show (a.toList.drop i).take (a.size - i) = _
 rw [List.take_of_length_le (by rw [List.length_drop,Array.length_toList]; omega)]
theorem Gv (a:Array Keyed) (i k:Nat):(a.extract i (i + k)).toList = (a.toList.drop i).take k:=by
 simp [List.extract]
theorem Pf (a:Array Keyed) (k:Nat):(a.extract 0 k).toList = a.toList.take k:=by simp
theorem MI.aR (h:MI f a.toList b.toList i j o.toList) (hx:De f a.toList) (hy:De f b.toList) (e:j = b.size \/ i = a.size):Cs f a.toList b.toList (o ++ a.extract i ++ b.extract j).toList:=by
 rw [Array.toList_append,Array.toList_append,K8,K8]
 refine h.done hx hy ?_
 rcases e with e | e
 ·rw [List.drop_of_length_le (l:=b.toList) (by rw [Array.length_toList]; omega)]
  intro p _ q hq
  cases hq
 ·rw [List.drop_of_length_le (l:=a.toList) (by rw [Array.length_toList]; omega)]
  intro p hp
  cases hp
theorem MI.fH (h:MI f a.toList b.toList i j o.toList) (hx:De f a.toList) (hy:De f b.toList) (e:i + 1 = a.size) (hl:∀ q ∈ b.toList,f q <= fa f a i):Cs f a.toList b.toList (o ++ b.extract j ++ a.extract i).toList:=by
 rw [Array.toList_append,Array.toList_append,K8,K8]
 refine h.nR hx hy fun p hp q hq=>?_
 obtain ⟨m,hm⟩ := Er hq
 have aI:=(List.getElem?_eq_some_iff.mp hm).1
 rw [Array.length_toList] at aI
 obtain rfl:m = 0:=by omega
 have h1:=hl p (List.mem_of_mem_drop hp)
 rw [Nat.add_zero,Array.getElem?_toList] at hm
 rw [Av hm] at h1
 exact h1
theorem MI.fI (h:MI f a.toList b.toList i j o.toList) (hx:De f a.toList) (hy:De f b.toList) {p:Keyed} (hp:a[i]? = some p) (hj:j < b.size) (hle:f p <= fa f b j):MI f a.toList b.toList (i + 1) j (o.push p).toList:=by
 obtain ⟨q,hq⟩ := Bw hj
 rw [Av hq] at hle
 rw [Array.toList_push]
 exact h.vh hx hy (by rw [Array.getElem?_toList]; exact hp) (by rw [Array.getElem?_toList]; exact hq) hle
theorem MI.gK (h:MI f a.toList b.toList i j o.toList) (hx:De f a.toList) (hy:De f b.toList) {q:Keyed} (hq:b[j]? = some q) (hi:i < a.size) (hle:f q <= fa f a i):MI f a.toList b.toList i (j + 1) (o.push q).toList:=by
 obtain ⟨p,hp⟩ := Bw hi
 rw [Av hp] at hle
 rw [Array.toList_push]
 exact h.GW hx hy (by rw [Array.getElem?_toList]; exact hp) (by rw [Array.getElem?_toList]; exact hq) hle
theorem MI.nS (h:MI f a.toList b.toList i j o.toList) (hx:De f a.toList) (hy:De f b.toList) {q:Keyed} (hq:b[j]? = some q) (hle:∀ m,m < k -> fa f a (i + m) <= f q):MI f a.toList b.toList (i + k) j (o ++ a.extract i (i + k)).toList:=by
 rw [Array.toList_append,Gv]
 refine h.iZ hx fun x iW y nG=>?_
 obtain ⟨m,hm,e⟩ := Eg iW
 obtain ⟨m2,e2⟩ := Er nG
 have h1:=hle m hm
 rw [Array.getElem?_toList] at e
 rw [Av e] at h1
 exact Nat.le_trans h1 (Kk hy (by rw [Array.getElem?_toList]; exact hq) e2 (by omega))
theorem MI.xy (h:MI f a.toList b.toList i j o.toList) (hx:De f a.toList) (hy:De f b.toList) {p:Keyed} (hp:a[i]? = some p) (hle:∀ m,m < k -> fa f b (j + m) <= f p):MI f a.toList b.toList i (j + k) (o ++ b.extract j (j + k)).toList:=by
 rw [Array.toList_append,Gv]
 refine h.GV hy fun x iW y nG=>?_
 obtain ⟨m,hm,e⟩ := Eg iW
 obtain ⟨m2,e2⟩ := Er nG
 have h1:=hle m hm
 rw [Array.getElem?_toList] at e
 rw [Av e] at h1
 exact Nat.le_trans h1 (Kk hx (by rw [Array.getElem?_toList]; exact hp) e2 (by omega))
theorem Kb (h:De f a.toList) {lo hi:Nat} (hh:hi <= a.size):Hw f a lo hi:=fun i j h1 h2 h3=>by
 obtain ⟨p,hp⟩ := Bw (a:=a) (i:=i) (by omega)
 obtain ⟨q,hq⟩ := Bw (a:=a) (i:=j) (by omega)
 rw [Av hp,Av hq]
 exact Kk h (by rw [Array.getElem?_toList]; exact hp) (by rw [Array.getElem?_toList]; exact hq) h2
theorem Es {m n:Nat} (h:m = n):(m == n) = true:=by simp [h]
theorem Eu {m n:Nat} (h:¬ m = n):¬ (m == n) = true:=by simp [h]
end
section
variable {prog:Program} {w:World} {A:Around} {E:Value -> Shared -> Prop} {s:Shared} {κ:SortKind} {f:Keyed -> Nat} {a₀:Array Keyed} {st:SortSt}
def Gs (st aE:SortSt):Prop := ∃ g,aE = SortSt.mk' (kindOf st) (arrOf st) (pendingOf st) g (failedOf st)
theorem Gs.refl:Gs st st:=⟨gallopOf st,rfl⟩
theorem Xi {σ β:Type} {M:Model} {c:Prop} [Decidable c] {Q:β -> σ -> Prop} {st:σ} {g:Nat -> StateT σ Sem β} {X Y:StateT σ Sem β} (y x:Nat) (ey:Y = g y) (ex:X = g x) (h:∀ z,wpS M A E s (g z) Q st):wpS M A E s (if c then X else Y) Q st:=by
 subst ey ex
 split
 ·exact h x
 ·exact h y
theorem Kf {σ β:Type} {M:Model} {c:Prop} [Decidable c] {Q:β -> σ -> Prop} {st:σ} {g:Array Keyed -> Nat -> StateT σ Sem β} {X Y:StateT σ Sem β} (P:Array Keyed -> Nat -> Prop) (o:Array Keyed) (i:Nat) (ey:Y = g o i) (hy:¬ c -> P o i) (hx:c -> (∀ o i,P o i -> wpS M A E s (g o i) Q st) -> wpS M A E s X Q st) (h:∀ o i,P o i -> wpS M A E s (g o i) Q st):wpS M A E s (if c then X else Y) Q st:=by
 subst ey
 split
 ·rename_i z
  exact hx z h
 ·rename_i z
  exact h o i (hy z)
theorem Rc (hA : Hv prog w A s κ f a₀) (hk : kindOf st = κ) {a b : Array Keyed} (ha : ∀ p, p ∈ a -> p ∈ a₀) (hb : ∀ p, p ∈ b -> p ∈ a₀) (hx : De f a.toList) (hy : De f b.toList) (ha0 : 0 < a.size) (vk : 0 < b.size)
  (dA:fa f b 0 <= fa f a 0) (nU:∀ q ∈ b.toList,f q <= fa f a (a.size - 1)) {Q:Array Keyed -> SortSt -> Prop} (h:∀ r aE,Gs st aE -> Cs f a.toList b.toList r.toList -> Q r aE):wpS (model prog w) A E s (Z6 a b) Q st:=by
 have last:∀ i,i + 1 = a.size -> ∀ q ∈ b.toList,f q <= fa f a i:=fun i hi q hq=>by
  have:=nU q hq
  rwa [show a.size - 1 = i by omega] at this
 have bP:∀ g,kindOf (SortSt.mk' (kindOf st) (arrOf st) (pendingOf st) g (failedOf st)) = κ:=fun g=>hk
 obtain ⟨q0,WL⟩ := Bw vk
 refine wpS_bind (wpS_lift (wpAny_rule ⟨rfl,?_⟩))
 refine wpS_bind (Bb WL ?_)
 have M0:MI f a.toList b.toList 0 0 (#[]:Array Keyed).toList:=⟨by simp,List.Pairwise.nil,fun p hp=>by cases hp⟩
 have M1:=M0.gK hx hy WL ha0 (by rw [Av WL] at dA; exact dA)
 rw [show (#[]:Array Keyed).push q0 = #[q0] from rfl] at M1
 dsimp -zeta only
 by_cases e1:0 + 1 = b.size
 ·rw [if_pos (Es e1)]
  exact wpS_pure (h _ _ Gs.refl (M1.aR hx hy (.inl e1)))
 rw [if_neg (Eu e1)]
 by_cases e2:0 + 1 = a.size
 ·rw [if_pos (Es e2)]
  exact wpS_pure (h _ _ Gs.refl (M1.fH hx hy e2 (last 0 e2)))
 rw [if_neg (Eu e2)]
 refine wpS_bind (wpS_get ?_)
 refine wpS_bind (wpS_mono (wpS_forRange (I:=fun x c aE=>Gs st aE /\ ∃ o ia ib g,c = (none,o,ia,ib,g) /\ MI f a.toList b.toList ia ib o.toList /\ ia + 1 < a.size /\ ib < b.size /\ x + 1 <= ia + ib)
  (Q:=fun c aE=>Gs st aE /\ ∃ r z,c = (some r,z) /\ Cs f a.toList b.toList r.toList) ?_ ?_ ⟨Gs.refl,_,_,_,_,rfl,M1,by omega,by omega,by omega⟩) ?_)
 ·rintro x c bB _ iW ⟨G1,o,ia,ib,g,rfl,M,h1,h2,h3⟩
  dsimp -zeta only
  refine wpS_bind (wpS_mono (wpS_forRange (I:=fun y c aE=>Gs st aE /\ ∃ o ia ib ac bc,c = (none,o,ia,ib,ac,bc) /\ MI f a.toList b.toList ia ib o.toList /\ ia + 1 < a.size /\ ib < b.size /\ x + 1 + y <= ia + ib)
   (Q:=fun c aE=>Gs st aE /\ ((∃ r z,c = (some r,z) /\ Cs f a.toList b.toList r.toList) \/ ∃ o ia ib ac bc,c = (none,o,ia,ib,ac,bc) /\ MI f a.toList b.toList ia ib o.toList /\ ia + 1 < a.size /\ ib < b.size /\ x + 2 <= ia + ib)) ?_ ?_ ⟨G1,_,_,_,_,_,rfl,M,h1,h2,by omega⟩) ?_)
  ·clear M h1 h2 h3 G1
   rintro y c bB _ nG ⟨G1,o,ia,ib,ac,bc,rfl,M,h1,h2,h3⟩
   obtain ⟨gx,rfl⟩ := G1
   obtain ⟨q,hq⟩ := Bw h2
   obtain ⟨p,hp⟩ := Bw (a:=a) (i:=ia) (by omega)
   dsimp -zeta only
   refine wpS_bind (Bb hq (wpS_bind (Bb hp (wpS_bind (M6 hA (bP gx) (hb q (Array.mem_of_getElem? hq)) (ha p (Array.mem_of_getElem? hp)) ?_)))))
   dsimp -zeta only
   by_cases z:f q < f p
   ·rw [if_pos (decide_eq_true z)]
    have M2:=M.gK hx hy hq (by omega) (by rw [Av hp]; omega)
    refine wpS_bind (Bb hq ?_)
    by_cases e:ib + 1 = b.size
    ·rw [if_pos (Es e)]
     exact wpS_pure ⟨⟨_,rfl⟩,.inl ⟨_,_,rfl,M2.aR hx hy (.inl e)⟩⟩
    rw [if_neg (Eu e)]
    split
    ·exact wpS_pure ⟨⟨_,rfl⟩,.inr ⟨_,_,_,_,_,rfl,M2,h1,by omega,by omega⟩⟩
    ·exact wpS_pure ⟨⟨_,rfl⟩,_,_,_,_,_,rfl,M2,h1,by omega,by omega⟩
   ·rw [if_neg (by rw [decide_eq_true_eq]; exact z)]
    have M2:=M.fI hx hy hp h2 (by rw [Av hq]; omega)
    refine wpS_bind (Bb hp ?_)
    by_cases e:ia + 1 + 1 = a.size
    ·rw [if_pos (Es e)]
     exact wpS_pure ⟨⟨_,rfl⟩,.inl ⟨_,_,rfl,M2.fH hx hy e (last _ e)⟩⟩
    rw [if_neg (Eu e)]
    split
    ·exact wpS_pure ⟨⟨_,rfl⟩,.inr ⟨_,_,_,_,_,rfl,M2,by omega,h2,by omega⟩⟩
    ·exact wpS_pure ⟨⟨_,rfl⟩,_,_,_,_,_,rfl,M2,by omega,h2,by omega⟩
  ·rintro c aE ⟨G1,o,ia,ib,ac,bc,rfl,M,h1,h2,h3⟩
   exact ⟨G1,.inr ⟨o,ia,ib,ac,bc,rfl,M,h1,h2,by omega⟩⟩
  clear M h1 h2 h3 G1
  rintro c aH ⟨G2,⟨r,z,rfl,J⟩ | ⟨o,ia,ib,ac,bc,rfl,M,h1,h2,h3⟩⟩
  ·dsimp -zeta only
   exact wpS_pure ⟨G2,r,_,rfl,J⟩
  dsimp -zeta only
  refine wpS_bind (wpS_lift (wpAny_rule ⟨rfl,?_⟩))
  refine wpS_bind (wpS_mono (wpS_forRange (I:=fun y c aE=>Gs st aE /\ ∃ o ia ib mg ac bc,c = (none,o,ia,ib,mg,ac,bc) /\ MI f a.toList b.toList ia ib o.toList /\ ia + 1 < a.size /\ ib < b.size /\ x + 2 <= ia + ib)
   (Q:=fun c aE=>Gs st aE /\ ((∃ r z,c = (some r,z) /\ Cs f a.toList b.toList r.toList) \/ ∃ o ia ib mg ac bc,c = (none,o,ia,ib,mg,ac,bc) /\ MI f a.toList b.toList ia ib o.toList /\ ia + 1 < a.size /\ ib < b.size /\ x + 2 <= ia + ib)) ?_ ?_ ⟨G2,_,_,_,_,_,_,rfl,M,h1,h2,h3⟩) ?_)
  ·clear M h1 h2 h3 G2
   rintro y c bB _ nG ⟨G1,o,ia,ib,mg,ac,bc,rfl,M,h1,h2,h3⟩
   obtain ⟨gx,rfl⟩ := G1
   obtain ⟨q,hq⟩ := Bw h2
   dsimp -zeta only
   have ga : ∀ {Q' : Option Nat -> SortSt -> Prop} {mg}, (∀ k, ia + k <= a.size -> (∀ m, m < k -> fa f a (ia + m) <= f q) -> (∀ m, k <= m -> ia + m < a.size -> f q < fa f a (ia + m)) -> Q' (some k) (SortSt.mk' (kindOf st) (arrOf st) (pendingOf st) mg (failedOf st))) ->
     wpS (model prog w) A E s (Il false q a ia (a.size - ia) 0) Q' (SortSt.mk' (kindOf st) (arrOf st) (pendingOf st) mg (failedOf st)):=fun {Q'} {mg} xA=>by
    refine Dr hA (bP mg) (hb q (Array.mem_of_getElem? hq)) ha (by omega) (by omega) (Kb hx (by omega)) fun k g1 g2 g3=>xA k (by omega) (fun m hm=>?_) (fun m iY lY=>?_)
    ·have:=g2 m hm
     simpa using this
    ·have:=g3 m iY (by omega)
     simpa using this
   have gb : ∀ {Q' : Option Nat -> SortSt -> Prop} {mg i j p}, a[i]? = some p -> j < b.size -> (∀ k, j + k <= b.size -> (∀ m, m < k -> fa f b (j + m) <= f p) -> (∀ m, k <= m -> j + m < b.size -> f p <= fa f b (j + m)) -> Q' (some k) (SortSt.mk' (kindOf st) (arrOf st) (pendingOf st) mg (failedOf st))) ->
     wpS (model prog w) A E s (Il true p b j (b.size - j) 0) Q' (SortSt.mk' (kindOf st) (arrOf st) (pendingOf st) mg (failedOf st)):=fun {Q'} {mg i j p} hp hj xA=>by
    refine Dr hA (bP mg) (ha p (Array.mem_of_getElem? hp)) hb (by omega) (by omega) (Kb hy (by omega)) fun k g1 g2 g3=>xA k (by omega) (fun m hm=>?_) (fun m iY lY=>?_)
    ·have:=g2 m hm
     simp at this
     omega
    ·have:=g3 m iY (by omega)
     simpa using this
   dsimp only
   apply Xi mg (mg - 1) (Eq.refl _) (Eq.refl _)
   intro mg
   refine wpS_bind (wpS_modify ?_)
   refine wpS_bind (Bb hq (wpS_bind (ga fun k g1 g2 g3=>?_)))
   dsimp only
   apply Kf (fun o2 i2=>MI f a.toList b.toList i2 ib o2.toList /\ i2 + 1 < a.size /\ f q < fa f a i2 /\ ia <= i2) o ia (Eq.refl _) (fun z=>⟨M,h1,g3 0 (by omega) (by omega),Nat.le_refl _⟩)
   ·intro z K
    have M2:=M.nS hx hy hq g2
    by_cases e:ia + k + 1 = a.size
    ·rw [if_pos (Es e)]
     exact wpS_pure ⟨⟨_,rfl⟩,.inl ⟨_,_,rfl,M2.fH hx hy e (last _ e)⟩⟩
    rw [if_neg (Eu e)]
    by_cases e':ia + k = a.size
    ·rw [if_pos (Es e')]
     exact wpS_pure ⟨⟨_,rfl⟩,.inl ⟨_,_,rfl,M2.aR hx hy (.inr e')⟩⟩
    rw [if_neg (Eu e')]
    exact K _ _ ⟨M2,by omega,g3 k (Nat.le_refl _) (by omega),by omega⟩
   rintro o2 i2 ⟨M2,mU,g3',hle⟩
   clear g1 g2 g3 M h1
   refine wpS_bind (Bb hq ?_)
   have M3:=M2.gK hx hy hq (by omega) (Nat.le_of_lt g3')
   generalize hib:ib + 1 = WM at M3 ⊢
   generalize o2.push q = o3 at M3 ⊢
   by_cases e:WM = b.size
   ·rw [if_pos (Es e)]
    exact wpS_pure ⟨⟨_,rfl⟩,.inl ⟨_,_,rfl,M3.aR hx hy (.inl e)⟩⟩
   rw [if_neg (Eu e)]
   obtain ⟨p,hp⟩ := Bw (a:=a) (i:=i2) (by omega)
   refine wpS_bind (Bb hp (wpS_bind (gb hp (by omega) fun k2 c1 c2 c3=>?_)))
   dsimp only
   apply Kf (fun o3 j3=>MI f a.toList b.toList i2 j3 o3.toList /\ j3 < b.size /\ f p <= fa f b j3 /\ ib < j3) o3 WM (Eq.refl _) (fun z=>⟨M3,by omega,c3 0 (by omega) (by omega),by omega⟩)
   ·intro z K
    have M4:=M3.xy hx hy hp c2
    by_cases e4:WM + k2 = b.size
    ·rw [if_pos (Es e4)]
     exact wpS_pure ⟨⟨_,rfl⟩,.inl ⟨_,_,rfl,M4.aR hx hy (.inl e4)⟩⟩
    rw [if_neg (Eu e4)]
    exact K _ _ ⟨M4,by omega,c3 k2 (Nat.le_refl _) (by omega),by omega⟩
   rintro o4 j3 ⟨M4,hj,c4,aI⟩
   clear c1 c2 c3 M3 M2
   refine wpS_bind (Bb hp ?_)
   have M5:=M4.fI hx hy hp hj c4
   by_cases e5:i2 + 1 + 1 = a.size
   ·rw [if_pos (Es e5)]
    exact wpS_pure ⟨⟨_,rfl⟩,.inl ⟨_,_,rfl,M5.fH hx hy e5 (last _ e5)⟩⟩
   rw [if_neg (Eu e5)]
   split
   ·exact wpS_pure ⟨⟨_,rfl⟩,.inr ⟨_,_,_,_,_,_,rfl,M5,by omega,hj,by omega⟩⟩
   ·exact wpS_pure ⟨⟨_,rfl⟩,_,_,_,_,_,_,rfl,M5,by omega,hj,by omega⟩
  ·rintro c aE ⟨G1,o,ia,ib,mg,ac,bc,rfl,M,h1,h2,h3⟩
   exact ⟨G1,.inr ⟨o,ia,ib,mg,ac,bc,rfl,M,h1,h2,h3⟩⟩
  clear M h1 h2 h3 G2
  rintro c aH ⟨G2,⟨r,z,rfl,J⟩ | ⟨o,ia,ib,mg,ac,bc,rfl,M,h1,h2,h3⟩⟩
  ·dsimp -zeta only
   exact wpS_pure ⟨G2,r,_,rfl,J⟩
  dsimp -zeta only
  obtain ⟨gx,rfl⟩ := G2
  refine wpS_bind (wpS_modify ?_)
  exact wpS_pure ⟨⟨_,rfl⟩,_,_,_,_,rfl,M,h1,h2,by omega⟩
 ·rintro c aE ⟨G1,o,ia,ib,g,rfl,M,h1,h2,h3⟩
  exfalso
  omega
 rintro c aE ⟨G1,r,z,rfl,J⟩
 dsimp -zeta only
 exact wpS_pure (h _ _ G1 J)
end
section
variable {f:Keyed -> Nat}
def MH (f:Keyed -> Nat) (x y:List Keyed) (i j:Nat) (o:List Keyed):Prop:=o.reverse.Perm (x.drop i ++ y.drop j) /\ De f o.reverse /\ Hb f (x.take i ++ y.take j) o.reverse
theorem MH.swap {x y o:List Keyed} {i j:Nat} (h:MH f x y i j o):MH f y x j i o:=⟨h.1.trans List.perm_append_comm,h.2.1,fun p hp=>h.2.2 p (List.perm_append_comm.mem_iff.mp hp)⟩
theorem MH.iZ {x y o:List Keyed} {i j k:Nat} (h:MH f x y (i + k) j o) (hx:De f x) (hle:Hb f (y.take j) ((x.drop i).take k)):MH f x y i j (o ++ ((x.drop i).take k).reverse):=by
 obtain ⟨h1,h2,h3⟩ := h
 have hd:=Hj x i k
 have ht:=Oq x i k
 have e:(o ++ ((x.drop i).take k).reverse).reverse = (x.drop i).take k ++ o.reverse:=by rw [List.reverse_append,List.reverse_reverse]
 have hsx:De f (x.take (i + k)):=Gh hx _
 rw [ht] at hsx
 unfold MH
 rw [e]
 refine ⟨?_,?_,?_⟩
 ·refine (List.Perm.append_left _ h1).trans ?_
  rw [<- List.append_assoc,<- hd]
 ·refine Gq (Gh (Gg hx i) k) h2 fun p hp q hq=>h3 p (List.mem_append_left _ ?_) q hq
  rw [ht]
  exact List.mem_append_right _ hp
 ·intro p hp q hq
  rcases List.mem_append.mp hp with z | z
  ·rcases List.mem_append.mp hq with y' | y'
   ·exact (List.pairwise_append.mp hsx).2.2 p z q y'
   ·refine h3 p (List.mem_append_left _ ?_) q y'
    rw [ht]
    exact List.mem_append_left _ z
  ·rcases List.mem_append.mp hq with y' | y'
   ·exact hle p z q y'
   ·exact h3 p (List.mem_append_right _ z) q y'
theorem MH.done {x y o:List Keyed} {i j:Nat} (h:MH f x y i j o) (hx:De f x) (hy:De f y) (hle:Hb f (x.take i) (y.take j)):Cs f x y (x.take i ++ y.take j ++ o.reverse):=by
 obtain ⟨h1,h2,h3⟩ := h
 refine ⟨?_,Gq (Gq (Gh hx i) (Gh hy j) hle) h2 h3⟩
 refine (List.Perm.append_left _ h1).trans ?_
 have e:x ++ y = (x.take i ++ x.drop i) ++ (y.take j ++ y.drop j):=by rw [List.take_append_drop,List.take_append_drop]
 rw [e,List.append_assoc,List.append_assoc]
 refine List.Perm.append_left _ ?_
 rw [<- List.append_assoc,<- List.append_assoc]
 exact List.Perm.append_right _ List.perm_append_comm
theorem MH.nR {x y o:List Keyed} {i j:Nat} (h:MH f x y i j o) (hx:De f x) (hy:De f y) (hle:Hb f (y.take j) (x.take i)):Cs f x y (y.take j ++ x.take i ++ o.reverse):=by
 obtain ⟨g1,g2⟩ := h.swap.done hy hx hle
 exact ⟨g1.trans List.perm_append_comm,g2⟩
variable {a b o:Array Keyed} {i j k:Nat}
theorem Js {l:List Keyed} {i:Nat} {p:Keyed} (h:p ∈ l.take i):∃ m,m < i /\ l[m]? = some p:=by
 have h':p ∈ (l.drop 0).take i:=h
 obtain ⟨m,h1,h2⟩ := Eg h'
 exact ⟨m,h1,by rw [Nat.zero_add] at h2; exact h2⟩
theorem MH.aR (h:MH f a.toList b.toList i j o.toList) (hx:De f a.toList) (hy:De f b.toList) (e:i = 0 \/ j = 0):Cs f a.toList b.toList (a.extract 0 i ++ b.extract 0 j ++ o.reverse).toList:=by
 rw [Array.toList_append,Array.toList_append,Pf,Pf,Array.toList_reverse]
 refine h.done hx hy ?_
 rcases e with e | e <;> subst e
 ·intro p hp
  simp at hp
 ·intro p _ q hq
  simp at hq
theorem MH.dH (h:MH f a.toList b.toList i j o.toList) (hx:De f a.toList) (hy:De f b.toList) (e:j = 1) (hf:∀ p ∈ a.toList,fa f b 0 <= f p):Cs f a.toList b.toList (b.extract 0 j ++ a.extract 0 i ++ o.reverse).toList:=by
 rw [Array.toList_append,Array.toList_append,Pf,Pf,Array.toList_reverse]
 refine h.nR hx hy fun p hp q hq=>?_
 obtain ⟨m,hm,e2⟩ := Js hp
 obtain rfl:m = 0:=by omega
 rw [Array.getElem?_toList] at e2
 have:=hf q (List.mem_of_mem_take hq)
 rw [Av e2] at this
 exact this
theorem MH.nS (h:MH f a.toList b.toList i j o.toList) (hx:De f a.toList) (hy:De f b.toList) {m:Nat} (hm:m <= i) (hle:∀ n,m <= n -> n < i -> ∀ l,l < j -> fa f b l <= fa f a n):MH f a.toList b.toList m j (o ++ (a.extract m i).reverse).toList:=by
 obtain ⟨k,rfl⟩ : ∃ k,i = m + k:=⟨i - m,by omega⟩
 rw [Array.toList_append,Array.toList_reverse,Gv]
 refine h.iZ hx fun x iW y nG=>?_
 obtain ⟨l,hl,e⟩ := Js iW
 obtain ⟨n,hn,e2⟩ := Eg nG
 rw [Array.getElem?_toList] at e e2
 have:=hle (m + n) (by omega) (by omega) l hl
 rw [Av e,Av e2] at this
 exact this
theorem MH.xy (h:MH f a.toList b.toList i j o.toList) (hx:De f a.toList) (hy:De f b.toList) {m:Nat} (hm:m <= j) (hle:∀ n,m <= n -> n < j -> ∀ l,l < i -> fa f a l <= fa f b n):MH f a.toList b.toList i m (o ++ (b.extract m j).reverse).toList:=(h.swap.nS hy hx hm hle).swap
theorem bq {a:Array Keyed} {i:Nat} {p:Keyed} (hp:a[i]? = some p):(a.extract i (i + 1)).toList = [p]:=by
 rw [Gv]
 exact Q7 (by rw [Array.getElem?_toList]; exact hp)
theorem MH.fI (h:MH f a.toList b.toList (i + 1) j o.toList) (hx:De f a.toList) (hy:De f b.toList) {p:Keyed} (hp:a[i]? = some p) (hle:∀ l,l < j -> fa f b l <= f p):MH f a.toList b.toList i j (o.push p).toList:=by
 have:=h.nS hx hy (m:=i) (by omega) fun n h1 h2 l hl=>by
  obtain rfl:n = i:=by omega
  rw [Av hp]
  exact hle l hl
 rw [Array.toList_append,Array.toList_reverse,bq hp] at this
 rw [Array.toList_push]
 exact this
theorem MH.gK (h:MH f a.toList b.toList i (j + 1) o.toList) (hx:De f a.toList) (hy:De f b.toList) {q:Keyed} (hq:b[j]? = some q) (hle:∀ l,l < i -> fa f a l <= f q):MH f a.toList b.toList i j (o.push q).toList:=(h.swap.fI hy hx hq hle).swap
end
section
variable {prog:Program} {w:World} {A:Around} {E:Value -> Shared -> Prop} {s:Shared} {κ:SortKind} {f:Keyed -> Nat} {a₀:Array Keyed} {st:SortSt}
theorem Qj (hA : Hv prog w A s κ f a₀) (hk : kindOf st = κ) {a b : Array Keyed} (ha : ∀ p, p ∈ a -> p ∈ a₀) (hb : ∀ p, p ∈ b -> p ∈ a₀) (hx : De f a.toList) (hy : De f b.toList) (ha0 : 0 < a.size) (vk : 0 < b.size)
  (dA:∀ p ∈ a.toList,fa f b 0 <= f p) (nU:∀ j,j < b.size -> fa f b j <= fa f a (a.size - 1)) {Q:Array Keyed -> SortSt -> Prop} (h:∀ r aE,Gs st aE -> Cs f a.toList b.toList r.toList -> Q r aE):wpS (model prog w) A E s (Y4 a b) Q st:=by
 have bP:∀ g,kindOf (SortSt.mk' (kindOf st) (arrOf st) (pendingOf st) g (failedOf st)) = κ:=fun g=>hk
 have WN:∀ {lo hi},hi <= a.size -> Hw f a lo hi:=fun h=>Kb hx h
 have WO:∀ {lo hi},hi <= b.size -> Hw f b lo hi:=fun h=>Kb hy h
 obtain ⟨p0,xB⟩ := Bw (a:=a) (i:=a.size - 1) (by omega)
 refine wpS_bind (wpS_lift (wpAny_rule ⟨rfl,?_⟩))
 refine wpS_bind (Bb xB ?_)
 have M0:MH f a.toList b.toList (a.size - 1 + 1) b.size (#[]:Array Keyed).toList:=by
  refine ⟨?_,List.Pairwise.nil,fun p _ q hq=>by cases hq⟩
  rw [List.drop_of_length_le (l:=a.toList) (by rw [Array.length_toList]; omega),List.drop_of_length_le (l:=b.toList) (by rw [Array.length_toList]; omega)]
  exact List.Perm.refl _
 have M1:=M0.fI hx hy xB (fun l hl=>by have:=nU l hl; rw [Av xB] at this; exact this)
 rw [show (#[]:Array Keyed).push p0 = #[p0] from rfl] at M1
 dsimp -zeta only
 by_cases e1:a.size - 1 = 0
 ·rw [if_pos (Es e1)]
  exact wpS_pure (h _ _ Gs.refl (M1.aR hx hy (.inl e1)))
 rw [if_neg (Eu e1)]
 by_cases e2:b.size = 1
 ·rw [if_pos (Es e2)]
  exact wpS_pure (h _ _ Gs.refl (M1.dH hx hy e2 dA))
 rw [if_neg (Eu e2)]
 refine wpS_bind (wpS_get ?_)
 refine wpS_bind (wpS_mono (wpS_forRange (I:=fun x c aE=>Gs st aE /\ ∃ o na nb g,c = (none,na,nb,o,g) /\ MH f a.toList b.toList na nb o.toList /\ 0 < na /\ na <= a.size /\ 1 < nb /\ nb <= b.size /\ na + nb + x + 1 <= a.size + b.size)
  (Q:=fun c aE=>Gs st aE /\ ∃ r z,c = (some r,z) /\ Cs f a.toList b.toList r.toList) ?_ ?_ ⟨Gs.refl,_,_,_,_,rfl,M1,by omega,by omega,by omega,by omega,by omega⟩) ?_)
 ·rintro x c bB _ iW ⟨G1,o,na,nb,g,rfl,M,h1,eG,h2,iI,h3⟩
  dsimp -zeta only
  refine wpS_bind (wpS_mono (wpS_forRange (I:=fun y c aE=>Gs st aE /\ ∃ o na nb ac bc,c = (none,na,nb,o,ac,bc) /\ MH f a.toList b.toList na nb o.toList /\ 0 < na /\ na <= a.size /\ 1 < nb /\ nb <= b.size /\ na + nb + x + 1 + y <= a.size + b.size)
   (Q:=fun c aE=>Gs st aE /\ ((∃ r z,c = (some r,z) /\ Cs f a.toList b.toList r.toList) \/ ∃ o na nb ac bc,c = (none,na,nb,o,ac,bc) /\ MH f a.toList b.toList na nb o.toList /\ 0 < na /\ na <= a.size /\ 1 < nb /\ nb <= b.size /\ na + nb + x + 2 <= a.size + b.size)) ?_ ?_ ⟨G1,_,_,_,_,_,rfl,M,h1,eG,h2,iI,by omega⟩) ?_)
  ·clear M h1 h2 h3 G1 eG iI
   rintro y c bB _ nG ⟨G1,o,na,nb,ac,bc,rfl,M,h1,eG,h2,iI,h3⟩
   obtain ⟨gx,rfl⟩ := G1
   obtain ⟨q,hq⟩ := Bw (a:=b) (i:=nb - 1) (by omega)
   obtain ⟨p,hp⟩ := Bw (a:=a) (i:=na - 1) (by omega)
   dsimp -zeta only
   refine wpS_bind (Bb hq (wpS_bind (Bb hp (wpS_bind (M6 hA (bP gx) (hb q (Array.mem_of_getElem? hq)) (ha p (Array.mem_of_getElem? hp)) ?_)))))
   dsimp -zeta only
   by_cases z:f q < f p
   ·rw [if_pos (decide_eq_true z)]
    have M2:=MH.fI (i:=na - 1) (by rw [show na - 1 + 1 = na by omega]; exact M) hx hy hp (fun l hl=>by have:=WO (lo:=0) (hi:=b.size) (Nat.le_refl _) l (nb - 1) (by omega) (by omega) (by omega); rw [Av hq] at this; omega)
    refine wpS_bind (Bb hp ?_)
    by_cases e:na - 1 = 0
    ·rw [if_pos (Es e)]
     exact wpS_pure ⟨⟨_,rfl⟩,.inl ⟨_,_,rfl,M2.aR hx hy (.inl e)⟩⟩
    rw [if_neg (Eu e)]
    split
    ·exact wpS_pure ⟨⟨_,rfl⟩,.inr ⟨_,_,_,_,_,rfl,M2,by omega,by omega,h2,iI,by omega⟩⟩
    ·exact wpS_pure ⟨⟨_,rfl⟩,_,_,_,_,_,rfl,M2,by omega,by omega,h2,iI,by omega⟩
   ·rw [if_neg (by rw [decide_eq_true_eq]; exact z)]
    have M2:=MH.gK (j:=nb - 1) (by rw [show nb - 1 + 1 = nb by omega]; exact M) hx hy hq (fun l hl=>by have:=WN (lo:=0) (hi:=a.size) (Nat.le_refl _) l (na - 1) (by omega) (by omega) (by omega); rw [Av hp] at this; omega)
    refine wpS_bind (Bb hq ?_)
    by_cases e:nb - 1 = 1
    ·rw [if_pos (Es e)]
     exact wpS_pure ⟨⟨_,rfl⟩,.inl ⟨_,_,rfl,M2.dH hx hy e dA⟩⟩
    rw [if_neg (Eu e)]
    split
    ·exact wpS_pure ⟨⟨_,rfl⟩,.inr ⟨_,_,_,_,_,rfl,M2,h1,eG,by omega,by omega,by omega⟩⟩
    ·exact wpS_pure ⟨⟨_,rfl⟩,_,_,_,_,_,rfl,M2,h1,eG,by omega,by omega,by omega⟩
  ·rintro c aE ⟨G1,o,na,nb,ac,bc,rfl,M,h1,eG,h2,iI,h3⟩
   exact ⟨G1,.inr ⟨o,na,nb,ac,bc,rfl,M,h1,eG,h2,iI,by omega⟩⟩
  clear M h1 h2 h3 G1 eG iI
  rintro c aH ⟨G2,⟨r,z,rfl,J⟩ | ⟨o,na,nb,ac,bc,rfl,M,h1,eG,h2,iI,h3⟩⟩
  ·dsimp -zeta only
   exact wpS_pure ⟨G2,r,_,rfl,J⟩
  dsimp -zeta only
  refine wpS_bind (wpS_lift (wpAny_rule ⟨rfl,?_⟩))
  refine wpS_bind (wpS_mono (wpS_forRange (I:=fun y c aE=>Gs st aE /\ ∃ o na nb mg ac bc,c = (none,na,nb,o,mg,ac,bc) /\ MH f a.toList b.toList na nb o.toList /\ 0 < na /\ na <= a.size /\ 1 < nb /\ nb <= b.size /\ na + nb + x + 2 <= a.size + b.size)
   (Q:=fun c aE=>Gs st aE /\ ((∃ r z,c = (some r,z) /\ Cs f a.toList b.toList r.toList) \/ ∃ o na nb mg ac bc,c = (none,na,nb,o,mg,ac,bc) /\ MH f a.toList b.toList na nb o.toList /\ 0 < na /\ na <= a.size /\ 1 < nb /\ nb <= b.size /\ na + nb + x + 2 <= a.size + b.size)) ?_ ?_ ⟨G2,_,_,_,_,_,_,rfl,M,h1,eG,h2,iI,h3⟩) ?_)
  ·clear M h1 h2 h3 G2 eG iI
   rintro y c bB _ nG ⟨G1,o,na,nb,mg,ac,bc,rfl,M,h1,eG,h2,iI,h3⟩
   obtain ⟨gx,rfl⟩ := G1
   obtain ⟨q,hq⟩ := Bw (a:=b) (i:=nb - 1) (by omega)
   dsimp -zeta only
   have ga : ∀ {Q' : Option Nat -> SortSt -> Prop} {mg}, (∀ k, k <= na -> (∀ m, m < k -> fa f a m <= f q) -> (∀ m, k <= m -> m < na -> f q <= fa f a m) -> Q' (some k) (SortSt.mk' (kindOf st) (arrOf st) (pendingOf st) mg (failedOf st))) ->
     wpS (model prog w) A E s (Il false q a 0 na (na - 1)) Q' (SortSt.mk' (kindOf st) (arrOf st) (pendingOf st) mg (failedOf st)):=fun {Q'} {mg} xA=>by
    refine Dr hA (bP mg) (hb q (Array.mem_of_getElem? hq)) ha (by omega) (by omega) (WN (by omega)) fun k g1 g2 g3=>xA k (by omega) (fun m hm=>?_) (fun m iY lY=>?_)
    ·have:=g2 m hm
     simpa using this
    ·have:=g3 m iY (by omega)
     simp at this
     omega
   have gb : ∀ {Q' : Option Nat -> SortSt -> Prop} {mg i j p}, a[i]? = some p -> 0 < j -> j <= b.size -> (∀ k, k <= j -> (∀ m, m < k -> fa f b m <= f p) -> (∀ m, k <= m -> m < j -> f p <= fa f b m) -> Q' (some k) (SortSt.mk' (kindOf st) (arrOf st) (pendingOf st) mg (failedOf st))) ->
     wpS (model prog w) A E s (Il true p b 0 j (j - 1)) Q' (SortSt.mk' (kindOf st) (arrOf st) (pendingOf st) mg (failedOf st)):=fun {Q'} {mg i j p} hp hj hj2 xA=>by
    refine Dr hA (bP mg) (ha p (Array.mem_of_getElem? hp)) hb (by omega) (by omega) (WO (by omega)) fun k g1 g2 g3=>xA k (by omega) (fun m hm=>?_) (fun m iY lY=>?_)
    ·have:=g2 m hm
     simp at this
     omega
    ·have:=g3 m iY (by omega)
     simpa using this
   dsimp only
   apply Xi mg (mg - 1) (Eq.refl _) (Eq.refl _)
   intro mg
   refine wpS_bind (wpS_modify ?_)
   refine wpS_bind (Bb hq (wpS_bind (ga fun k g1 g2 g3=>?_)))
   dsimp only
   have vn:∀ l,l < nb -> fa f b l <= f q:=fun l hl=>by
    have:=WO (lo:=0) (hi:=b.size) (Nat.le_refl _) l (nb - 1) (by omega) (by omega) (by omega)
    rw [Av hq] at this
    exact this
   generalize hac:na - k = ac2
   apply Kf (fun o2 n2=>MH f a.toList b.toList n2 nb o2.toList /\ 0 < n2 /\ n2 <= na /\ ∀ l,l < n2 -> fa f a l <= f q) o na (Eq.refl _) (fun z=>⟨M,h1,Nat.le_refl _,fun l hl=>g2 l (by omega)⟩)
   ·intro z K
    have M2:=M.nS hx hy g1 (fun n vo EV l hl=>Nat.le_trans (vn l hl) (g3 n vo EV))
    by_cases e:k = 0
    ·rw [if_pos (Es e)]
     exact wpS_pure ⟨⟨_,rfl⟩,.inl ⟨_,_,rfl,M2.aR hx hy (.inl e)⟩⟩
    rw [if_neg (Eu e)]
    exact K _ _ ⟨M2,by omega,g1,g2⟩
   rintro o2 n2 ⟨M2,EV,hn2',g2'⟩
   clear g2 g3 M vn
   refine wpS_bind (Bb hq ?_)
   have M3:=MH.gK (j:=nb - 1) (by rw [show nb - 1 + 1 = nb by omega]; exact M2) hx hy hq g2'
   generalize hnb:nb - 1 = SI at M3 hq ⊢
   generalize o2.push q = o3 at M3 ⊢
   by_cases e':SI = 1
   ·rw [if_pos (Es e')]
    exact wpS_pure ⟨⟨_,rfl⟩,.inl ⟨_,_,rfl,M3.dH hx hy e' dA⟩⟩
   rw [if_neg (Eu e')]
   obtain ⟨p,hp⟩ := Bw (a:=a) (i:=n2 - 1) (by omega)
   refine wpS_bind (Bb hp (wpS_bind (gb hp (by omega) (by omega) fun k2 c1 c2 c3=>?_)))
   dsimp only
   generalize hbc:SI - k2 = bc2
   apply Kf (fun o4 j4=>MH f a.toList b.toList n2 j4 o4.toList /\ 1 < j4 /\ j4 <= SI /\ ∀ l,l < j4 -> fa f b l <= f p) o3 SI (Eq.refl _) (fun z=>⟨M3,by omega,Nat.le_refl _,fun l hl=>c2 l (by omega)⟩)
   ·intro z K
    have M4:=M3.xy hx hy c1 (fun n vo EV l hl=>Nat.le_trans (by
     have:=WN (lo:=0) (hi:=a.size) (Nat.le_refl _) l (n2 - 1) (by omega) (by omega) (by omega)
     rw [Av hp] at this
     exact this) (c3 n vo EV))
    by_cases e4:k2 = 1
    ·rw [if_pos (Es e4)]
     exact wpS_pure ⟨⟨_,rfl⟩,.inl ⟨_,_,rfl,M4.dH hx hy e4 dA⟩⟩
    rw [if_neg (Eu e4)]
    by_cases e5:k2 = 0
    ·rw [if_pos (Es e5)]
     exact wpS_pure ⟨⟨_,rfl⟩,.inl ⟨_,_,rfl,M4.aR hx hy (.inr e5)⟩⟩
    rw [if_neg (Eu e5)]
    exact K _ _ ⟨M4,by omega,c1,c2⟩
   rintro o4 j4 ⟨M4,hj4,hj4',c2'⟩
   clear c1 c2 c3 M3 M2
   refine wpS_bind (Bb hp ?_)
   have M5:=MH.fI (i:=n2 - 1) (by rw [show n2 - 1 + 1 = n2 by omega]; exact M4) hx hy hp c2'
   by_cases e6:n2 - 1 = 0
   ·rw [if_pos (Es e6)]
    exact wpS_pure ⟨⟨_,rfl⟩,.inl ⟨_,_,rfl,M5.aR hx hy (.inl e6)⟩⟩
   rw [if_neg (Eu e6)]
   split
   ·exact wpS_pure ⟨⟨_,rfl⟩,.inr ⟨_,_,_,_,_,_,rfl,M5,by omega,by omega,hj4,by omega,by omega⟩⟩
   ·exact wpS_pure ⟨⟨_,rfl⟩,_,_,_,_,_,_,rfl,M5,by omega,by omega,hj4,by omega,by omega⟩
  ·rintro c aE ⟨G1,o,na,nb,mg,ac,bc,rfl,M,h1,eG,h2,iI,h3⟩
   exact ⟨G1,.inr ⟨o,na,nb,mg,ac,bc,rfl,M,h1,eG,h2,iI,h3⟩⟩
  clear M h1 h2 h3 G2 eG iI
  rintro c aH ⟨G2,⟨r,z,rfl,J⟩ | ⟨o,na,nb,mg,ac,bc,rfl,M,h1,eG,h2,iI,h3⟩⟩
  ·dsimp -zeta only
   exact wpS_pure ⟨G2,r,_,rfl,J⟩
  dsimp -zeta only
  obtain ⟨gx,rfl⟩ := G2
  refine wpS_bind (wpS_modify ?_)
  exact wpS_pure ⟨⟨_,rfl⟩,_,_,_,_,rfl,M,h1,eG,h2,iI,by omega⟩
 ·rintro c aE ⟨G1,o,na,nb,g,rfl,M,h1,eG,h2,iI,h3⟩
  exfalso
  omega
 rintro c aE ⟨G1,r,z,rfl,J⟩
 dsimp -zeta only
 exact wpS_pure (h _ _ G1 J)
end
section
variable {f:Keyed -> Nat}
theorem F7 {xs:Array Keyed} {i j:Nat} (hj:j <= xs.size) (k:Nat):fa f (mirror xs i j ((j - i) / 2)) k = if i <= k /\ k < j then fa f xs (i + j - 1 - k) else fa f xs k:=by
 have e:=getElem?_mirror_all (i:=i) hj k
 by_cases h:i <= k /\ k < j
 ·rw [if_pos h] at e ⊢
  exact Ef e
 ·rw [if_neg h] at e ⊢
  exact Ef e
theorem Ie {xs:Array Keyed} {i j:Nat} (hj:j <= xs.size) (h:∀ k l,i <= k -> k < j -> i <= l -> l < j -> fa f xs k = fa f xs l) (k:Nat):fa f (mirror xs i j ((j - i) / 2)) k = fa f xs k:=by
 rw [F7 hj]
 split
 ·exact h _ _ (by omega) (by omega) (by omega) (by omega)
 ·rfl
theorem Vt {xs:Array Keyed} {src d:Nat} (hs:src < xs.size) (hd:d <= src) (k:Nat):fa f (bubble xs src d) k = if k = src - d then fa f xs src else if src - d < k /\ k <= src then fa f xs (k - 1) else fa f xs k:=by
 have e:=getElem?_bubble hs d hd k
 by_cases h1:k = src - d
 ·rw [if_pos h1] at e ⊢
  exact Ef e
 ·rw [if_neg h1] at e ⊢
  by_cases h2:src - d < k /\ k <= src
  ·rw [if_pos h2] at e ⊢
   exact Ef e
  ·rw [if_neg h2] at e ⊢
   exact Ef e
theorem Ze:∀ (m:List Keyed) (n base:Nat) (a:Array Keyed),base + n + m.length <= a.size -> ∀ k:Nat,(List.foldl (fun (a:Array Keyed) (x:Keyed × Nat)=>a.setIfInBounds (base + x.snd) x.fst) a (m.zipIdx n))[k]? = if base + n <= k /\ k < base + n + m.length then m[k - (base + n)]? else a[k]?
 | [],n,base,a,h,k=>by
  rw [if_neg (by rw [List.length_nil]; omega)]
  rfl
 | p :: m,n,base,a,h,k=>by
  rw [List.length_cons] at h
  rw [List.zipIdx_cons,List.foldl_cons,Ze m (n + 1) base _ (by rw [Array.size_setIfInBounds]; omega) k,List.length_cons]
  by_cases z:k = base + n
  ·subst z
   rw [if_neg (by omega),if_pos (by omega),Nat.sub_self,List.getElem?_cons_zero]
   show (a.setIfInBounds (base + n) p)[base + n]? = some p
   rw [Array.getElem?_setIfInBounds_self_of_lt (by omega)]
  ·by_cases y:base + n <= k /\ k < base + n + (m.length + 1)
   ·rw [if_pos (by omega),if_pos y,show k - (base + n) = (k - (base + (n + 1))) + 1 by omega,List.getElem?_cons_succ]
   ·rw [if_neg (by omega),if_neg y]
    show (a.setIfInBounds (base + n) p)[k]? = _
    rw [Array.getElem?_setIfInBounds_ne (by omega)]
theorem au {a:Array Keyed} {m:List Keyed} {base:Nat} (h:base + m.length <= a.size) (hp:m.Perm ((a.toList.drop base).take m.length)):(List.foldl (fun (a:Array Keyed) (x:Keyed × Nat)=>a.setIfInBounds (base + x.snd) x.fst) a m.zipIdx).Perm a:=by
 generalize hr:List.foldl (fun (a:Array Keyed) (x:Keyed × Nat)=>a.setIfInBounds (base + x.snd) x.fst) a m.zipIdx = r
 have e:∀ k:Nat,r[k]? = if base <= k /\ k < base + m.length then m[k - base]? else a[k]?:=fun k=>by
  rw [<- hr]
  exact Ze m 0 base a (by omega) k
 have el:r.toList = a.toList.take base ++ (m ++ a.toList.drop (base + m.length)):=by
  apply List.ext_getElem?
  intro k
  rw [Array.getElem?_toList,e k]
  have aI:(a.toList.take base).length = base:=by rw [List.length_take,Array.length_toList]; omega
  by_cases z:k < base
  ·rw [if_neg (by omega),List.getElem?_append_left (by omega),List.getElem?_take_of_lt z,Array.getElem?_toList]
  ·rw [List.getElem?_append_right (by omega),aI]
   by_cases y:k < base + m.length
   ·rw [if_pos (by omega),List.getElem?_append_left (by omega)]
   ·rw [if_neg (by omega),List.getElem?_append_right (by omega),List.getElem?_drop,Array.getElem?_toList]
    congr 1
    omega
 have ea:a.toList = a.toList.take base ++ ((a.toList.drop base).take m.length ++ a.toList.drop (base + m.length)):=by
  rw [<- Hj,List.take_append_drop]
 refine Array.perm_iff_toList_perm.mpr ?_
 rw [el]
 refine (List.Perm.append_left _ (hp.append_right _)).trans ?_
 rw [<- ea]
end
section
variable {prog:Program} {w:World} {A:Around} {E:Value -> Shared -> Prop} {s:Shared} {κ:SortKind} {f:Keyed -> Nat} {a₀:Array Keyed} {st:SortSt}
theorem Rv (a:Array Keyed) {i j:Nat} (h:i <= j):(a.extract i j).toList = (a.toList.drop i).take (j - i):=by
 obtain ⟨k,rfl⟩ : ∃ k,j = i + k:=⟨j - i,by omega⟩
 rw [Gv]
 congr 1
 omega
theorem Gp {a:Array Keyed} {i j:Nat} {p:Keyed} (h:p ∈ (a.extract i j).toList) (GU:i <= j):∃ k,i <= k /\ k < j /\ a[k]? = some p:=by
 rw [Rv a GU] at h
 obtain ⟨m,h1,h2⟩ := Eg h
 rw [Array.getElem?_toList] at h2
 exact ⟨i + m,by omega,by omega,h2⟩
theorem Um {a:Array Keyed} {i j k:Nat} (hj:j <= a.size) (h:i + k < j):(a.extract i j)[k]? = a[i + k]?:=by
 rw [Array.getElem?_extract]
 split
 ·rfl
 ·omega
theorem Ut {a:Array Keyed} {i j:Nat} (h:Hw f a i j) (hj:j <= a.size) (GU:i <= j):De f (a.extract i j).toList:=by
 refine List.pairwise_iff_getElem.mpr fun m n hm hn WQ=>?_
 have hl:(a.extract i j).toList.length = j - i:=by rw [Array.length_toList,Array.size_extract]; omega
 rw [hl] at hm hn
 have e1:(a.extract i j)[m]? = some (a.extract i j).toList[m]:=by rw [<- Array.getElem?_toList]; exact List.getElem?_eq_getElem _
 have e2:(a.extract i j)[n]? = some (a.extract i j).toList[n]:=by rw [<- Array.getElem?_toList]; exact List.getElem?_eq_getElem _
 rw [Um hj (by omega)] at e1 e2
 have:=h (i + m) (i + n) (by omega) (by omega) (by omega)
 rw [Av e1,Av e2] at this
 exact this
theorem Yq {a:Array Keyed} {i j k:Nat} (hj:j <= a.size) (h:i + k < j):fa f (a.extract i j) k = fa f a (i + k):=Ef (Um hj h)
theorem ap {σ:Type} {s' st:σ} {Q:PUnit -> σ -> Prop} {M:Model} (h:Q ⟨⟩ s'):wpS M A E s (set s':StateT σ Sem PUnit) Q st:=by
 unfold wpS
 rw [StateT.run_set]
 exact wpAny_pure ⟨rfl,h⟩
theorem R9 (hA : Hv prog w A s κ f a₀) (hB : Bs κ a₀ st) {i sa na pw sb nb pb : Nat} (hi : (pendingOf st)[i]? = some (sa, na, pw)) (hj : (pendingOf st)[i + 1]? = some (sb, nb, pb)) (hs : sb = sa + na) (hna : 0 < na) (hnb : 0 < nb) (hsz : sb + nb <= a₀.size)
  (vp:Hw f (arrOf st) sa sb) (vq:Hw f (arrOf st) sb (sb + nb)) {Q:Bool -> SortSt -> Prop}
  (h:∀ aE,Bs κ a₀ aE -> pendingOf aE = ((pendingOf st).setIfInBounds i (sa,na + nb,pw)).eraseIdxIfInBounds (i + 1) -> Hw f (arrOf aE) sa (sb + nb) -> (∀ k,k < sa \/ sb + nb <= k -> fa f (arrOf aE) k = fa f (arrOf st) k) -> Q true aE):wpS (model prog w) A E s (mergeAt' i) Q st:=by
 have hsize:=hB.size
 have mC:∀ p,p ∈ arrOf st -> p ∈ a₀:=fun p hp=>hB.perm.mem_iff.mp hp
 refine wpS_bind (wpS_get ?_)
 dsimp only
 rw [hi,hj]
 dsimp only
 obtain ⟨q,hq⟩ := Bw (a:=arrOf st) (i:=sb) (by omega)
 have sF:∀ P g,kindOf (SortSt.mk' (kindOf st) (arrOf st) P g (failedOf st)) = κ:=fun _ _=>hB.kind
 refine wpS_bind (ap ?_)
 refine wpS_bind (Bb hq (wpS_bind (Dr hA (sF _ _) (hB.mem hq) mC (base:=sa) (n:=na) (by omega) (by omega) (by rw [<- hs]; exact vp) fun k k1 k2 k3=>?_)))
 dsimp only
 have k2':∀ m,sa <= m -> m < sa + k -> fa f (arrOf st) m <= fa f (arrOf st) sb:=fun m m1 m2=>by
  have:=k2 (m - sa) (by omega)
  rw [show sa + (m - sa) = m by omega] at this
  rw [Av hq]
  simpa using this
 have k3':∀ m,sa + k <= m -> m < sb -> fa f (arrOf st) sb <= fa f (arrOf st) m:=fun m m1 m2=>by
  have:=k3 (m - sa) (by omega) (by omega)
  rw [show sa + (m - sa) = m by omega] at this
  rw [Av hq]
  simp at this
  omega
 by_cases e1:na - k = 0
 ·rw [if_pos (Es e1)]
  refine wpS_pure (h _ ⟨hB.perm,hB.kind,hB.failed⟩ rfl (fun m n h1 h2 h3=>?_) fun _ _=>rfl)
  by_cases z:n < sb
  ·exact vp m n h1 h2 z
  ·by_cases y:m < sb
   ·exact Nat.le_trans (k2' m h1 (by omega)) (vq sb n (Nat.le_refl _) (by omega) h3)
   ·exact vq m n (by omega) h2 h3
 rw [if_neg (Eu e1)]
 obtain ⟨p,hp⟩ := Bw (a:=arrOf st) (i:=sa + k + (na - k) - 1) (by omega)
 have GX:(arrOf st)[sb - 1]? = some p:=by rw [<- hp]; congr 1; omega
 refine wpS_bind (Bb hp (wpS_bind (Dr hA (sF _ _) (hB.mem hp) mC (base:=sb) (n:=nb) (by omega) (by omega) vq fun l l1 l2 l3=>?_)))
 dsimp only
 have l2':∀ m,sb <= m -> m < sb + l -> fa f (arrOf st) m <= fa f (arrOf st) (sb - 1):=fun m m1 m2=>by
  have:=l2 (m - sb) (by omega)
  rw [show sb + (m - sb) = m by omega] at this
  rw [Av GX]
  simp at this
  omega
 have WR:∀ m,sb + l <= m -> m < sb + nb -> fa f (arrOf st) (sb - 1) <= fa f (arrOf st) m:=fun m m1 m2=>by
  have:=l3 (m - sb) (by omega) (by omega)
  rw [show sb + (m - sb) = m by omega] at this
  rw [Av GX]
  simpa using this
 by_cases e2:l = 0
 ·rw [if_pos (Es e2)]
  refine wpS_pure (h _ ⟨hB.perm,hB.kind,hB.failed⟩ rfl (fun m n h1 h2 h3=>?_) fun _ _=>rfl)
  by_cases z:n < sb
  ·exact vp m n h1 h2 z
  ·by_cases y:m < sb
   ·exact Nat.le_trans (vp m (sb - 1) h1 (by omega) (by omega)) (WR n (by omega) h3)
   ·exact vq m n (by omega) h2 h3
 rw [if_neg (Eu e2)]
 have hx:De f ((arrOf st).extract (sa + k) sb).toList:=Ut (fun m n h1 h2 h3=>vp m n (by omega) h2 h3) (by omega) (by omega)
 have hy:De f ((arrOf st).extract sb (sb + l)).toList:=Ut (fun m n h1 h2 h3=>vq m n h1 h2 (by omega)) (by omega) (by omega)
 have ax:∀ p,p ∈ (arrOf st).extract (sa + k) sb -> p ∈ a₀:=fun p hp=>by
  obtain ⟨m,_,_,e⟩ := Gp (Array.mem_toList_iff.mpr hp) (by omega)
  exact hB.mem e
 have ay:∀ p,p ∈ (arrOf st).extract sb (sb + l) -> p ∈ a₀:=fun p hp=>by
  obtain ⟨m,_,_,e⟩ := Gp (Array.mem_toList_iff.mpr hp) (by omega)
  exact hB.mem e
 have sx:((arrOf st).extract (sa + k) sb).size = na - k:=by rw [Array.size_extract]; omega
 have sy:((arrOf st).extract sb (sb + l)).size = l:=by rw [Array.size_extract]; omega
 have fx:∀ m,m < na - k -> fa f ((arrOf st).extract (sa + k) sb) m = fa f (arrOf st) (sa + k + m):=fun m hm=>Yq (by omega) (by omega)
 have fy:∀ m,m < l -> fa f ((arrOf st).extract sb (sb + l)) m = fa f (arrOf st) (sb + m):=fun m hm=>Yq (by omega) (by omega)
 have fin : ∀ (r : Array Keyed) (bB : SortSt), Cs f ((arrOf st).extract (sa + k) sb).toList ((arrOf st).extract sb (sb + l)).toList r.toList -> kindOf bB = κ -> failedOf bB = none -> arrOf bB = arrOf st -> pendingOf bB = ((pendingOf st).setIfInBounds i (sa, na + nb, pw)).eraseIdxIfInBounds (i + 1) ->
   Q true (setArr bB (List.foldl (fun (a:Array Keyed) (x:Keyed × Nat)=>a.setIfInBounds (sa + k + x.snd) x.fst) (arrOf bB) r.toList.zipIdx)):=fun r bB J g1 g2 g3 g4=>by
  have hlen:r.toList.length = na - k + l:=by
   rw [J.1.length_eq,List.length_append,Array.length_toList,Array.length_toList,sx,sy]
  have WS:((arrOf st).extract (sa + k) sb).toList ++ ((arrOf st).extract sb (sb + l)).toList = ((arrOf st).toList.drop (sa + k)).take r.toList.length:=by
   rw [hlen,Rv _ (by omega),Gv,show sb - (sa + k) = na - k by omega,List.take_add,List.drop_drop,show sa + k + (na - k) = sb by omega]
  have EY:∀ m:Nat,(List.foldl (fun (a:Array Keyed) (x:Keyed × Nat)=>a.setIfInBounds (sa + k + x.snd) x.fst) (arrOf bB) r.toList.zipIdx)[m]? = if sa + k <= m /\ m < sa + k + r.toList.length then r.toList[m - (sa + k)]? else (arrOf st)[m]?:=fun m=>by
   rw [g3]
   exact Ze r.toList 0 (sa + k) (arrOf st) (by omega) m
  have bH:(List.foldl (fun (a:Array Keyed) (x:Keyed × Nat)=>a.setIfInBounds (sa + k + x.snd) x.fst) (arrOf bB) r.toList.zipIdx).Perm (arrOf st):=by
   rw [g3]
   refine au (by omega) ?_
   rw [<- WS]
   exact J.1
  generalize List.foldl (fun (a:Array Keyed) (x:Keyed × Nat)=>a.setIfInBounds (sa + k + x.snd) x.fst) (arrOf bB) r.toList.zipIdx = a' at EY bH ⊢
  have mD:∀ m,m < sa + k \/ sb + l <= m -> fa f a' m = fa f (arrOf st) m:=fun m hm=>by
   refine Ef ?_
   rw [EY m,if_neg (by omega)]
  have fin2:∀ m,sa + k <= m -> m < sb + l -> ∃ p,r.toList[m - (sa + k)]? = some p /\ fa f a' m = f p /\ ∃ n,sa + k <= n /\ n < sb + l /\ (arrOf st)[n]? = some p:=fun m h1 h2=>by
   have hm:m - (sa + k) < r.toList.length:=by omega
   refine ⟨r.toList[m - (sa + k)],List.getElem?_eq_getElem hm,?_,?_⟩
   ·refine Av ?_
    rw [EY m,if_pos (by omega)]
    exact List.getElem?_eq_getElem hm
   ·have bR:=J.1.mem_iff.mp (List.getElem_mem hm)
    rcases List.mem_append.mp bR with z | z
    ·obtain ⟨n,n1,n2,n3⟩ := Gp z (by omega)
     exact ⟨n,n1,by omega,n3⟩
    ·obtain ⟨n,n1,n2,n3⟩ := Gp z (by omega)
     exact ⟨n,by omega,n2,n3⟩
  have lowP:∀ m,sa <= m -> m < sa + k -> ∀ n,sa + k <= n -> n < sb + l -> fa f (arrOf st) m <= fa f (arrOf st) n:=fun m m1 m2 n n1 n2=>by
   by_cases z:n < sb
   ·exact vp m n m1 (by omega) z
   ·exact Nat.le_trans (k2' m m1 m2) (vq sb n (Nat.le_refl _) (by omega) (by omega))
  have GY:∀ m,sb + l <= m -> m < sb + nb -> ∀ n,sa + k <= n -> n < sb + l -> fa f (arrOf st) n <= fa f (arrOf st) m:=fun m m1 m2 n n1 n2=>by
   by_cases z:n < sb
   ·exact Nat.le_trans (vp n (sb - 1) (by omega) (by omega) (by omega)) (WR m m1 m2)
   ·exact vq n m (by omega) (by omega) m2
  refine h _ ⟨bH.trans hB.perm,g1,g2⟩ g4 (fun m n h1 h2 h3=>?_) (fun m hm=>mD m (by omega))
  by_cases c1:m < sa + k
  ·rw [mD m (.inl c1)]
   by_cases c2:n < sa + k
   ·rw [mD n (.inl c2)]
    exact vp m n h1 h2 (by omega)
   ·by_cases c3:n < sb + l
    ·obtain ⟨p,_,e,n',n1,n2,n3⟩ := fin2 n (by omega) c3
     rw [e,<- Av (f:=f) n3]
     exact lowP m h1 c1 n' n1 n2
    ·rw [mD n (.inr (by omega))]
     exact Nat.le_trans (lowP m h1 c1 (sb - 1) (by omega) (by omega)) (WR n (by omega) h3)
  ·by_cases c3:n < sb + l
   ·obtain ⟨p,e1,e2,_⟩ := fin2 m (by omega) (by omega)
    obtain ⟨q,e3,e4,_⟩ := fin2 n (by omega) c3
    rw [e2,e4]
    exact Kk J.2 e1 e3 (by omega)
   ·rw [mD n (.inr (by omega))]
    by_cases c4:m < sb + l
    ·obtain ⟨p,_,e,n',n1,n2,n3⟩ := fin2 m (by omega) c4
     rw [e,<- Av (f:=f) n3]
     exact GY n (by omega) h3 n' n1 n2
    ·rw [mD m (.inr (by omega))]
     exact vq m n (by omega) h2 h3
 by_cases e3:na - k <= l
 ·rw [if_pos e3]
  refine wpS_bind (Rc hA (sF _ _) ax ay hx hy (by omega) (by omega) ?_ ?_ fun r bB G J=>?_)
  ·rw [fx 0 (by omega),fy 0 (by omega)]
   exact k3' _ (by omega) (by omega)
  ·intro q hq
   obtain ⟨m,m1,m2,m3⟩ := Gp hq (by omega)
   rw [sx,fx _ (by omega),show sa + k + (na - k - 1) = sb - 1 by omega,<- Av (f:=f) m3]
   exact l2' m m1 m2
  ·obtain ⟨g,rfl⟩ := G
   refine wpS_bind (wpS_modify ?_)
   refine wpS_bind (wpS_get (wpS_pure ?_))
   have e:(failedOf st).isNone = true:=by rw [hB.failed]; rfl
   have:=fin r (SortSt.mk' (kindOf st) (arrOf st) (((pendingOf st).setIfInBounds i (sa,na + nb,pw)).eraseIdxIfInBounds (i + 1)) g (failedOf st)) J hB.kind hB.failed rfl rfl
   rw [<- e] at this
   exact this
 ·rw [if_neg e3]
  refine wpS_bind (Qj hA (sF _ _) ax ay hx hy (by omega) (by omega) ?_ ?_ fun r bB G J=>?_)
  ·intro p hp
   obtain ⟨m,m1,m2,m3⟩ := Gp hp (by omega)
   rw [fy 0 (by omega),<- Av (f:=f) m3]
   exact k3' m m1 m2
  ·intro j hj
   rw [sx,fx _ (by omega),fy j (by omega),show sa + k + (na - k - 1) = sb - 1 by omega]
   exact l2' _ (by omega) (by omega)
  ·obtain ⟨g,rfl⟩ := G
   refine wpS_bind (wpS_modify ?_)
   refine wpS_bind (wpS_get (wpS_pure ?_))
   have e:(failedOf st).isNone = true:=by rw [hB.failed]; rfl
   have:=fin r (SortSt.mk' (kindOf st) (arrOf st) (((pendingOf st).setIfInBounds i (sa,na + nb,pw)).eraseIdxIfInBounds (i + 1)) g (failedOf st)) J hB.kind hB.failed rfl rfl
   rw [<- e] at this
   exact this
end
section
variable {prog:Program} {w:World} {A:Around} {E:Value -> Shared -> Prop} {s:Shared} {κ:SortKind} {f:Keyed -> Nat} {a₀:Array Keyed} {st:SortSt}
def Ch (f:Keyed -> Nat) (lo:Nat) (st aE:SortSt):Prop:=pendingOf aE = pendingOf st /\ ∀ k,k < lo -> fa f (arrOf aE) k = fa f (arrOf st) k
theorem Ch.refl {lo:Nat}:Ch f lo st st:=⟨rfl,fun _ _=>rfl⟩
theorem Ch.trans {lo:Nat} {bB aH fB:SortSt} (h:Ch f lo bB aH) (g:Ch f lo aH fB):Ch f lo bB fB:=⟨g.1.trans h.1,fun k hk=>(g.2 k hk).trans (h.2 k hk)⟩
theorem Ii {i j:Nat} {Q:Unit -> SortSt -> Prop} (h:Q () (setArr st (mirror (arrOf st) i j ((j - i) / 2)))):wpS (model prog w) A E s (reverseSlice' i j) Q st:=by
 rw [reverseSlice'_eq]
 exact wpS_modify h
theorem Bs.rev (hB:Bs κ a₀ st) (i j:Nat):Bs κ a₀ (setArr st (mirror (arrOf st) i j ((j - i) / 2))):=⟨(mirror_perm _ _ _ _).trans hB.perm,hB.kind,hB.failed⟩
theorem Zw {a:Array Keyed} {lo:Nat}:Hw f a lo (lo + 1):=fun i j h1 h2 h3=>by
 obtain rfl:i = j:=by omega
 exact Nat.le_refl _
theorem Ri {a:Array Keyed} {lo n:Nat} (h:Hw f a lo (lo + n)) (hn:0 < n) (e:fa f a (lo + n - 1) <= fa f a (lo + n)):Hw f a lo (lo + (n + 1)):=fun i j h1 h2 h3=>by
 by_cases z:j < lo + n
 ·exact h i j h1 h2 z
 ·obtain rfl:j = lo + n:=by omega
  by_cases y:i < lo + n
  ·exact Nat.le_trans (h i (lo + n - 1) h1 (by omega) (by omega)) e
  ·obtain rfl:i = lo + n:=by omega
   exact Nat.le_refl _
def cq (f:Keyed -> Nat) (a:Array Keyed) (lo n q:Nat):Prop:=(∀ i j,lo <= i -> i <= j -> j < lo + n -> fa f a j <= fa f a i) /\ q < n /\ ∀ i,lo + n - (q + 1) <= i -> i < lo + n -> fa f a i = fa f a (lo + n - 1)
theorem cq.flat {a:Array Keyed} {lo n q:Nat} (h:cq f a lo n q) (hs:lo + n <= a.size) (k:Nat):fa f (mirror a (lo + n - (q + 1)) (lo + n) ((lo + n - (lo + n - (q + 1))) / 2)) k = fa f a k:=Ie hs (fun k l h1 h2 h3 h4=>(h.2.2 k h1 h2).trans (h.2.2 l h3 h4).symm) k
theorem cq.asc {a b:Array Keyed} {lo n q:Nat} (h:cq f a lo n q) (hs:lo + n <= b.size) (e:∀ k,fa f b k = fa f a k):Hw f (mirror b lo (lo + n) ((lo + n - lo) / 2)) lo (lo + n):=fun i j h1 h2 h3=>by
 rw [F7 hs,F7 hs,if_pos (by omega),if_pos (by omega),e,e]
 exact h.1 _ _ (by omega) (by omega) (by omega)
theorem U1 (hA : Hv prog w A s κ f a₀) (hB : Bs κ a₀ st) {lo nr : Nat} (sH : 0 < nr) (hsz : lo + nr <= a₀.size) {Q : Option Nat -> SortSt -> Prop}
  (h:∀ m aE,0 < m -> m <= nr -> Bs κ a₀ aE -> Ch f lo st aE -> Hw f (arrOf aE) lo (lo + m) -> Q (some m) aE):wpS (model prog w) A E s (countRun' lo nr) Q st:=by
 refine wpS_bind (wpS_mono (wpS_forRange (I:=fun x c aE=>aE = st /\ c = (none,x) /\ Hw f (arrOf st) lo (lo + x)) (Q:=fun c aE=>aE = st /\ ∃ n,c = (none,n) /\ 0 < n /\ n <= nr /\ Hw f (arrOf st) lo (lo + n) /\ (n < nr -> fa f (arrOf st) (lo + n) < fa f (arrOf st) (lo + n - 1))) ?_ ?_ ⟨rfl,rfl,Zw⟩) ?_)
 ·rintro x c aE h1 h2 ⟨rfl,rfl,h3⟩
  dsimp only
  refine wpS_bind (Gn hA hB (by omega) (by omega) ?_)
  dsimp only
  by_cases z:fa f (arrOf aE) (lo + x) < fa f (arrOf aE) (lo + x - 1)
  ·rw [if_pos (decide_eq_true z)]
   exact wpS_pure ⟨rfl,x,rfl,by omega,by omega,h3,fun _=>z⟩
  ·rw [if_neg (by rw [decide_eq_true_eq]; exact z)]
   exact wpS_pure ⟨rfl,rfl,Ri h3 (by omega) (by omega)⟩
 ·rintro c aE ⟨rfl,rfl,h3⟩
  have e:max 1 nr = nr:=by omega
  rw [e] at h3 ⊢
  exact ⟨rfl,nr,rfl,sH,Nat.le_refl _,h3,fun z=>absurd z (Nat.lt_irrefl _)⟩
 rintro c aE ⟨rfl,n,rfl,h1,h2,h3,h4⟩
 dsimp only
 by_cases e1:n = nr
 ·rw [if_pos (Es e1)]
  exact wpS_pure (h _ _ h1 h2 hB Ch.refl h3)
 rw [if_neg (Eu e1)]
 have h4':=h4 (by omega)
 have part:∀ bB,Bs κ a₀ bB -> pendingOf bB = pendingOf aE -> (∀ k,fa f (arrOf bB) k = fa f (arrOf aE) k) -> (∀ i,lo <= i -> i < lo + n -> fa f (arrOf aE) i = fa f (arrOf aE) (lo + n - 1)) -> cq f (arrOf bB) lo (n + 1) 0:=fun bB B1 p1 f1 eq=>by
  refine ⟨fun i j i1 i2 i3=>?_,by omega,fun i i1 i2=>?_⟩
  ·rw [f1,f1]
   by_cases z:j < lo + n
   ·rw [eq i i1 (by omega),eq j (by omega) z]
    exact Nat.le_refl _
   ·obtain rfl:j = lo + n:=by omega
    by_cases y:i < lo + n
    ·rw [eq i i1 y]
     omega
    ·obtain rfl:i = lo + n:=by omega
     exact Nat.le_refl _
  ·obtain rfl:i = lo + n:=by omega
   rfl
 by_cases e2:n > 1
 case' pos =>
  rw [if_pos e2]
  refine wpS_bind (Gn hA hB (by omega) (by omega) ?_)
  dsimp only
  by_cases z:fa f (arrOf aE) lo < fa f (arrOf aE) (lo + n - 1)
  ·rw [if_pos (decide_eq_true z)]
   exact wpS_pure (h _ _ h1 h2 hB Ch.refl h3)
  rw [if_neg (by rw [decide_eq_true_eq]; exact z)]
  have eq:∀ i,lo <= i -> i < lo + n -> fa f (arrOf aE) i = fa f (arrOf aE) (lo + n - 1):=fun i i1 i2=>by
   have a1:=h3 lo i (Nat.le_refl _) i1 i2
   have a2:=h3 i (lo + n - 1) i1 (by omega) (by omega)
   omega
  refine wpS_bind (Ii ?_)
  have B1:=hB.rev lo (lo + n)
  have f1:∀ k,fa f (arrOf (setArr aE (mirror (arrOf aE) lo (lo + n) ((lo + n - lo) / 2)))) k = fa f (arrOf aE) k:=Ie (by rw [hB.size]; omega) fun k l k1 k2 l1 l2=>(eq k k1 k2).trans (eq l l1 l2).symm
  have F1:=part _ B1 rfl f1 eq
  have C1:Ch f lo aE (setArr aE (mirror (arrOf aE) lo (lo + n) ((lo + n - lo) / 2))):=⟨rfl,fun k _=>f1 k⟩
  generalize setArr aE (mirror (arrOf aE) lo (lo + n) ((lo + n - lo) / 2)) = bB at B1 F1 C1 ⊢
 case' neg =>
  rw [if_neg e2]
  obtain rfl:n = 1:=by omega
  have F1:=part aE hB rfl (fun _=>rfl) fun i i1 i2=>by
   obtain rfl:i = lo:=by omega
   rfl
  have C1:Ch f lo aE aE:=Ch.refl
  have B1:=hB
 all_goals
  refine wpS_bind (wpS_lift (wpAny_rule ⟨rfl,?_⟩))
  refine wpS_bind (wpS_mono (wpS_forRange (I:=fun x c aH=>∃ q,c = (none,x,q) /\ x <= nr /\ Bs κ a₀ aH /\ Ch f lo aE aH /\ cq f (arrOf aH) lo x q) (Q:=fun c aH=>∃ n q,c = (none,n,q) /\ n <= nr /\ Bs κ a₀ aH /\ Ch f lo aE aH /\ cq f (arrOf aH) lo n q) ?_ ?_ ⟨0,rfl,by omega,B1,C1,F1⟩) ?_)
  ·rintro x c aH x1 x2 ⟨q,rfl,_,B2,C2,F2⟩
   dsimp only
   have sz:=B2.size
   refine wpS_bind (Gn hA B2 (by omega) (by omega) ?_)
   dsimp only
   by_cases z:fa f (arrOf aH) (lo + x) < fa f (arrOf aH) (lo + x - 1)
   ·rw [if_pos (decide_eq_true z)]
    have F3:∀ fB,(∀ k,fa f (arrOf fB) k = fa f (arrOf aH) k) -> cq f (arrOf fB) lo (x + 1) 0:=fun fB e3=>by
     have q1:=F2.2.1
     refine ⟨fun i j i1 i2 i3=>?_,by omega,fun i i1 i2=>?_⟩
     ·rw [e3,e3]
      by_cases y:j < lo + x
      ·exact F2.1 i j i1 i2 y
      ·obtain rfl:j = lo + x:=by omega
       by_cases v:i < lo + x
       ·exact Nat.le_trans (Nat.le_of_lt z) (F2.1 i (lo + x - 1) i1 (by omega) (by omega))
       ·obtain rfl:i = lo + x:=by omega
        exact Nat.le_refl _
     ·obtain rfl:i = lo + x:=by omega
      rfl
    by_cases e:q > 0
    ·rw [if_pos e]
     exact wpS_bind (Ii (wpS_pure ⟨0,rfl,by omega,B2.rev _ _,C2.trans ⟨rfl,fun k _=>F2.flat (by omega) k⟩,F3 _ fun k=>F2.flat (by omega) k⟩))
    ·rw [if_neg e]
     exact wpS_pure ⟨0,rfl,by omega,B2,C2,F3 _ fun _=>rfl⟩
   ·rw [if_neg (by rw [decide_eq_true_eq]; exact z)]
    refine wpS_bind (Gn hA B2 (by omega) (by omega) ?_)
    dsimp only
    by_cases y:fa f (arrOf aH) (lo + x - 1) < fa f (arrOf aH) (lo + x)
    ·rw [if_pos (decide_eq_true y)]
     exact wpS_pure ⟨x,q,rfl,by omega,B2,C2,F2⟩
    ·rw [if_neg (by rw [decide_eq_true_eq]; exact y)]
     have q1:=F2.2.1
     refine wpS_pure ⟨q + 1,rfl,by omega,B2,C2,fun i j i1 i2 i3=>?_,by omega,fun i i1 i2=>?_⟩
     ·by_cases v:j < lo + x
      ·exact F2.1 i j i1 i2 v
      ·obtain rfl:j = lo + x:=by omega
       by_cases u:i < lo + x
       ·have:=F2.1 i (lo + x - 1) i1 (by omega) (by omega)
        omega
       ·obtain rfl:i = lo + x:=by omega
        exact Nat.le_refl _
     ·rw [show lo + (x + 1) - 1 = lo + x by omega]
      by_cases v:i < lo + x
      ·have:=F2.2.2 i (by omega) v
       omega
      ·obtain rfl:i = lo + x:=by omega
       rfl
  ·rintro c aH ⟨q,rfl,a1,B2,C2,F2⟩
   exact ⟨_,q,rfl,a1,B2,C2,F2⟩
  rintro c aH ⟨m,q,rfl,a1,B2,C2,F2⟩
  dsimp only
  have sz:=B2.size
  have q1:=F2.2.1
  by_cases e:q > 0
  case' pos =>
   rw [if_pos e]
   refine wpS_bind (Ii (wpS_bind (Ii ?_)))
   have B3:=(B2.rev (lo + m - (q + 1)) (lo + m)).rev lo (lo + m)
   have A3:Hw f (arrOf (setArr (setArr aH (mirror (arrOf aH) (lo + m - (q + 1)) (lo + m) ((lo + m - (lo + m - (q + 1))) / 2))) (mirror (mirror (arrOf aH) (lo + m - (q + 1)) (lo + m) ((lo + m - (lo + m - (q + 1))) / 2)) lo (lo + m) ((lo + m - lo) / 2)))) lo (lo + m):=F2.asc (b:=mirror (arrOf aH) (lo + m - (q + 1)) (lo + m) ((lo + m - (lo + m - (q + 1))) / 2)) (by rw [mirror_size]; omega) (fun k=>F2.flat (by omega) k)
   have C3:Ch f lo aE (setArr (setArr aH (mirror (arrOf aH) (lo + m - (q + 1)) (lo + m) ((lo + m - (lo + m - (q + 1))) / 2))) (mirror (mirror (arrOf aH) (lo + m - (q + 1)) (lo + m) ((lo + m - (lo + m - (q + 1))) / 2)) lo (lo + m) ((lo + m - lo) / 2))):=C2.trans ⟨rfl,fun k hk=>by
    show fa f (mirror (mirror (arrOf aH) (lo + m - (q + 1)) (lo + m) ((lo + m - (lo + m - (q + 1))) / 2)) lo (lo + m) ((lo + m - lo) / 2)) k = _
    rw [F7 (by rw [mirror_size]; omega),if_neg (by omega)]
    exact F2.flat (by omega) k⟩
   generalize setArr (setArr aH (mirror (arrOf aH) (lo + m - (q + 1)) (lo + m) ((lo + m - (lo + m - (q + 1))) / 2))) (mirror (mirror (arrOf aH) (lo + m - (q + 1)) (lo + m) ((lo + m - (lo + m - (q + 1))) / 2)) lo (lo + m) ((lo + m - lo) / 2)) = fB at B3 C3 A3 ⊢
  case' neg =>
   rw [if_neg e]
   refine wpS_bind (Ii ?_)
   have B3:=B2.rev lo (lo + m)
   have A3:Hw f (arrOf (setArr aH (mirror (arrOf aH) lo (lo + m) ((lo + m - lo) / 2)))) lo (lo + m):=F2.asc (b:=arrOf aH) (by omega) (fun k=>rfl)
   have C3:Ch f lo aE (setArr aH (mirror (arrOf aH) lo (lo + m) ((lo + m - lo) / 2))):=C2.trans ⟨rfl,fun k hk=>by
    show fa f (mirror (arrOf aH) lo (lo + m) ((lo + m - lo) / 2)) k = _
    rw [F7 (by omega),if_neg (by omega)]⟩
   generalize setArr aH (mirror (arrOf aH) lo (lo + m) ((lo + m - lo) / 2)) = fB at B3 C3 A3 ⊢
  all_goals
   refine wpS_bind (wpS_mono (wpS_forRange (I:=fun x c bC=>bC = fB /\ c = (none,x) /\ Hw f (arrOf fB) lo (lo + x)) (Q:=fun c bC=>bC = fB /\ ∃ n,c = (none,n) /\ 0 < n /\ n <= nr /\ Hw f (arrOf fB) lo (lo + n)) ?_ ?_ ⟨rfl,rfl,A3⟩) ?_)
   ·rintro x c bC y1 y2 ⟨rfl,rfl,y3⟩
    dsimp only
    refine wpS_bind (Gn hA B3 (by omega) (by omega) ?_)
    dsimp only
    by_cases z:fa f (arrOf bC) (lo + x) < fa f (arrOf bC) (lo + x - 1)
    ·rw [if_pos (decide_eq_true z)]
     exact wpS_pure ⟨rfl,x,rfl,by omega,by omega,y3⟩
    ·rw [if_neg (by rw [decide_eq_true_eq]; exact z)]
     exact wpS_pure ⟨rfl,rfl,Ri y3 (by omega) (by omega)⟩
   ·rintro c bC ⟨rfl,rfl,y3⟩
    have e:max m nr = nr:=by omega
    rw [e] at y3 ⊢
    exact ⟨rfl,nr,rfl,sH,Nat.le_refl _,y3⟩
   rintro c bC ⟨rfl,n,rfl,n1,n2,n3⟩
   dsimp only
   exact wpS_pure (h _ _ n1 n2 B3 C3 n3)
end
section
variable {f:Keyed -> Nat}
def Cr (f:Keyed -> Nat) (a:Array Keyed):Nat -> List (Nat × Nat × Nat) -> Nat -> Prop
 | s0,[],hi=>s0 = hi
 | s0,x :: r,hi=>x.1 = s0 /\ 0 < x.2.1 /\ Hw f a s0 (s0 + x.2.1) /\ Cr f a (s0 + x.2.1) r hi
theorem Cr.len {a:Array Keyed}:∀ {l:List (Nat × Nat × Nat)} {s0 hi:Nat},Cr f a s0 l hi -> s0 + l.length <= hi
 | [],s0,hi,h=>Nat.le_of_eq h
 | x :: r,s0,hi,h=>by
  have:=h.2.2.2.len
  have h2:=h.2.1
  rw [List.length_cons]
  omega
theorem Cr.congr {a a':Array Keyed}:∀ {l:List (Nat × Nat × Nat)} {s0 hi:Nat},Cr f a s0 l hi -> (∀ k,s0 <= k -> k < hi -> fa f a' k = fa f a k) -> Cr f a' s0 l hi
 | [],s0,hi,h,e=>h
 | x :: r,s0,hi,h,e=>by
  obtain ⟨h1,h2,h3,h4⟩ := h
  have hl:=h4.len
  refine ⟨h1,h2,fun i j i1 i2 i3=>?_,h4.congr fun k k1 k2=>e k (by omega) k2⟩
  rw [e i i1 (by omega),e j (by omega) (by omega)]
  exact h3 i j i1 i2 i3
theorem Cr.app {a:Array Keyed}:∀ {l m:List (Nat × Nat × Nat)} {s0 hi:Nat},Cr f a s0 (l ++ m) hi ↔ ∃ mid,Cr f a s0 l mid /\ Cr f a mid m hi
 | [],m,s0,hi=>⟨fun h=>⟨s0,rfl,h⟩,fun ⟨mid,h1,h2⟩=>by rw [show s0 = mid from h1]; exact h2⟩
 | x :: r,m,s0,hi=>by
  constructor
  ·rintro ⟨h1,h2,h3,h4⟩
   obtain ⟨mid,g1,g2⟩ := Cr.app.mp h4
   exact ⟨mid,⟨h1,h2,h3,g1⟩,g2⟩
  ·rintro ⟨mid,⟨h1,h2,h3,g1⟩,g2⟩
   exact ⟨h1,h2,h3,Cr.app.mpr ⟨mid,g1,g2⟩⟩
theorem Cr.mod {a:Array Keyed} {pw:Nat}:∀ {l:List (Nat × Nat × Nat)} {i s0 hi:Nat},Cr f a s0 l hi -> Cr f a s0 (l.modify i fun x=>(x.fst,x.2.fst,pw)) hi
 | [],i,s0,hi,h=>by rw [List.modify_nil]; exact h
 | x :: r,0,s0,hi,h=>by rw [List.modify_zero_cons]; exact h
 | x :: r,i + 1,s0,hi,h=>by
  rw [List.modify_succ_cons]
  exact ⟨h.1,h.2.1,h.2.2.1,Cr.mod h.2.2.2⟩
theorem V3 (p:Array (Nat × Nat × Nat)) (i:Nat) (x:Nat × Nat × Nat) (h:i + 1 < p.size):((p.setIfInBounds i x).eraseIdxIfInBounds (i + 1)).toList = p.toList.take i ++ x :: p.toList.drop (i + 2):=by
 have e:((p.setIfInBounds i x).eraseIdxIfInBounds (i + 1)).toList = (p.toList.set i x).eraseIdx (i + 1):=by
  unfold Array.eraseIdxIfInBounds
  rw [dif_pos (by rw [Array.size_setIfInBounds]; exact h),Array.toList_eraseIdx,Array.toList_setIfInBounds]
 rw [e,List.eraseIdx_eq_take_drop_succ]
 have hl:i < p.toList.length:=by rw [Array.length_toList]; omega
 rw [List.drop_set_of_lt (by omega),List.take_set,List.take_add_one,List.getElem?_eq_getElem hl]
 have ht:(p.toList.take i).length = i:=by rw [List.length_take]; omega
 rw [List.set_append_right _ _ (by omega),ht,Nat.sub_self,List.append_assoc]
 rfl
end
section
variable {prog:Program} {w:World} {A:Around} {E:Value -> Shared -> Prop} {s:Shared} {κ:SortKind} {f:Keyed -> Nat} {a₀:Array Keyed} {st:SortSt}
theorem Z7 (hA : Hv prog w A s κ f a₀) (hB : Bs κ a₀ st) {lo n ok : Nat} (aC : 0 < ok) (hn : ok <= n) (hsz : lo + n <= a₀.size) (hs : Hw f (arrOf st) lo (lo + ok)) {Q : Bool -> SortSt -> Prop}
  (h:∀ aE,Bs κ a₀ aE -> Ch f lo st aE -> Hw f (arrOf aE) lo (lo + n) -> Q true aE):wpS (model prog w) A E s (binarySort' lo n ok) Q st:=by
 refine wpS_bind (wpS_mono (wpS_forRange (I:=fun k c aE=>c = (none,()) /\ Bs κ a₀ aE /\ Ch f lo st aE /\ Hw f (arrOf aE) lo (lo + k)) (Q:=fun c aE=>c = (none,()) /\ Bs κ a₀ aE /\ Ch f lo st aE /\ Hw f (arrOf aE) lo (lo + n)) ?_ ?_ ⟨rfl,hB,Ch.refl,by rw [show max ok 1 = ok by omega]; exact hs⟩) ?_)
 ·rintro k c aE k1 k2 ⟨rfl,B1,C1,A1⟩
  dsimp only
  have sz:=B1.size
  refine wpS_bind (wpS_mono (wpS_forRange (I:=fun x c aH=>aH = aE /\ ∃ l r,c = (none,l,r) /\ l <= r /\ r <= k /\ r + x <= l + k /\ (∀ i,i < l -> fa f (arrOf aE) (lo + i) <= fa f (arrOf aE) (lo + k)) /\ (∀ i,r <= i -> i < k -> fa f (arrOf aE) (lo + k) <= fa f (arrOf aE) (lo + i)))
   (Q:=fun c aH=>aH = aE /\ ∃ l,c = (none,l,l) /\ l <= k /\ (∀ i,i < l -> fa f (arrOf aE) (lo + i) <= fa f (arrOf aE) (lo + k)) /\ (∀ i,l <= i -> i < k -> fa f (arrOf aE) (lo + k) <= fa f (arrOf aE) (lo + i))) ?_ ?_ ⟨rfl,0,k,rfl,by omega,by omega,by omega,fun i hi=>by omega,fun i h1 h2=>by omega⟩) ?_)
  ·rintro x c aH _ hx ⟨rfl,l,r,rfl,g1,g2,g3,g4,g5⟩
   dsimp only
   by_cases e:l >= r
   ·rw [if_pos e]
    obtain rfl:l = r:=by omega
    exact wpS_pure ⟨rfl,l,rfl,g2,g4,g5⟩
   ·rw [if_neg e]
    refine wpS_bind (Gn hA B1 (by omega) (by omega) ?_)
    dsimp only
    by_cases z:fa f (arrOf aH) (lo + k) < fa f (arrOf aH) (lo + (l + r) / 2)
    ·rw [if_pos (decide_eq_true z)]
     refine wpS_pure ⟨rfl,l,_,rfl,by omega,by omega,by omega,g4,fun i i1 i2=>?_⟩
     have:=A1 (lo + (l + r) / 2) (lo + i) (by omega) (by omega) (by omega)
     omega
    ·rw [if_neg (by rw [decide_eq_true_eq]; exact z)]
     refine wpS_pure ⟨rfl,_,r,rfl,by omega,by omega,by omega,fun i i1=>?_,g5⟩
     have:=A1 (lo + i) (lo + (l + r) / 2) (by omega) (by omega) (by omega)
     omega
  ·rintro c aH ⟨rfl,l,r,rfl,g1,g2,g3,g4,g5⟩
   obtain rfl:l = r:=by omega
   exact ⟨rfl,l,rfl,g2,g4,g5⟩
  rintro c aH ⟨rfl,l,rfl,g2,g4,g5⟩
  dsimp only
  have eb:∀ m,fa f (bubble (arrOf aH) (lo + k) (lo + k - (lo + l))) m = if m = lo + l then fa f (arrOf aH) (lo + k) else if lo + l < m /\ m <= lo + k then fa f (arrOf aH) (m - 1) else fa f (arrOf aH) m:=fun m=>by
   rw [Vt (by omega) (by omega),show lo + k - (lo + k - (lo + l)) = lo + l by omega]
  refine wpS_bind (m:=moveDown' (lo + k) (lo + l)) ?_
  rw [moveDown'_eq]
  refine wpS_modify (wpS_pure ⟨rfl,⟨(bubble_perm _ _ _).trans B1.perm,B1.kind,B1.failed⟩,C1.trans ⟨rfl,fun m hm=>?_⟩,fun i j i1 i2 i3=>?_⟩)
  ·show fa f (bubble (arrOf aH) (lo + k) (lo + k - (lo + l))) m = _
   rw [eb m,if_neg (by omega),if_neg (by omega)]
  ·show fa f (bubble (arrOf aH) (lo + k) (lo + k - (lo + l))) i <= fa f (bubble (arrOf aH) (lo + k) (lo + k - (lo + l))) j
   rw [eb i,eb j]
   have G4:∀ i,lo <= i -> i < lo + l -> fa f (arrOf aH) i <= fa f (arrOf aH) (lo + k):=fun i i1 i2=>by
    have:=g4 (i - lo) (by omega)
    rwa [show lo + (i - lo) = i by omega] at this
   have G5:∀ i,lo + l <= i -> i < lo + k -> fa f (arrOf aH) (lo + k) <= fa f (arrOf aH) i:=fun i i1 i2=>by
    have:=g5 (i - lo) (by omega) (by omega)
    rwa [show lo + (i - lo) = i by omega] at this
   by_cases c1:i = lo + l
   ·rw [if_pos c1]
    by_cases c2:j = lo + l
    ·rw [if_pos c2]
     exact Nat.le_refl _
    ·rw [if_neg c2,if_pos (by omega)]
     exact G5 (j - 1) (by omega) (by omega)
   ·rw [if_neg c1]
    by_cases c3:lo + l < i /\ i <= lo + k
    ·rw [if_pos c3,if_neg (by omega),if_pos (by omega)]
     exact A1 (i - 1) (j - 1) (by omega) (by omega) (by omega)
    ·rw [if_neg c3]
     by_cases c2:j = lo + l
     ·rw [if_pos c2]
      exact G4 i i1 (by omega)
     ·rw [if_neg c2]
      by_cases c4:lo + l < j /\ j <= lo + k
      ·rw [if_pos c4]
       exact Nat.le_trans (G4 i i1 (by omega)) (G5 (j - 1) (by omega) (by omega))
      ·rw [if_neg c4]
       exact A1 i j i1 i2 (by omega)
 ·rintro c aE ⟨rfl,B1,C1,A1⟩
  rw [show max (max ok 1) n = n by omega] at A1
  exact ⟨rfl,B1,C1,A1⟩
 rintro c aE ⟨rfl,B1,C1,A1⟩
 exact wpS_pure (h _ B1 C1 A1)
theorem Ks (hA : Hv prog w A s κ f a₀) (hB : Bs κ a₀ st) {i hi : Nat} (hR : Cr f (arrOf st) 0 (pendingOf st).toList hi) (hh : hi <= a₀.size) (aI : i + 1 < (pendingOf st).size) {Q : Bool -> SortSt -> Prop}
  (h:∀ aE,Bs κ a₀ aE -> Cr f (arrOf aE) 0 (pendingOf aE).toList hi -> (pendingOf aE).size + 1 = (pendingOf st).size -> (∀ k,hi <= k -> fa f (arrOf aE) k = fa f (arrOf st) k) -> Q true aE):wpS (model prog w) A E s (mergeAt' i) Q st:=by
 have hl:i + 1 < (pendingOf st).toList.length:=by rw [Array.length_toList]; exact aI
 obtain ⟨sa,na,pw,ea⟩ : ∃ sa na pw,(pendingOf st).toList[i]? = some (sa,na,pw):=⟨_,_,_,List.getElem?_eq_getElem (by omega)⟩
 obtain ⟨sb,nb,pb,eb⟩ : ∃ sb nb pb,(pendingOf st).toList[i + 1]? = some (sb,nb,pb):=⟨_,_,_,List.getElem?_eq_getElem (by omega)⟩
 have ed:(pendingOf st).toList = (pendingOf st).toList.take i ++ (sa,na,pw) :: (sb,nb,pb) :: (pendingOf st).toList.drop (i + 2):=by
  have h1:=(List.take_append_drop i (pendingOf st).toList).symm
  rw [List.drop_eq_getElem_cons (by omega),(List.getElem?_eq_some_iff.mp ea).2,List.drop_eq_getElem_cons hl,(List.getElem?_eq_some_iff.mp eb).2] at h1
  exact h1
 have hR2:=hR
 rw [ed] at hR2
 obtain ⟨mid,r1,r2⟩ := Cr.app.mp hR2
 obtain ⟨a1,a2,a3,b1,b2,b3,r3⟩ := r2
 dsimp only at a1 a2 a3 b1 b2 b3 r3
 subst a1 b1
 have l1:=r1.len
 have l3:=r3.len
 refine R9 hA hB (by rw [<- Array.getElem?_toList]; exact ea) (by rw [<- Array.getElem?_toList]; exact eb) rfl a2 b2 (by omega) a3 b3 fun aE B' p' A' f'=>?_
 refine h aE B' ?_ ?_ fun k hk=>f' k (by omega)
 ·rw [p',V3 _ _ _ aI]
  refine Cr.app.mpr ⟨sa,r1.congr fun k k1 k2=>f' k (by omega),rfl,by show 0 < na + nb; omega,?_,?_⟩
  ·show Hw f (arrOf aE) sa (sa + (na + nb))
   rw [<- Nat.add_assoc]
   exact A'
  ·show Cr f (arrOf aE) (sa + (na + nb)) _ _
   rw [<- Nat.add_assoc]
   exact r3.congr fun k k1 k2=>f' k (by omega)
 ·rw [p',<- Array.length_toList,V3 _ _ _ aI,<- Array.length_toList (xs:=pendingOf st)]
  rw [List.length_append,List.length_cons,List.length_take,List.length_drop]
  omega
end
section
variable {prog:Program} {w:World} {A:Around} {E:Value -> Shared -> Prop} {s:Shared} {κ:SortKind} {f:Keyed -> Nat} {a₀:Array Keyed} {st:SortSt}
theorem Cr.push {a a':Array Keyed} {p:Array (Nat × Nat × Nat)} {lo n pw:Nat} (h:Cr f a 0 p.toList lo) (e:∀ k,k < lo -> fa f a' k = fa f a k) (hn:0 < n) (hs:Hw f a' lo (lo + n)):Cr f a' 0 (p.push (lo,n,pw)).toList (lo + n):=by
 rw [Array.toList_push]
 exact Cr.app.mpr ⟨lo,h.congr fun k _ hk=>e k hk,rfl,hn,hs,rfl⟩
theorem S5 (hA:Hv prog w A s κ f a₀) (hB:Bs κ a₀ st) (hp:pendingOf st = #[]) {Q:Unit -> SortSt -> Prop} (h:∀ aE,Bs κ a₀ aE -> Hw f (arrOf aE) 0 a₀.size -> Q () aE):wpS (model prog w) A E s sortRuns' Q st:=by
 have sz0:=hB.size
 rw [sortRuns'_eq]
 refine wpS_bind (wpS_get ?_)
 refine wpS_bind (wpS_mono (wpS_forRange (I:=fun x c aE=>∃ lo,c = (none,lo) /\ Bs κ a₀ aE /\ Cr f (arrOf aE) 0 (pendingOf aE).toList lo /\ lo <= a₀.size /\ (lo < a₀.size -> x <= lo)) (Q:=fun c aE=>c = (none,a₀.size) /\ Bs κ a₀ aE /\ Cr f (arrOf aE) 0 (pendingOf aE).toList a₀.size) ?_ ?_ ⟨0,rfl,hB,by rw [hp]; rfl,by omega,fun _=>Nat.le_refl _⟩) ?_)
 ·rintro x c bB _ x2 ⟨lo,rfl,B1,R1,l1,l2⟩
  dsimp only
  rw [show (arrOf st).size = a₀.size from sz0]
  by_cases e1:lo >= a₀.size
  ·rw [if_pos e1]
   obtain rfl:lo = a₀.size:=by omega
   exact wpS_pure ⟨rfl,B1,R1⟩
  rw [if_neg e1]
  refine wpS_bind (U1 hA B1 (by omega) (by omega) fun m aH m1 m2 B2 C2 A2=>?_)
  dsimp only
  have R2:Cr f (arrOf aH) 0 (pendingOf aH).toList lo:=by
   rw [C2.1]
   exact R1.congr fun k _ hk=>C2.2 k hk
  by_cases e2:m < minRun' a₀.size a₀.size 0
  case' pos =>
   rw [if_pos e2]
   refine wpS_bind (wpS_lift (wpAny_rule ⟨rfl,?_⟩))
   generalize hn:min (a₀.size - lo) (minRun' a₀.size a₀.size 0) = n
   have vo:0 < n /\ n <= a₀.size - lo /\ m <= n:=by omega
   refine wpS_bind (Z7 hA B2 m1 vo.2.2 (by omega) A2 fun fB B3 C3 A3=>?_)
   rw [if_neg (by decide)]
   have R3:Cr f (arrOf fB) 0 (pendingOf fB).toList lo:=by
    rw [C3.1]
    exact R2.congr fun k _ hk=>C3.2 k hk
  case' neg =>
   rw [if_neg e2]
   obtain ⟨n,rfl⟩ : ∃ n,n = m:=⟨m,rfl⟩
   have vo:0 < n /\ n <= a₀.size - lo:=⟨m1,m2⟩
   have B3:=B2
   have A3:=A2
   have R3:=R2
   obtain ⟨fB,rfl⟩ : ∃ fB,fB = aH:=⟨aH,rfl⟩
  all_goals
   refine wpS_bind (wpS_get ?_)
   cases hb:(pendingOf fB).back? with
   | none =>
    dsimp only
    refine wpS_bind (wpS_modify (wpS_pure ⟨lo + n,rfl,⟨B3.perm,B3.kind,B3.failed⟩,R3.push (fun _ _=>rfl) vo.1 A3,by omega,fun _=>by omega⟩))
   | some v =>
    obtain ⟨s1,n1,v1⟩ := v
    dsimp only
    refine wpS_bind (wpS_mono (wpS_forRange (I:=fun y c bC=>c = (none,()) /\ Bs κ a₀ bC /\ Cr f (arrOf bC) 0 (pendingOf bC).toList lo /\ Hw f (arrOf bC) lo (lo + n)) (Q:=fun c bC=>c = (none,()) /\ Bs κ a₀ bC /\ Cr f (arrOf bC) 0 (pendingOf bC).toList lo /\ Hw f (arrOf bC) lo (lo + n)) ?_ (fun c bC h4=>h4) ⟨rfl,B3,R3,A3⟩) ?_)
    ·rintro y c bC _ y2 ⟨rfl,B4,R4,A4⟩
     refine wpS_bind (wpS_get ?_)
     by_cases e3:(pendingOf bC).size > 1
     ·rw [if_pos e3]
      obtain ⟨⟨u1,u2,u3⟩,hu⟩ : ∃ u,(pendingOf bC)[(pendingOf bC).size - 2]? = some u:=⟨_,getElem?_pos (pendingOf bC) _ (by omega)⟩
      rw [hu]
      dsimp only
      split
      ·exact wpS_pure ⟨rfl,B4,R4,A4⟩
      ·refine wpS_bind (Ks hA B4 R4 l1 (by omega) fun xb B5 R5 _ f5=>?_)
       rw [if_neg (by decide)]
       refine wpS_pure ⟨rfl,B5,R5,fun i j i1 i2 i3=>?_⟩
       rw [f5 i i1,f5 j (by omega)]
       exact A4 i j i1 i2 i3
     ·rw [if_neg e3]
      exact wpS_pure ⟨rfl,B4,R4,A4⟩
    ·rintro c bC ⟨rfl,B4,R4,A4⟩
     dsimp only
     refine wpS_bind (wpS_modify (wpS_bind (wpS_modify (wpS_pure ⟨lo + n,rfl,⟨B4.perm,B4.kind,B4.failed⟩,?_,by omega,fun _=>by omega⟩))))
     refine Cr.push (a:=arrOf bC) ?_ (fun _ _=>rfl) vo.1 A4
     show Cr f (arrOf bC) 0 ((pendingOf bC).modify ((pendingOf bC).size - 1) _).toList lo
     rw [Array.toList_modify]
     exact R4.mod
 ·rintro c bB ⟨lo,rfl,B1,R1,l1,l2⟩
  obtain rfl:lo = a₀.size:=by omega
  exact ⟨rfl,B1,R1⟩
 rintro c bB ⟨rfl,B1,R1⟩
 dsimp only
 have n1:(pendingOf bB).size <= a₀.size:=by
  have:=R1.len
  rw [Array.length_toList] at this
  omega
 refine wpS_bind (wpS_mono (wpS_forRange (I:=fun y c bC=>c = (none,()) /\ Bs κ a₀ bC /\ Cr f (arrOf bC) 0 (pendingOf bC).toList a₀.size /\ (pendingOf bC).size + y <= a₀.size + 1) (Q:=fun c bC=>c = (none,()) /\ Bs κ a₀ bC /\ Cr f (arrOf bC) 0 (pendingOf bC).toList a₀.size /\ (pendingOf bC).size <= 1) ?_ ?_ ⟨rfl,B1,R1,by omega⟩) ?_)
 ·rintro y c bC _ y2 ⟨rfl,B4,R4,n4⟩
  refine wpS_bind (wpS_get ?_)
  by_cases e3:(pendingOf bC).size <= 1
  ·rw [if_pos e3]
   exact wpS_pure ⟨rfl,B4,R4,e3⟩
  rw [if_neg e3]
  refine wpS_bind (Ks hA B4 R4 (Nat.le_refl _) ?_ fun xb B5 R5 n5 f5=>?_)
  ·(repeat' split) <;> omega
  rw [if_neg (by decide)]
  exact wpS_pure ⟨rfl,B5,R5,by omega⟩
 ·rintro c bC ⟨rfl,B4,R4,n4⟩
  exact ⟨rfl,B4,R4,by omega⟩
 rintro c bC ⟨rfl,B4,R4,n4⟩
 dsimp only
 refine wpS_pure (h _ B4 ?_)
 rw [<- Array.length_toList] at n4
 match hl:(pendingOf bC).toList with
 | [] =>
  rw [hl] at R4
  have e:0 = a₀.size:=R4
  rw [<- e]
  exact fun i j _ _ h3=>absurd h3 (Nat.not_lt_zero _)
 | [x] =>
  rw [hl] at R4
  obtain ⟨_,_,r3,r4⟩ := R4
  rw [show 0 + x.2.1 = a₀.size from r4] at r3
  exact r3
 | x :: y :: r =>
  rw [hl,List.length_cons,List.length_cons] at n4
  omega
end
open PySem PySem.Spec PySem.SeqAt PyProof.Rows
section
variable {prog:Program} {w:World} {E:Value -> Shared -> Prop}
def Hs:List PyData -> List PyData -> Prop
 | x :: xs,y :: ys=>if PyData.eqv x y = true then Hs xs ys else Gc x y
 | _,_=>True
def Tt:PyData -> PyData -> Prop
 | .tuple xs,.tuple ys=>Hs xs ys
 | _,_=>False
theorem Py:∀ {xs ys:List PyData},aK xs ys -> Hs xs ys
 | [],_,_=>by unfold Hs; trivial
 | _ :: _,[],_=>by unfold Hs; trivial
 | x :: xs,y :: ys,h=>by
  unfold Hs
  split
  ·exact Py h.2
  ·exact h.1
theorem Qm {A : Around} {s : Shared} {b : Bool} {Q : Bool -> Shared -> Prop} : ∀ (xs ys : List PyData) (vs ws : List Value) (as bs : List Addr) (i : Nat), ReadsAll s.heap vs xs as -> ReadsAll s.heap ws ys bs -> PyData.canLayAll0 xs = true -> PyData.canLayAll0 ys = true -> Hs xs ys ->
  A.units + min (PyData.depthAll xs) (PyData.depthAll ys) < cLine -> (b = true -> i = 0 -> ∀ x xs' y GC,xs = x :: xs' -> ys = y :: GC -> ∃ m n,x = .int m /\ y = .int n) -> Q (aD xs ys) s -> PySem.W.KatLex prog w A b (decide (xs.length < ys.length)) Q (vs.zip ws) i s
 | [],ys,_,ws,_,_,i,ra,rb,_,_,_,_,_,h=>by
  cases ra
  rw [List.zip_nil_left]
  refine PySem.W.kat_nil ?_
  cases ys <;> exact h
 | x :: xs,[],_,_,_,_,i,ra,rb,_,_,_,_,_,h=>by
  cases rb
  rw [List.zip_nil_right]
  exact PySem.W.kat_nil h
 | x :: xs,y :: ys,_,_,_,_,i,ra,rb,ca,cb,hc,hu,hb,h=>by
  have e0:=eqAt_readsAll (x :: xs) (y :: ys) A s _ _ _ _ ra rb ca cb hu 0
  cases ra with
  | @cons v vs _ _ a1 a2 r1 r2 =>
   cases rb with
   | @cons u us _ _ b1 b2 q1 q2 =>
    have v8:x.canLay0 = true /\ PyData.canLayAll0 xs = true:=by simpa [PyData.canLayAll0] using ca
    have v9:y.canLay0 = true /\ PyData.canLayAll0 ys = true:=by simpa [PyData.canLayAll0] using cb
    have hd:A.units + min x.depth y.depth < cLine /\ A.units + min (PyData.depthAll xs) (PyData.depthAll ys) < cLine:=by
     simp only [PyData.depthAll] at hu
     omega
    have e1:SeqAt.EqAt A s v u (PyData.eqv x y):=e0 (by simp) (by simp)
    have el:decide ((x :: xs).length < (y :: ys).length) = decide (xs.length < ys.length):=by simp
    rw [List.zip_cons_cons,el]
    refine PySem.W.kat_cons (e1 prog w _ _ ?_)
    cases e:PyData.eqv x y with
    | true =>
     unfold Hs at hc
     rw [if_pos e] at hc
     refine PySem.W.kat_yes (Qm xs ys _ _ _ _ (i + 1) r2 q2 v8.2 v9.2 hc hd.2 (fun _ z=>by omega) ?_)
     rw [aD,if_pos e] at h
     exact h
    | false =>
     unfold Hs at hc
     rw [if_neg (by rw [e]; decide)] at hc
     rw [aD,if_neg (by rw [e]; decide)] at h
     refine PySem.W.kat_no ?_
     by_cases z:(b && i == 0) = true
     ·have z2:b = true /\ i = 0:=by simpa using z
      obtain ⟨m,n,rfl,rfl⟩ := hb z2.1 z2.2 x xs y ys rfl rfl
      cases r1
      cases q1
      rw [z]
      exact oneLt_int h
     ·rw [show (b && i == 0) = false from Bool.eq_false_iff.mpr z]
      refine PySem.W.kat_one _ _ ?_
      exact Ib x y A s _ _ _ _ r1 q1 v8.1 v9.1 hc hd.1 prog w _ _ (show PySem.W.BoolBack Q (.bool (Gy x y)) s from h)
def Hi (b:Bool) (d:PyData):Prop := ∃ x r,d = .tuple (x :: r) /\ if b = true then ∃ m,x = .int m else ∃ l,x = .tuple l
theorem Yb {A : Around} {s : Shared} {b : Bool} {Q : Bool -> Shared -> Prop} {v u : Value} {d e : PyData} {as bs : List Addr} (rv : Reads s.heap v d as) (ru : Reads s.heap u e bs) (fd : Hi b d) (fe : Hi b e) (cd : d.canLay0 = true) (ce : e.canLay0 = true) (hc : Tt d e) (hu : A.units + d.depth < cLine) (h : Q (Gy d e) s) :
  wpAny (model prog w) A (keyLt' (PyProof.Rows.tuples' b) v u) Q E s:=by
 obtain ⟨x,r,rfl,hx⟩ := fd
 obtain ⟨y,r2,rfl,hy⟩ := fe
 cases rv with
 | @tuple l1 o1 vs n1 _ as1 h1 h2 h3 h4 =>
  cases ru with
  | @tuple l2 o2 ws n2 _ as2 k1 k2 k3 k4 =>
   have n1':vs.size = (x :: r).length:=by simpa using ReadsAll.length _ _ _ h4
   have WD:ws.size = (y :: r2).length:=by simpa using ReadsAll.length _ _ _ k4
   refine PySem.W.kat_lt h1 h3 k1 k3 ?_
   rw [n1',WD]
   refine Qm (x :: r) (y :: r2) _ _ _ _ 0 h4 k4 cd ce hc ?_ (fun hb _ x' _ y' _ e1 e2=>?_) h
   ·have e:(PyData.tuple (x :: r)).depth = PyData.depthAll (x :: r) + 1:=by simp [PyData.depth]
    omega
   ·cases e1
    cases e2
    rw [if_pos hb] at hx hy
    obtain ⟨m,rfl⟩ := hx
    obtain ⟨n,rfl⟩ := hy
    exact ⟨m,n,rfl,rfl⟩
theorem Wu {A:Around} {s:Shared} {b:Bool} {Q:SortKind -> Shared -> Prop}:∀ {vs:List Value} ,vs ≠ [] -> (∀ v ∈ vs,∃ d as,Reads s.heap v d as /\ Hi b d) -> Q (PyProof.Rows.tuples' b) s -> wpAny (model prog w) A (keyKind' vs.toArray) Q E s:=by
 intro vs cY hall h
 have key:∀ vs:List Value,(∀ v ∈ vs,∃ d as,Reads s.heap v d as /\ Hi b d) -> ∃ fs,PySem.W.KatTups s.heap vs fs /\ fs.length = vs.length /\ ∀ f ∈ fs,PySem.W.Looks (model prog w) s.heap (typeOf f) (.type (if b = true then "int" else "tuple")):=by
  intro vs
  induction vs with
  | nil=>exact fun _=>⟨[],PySem.W.KatTups.nil,rfl,fun f hf=>by cases hf⟩
  | cons v vs ih =>
   intro hall
   obtain ⟨fs,t1,t2,t3⟩ := ih fun v hv=>hall v (List.mem_cons_of_mem _ hv)
   obtain ⟨d,as,rv,x,r,rfl,hx⟩ := hall v List.mem_cons_self
   cases rv with
   | tuple h1 h2 h3 h4 =>
    rename_i a o us n
    obtain ⟨u,ur,eu⟩ : ∃ u ur,us.toList = u :: ur:=by
     cases iV:us.toList with
     | nil=>rw [iV] at h4; cases h4
     | cons u ur=>exact ⟨u,ur,rfl⟩
    have e0:us[0]? = some u:=by rw [<- Array.getElem?_toList,eu]; rfl
    refine ⟨u :: fs,PySem.W.KatTups.cons h1 h2 h3 e0 t1,by simp [t2],fun f hf=>?_⟩
    rcases List.mem_cons.mp hf with z | z
    ·subst z
     rw [eu] at h4
     cases h4 with
     | cons r1 r2 =>
      cases b with
      | true =>
       obtain ⟨m,rfl⟩ := hx
       cases r1
       exact PySem.W.Looks.now
      | false =>
       obtain ⟨l,rfl⟩ := hx
       cases r1 with
       | tuple g1 g2 g3 g4 =>
        show PySem.W.Looks (model prog w) s.heap _ (Value.type "tuple")
        rw [<- g2]
        exact (PySem.W.Looks.ld g1).andThen .now
    ·exact t3 f z
 obtain ⟨fs,t1,t2,t3⟩ := key vs hall
 refine PySem.W.kat_kind t1 ?_ t3 (by cases b <;> rfl) ?_
 ·rw [t2]
  exact List.length_pos_iff.mpr cY
 ·have e:(Value.type (if b = true then "int" else "tuple") != Value.type "tuple") = b:=by cases b <;> decide
  rw [e]
  exact h
theorem G7 (vs:List Value):vs.toArray.zip vs.toArray = (vs.map fun v=>(v,v)).toArray:=by
 apply Array.toList_inj.mp
 rw [Array.toList_zip,List.toList_toArray]
 induction vs with
 | nil=>rfl
 | cons v r ih=>rw [List.zip_cons_cons,ih,List.map_cons]
theorem V0 (vs:List Value):(vs.map fun v=>(v,v)).map (fun x:Value × Value=>x.2) = vs:=by
 rw [List.map_map]
 exact List.map_id'' (fun _=>rfl) vs
theorem Qk {A : Around} {s : Shared} {a : Addr} {vs : List Value} {n : Nat} {κ : SortKind} {g : Value -> Nat} {P : PySem.Fin -> Shared -> Prop} (ho : s.heap.get? a = some (seqObj "list" vs.toArray n)) (hsz : vs.length <= sizeLine)
  (mV:∀ h6:Heap,(∀ b o,b ≠ a -> s.heap.get? b = some o -> h6.get? b = some o) -> 2 <= vs.length -> (∀ Q,Q κ { s with heap:=h6 } -> wpAny (model prog w) A (keyKind' vs.toArray) Q E { s with heap:=h6 }) /\ Hv prog w A { s with heap:=h6 } κ (fun p=>g p.1) (vs.toArray.zip vs.toArray))
  (h:∀ out:Array Value,out.toList.Perm vs -> out.toList.Pairwise (fun x y=>g x <= g y) -> P (.done (.ret .none)) { s with heap:=sortedHeap s.heap a vs out }) :
  wpAny (model prog w) A (Builtin.«list.sort» ⟨[.ref a],[]⟩) P E s:=by
 rw [list_sort_plain]
 have ha:a < s.heap.objs.size:=Heap.lt_size ho
 refine wpAny_bind (listItems_at ho rfl (wpAny_bind (listUpdate_at ho rfl ?_ (by rw [List.size_toArray]; exact hsz) (Nat.zero_le _))))
 obtain ⟨e1,ho1⟩ : ∃ e1,(s.heap.update a (Obj.mapSeq fun _=>(#[]:Array Value))).get? a = some (seqObj "list" #[] e1):=⟨_,get?_update_seq ho (fun _=>#[])⟩
 refine wpAny_bind (seqEpoch_at ho1 rfl (wpAny_bind (wpAny_newTuple (wpAny_bind (wpAny_newList (wpAny_holding ?_))))))
 have GZ:(((s.heap.update a (Obj.mapSeq fun _=>(#[]:Array Value))).push (seqObj "tuple" vs.toArray 0)).push (seqObj "list" #[] 0)).get? a = some (seqObj "list" #[] e1):=Heap.get?_push_of_some _ (Heap.get?_push_of_some _ ho1)
 have kp:∀ b o,b ≠ a -> s.heap.get? b = some o -> (((s.heap.update a (Obj.mapSeq fun _=>(#[]:Array Value))).push (seqObj "tuple" vs.toArray 0)).push (seqObj "list" #[] 0)).get? b = some o:=fun b o hb e=>Heap.get?_push_of_some _ (Heap.get?_push_of_some _ ((Heap.get?_update_other _ _ (Ne.symm hb)).trans e))
 have hk:=mV _ kp
 have fin:=h
 unfold sortedHeap at fin
 generalize ((s.heap.update a (Obj.mapSeq fun _=>(#[]:Array Value))).push (seqObj "tuple" vs.toArray 0)).push (seqObj "list" #[] 0) = h6 at GZ kp hk fin
 show wpAny (model prog w) A _ P E { s with heap:=h6 }
 dsimp only
 have sS:vs.toArray.size = vs.length:=by simp
 by_cases h2:vs.toArray.size < 2
 ·rw [if_pos h2,if_pos h2]
  refine wpAny_bind (wpAny_pure ?_)
  rw [StateT.run_pure]
  refine wpAny_bind (wpAny_pure ?_)
  dsimp only
  have eo:Array.map (fun x=>x.snd) (vs.toArray.zip vs.toArray) = vs.toArray:=by
   rw [G7]
   apply Array.toList_inj.mp
   rw [Array.toList_map]
   exact V0 vs
  refine wpAny_bind (seqEpoch_at GZ rfl (wpAny_bind (listUpdate_at GZ rfl ?_ (Nat.zero_le _) (by rw [eo,sS]; omega))))
  simp only [bne_self_eq_false,Bool.false_eq_true,if_false]
  rw [show Array.map (fun x=>x.snd) (arrOf (SortSt.mk' general' (vs.toArray.zip vs.toArray) #[] 7 none)) = vs.toArray from eo]
  refine wpAny_pure (fin vs.toArray (by simp) ?_)
  match vs,sS,h2 with
  | [],_,_=>exact List.Pairwise.nil
  | [x],_,_=>exact List.pairwise_singleton _ _
  | x :: y :: r,sS,h2=>exact absurd h2 (by rw [sS,List.length_cons,List.length_cons]; omega)
 ·rw [if_neg h2,if_neg h2]
  obtain ⟨sF,nM⟩ := hk (by omega)
  refine wpAny_bind (sF _ ?_)
  have hz:(vs.toArray.zip vs.toArray).size = vs.length:=by rw [G7]; simp
  refine wpAny_bind (wpAny_mono (S5 (st:=SortSt.mk' κ (vs.toArray.zip vs.toArray) #[] 7 none) nM ⟨Array.Perm.refl _,rfl,rfl⟩ rfl (Q:=fun _ aE=>Bs κ (vs.toArray.zip vs.toArray) aE /\ Hw (fun p=>g p.1) (arrOf aE) 0 (vs.toArray.zip vs.toArray).size) fun aE b1 b2=>⟨b1,b2⟩) ?_ fun _ _ e=>e)
  rintro ⟨⟨⟩,aE⟩ s' ⟨rfl,hB,hS⟩
  dsimp only at hB hS ⊢
  have bR:∀ p ∈ arrOf aE,p.1 = p.2 /\ p.1 ∈ vs:=fun p hp=>by
   have:=hB.perm.mem_iff.mp hp
   rw [G7] at this
   have h3:p ∈ vs.map fun v=>(v,v):=by simpa using this
   obtain ⟨v,hv,rfl⟩ := List.mem_map.mp h3
   exact ⟨rfl,hv⟩
  have bH:((arrOf aE).map (·.2)).toList.Perm vs:=by
   rw [Array.toList_map]
   have:=(Array.perm_iff_toList_perm.mp hB.perm).map (·.2)
   rw [G7,V0] at this
   exact this
  have gL:((arrOf aE).map (·.2)).toList.Pairwise (fun x y=>g x <= g y):=by
   rw [Array.toList_map]
   refine List.pairwise_iff_getElem.mpr fun i j hi hj GU=>?_
   rw [List.length_map,Array.length_toList] at hi hj
   have ei:(arrOf aE)[i]? = some (arrOf aE)[i]:=getElem?_pos (arrOf aE) i hi
   have ej:(arrOf aE)[j]? = some (arrOf aE)[j]:=getElem?_pos (arrOf aE) j hj
   have h4:=hS i j (Nat.zero_le _) (Nat.le_of_lt GU) (by rw [<- hB.size]; exact hj)
   rw [Av ei,Av ej] at h4
   have e1:=(bR _ (Array.mem_of_getElem? ei)).1
   have e2:=(bR _ (Array.mem_of_getElem? ej)).1
   rw [e1,e2] at h4
   simpa using h4
  refine wpAny_bind (seqEpoch_at GZ rfl (wpAny_bind (listUpdate_at GZ rfl ?_ (Nat.zero_le _) (by
   have:=bH.length_eq
   rw [Array.length_toList] at this
   rw [this]
   omega))))
  rw [show failedOf aE = none from hB.failed]
  simp only [bne_self_eq_false,Bool.false_eq_true,if_false]
  exact wpAny_pure (fin _ bH gL)
end
open PySem PySem.Spec PySem.SeqAt PyProof.Rows
section
variable {prog:Program} {w:World} {E:Value -> Shared -> Prop}
theorem Vw {A : Around} {s : Shared} {vs : List Value} {κ : SortKind} {g : Value -> Nat} {r : Value} {Q : Value -> Shared -> Prop} {h1 : Heap} {t1 : Nat} (hsz : vs.length <= sizeLine) (xC : ∀ R : List Value -> Shared -> Prop, R vs { s with heap := h1, toks := t1 } -> wpAny (model prog w) A.in1 (collect r) R E s)
  (mV:∀ (h6:Heap) (A':Around),A'.units <= A.units + 4 -> (∀ b o,h1.get? b = some o -> h6.get? b = some o) -> 2 <= vs.length -> (∀ Q E,Q κ { s with heap:=h6,toks:=t1 } -> wpAny (model prog w) A' (keyKind' vs.toArray) Q E { s with heap:=h6,toks:=t1 }) /\ Hv prog w A' { s with heap:=h6,toks:=t1 } κ (fun p=>g p.1) (vs.toArray.zip vs.toArray))
  (h:∀ (out:Array Value) (h':Heap) (c:Nat),out.toList.Perm vs -> out.toList.Pairwise (fun x y=>g x <= g y) -> (∀ b o,h1.get? b = some o -> h'.get? b = some o) -> h'.get? h1.objs.size = some (seqObj "list" out c) -> Q (.ref h1.objs.size) { s with heap:=h',toks:=t1 }) :
  wpAny (model prog w) A (call (.builtin "sorted") [r]) Q E s:=by
 refine Calls.call_function_entry kind_sorted plain_sorted entry_sorted (args_sorted1 _) ?_
 unfold Builtin.«sorted»
 refine wpAny_bind (m:=checkCount "sorted" 1 1 _) (wpAny_pure ?_)
 refine wpAny_bind (xC _ (wpAny_bind (wpAny_newList ?_ )))
 have sR:(h1.push (seqObj "list" vs.toArray 0)).get? h1.objs.size = some (seqObj "list" vs.toArray 0):=Heap.get?_push_size _ rfl
 show wpAny _ _ _ _ _ { s with heap:=h1.push (seqObj "list" vs.toArray 0),toks:=t1 }
 refine wpAny_bind (wpAny_holding (wpAny_call_entry slot_list_sort ⟨_,sR,rfl⟩ entry_list_sort (Qk (κ:=κ) (g:=g) (s:={ s with heap:=h1.push (seqObj "list" vs.toArray 0),toks:=t1 }) sR hsz (fun h6 kp h2=>?_) fun out p1 p2=>⟨_,rfl,?_⟩) (args_list_sort _)))
 ·obtain ⟨k1,k2⟩ := mV h6 A.in1.in1 (show A.units + 1 + 1 <= A.units + 4 by omega) (fun b o e=>kp b o (Nat.ne_of_lt (Heap.lt_size e)) (Heap.get?_push_of_some _ e)) h2
  exact ⟨fun Q hq=>k1 Q _ hq,k2⟩
 ·obtain ⟨c,hc⟩ : ∃ c,(sortedHeap (h1.push (seqObj "list" vs.toArray 0)) h1.objs.size vs out).get? h1.objs.size = some (seqObj "list" out c):=sortedHeap_at sR
  refine wpAny_pure ⟨_,rfl,h out _ c p1 p2 (fun b o e=>?_) hc⟩
  rw [sortedHeap_old (Nat.ne_of_lt (Heap.lt_size e)) (by rw [size_push']; exact Nat.lt_succ_of_lt (Heap.lt_size e))]
  exact Heap.get?_push_of_some _ e
end
section
variable {X:Cx} {k:Nat}
def My:Value -> Addr
 | .ref a=>a
 | _=>0
def Nb (H:Hp) (b:Bool) (D:V -> PyData) (g:V -> Nat) (us:List V):Prop:=(∀ u ∈ us,Rp H (D u) u /\ Hi b (D u) /\ (D u).depth <= 50) /\ ∀ u ∈ us,∀ v ∈ us,Tt (D u) (D v) /\ Gy (D u) (D v) = decide (g u < g v)
theorem Nb.ref {H:Hp} {b:Bool} {D:V -> PyData} {g:V -> Nat} {us:List V} (h:Nb H b D g us):∃ as:List Addr,us = as.map V.ref:=by
 have key:∀ us:List V,(∀ u ∈ us,Rp H (D u) u /\ Hi b (D u)) -> ∃ as:List Addr,us = as.map V.ref:=by
  intro us
  induction us with
  | nil=>exact fun _=>⟨[],rfl⟩
  | cons u us ih =>
   intro hall
   obtain ⟨as,rfl⟩ := ih fun v hv=>hall v (List.mem_cons_of_mem _ hv)
   obtain ⟨h1,x,r,e,_⟩ := hall u List.mem_cons_self
   rw [e] at h1
   unfold Rp at h1
   obtain ⟨a,WE,ea,_⟩ := h1
   exact ⟨a :: as,by rw [ea]; rfl⟩
 exact key us fun u hu=>⟨(h.1 u hu).1,(h.1 u hu).2.1⟩
theorem Nb.asks {P : Program} {w : World} {pins : List (Addr × Obj)} {σ : St} {H : Hp} {s : Shared} {b : Bool} {D : V -> PyData} {g : V -> Nat} {as : List Addr} {A' : Around} {E : Value -> Shared -> Prop} (I : Ai X pins σ H s) (hP : X.prog = P) (hw : X.w = w) (h : Nb H b D g (as.map V.ref)) (hu : A'.units + 50 < cLine) (h2 : 2 <= as.length) :
  (∀ Q E,Q (PyProof.Rows.tuples' b) s -> wpAny (model P w) A' (keyKind' (as.map Value.ref).toArray) Q E s) /\ Hv P w A' s (PyProof.Rows.tuples' b) (fun p=>g (.ref (My p.1))) ((as.map Value.ref).toArray.zip (as.map Value.ref).toArray):=by
 subst hP hw
 have rd:∀ a ∈ as,∃ xs,Reads s.heap (.ref a) (D (.ref a)) xs:=fun a ha=>Cv I _ _ _ (h.1 _ (List.mem_map_of_mem ha)).1 rfl
 refine ⟨fun Q E hq=>Wu (b:=b) ?_ (fun v hv=>?_) hq,fun x y hx hy Q E hq=>?_⟩
 ·intro e
  have:=congrArg List.length e
  rw [List.length_map,List.length_nil] at this
  omega
 ·obtain ⟨a,ha,rfl⟩ := List.mem_map.mp hv
  obtain ⟨xs,r⟩ := rd a ha
  exact ⟨_,xs,r,(h.1 _ (List.mem_map_of_mem ha)).2.1⟩
 ·have mem : ∀ z, z ∈ (as.map Value.ref).toArray.zip (as.map Value.ref).toArray -> ∃ a ∈ as, z.1 = Value.ref a := fun z hz => by
   rw [G7] at hz
   have h3:z ∈ (as.map Value.ref).map fun v=>(v,v):=by simpa using hz
   obtain ⟨v,hv,rfl⟩ := List.mem_map.mp h3
   obtain ⟨a,ha,rfl⟩ := List.mem_map.mp hv
   exact ⟨a,ha,rfl⟩
  obtain ⟨a,ha,ea⟩ := mem x hx
  obtain ⟨c,hc,ec⟩ := mem y hy
  have EZ:=List.mem_map_of_mem (f:=V.ref) ha
  have jM:=List.mem_map_of_mem (f:=V.ref) hc
  obtain ⟨xs,r1⟩ := rd a ha
  obtain ⟨ys,r2⟩ := rd c hc
  obtain ⟨c1,c2⟩ := h.2 _ EZ _ jM
  obtain ⟨x1,x2⟩ := x
  obtain ⟨y1,y2⟩ := y
  obtain rfl:x1 = Value.ref a:=ea
  obtain rfl:y1 = Value.ref c:=ec
  refine Yb r1 r2 (h.1 _ EZ).2.1 (h.1 _ jM).2.1 (Cu _ _ (h.1 _ EZ).1) (Cu _ _ (h.1 _ jM).1) c1 ?_ ?_
  ·have:=(h.1 _ EZ).2.2
   omega
  ·rw [c2]
   exact hq
theorem Nr {g:V -> Nat} {as:List Addr} {out:List Value} (hp:out.Perm (as.map Value.ref)) (hs:out.Pairwise (fun x y=>g (.ref (My x)) <= g (.ref (My y)))):∃ cF:List V,Ay cF out /\ cF.Perm (as.map V.ref) /\ cF.Pairwise (fun x y=>g x <= g y):=by
 have hr:∀ v ∈ out,v = .ref (My v):=fun v hv=>by
  obtain ⟨a,_,rfl⟩ := List.mem_map.mp (hp.mem_iff.mp hv)
  rfl
 refine ⟨out.map fun v=>.ref (My v),?_,?_,?_⟩
 ·have key : ∀ l : List Value, (∀ v ∈ l, v = .ref (My v)) -> Ay (l.map fun v => V.ref (My v)) l := by
   intro l
   induction l with
   | nil=>exact fun _=>.nil
   | cons v l ih=>exact fun h=>.cons (h v List.mem_cons_self) (ih fun v hv=>h v (List.mem_cons_of_mem _ hv))
  exact key out hr
 ·have:=hp.map fun v=>V.ref (My v)
  rw [List.map_map] at this
  exact this
 ·rw [List.pairwise_map]
  exact hs
def Zh (K:PySem.W.Frag):List V -> Hp -> VK -> Prop:=fun xs H Q=>∃ (l:Addr) (us:List V) (b:Bool) (D:V -> PyData) (g:V -> Nat),xs = [.ref l] /\ Ba K H l us /\ us.length <= 20000 /\ Nb H b D g us /\ ∀ (p:Addr) (cF:List V),H p = none -> cF.Perm us -> cF.Pairwise (fun x y=>g x <= g y) -> Q (.ref p) (upd H p (.lst cF))
theorem Iy (hr:Dc k X.A):Dl X (.builtin "sorted") (Zh X.K):=by
 intro pins s σ H xs us Q I r h
 obtain ⟨l,vs,b,D,g,rfl,hq,hl,hD,q⟩ := h
 obtain ⟨u,rfl,ru⟩ := r.one
 cases ru
 obtain ⟨aA,rv,pl,hz⟩ := I.list hq
 obtain ⟨as,rfl⟩ := hD.ref
 obtain rfl:=Nv as aA rv
 have hu:=hr.units
 have h63:=Ho
 have hlen:(as.map Value.ref).length <= sizeLine:=by
  rw [List.length_map]
  rw [List.length_map] at hl
  exact Nat.le_trans hl (by rw [sizeLine_eq]; decide)
 have kp:∀ b o,s.heap.get? b = some o -> ((s.heap.push (seqObj "list" #[] 0)).update s.heap.objs.size (Obj.mapSeq (· ++ (as.map Value.ref).toArray))).get? b = some o:=fun b o e=>(Heap.get?_update_other _ _ (Ne.symm (Nat.ne_of_lt (Heap.lt_size e)))).trans (Heap.get?_push_of_some _ e)
 refine Vw (h1:=(s.heap.push (seqObj "list" #[] 0)).update s.heap.objs.size (Obj.mapSeq (· ++ (as.map Value.ref).toArray))) (t1:=s.toks) (κ:=PyProof.Rows.tuples' b) (g:=fun v=>g (.ref (My v))) hlen (fun R hR=>collect_list pl.isList hR hlen) (fun h6 A' hA' k6 h2=>?_) fun out h' c p1 p2 k' e'=>?_
 ·have I6:Ai X pins σ H { s with heap:=h6 }:=I.kept (t':=s.toks) fun b o e=>k6 b o (kp b o e)
  rw [List.length_map] at h2
  exact hD.asks (E:=fun _ _=>True) I6 rfl rfl (by have:=hr.un; omega) h2
 ·obtain ⟨cF,v1,v2,v3⟩ := Nr p1 p2
  refine ⟨.ref _,upd H _ (.lst cF),I.laid (t':=s.toks) (fun b o e=>k' b o (kp b o e)) ?_ ?_,rfl,q _ cF (I.aC.fresh ?_) v2 v3⟩
  ·rw [Heap.size_update,size_push']
   exact Nat.le_succ _
  ·exact ⟨by rw [v2.length_eq]; exact hz,out.toList,c,v1,e'⟩
  ·rw [Heap.size_update,size_push']
   exact Nat.le_succ _
end
open PySem.W (KdxIt)
section
variable {P:Program} {w:World} {A:Around} {E:Value -> Shared -> Prop} {s:Shared}
theorem ef {it d a : Addr} {f : Bool} {oa od : Obj} {i ep : Nat} {es : Array DictEntry} {en : DictEntry} {ok ov : Value} {Q : Option Value -> Shared -> Prop} (hit : KdxIt s.heap it d i es.size ep ok ov a f) (ha : s.heap.get? a = some oa) (xD : a ≠ it) (dZ : s.heap.get? d = some od) (bG : od.data = .dict es ep) (he : es[i]? = some en)
  (hQ:∀ h',KdxIt h' it d (i + 1) es.size ep ok ov a true -> h'.get? s.heap.objs.size = some { cls := .type "tuple",data := .seq #[en.key,en.val] } -> (∀ b o,b ≠ it -> s.heap.get? b = some o -> h'.get? b = some o) -> Q (some (.ref s.heap.objs.size)) { s with heap:=h' }):wpAny (model P w) A (pyNext (.ref it)) Q E s:=by
 have hT:s.TypeIs (.ref it) "dict_itemiterator" := ⟨_,hit,rfl⟩
 have own:Builtin.Dict_items.ownsTuple "dict_itemiterator" = true:=by decide
 unfold pyNext; refine wpAny_bind (wpAny_attempt (wpAny_callSpecial?_slot (name:=Str.ofString "__next__") hT F.slot_dict_itemiterator_next (wpAny_call_entry F.slot_dict_itemiterator_next hT F.entry_dict_itemiterator_next ?_ (F.args_dict_itemiterator_next_1 _))))
 refine wpAny_bind (wpAny_pure (wpAny_bind (wpAny_bind (wpAny_bind (wpAny_typeNameOfWhole_itemiter hT (wpAny_pure (wpAny_bind (wpAny_fieldsOf hit rfl ?_))))))))
 simp only [own,if_true]; show wpAny _ _ (if (Value.ref d == Value.none) = true then _ else _) _ _ s
 rw [if_neg (show ¬ (Value.ref d == Value.none) = true from Bool.false_ne_true)]; refine wpAny_bind (wpAny_pure (wpAny_bind (wpAny_dictEntries dZ bG ?_)))
 rw [if_neg (show ¬ ((es.size:Int) != (es.size:Int)) = true by simp)]; refine wpAny_bind (wpAny_pure (wpAny_bind (wpAny_dictEpoch dZ bG ?_)))
 rw [if_neg (show ¬ ((ep:Int) != (ep:Int)) = true by simp)]; refine wpAny_pure ?_
 simp only [show ¬ ((i:Int) < 0) by omega,if_false,Int.toNat_natCast,he]
 refine wpAny_bind (wpAny_bind (wpAny_typeNameOfWhole_itemiter hT (wpAny_pure (wpAny_bind (wpAny_isOneOf_itemiter hT ?_)))))
 show wpAny _ _ (setField (.ref it) 3 (rawInt ((i:Int) + 1)) >>= _) _ _ s; refine wpAny_bind (wpAny_setField_rec hit (by simp) fun h1 b1 c1=>?_)
 have GK:KdxIt h1 it d (i + 1) es.size ep ok ov a f:=by
  have e:((i + 1:Nat):Int) = (i:Int) + 1:=by omega
  unfold KdxIt; rw [e]; simpa [rawInt] using b1
 have GL:Shared.TypeIs { s with heap:=h1 } (.ref it) "dict_itemiterator" := ⟨_,GK,rfl⟩
 refine wpAny_bind (wpAny_holding (wpAny_bind (wpAny_isOneOf_itemiter GL (wpAny_bind (wpAny_isOneOf_itemiter GL ?_)))))
 have z1:h1.objs.size = s.heap.objs.size:=c1.1
 show wpAny _ _ (Builtin.Dict_items.pairFromOwner (.ref it) 6 en.key en.val) _ _ { s with heap:=h1 }
 unfold Builtin.Dict_items.pairFromOwner; refine wpAny_bind (wpAny_newTuple ?_)
 have il:it < s.heap.objs.size:=Heap.lt_size hit
 have e2:KdxIt (h1.push { cls := .type "tuple",data := .seq #[en.key,en.val] }) it d (i + 1) es.size ep ok ov a f:=Heap.get?_push_of_some _ GK
 have t2:(h1.push { cls := .type "tuple",data := .seq #[en.key,en.val] }).get? s.heap.objs.size = some { cls := .type "tuple",data := .seq #[en.key,en.val] }:=by rw [<- z1]; exact Heap.get?_push_size _ rfl
 have k2:∀ b o,b ≠ it -> s.heap.get? b = some o -> (h1.push { cls := .type "tuple",data := .seq #[en.key,en.val] }).get? b = some o:=fun b o hb e=>Heap.get?_push_of_some _ (c1.extBut b o hb e)
 show wpAny _ _ (Builtin.Dict_items.ownedTupleIsFree (.ref it) >>= _) _ _ { s with heap:=h1.push { cls := .type "tuple",data := .seq #[en.key,en.val] } }
 rw [show (Shared.heap { s with heap:=h1 }).objs.size = s.heap.objs.size from z1]
 generalize h1.push { cls := .type "tuple",data := .seq #[en.key,en.val] } = h2 at e2 t2 k2
 unfold Builtin.Dict_items.ownedTupleIsFree; refine wpAny_bind (wpAny_bind (wpAny_field e2 rfl (x:=rawInt a) rfl ?_))
 show wpAny _ _ (loadIfAlive ((a:Int).toNat) >>= _) _ _ _; rw [Int.toNat_natCast]
 refine wpAny_bind (PySem.W.kdx_alive (k2 a oa xD ha) ?_)
 simp only [Option.isNone_some,Bool.false_eq_true,if_false]; refine wpAny_bind (wpAny_field e2 rfl (x := .bool f) rfl ?_)
 cases f with
 | true =>
  rw [if_neg (show ¬ (Value.bool true != Value.bool true) = true from Bool.false_ne_true)]; refine wpAny_pure ?_
  simp only [Bool.false_eq_true,if_false]; exact wpAny_pure (wpAny_pure ⟨_,rfl,wpAny_pure (hQ h2 e2 t2 k2)⟩)
 | false =>
  rw [if_pos (show (Value.bool false != Value.bool true) = true from rfl)]; refine wpAny_bind (wpAny_setField_rec e2 (by simp) fun h3 e3 s3=>wpAny_pure ?_)
  simp only [Bool.false_eq_true,if_false]; exact wpAny_pure (wpAny_pure ⟨_,rfl,wpAny_pure (hQ h3 e3 (s3.extBut _ _ (Nat.ne_of_gt il) t2) fun b o hb e=>s3.extBut b o hb (k2 b o hb e))⟩)
theorem iq {it d a : Addr} {f : Bool} {od : Obj} {i ep : Nat} {es : Array DictEntry} {ok ov : Value} {Q : Option Value -> Shared -> Prop} (hh : A.handled = none) (hit : KdxIt s.heap it d i es.size ep ok ov a f) (dZ : s.heap.get? d = some od) (bG : od.data = .dict es ep) (he : es[i]? = none)
  (hQ:∀ h',Heap.ExtBut it s.heap h' -> Q none { s with heap:=h' }):wpAny (model P w) A (pyNext (.ref it)) Q E s:=by
 have hT:s.TypeIs (.ref it) "dict_itemiterator" := ⟨_,hit,rfl⟩
 have own:Builtin.Dict_items.ownsTuple "dict_itemiterator" = true:=by decide
 unfold pyNext; refine wpAny_bind (wpAny_attempt (wpAny_callSpecial?_slot (name:=Str.ofString "__next__") hT F.slot_dict_itemiterator_next (wpAny_call_entry F.slot_dict_itemiterator_next hT F.entry_dict_itemiterator_next ?_ (F.args_dict_itemiterator_next_1 _))))
 refine wpAny_bind (wpAny_pure (wpAny_bind (wpAny_bind (wpAny_bind (wpAny_typeNameOfWhole_itemiter hT (wpAny_pure (wpAny_bind (wpAny_fieldsOf hit rfl ?_))))))))
 simp only [own,if_true]; show wpAny _ _ (if (Value.ref d == Value.none) = true then _ else _) _ _ s
 rw [if_neg (show ¬ (Value.ref d == Value.none) = true from Bool.false_ne_true)]; refine wpAny_bind (wpAny_pure (wpAny_bind (wpAny_dictEntries dZ bG ?_)))
 rw [if_neg (show ¬ ((es.size:Int) != (es.size:Int)) = true by simp)]; refine wpAny_bind (wpAny_pure (wpAny_bind (wpAny_dictEpoch dZ bG ?_)))
 rw [if_neg (show ¬ ((ep:Int) != (ep:Int)) = true by simp)]; refine wpAny_pure ?_
 simp only [show ¬ ((i:Int) < 0) by omega,if_false,Int.toNat_natCast,he]
 refine wpAny_bind (wpAny_bind (wpAny_typeNameOfWhole_itemiter hT (wpAny_pure ?_)))
 show wpAny _ _ (setField (.ref it) 2 Value.none >>= _) _ _ s
 refine wpAny_bind (wpAny_setField hit rfl (by simp) ?_)
 generalize hg:Heap.update s.heap it (Obj.mapFields (·.setIfInBounds 2 Value.none)) = h2
 have eb:Heap.ExtBut it s.heap h2:=by
  rw [<- hg]
  exact fun b ob hb e=>(Heap.get?_update_other _ _ (Ne.symm hb)).trans e
 show wpAny (model P w) _ (newExc (.type "StopIteration") [] >>= _) _ _ { s with heap:=h2 }
 refine wpAny_bind ?_; simp only [newExc,newTuple]
 refine wpAny_bind (wpAny_newObj_type (T := "tuple") ?_ (by size_fits))
 refine wpAny_bind (m:=firstArgMember _ _) (wpAny_of_eq (a:=Value.none) (by first | rfl | simp only [firstArgMember]) ?_)
 refine wpAny_newObj_type (T := "StopIteration") ?_ (by size_fits)
 simp only [raiseNew]; refine wpAny_bind (wpAny_handled ?_)
 first | rw [show A.in1.handled = Option.none from hh] | rw [hh]
 refine wpAny_bind (wpAny_pure (wpAny_throw ?_)); refine wpAny_bind (wpAny_isInstance (T := "StopIteration") (b:=true) ⟨_,Heap.get?_push_size _ rfl,rfl⟩ isSubtype_stop ?_)
 exact wpAny_pure (hQ _ ((eb.push _).push _))
def U8 (h:Heap) (it d S:Addr) (i n ep:Nat):Prop:=(i = 0 /\ ∃ ok ov,IsItemIter h it d 0 n ep ok ov) \/ ∃ ok ov a f oa,KdxIt h it d i n ep ok ov a f /\ h.get? a = some oa /\ a ≠ it /\ a ≠ S
structure cz (es:Array DictEntry) (lo:Addr) (h:Heap) (as:List Addr):Prop where
 rise:as.Pairwise (· < ·)
 above:∀ a ∈ as,lo < a
 at_:∀ (j:Nat) (a:Addr),as[j]? = some a -> ∃ en,es[j]? = some en /\ h.get? a = some { cls := .type "tuple",data := .seq #[en.key,en.val] }
theorem cz.lt {es:Array DictEntry} {lo:Addr} {h:Heap} {as:List Addr} (g:cz es lo h as) {a:Addr} (ha:a ∈ as):a < h.objs.size:=by
 obtain ⟨j,hj⟩ := List.mem_iff_getElem?.mp ha
 obtain ⟨_,_,e⟩ := g.at_ j a hj
 exact Heap.lt_size e
theorem c8 {it d S : Addr} {od : Obj} {i ep : Nat} {es : Array DictEntry} {en : DictEntry} {Q : Option Value -> Shared -> Prop} (st : U8 s.heap it d S i es.size ep) (hS : S < s.heap.objs.size) (dZ : s.heap.get? d = some od) (bG : od.data = .dict es ep) (he : es[i]? = some en)
  (hQ:∀ h',U8 h' it d S (i + 1) es.size ep -> h'.get? s.heap.objs.size = some { cls := .type "tuple",data := .seq #[en.key,en.val] } -> (∀ b o,b ≠ it -> s.heap.get? b = some o -> h'.get? b = some o) -> Q (some (.ref s.heap.objs.size)) { s with heap:=h' }):wpAny (model P w) A (pyNext (.ref it)) Q E s:=by
 rcases st with ⟨rfl,ok,ov,hit⟩ | ⟨ok,ov,a,f,oa,hit,ha,xD,SJ⟩
 ·exact Qq hit dZ bG he fun h' a1 a2 a3=>hQ h' (.inr ⟨en.key,en.val,_,false,_,a1,a2,Nat.ne_of_gt (Heap.lt_size hit),Nat.ne_of_gt hS⟩) a2 a3
 ·exact ef hit ha xD dZ bG he fun h' a1 a2 a3=>hQ h' (.inr ⟨ok,ov,a,true,oa,a1,a3 a oa xD ha,xD,SJ⟩) a2 a3
theorem Zo {it d S : Addr} {od : Obj} {i ep : Nat} {es : Array DictEntry} {Q : Option Value -> Shared -> Prop} (hh : A.handled = none) (st : U8 s.heap it d S i es.size ep) (dZ : s.heap.get? d = some od) (bG : od.data = .dict es ep) (he : es[i]? = none)
  (hQ:∀ h',Heap.ExtBut it s.heap h' -> Q none { s with heap:=h' }):wpAny (model P w) A (pyNext (.ref it)) Q E s:=by
 rcases st with ⟨rfl,ok,ov,hit⟩ | ⟨ok,ov,a,f,oa,hit,_,_,_⟩
 ·exact Xq hh hit dZ bG he hQ
 ·exact iq hh hit dZ bG he hQ
theorem U8.keep {h h':Heap} {it d S:Addr} {i n ep:Nat} (x:U8 h it d S i n ep) (hk:∀ b o,b ≠ S -> h.get? b = some o -> h'.get? b = some o) (hI:it ≠ S):U8 h' it d S i n ep:=by
 rcases x with ⟨e,ok,ov,hit⟩ | ⟨ok,ov,a,f,oa,hit,ha,xD,SJ⟩
 ·exact .inl ⟨e,ok,ov,hk it _ hI hit⟩
 ·exact .inr ⟨ok,ov,a,f,oa,hk it _ hI hit,hk a _ SJ ha,xD,SJ⟩
theorem cf {S I d : Addr} {es : Array DictEntry} {ep : Nat} {od : Obj} {R : Result -> Shared -> Prop} (hh : A.handled = none) (hSI : S < I) (hSd : d ≠ S) (hId : d ≠ I) (hn : es.size <= sizeLine) (res : Value) (bG : od.data = .dict es ep) {h0 : Heap}
  (hR:∀ h' tk acc c as,(∀ b o,b ≠ S -> b ≠ I -> h0.get? b = some o -> h'.get? b = some o) -> h'.get? S = some { cls := .type "list",dict:=none,data := .seq acc c,slots := #[] } -> as.length = es.size -> cz es I h' as -> acc.toList = as.map Value.ref -> R (.ok (.ret res)) { s with heap:=h',toks:=tk }) :
  ∀ (k i:Nat) (h:Heap) (tk c:Nat) (acc:Array Value) (as:List Addr),es.size - i = k -> i <= es.size -> U8 h I d S i es.size ep -> h.get? d = some od -> (∀ b o,b ≠ S -> b ≠ I -> h0.get? b = some o -> h.get? b = some o) ->
   h.get? S = some { cls := .type "list",dict:=none,data := .seq acc c,slots := #[] } -> acc.toList = as.map Value.ref -> as.length = i -> cz es I h as -> I < h.objs.size ->
   codeAny (model P w) A (.builtin "list.extend.loop" ⟨[.ref S,.ref I,res],[]⟩) R { s with heap:=h,toks:=tk }:=by
 have cY:S ≠ I:=Nat.ne_of_lt hSI
 intro k
 induction k with
 | zero =>
  intro i h tk c acc as hk hi st hD kp hS tL sI hG WT
  refine codeAny_builtin F.entry_extend_loop ?_; rw [Around.under_plainId F.plain_extend_loop _]
  show wpAny _ A.in1 (pyNext (.ref I) >>= _) _ _ _
  refine wpAny_bind (Zo (s:={ s with heap:=h,toks:=tk }) (A:=A.in1) hh st hD bG (Array.getElem?_eq_none (by omega)) fun h' he=>wpAny_pure (hR h' tk acc c as (fun b o h1 h2 e=>he b o h2 (kp b o h1 h2 e)) (he S _ cY hS) (by omega) ⟨hG.rise,hG.above,fun j a hj=>?_⟩ tL))
  obtain ⟨en,e1,e2⟩ := hG.at_ j a hj
  exact ⟨en,e1,he a _ (Nat.ne_of_gt (hG.above a (List.mem_of_getElem? hj))) e2⟩
 | succ k ih =>
  intro i h tk c acc as hk hi st hD kp hS tL sI hG WT
  have aI:i < es.size:=by omega
  have hx:es[i]? = some es[i]:=getElem?_pos es i aI
  have hsz:acc.size = i:=by rw [<- Array.length_toList,tL,List.length_map,sI]
  refine codeAny_builtin F.entry_extend_loop ?_; rw [Around.under_plainId F.plain_extend_loop _]
  show wpAny _ A.in1 (pyNext (.ref I) >>= _) _ _ _
  refine wpAny_bind (c8 (s:={ s with heap:=h,toks:=tk }) (S:=S) st (Heap.lt_size hS) hD bG hx fun h' aE ht eQ=>?_)
  dsimp only at ht eQ ⊢
  have hS':=eQ S _ cY hS
  have up:∀ b o,b ≠ S -> h'.get? b = some o -> (h'.update S (Obj.mapSeq (·.push (Value.ref h.objs.size)))).get? b = some o:=fun b o hb e=>(Heap.get?_update_other _ _ (Ne.symm hb)).trans e
  have hSl:S < h.objs.size:=Heap.lt_size hS
  have hI':h'.get? I ≠ none:=by
   rcases aE with ⟨_,_,_,z⟩ | ⟨_,_,_,_,_,z,_⟩ <;> rw [z] <;> exact Option.some_ne_none _
  show wpAny _ A.in1 (updateSeq S (·.push (Value.ref h.objs.size)) >>= _) _ _ _
  refine wpAny_bind (wpAny_updateSeq hS' rfl (wpAny_pure ⟨plainId_quiet F.plain_extend_loop _,ih (i + 1) _ tk _ (acc.push (Value.ref h.objs.size)) (as ++ [h.objs.size]) (by omega) aI (aE.keep up (Ne.symm cY)) (up d _ hSd (eQ d _ hId hD))
   (fun b o h1 h2 e=>up b o h1 (eQ b o h2 (kp b o h1 h2 e))) (Heap.get?_update_self _ hS' rfl) (by rw [Array.toList_push,tL,List.map_append]; rfl) (by rw [List.length_append,sI]; rfl) ⟨?_,fun a ha=>?_,fun j b hj=>?_⟩ ?_⟩) (by rw [hsz]; omega) (by show (acc.push (Value.ref h.objs.size)).size <= sizeLine + 1; rw [Array.size_push,hsz]; omega))
  ·exact List.pairwise_append.mpr ⟨hG.rise,List.pairwise_singleton _ _,fun a ha b hb=>by rw [List.mem_singleton.mp hb]; exact hG.lt ha⟩
  ·rcases List.mem_append.mp ha with z | z
   ·exact hG.above a z
   ·rw [List.mem_singleton.mp z]
    exact WT
  ·by_cases z:j < as.length
   ·rw [List.getElem?_append_left z] at hj
    obtain ⟨en,e1,e2⟩ := hG.at_ j b hj
    have hb:=hG.above b (List.mem_of_getElem? hj)
    exact ⟨en,e1,up b _ (Nat.ne_of_gt (Nat.lt_trans hSI hb)) (eQ b _ (Nat.ne_of_gt hb) e2)⟩
   ·rw [List.getElem?_append_right (by omega)] at hj
    have hj0:j = i:=by
     have:=(List.getElem?_eq_some_iff.mp hj).1
     rw [List.length_singleton] at this
     omega
    subst hj0
    rw [sI,Nat.sub_self] at hj
    cases hj
    exact ⟨_,hx,up _ _ (Nat.ne_of_gt hSl) ht⟩
  ·exact Nat.lt_trans WT (Heap.lt_size (up _ _ (Nat.ne_of_gt hSl) ht))
theorem Tp {r d : Addr} {od : Obj} {es : Array DictEntry} {ep : Nat} {R : List Value -> Shared -> Prop} (hh : A.handled = none) (hv : s.heap.IsItemsView r d) (dZ : s.heap.get? d = some od) (bG : od.data = .dict es ep) (hn : es.size <= sizeLine)
  (h:∀ (h':Heap) (tk:Nat) (as:List Addr),(∀ b o,s.heap.get? b = some o -> h'.get? b = some o) -> as.length = es.size -> cz es s.heap.objs.size h' as -> R (as.map Value.ref) { s with heap:=h',toks:=tk }):wpAny (model P w) A (collect (.ref r)) R E s:=by
 have hr:r < s.heap.objs.size:=let ⟨_,ho,_⟩ := hv; Heap.lt_size ho
 have hd:d < s.heap.objs.size:=Heap.lt_size dZ
 unfold collect; refine wpAny_bind (wpAny_runValue (codeAny_builtin entry_proto_collect' ?_)); rw [Around.under_plainId F.plain_proto_collect _]
 show wpAny _ A.in1 (newList [] >>= fun l=>again (.builtin "list.__iadd__" ⟨[l,.ref r],[]⟩)) _ _ s
 refine wpAny_bind (wpAny_newObj_type (wpAny_pure ⟨plainId_quiet F.plain_list_iadd _,codeAny_builtin entry_list_iadd' ?_⟩)); rw [Around.under_plainId F.plain_list_iadd _]
 generalize vt:({ s with heap:=s.heap.push { cls := .type "list",data := .seq ([]:List Value).toArray } }:Shared) = s1
 have z1:s1.heap.objs.size = s.heap.objs.size + 1:=by rw [<- vt]; exact Heap.size_push ..
 have aI:s.heap.objs.size < s1.heap.objs.size:=by rw [z1]; exact Nat.lt_succ_self _
 have SK:∀ b o,s.heap.get? b = some o -> s1.heap.get? b = some o:=fun b o e=>by rw [<- vt]; exact Heap.get?_push_of_some _ e
 have hS:s1.heap.get? s.heap.objs.size = some { cls := .type "list",data := .seq #[] }:=by rw [<- vt]; exact Heap.get?_push_size _ rfl
 have WU:s1.heap.IsItemsView r d:=let ⟨o,ho,x⟩ := hv; ⟨o,SK _ _ ho,x⟩
 have es1:∀ (h':Heap) (tk:Nat),({ s1 with heap:=h',toks:=tk }:Shared) = { s with heap:=h',toks:=tk }:=fun _ _=>by rw [<- vt]
 show wpAny _ A.in1 (Builtin.List.listExtendWith (.ref s.heap.objs.size) (.ref r) (.ref s.heap.objs.size)) _ _ s1
 have fin : ∀ (h' : Heap) (tk : Nat) (acc : Array Value) (c : Nat) (as : List Addr), (∀ b o, s.heap.get? b = some o -> h'.get? b = some o) -> h'.get? s.heap.objs.size = some { cls := .type "list", dict := none, data := .seq acc c, slots := #[] } -> as.length = es.size -> cz es s.heap.objs.size h' as -> acc.toList = as.map Value.ref ->
   wpAny (model P w) A (load s.heap.objs.size >>= fun o=>match o.data with | .seq xs _=>pure xs.toList | _=>unsupported "internal:collect") R E { s with heap:=h',toks:=tk }:=fun h' tk acc c as k1 k2 k3 k4 k5=>by
  refine wpAny_bind (wpAny_load k2 (wpAny_pure ?_))
  show R acc.toList _
  rw [k5]
  exact h h' tk as k1 k3 k4
 have key : ∀ (h : Heap) (c₁ tk : Nat) (R' : Result -> Shared -> Prop), (∀ b o, b ≠ s.heap.objs.size -> (s1.heap.push { cls := .type "dict_itemiterator", data := .fields #[.none, .bool false, .ref d, .int 0 0, .int es.size 0, .int ep 0, .none, .none] }).get? b = some o -> h.get? b = some o) ->
   h.get? s.heap.objs.size = some { cls := .type "list",data := .seq #[] c₁ } ->
   (∀ (h':Heap) (tk:Nat) (acc:Array Value) (c:Nat) (as:List Addr),(∀ b o,s.heap.get? b = some o -> h'.get? b = some o) -> h'.get? s.heap.objs.size = some { cls := .type "list",dict:=none,data := .seq acc c,slots := #[] } -> as.length = es.size -> cz es s.heap.objs.size h' as -> acc.toList = as.map Value.ref -> R' (.ok (.ret (.ref s.heap.objs.size))) { s1 with heap:=h',toks:=tk }) ->
   codeAny (model P w) A (.builtin "list.extend.loop" ⟨[.ref s.heap.objs.size,.ref s1.heap.objs.size,.ref s.heap.objs.size],[]⟩) R' { s1 with heap:=h,toks:=tk }:=fun h c₁ tk R' hk hX jY=>by
  have hI:=hk s1.heap.objs.size _ (by omega) (Heap.get?_push_size _ rfl)
  refine cf (s:=s1) (S:=s.heap.objs.size) (I:=s1.heap.objs.size) (h0:=s1.heap) hh aI (Nat.ne_of_lt hd) (Nat.ne_of_lt (Nat.lt_trans hd aI)) hn (.ref s.heap.objs.size) bG (fun h' nN acc c as k1 k2 k3 k4 k5=>jY h' nN acc c as (fun b o e=>?_) k2 k3 ⟨k4.rise,fun a ha=>?_,k4.at_⟩ k5)
   es.size 0 h tk c₁ #[] [] (Nat.sub_zero _) (Nat.zero_le _) (.inl ⟨rfl,.none,.none,hI⟩) (hk d od (Nat.ne_of_lt hd) (Heap.get?_push_of_some _ (SK d od dZ))) (fun b o h1 _ e=>hk b o h1 (Heap.get?_push_of_some _ e)) hX rfl rfl ⟨List.Pairwise.nil,(fun _ ha=>nomatch ha),(fun j a hj=>by simp at hj)⟩ (Heap.lt_size hI)
  ·have hb:=Heap.lt_size e
   exact k1 b o (Nat.ne_of_lt hb) (Nat.ne_of_lt (Nat.lt_trans hb aI)) (SK b o e)
  ·exact Nat.lt_trans aI (k4.above a ha)
 unfold Builtin.List.listExtendWith
 refine wpAny_bind (wpAny_typeOf (T := "dict_items") WU.typeIs ?_)
 have q1:Builtin.List.listSameRef (.ref s.heap.objs.size) (.ref r) = false:=by simp [Builtin.List.listSameRef,Nat.ne_of_gt hr]
 have q2:(Value.type "dict_items" == Value.type "list") = false:=by decide
 have q3:(Value.type "dict_items" == Value.type "tuple") = false:=by decide
 simp only [q1,q2,q3,Bool.or_false,Bool.false_eq_true,if_false]
 refine wpAny_bind (Uv WU (SK d od dZ) bG ?_)
 have WV:=Heap.get?_push_of_some { cls := .type "dict_itemiterator",data := .fields #[.none,.bool false,.ref d,.int 0 0,.int es.size 0,.int ep 0,.none,.none] } hS
 refine wpAny_bind (wpAny_holding (PySem.W.kdx_hint (let ⟨o,ho,hc,_⟩ := WU; ⟨o,Heap.get?_push_of_some _ ho,hc⟩) ?_))
 refine wpAny_ite_split (fun _=>?_) (fun _=>wpAny_pure ⟨plainId_quiet F.plain_extend_loop _,key _ 0 s1.toks _ (fun b o _ e=>e) WV fun h' tk acc c as k1 k2 k3 k4 k5=>?_⟩)
 ·refine wpAny_bind (wpAny_rule (wpAny_bind ?_))
  show wpAny _ _ (updateSeq s.heap.objs.size (·.push .none) >>= fun _=>updateSeq s.heap.objs.size (·.pop)) _ _ _
  refine wpAny_bind (wpAny_updateSeq WV rfl ?_)
  have hS3:=Heap.get?_update_self (Obj.mapSeq (·.push Value.none)) WV rfl
  refine wpAny_updateSeq (hz:=by seq_fits) hS3 rfl ?_
  have hS4:=Heap.get?_update_self (Obj.mapSeq (·.pop)) hS3 rfl
  refine wpAny_pure ⟨plainId_quiet F.plain_extend_loop _,key _ _ s1.toks _ (fun b o hb e=>(Heap.get?_update_other _ _ (Ne.symm hb)).trans ((Heap.get?_update_other _ _ (Ne.symm hb)).trans e)) hS4 fun h' tk acc c as k1 k2 k3 k4 k5=>?_⟩
  rw [es1]
  exact fin h' tk acc c as k1 k2 k3 k4 k5
 ·rw [es1]
  exact fin h' tk acc c as k1 k2 k3 k4 k5
end
section
variable {prog:Program} {w:World} {E:Value -> Shared -> Prop}
theorem Tc {A : Around} {s : Shared} {r : Value} {Q : Value -> Shared -> Prop} {C : List Value -> Heap -> Nat -> Prop} (xC : ∀ R : List Value -> Shared -> Prop, (∀ vs h1 t1, C vs h1 t1 -> R vs { s with heap := h1, toks := t1 }) -> wpAny (model prog w) A.in1 (collect r) R E s)
  (hC:∀ vs h1 t1,C vs h1 t1 -> vs.length <= sizeLine /\ ∃ (κ:SortKind) (g:Value -> Nat),
   (∀ (h6:Heap) (A':Around),A'.units <= A.units + 4 -> (∀ b o,h1.get? b = some o -> h6.get? b = some o) -> 2 <= vs.length -> (∀ Q E,Q κ { s with heap:=h6,toks:=t1 } -> wpAny (model prog w) A' (keyKind' vs.toArray) Q E { s with heap:=h6,toks:=t1 }) /\ Hv prog w A' { s with heap:=h6,toks:=t1 } κ (fun p=>g p.1) (vs.toArray.zip vs.toArray)) /\
   (∀ (out:Array Value) (h':Heap) (c:Nat),out.toList.Perm vs -> out.toList.Pairwise (fun x y=>g x <= g y) -> (∀ b o,h1.get? b = some o -> h'.get? b = some o) -> h'.get? h1.objs.size = some (seqObj "list" out c) -> Q (.ref h1.objs.size) { s with heap:=h',toks:=t1 })) :
  wpAny (model prog w) A (call (.builtin "sorted") [r]) Q E s:=by
 refine Calls.call_function_entry kind_sorted plain_sorted entry_sorted (args_sorted1 _) ?_
 unfold Builtin.«sorted»
 refine wpAny_bind (m:=checkCount "sorted" 1 1 _) (wpAny_pure (wpAny_bind (xC _ fun vs h1 t1 hc=>wpAny_bind (wpAny_newList ?_ (hC vs h1 t1 hc).1))))
 obtain ⟨hsz,κ,g,mV,h⟩ := hC vs h1 t1 hc
 have sR:(h1.push (seqObj "list" vs.toArray 0)).get? h1.objs.size = some (seqObj "list" vs.toArray 0):=Heap.get?_push_size _ rfl
 show wpAny _ _ _ _ _ { s with heap:=h1.push (seqObj "list" vs.toArray 0),toks:=t1 }
 refine wpAny_bind (wpAny_holding (wpAny_call_entry slot_list_sort ⟨_,sR,rfl⟩ entry_list_sort (Qk (κ:=κ) (g:=g) (s:={ s with heap:=h1.push (seqObj "list" vs.toArray 0),toks:=t1 }) sR hsz (fun h6 kp h2=>?_) fun out p1 p2=>⟨_,rfl,?_⟩) (args_list_sort _)))
 ·obtain ⟨k1,k2⟩ := mV h6 A.in1.in1 (show A.units + 1 + 1 <= A.units + 4 by omega) (fun b o e=>kp b o (Nat.ne_of_lt (Heap.lt_size e)) (Heap.get?_push_of_some _ e)) h2
  exact ⟨fun Q hq=>k1 Q _ hq,k2⟩
 ·obtain ⟨c,hc⟩ : ∃ c,(sortedHeap (h1.push (seqObj "list" vs.toArray 0)) h1.objs.size vs out).get? h1.objs.size = some (seqObj "list" out c):=sortedHeap_at sR
  refine wpAny_pure ⟨_,rfl,h out _ c p1 p2 (fun b o e=>?_) hc⟩
  rw [sortedHeap_old (Nat.ne_of_lt (Heap.lt_size e)) (by rw [size_push']; exact Nat.lt_succ_of_lt (Heap.lt_size e))]
  exact Heap.get?_push_of_some _ e
end
section
variable {X:Cx} {k:Nat} {pins:List (Addr × Obj)} {σ:St} {H H':Hp} {s:Shared} {h':Heap}
theorem Ai.nV {t':Nat} (I:Ai X pins σ H s) (kp:∀ b u,s.heap.get? b = some u -> h'.get? b = some u) (old:∀ b,b < s.heap.objs.size -> H' b = H b) (new:∀ b o,s.heap.objs.size <= b -> H' b = some o -> Bj X.prog X.w H' h' b o):Ai X pins σ H' { s with heap:=h',toks:=t' }:=by
 have up:∀ b o,H b = some o -> H' b = some o:=fun b o e=>by rw [old b (I.aC.lt e)]; exact e
 refine I.un ⟨fun b u q _ _ _=>kp b u q,fun b u q _ _ _=>⟨u.slots,kp b u q⟩,fun b u q n _=>by rw [old b (Heap.lt_size q)]; exact n,fun b u q _=>⟨u,kp b u q⟩,fun b xs q=>up b _ q,fun b u xs q=>up b _ q,fun b ps q=>⟨#[],by rw [up b _ q]; simp⟩⟩ fun b u e=>?_
 by_cases hb:b < s.heap.objs.size
 ·rw [old b hb] at e
  exact (I.aC b u e).fA (fun c v _ q=>kp c v q) (fun c q=>up c _ q) fun c xs q=>up c _ q
 ·exact new b u (Nat.le_of_not_lt hb) e
def Qa (v D:Addr):HO := .ext fun h=>h.IsItemsView v D
def bo:V -> List V -> Hp -> VK -> Prop:=fun x vs H Q=>∃ D kvs,x = .ref D /\ vs = [] /\ H D = some (.dT kvs) /\ ∀ v,H v = none -> Q (.ref v) (upd H v (Qa v D))
theorem Wi:k0 X "dict.items" bo:=by
 intro pins s σ H x vs v us Q I rx rv h
 obtain ⟨D,kvs,rfl,rfl,hD,q⟩ := h
 cases rx
 have iV:=rv.zero
 subst iV
 obtain ⟨hz,hsm,ys,pr,o,es,ep,ho,hex,hd,he,mE⟩ := (show Bj X.prog X.w H s.heap D (.dT kvs) from I.aC D _ hD)
 have fG:H s.heap.objs.size = none:=I.aC.fresh (Nat.le_refl _)
 have hv:(s.heap.push { cls := .type "dict_items",data := .fields #[.ref D] }).get? s.heap.objs.size = some { cls := .type "dict_items",data := .fields #[.ref D] }:=Heap.get?_push_size _ rfl
 have new:Bj X.prog X.w (upd H s.heap.objs.size (Qa s.heap.objs.size D)) (s.heap.push { cls := .type "dict_items",data := .fields #[.ref D] }) s.heap.objs.size (Qa s.heap.objs.size D):=⟨⟨_,hv,rfl,rfl⟩,⟨_,hv⟩,fun h1 h2 ⟨o,a1,a2⟩ k=>⟨o,k _ a1,a2⟩⟩
 exact S0 hsm ho hex ⟨.ref s.heap.objs.size,_,I.laid (t':=s.toks) (fun b u z=>Heap.get?_push_of_some _ z) (Nat.le_refl _) new,rfl,q _ fG⟩
def jl (k:(List Int × Int)):PyData := .tuple [.tuple (k.1.map PyData.int),.int k.2]
mutual
theorem cj {H H':Hp} (sm:A9 H H'):∀ (d:PyData) (v:V),Rp H d v -> Rp H' d v
 | .none,v,h=>h
 | .bool _,v,h=>h
 | .int _,v,h=>h
 | .str _,v,h=>h
 | .dict _,v,h=>h
 | .tuple ds,v,h=>by
  unfold Rp at h ⊢
  obtain ⟨a,xs,e,h1,h2⟩ := h
  exact ⟨a,xs,e,sm _ _ h1,jZ sm ds xs h2⟩
 | .list ds,v,h=>by
  unfold Rp at h ⊢
  obtain ⟨a,xs,e,h1,h2⟩ := h
  exact ⟨a,xs,e,sm _ _ h1,jZ sm ds xs h2⟩
theorem jZ {H H':Hp} (sm:A9 H H'):∀ (ds:List PyData) (vs:List V),aB H ds vs -> aB H' ds vs
 | [],vs,h=>by
  unfold aB at h ⊢
  exact h
 | d :: ds,vs,h=>by
  unfold aB at h ⊢
  obtain ⟨x,xs,e,h1,h2⟩ := h
  exact ⟨x,xs,e,cj sm d x h1,jZ sm ds xs h2⟩
end
theorem Np {H:Hp}:∀ xs:List Int,aB H (xs.map PyData.int) (xs.map V.int)
 | []=>by unfold aB; rfl
 | x :: xs=>by
  show aB H (PyData.int x :: xs.map PyData.int) (V.int x :: xs.map V.int)
  unfold aB
  exact ⟨_,_,rfl,by unfold Rp; rfl,Np xs⟩
theorem dq {H:Hp} {b:Addr} {k:(List Int × Int)} (h:Dt H b k):Rp H (jl k) (.ref b):=by
 obtain ⟨u,h1,h2⟩ := h
 unfold jl Rp
 refine ⟨b,_,rfl,h1,?_⟩
 unfold aB
 refine ⟨_,_,rfl,?_,?_⟩
 ·unfold Rp
  exact ⟨u,_,rfl,h2,Np _⟩
 ·unfold aB
  refine ⟨_,_,rfl,by unfold Rp; rfl,?_⟩
  unfold aB
  rfl
def ng (H:Hp) (kv:(List Int × Int) × V) (u:V):Prop := ∃ a b,u = .ref a /\ H a = some (.tup [.ref b,kv.2]) /\ Dt H b kv.1
def Hd (dv:(List Int × Int) × V -> PyData) (kv:(List Int × Int) × V):PyData := .tuple [jl kv.1,dv kv]
def jg:List V -> Hp -> VK -> Prop:=fun xs H Q=>∃ (v D:Addr) (kvs:List ((List Int × Int) × V)) (dv:(List Int × Int) × V -> PyData) (g:(List Int × Int) × V -> Nat),xs = [.ref v] /\ H v = some (Qa v D) /\ H D = some (.dT kvs) /\ (∀ kv ∈ kvs,Rp H (dv kv) kv.2 /\ (dv kv).depth <= 40) /\
 (∀ a ∈ kvs,∀ b ∈ kvs,Tt (Hd dv a) (Hd dv b) /\ Gy (Hd dv a) (Hd dv b) = decide (g a < g b)) /\
 ∀ (p:Addr) (us:List V) (ps:List ((List Int × Int) × V)) (H':Hp),A9 H H' -> H p = none -> H' p = some (.lst us) -> ps.Perm kvs -> ps.Pairwise (fun x y=>g x <= g y) -> Paired (ng H') ps us -> Q (.ref p) H'
theorem Yu {as:List Addr} (h:as.Nodup) {j:Nat} {a:Addr} (e:as[j]? = some a):as.idxOf a = j:=by
 obtain ⟨h1,e1⟩ := List.getElem?_eq_some_iff.mp e
 rw [<- e1]
 exact List.Nodup.idxOf_getElem h j h1
theorem Sr (hr:Dc k X.A) (hc:X.calm = true):Dl X (.builtin "sorted") jg:=by
 intro pins s σ H xs us Q I r h
 obtain ⟨v,D,kvs,dv,g,rfl,hv,hD,hdv,WW,q⟩ := h
 obtain ⟨u,rfl,ru⟩ := r.one
 cases ru
 obtain ⟨HA,_⟩ := I.aC v _ hv
 obtain ⟨hz,hsm,ys,pr,o,es,ep,ho,hex,hd,mW,mE⟩ := (show Bj X.prog X.w H s.heap D (.dT kvs) from I.aC D _ hD)
 have SM:kvs.length = ys.length:=pr.length
 have sE:es.size = ys.length:=size_of_entries mW
 have hu:=hr.un
 refine Tc (C:=fun vs h1 t1=>∃ as:List Addr,vs = as.map Value.ref /\ (∀ b o,s.heap.get? b = some o -> h1.get? b = some o) /\ as.length = es.size /\ cz es s.heap.objs.size h1 as) (fun R hR=>Tp (I.ok.hd hc) HA ho hd (by omega) fun h1 t1 as k1 k2 k3=>hR _ h1 t1 ⟨as,rfl,k1,k2,k3⟩) ?_
 rintro vs h1 t1 ⟨as,rfl,k1,k2,k3⟩
 have HB:as.Nodup:=k3.rise.imp fun h=>Nat.ne_of_lt h
 have FO:∀ a ∈ as,s.heap.objs.size <= a:=fun a ha=>Nat.le_of_lt (k3.above a ha)
 have kT:∀ a ∈ as,∃ (j:Nat) (kv:(List Int × Int) × V) (y:(List Int × Int) × Addr × Value),as.idxOf a = j /\ kvs[j]? = some kv /\ ys[j]? = some y /\ kv.1 = y.1 /\ Dt H y.2.1 kv.1 /\ Aw kv.2 y.2.2 /\ h1.get? a = some { cls := .type "tuple",data := .seq #[.ref y.2.1,y.2.2] }:=fun a ha=>by
  obtain ⟨j,hj⟩ := List.mem_iff_getElem?.mp ha
  obtain ⟨en,e1,e2⟩ := k3.at_ j a hj
  have WG:=(List.getElem?_eq_some_iff.mp hj).1
  obtain ⟨kv,y,f1,f2,f3,f4,f5⟩ := Fi pr (i:=j) (by omega)
  have e3:=entry_at mW j
  rw [f2,e1] at e3
  have e4:en = entryOfKey (Bx X.prog X.w) y:=Option.some.inj e3
  rw [e4] at e2
  exact ⟨j,kv,y,Yu HB hj,f1,f2,f3,f4,f5,e2⟩
 let iJ:V -> (List Int × Int) × V:=fun u=>match u with
  | .ref a=>kvs.getD (as.idxOf a) (([],0),.aL)
  | _=>(([],0),.aL)
 let FA:Addr -> Addr:=fun a=>match ys[as.idxOf a]? with
  | some y=>y.2.1
  | none=>0
 have aG:∀ a ∈ as,∃ y:(List Int × Int) × Addr × Value,iJ (.ref a) ∈ kvs /\ FA a = y.2.1 /\ Dt H y.2.1 (iJ (.ref a)).1 /\ Aw (iJ (.ref a)).2 y.2.2 /\ h1.get? a = some { cls := .type "tuple",data := .seq #[.ref y.2.1,y.2.2] }:=fun a ha=>by
  obtain ⟨j,kv,y,f0,f1,f2,f3,f4,f5,f6⟩ := kT a ha
  have e1:iJ (.ref a) = kv:=by
   show kvs.getD (as.idxOf a) _ = kv
   rw [f0,List.getD_eq_getElem?_getD,f1]
   rfl
  have e2:FA a = y.2.1:=by
   show (match ys[as.idxOf a]? with | some y=>y.2.1 | none=>0) = _
   rw [f0,f2]
  rw [e1]
  exact ⟨y,List.mem_of_getElem? f1,e2,f4,f5,f6⟩
 let H1:Hp:=fun b=>if b ∈ as then some (.tup [.ref (FA b),(iJ (.ref b)).2]) else H b
 have H1n:∀ b,b ∉ as -> H1 b = H b:=fun b hb=>by show (if b ∈ as then _ else H b) = _; rw [if_neg hb]
 have WX:∀ a,a ∈ as -> H1 a = some (.tup [.ref (FA a),(iJ (.ref a)).2]):=fun a ha=>by show (if a ∈ as then _ else H a) = _; rw [if_pos ha]
 have old:∀ b,b < s.heap.objs.size -> H1 b = H b:=fun b hb=>H1n b fun z=>Nat.lt_irrefl _ (Nat.lt_of_lt_of_le hb (FO b z))
 have sm:A9 H H1:=fun b o e=>by rw [old b (I.aC.lt e)]; exact e
 have I1:Ai X pins σ H1 { s with heap:=h1,toks:=t1 }:=I.nV k1 old fun b o hb e=>by
  by_cases z:b ∈ as
  ·rw [WX b z] at e
   cases e
   obtain ⟨y,y1,y2,y3,y4,y5⟩ := aG b z
   rw [y2]
   exact ⟨⟨Nat.le_trans (by decide:2 <= 1000) (Kc (Nat.le_refl _)),_,y5,rfl⟩,[.ref y.2.1,y.2.2],.cons rfl (.cons y4 .nil),⟨_,y5,rfl,0,rfl⟩⟩
  ·rw [H1n b z,I.aC.fresh hb] at e
   cases e
 have iV:(as.map V.ref).map iJ = kvs:=by
  apply List.ext_getElem?
  intro j
  rw [List.map_map,List.getElem?_map]
  cases hj:as[j]? with
  | none =>
   have:=List.getElem?_eq_none_iff.mp hj
   rw [List.getElem?_eq_none (by omega)]
   rfl
  | some a =>
   have WG:=(List.getElem?_eq_some_iff.mp hj).1
   show some (kvs.getD (as.idxOf a) _) = _
   rw [Yu HB hj,List.getD_eq_getElem?_getD,List.getElem?_eq_getElem (by omega)]
   rfl
 have sD:Nb H1 false (fun u=>Hd dv (iJ u)) (fun u=>g (iJ u)) (as.map V.ref):=by
  refine ⟨fun u hu=>?_,fun u hu u' UM=>?_⟩
  ·obtain ⟨a,ha,rfl⟩ := List.mem_map.mp hu
   obtain ⟨y,y1,y2,y3,y4,y5⟩ := aG a ha
   obtain ⟨d1,d2⟩ := hdv _ y1
   refine ⟨?_,⟨jl (iJ (.ref a)).1,[dv (iJ (.ref a))],rfl,by rw [if_neg (by decide)]; exact ⟨_,rfl⟩⟩,?_⟩
   ·unfold Hd Rp
    refine ⟨a,_,rfl,WX a ha,?_⟩
    unfold aB
    refine ⟨_,_,rfl,dq (by rw [y2]; exact y3.up fun b xs e=>sm b _ e),?_⟩
    unfold aB
    refine ⟨_,_,rfl,cj sm _ _ d1,?_⟩
    unfold aB
    rfl
   ·show (PyData.tuple [jl (iJ (.ref a)).1,dv (iJ (.ref a))]).depth <= 50
    simp only [PyData.depth,PyData.depthAll,jl]
    have hints:∀ l:List Int,PyData.depthAll (l.map PyData.int) = 0:=by
     intro l
     induction l with
     | nil=>rfl
     | cons x l ih=>simp only [List.map_cons,PyData.depthAll,PyData.depth,ih]; rfl
    rw [hints]
    omega
  ·obtain ⟨a,ha,rfl⟩ := List.mem_map.mp hu
   obtain ⟨a',EZ,rfl⟩ := List.mem_map.mp UM
   obtain ⟨_,y1,_⟩ := aG a ha
   obtain ⟨_,z1,_⟩ := aG a' EZ
   exact WW _ y1 _ z1
 refine ⟨by rw [List.length_map]; omega,PyProof.Rows.tuples' false,fun v=>g (iJ (.ref (My v))),fun h6 A' hA' k6 h2=>?_,fun out h' c p1 p2 k' e'=>?_⟩
 ·have I6:Ai X pins σ H1 { s with heap:=h6,toks:=t1 }:=I1.kept (t':=t1) k6
  rw [List.length_map] at h2
  exact sD.asks (E:=fun _ _=>True) I6 rfl rfl (by omega) h2
 ·obtain ⟨cF,v1,v2,v3⟩ := Nr (g:=fun u=>g (iJ u)) p1 p2
  have fG:H1 h1.objs.size = none:=I1.aC.fresh (Nat.le_refl _)
  refine ⟨.ref _,upd H1 _ (.lst cF),I1.laid (t':=t1) k' (Nat.le_refl _) ⟨by rw [v2.length_eq,List.length_map]; omega,out.toList,c,v1,e'⟩,rfl,q _ cF (cF.map iJ) _ (fun b o e=>?_) ?_ A5 ?_ ?_ ?_⟩
  ·rw [Ac (Ah (sm b o e) fG)]
   exact sm b o e
  ·cases e:H h1.objs.size with
   | none=>rfl
   | some o=>rw [sm _ _ e] at fG; cases fG
  ·have:=v2.map iJ
   rw [iV] at this
   exact this
  ·rw [List.pairwise_map]
   exact v3
  ·have key : ∀ l : List V, (∀ u ∈ l, ∃ a ∈ as, u = .ref a) -> Paired (ng (upd H1 h1.objs.size (.lst cF))) (l.map iJ) l := by
    intro l
    induction l with
    | nil=>exact fun _=>.nil
    | cons u l ih =>
     intro hl
     refine .cons ?_ (ih fun u hu=>hl u (List.mem_cons_of_mem _ hu))
     obtain ⟨a,ha,rfl⟩ := hl u List.mem_cons_self
     obtain ⟨y,y1,y2,y3,y4,y5⟩ := aG a ha
     have up:∀ b xs,H1 b = some (.tup xs) -> upd H1 h1.objs.size (.lst cF) b = some (.tup xs):=fun b xs e=>by rw [Ac (Ah e fG)]; exact e
     exact ⟨a,FA a,rfl,up _ _ (WX a ha),(y2 ▸ y3.up fun b xs e=>sm b _ e:Dt H1 (FA a) _).up up⟩
   refine key cF fun u hu=>?_
   obtain ⟨a,ha,e⟩ := List.mem_map.mp (v2.mem_iff.mp hu)
   exact ⟨a,ha,e.symm⟩
end
end L2
namespace Law
local macro_rules | `(tactic| ac_rfl) => `(tactic| first | exact ⟨rfl,rfl,rfl,by decide +kernel,rfl,by decide +kernel,by decide +kernel⟩ | exact ⟨rfl,by decide +kernel,by decide +kernel,by decide +kernel,by decide +kernel⟩)
local macro_rules | `(tactic| omega) => `(tactic| lia)
open PySem L2 PyProof.Rows
open PySem.Builtin.Int (intBits)
def top (i:Nat):Stmt:=PySem.Challenge.pw_roundcall_k37_whole_own_plans.main.body.getD i (.Pass ⟨0,0,0,0⟩)
abbrev O2:Stmt:=top 7
abbrev Nh:Stmt:=top 8
abbrev Ww:Stmt:=top 9
abbrev Wl:Stmt:=top 10
abbrev Te:Stmt:=top 11
abbrev Xd:Stmt:=top 12
abbrev Fu:Stmt:=top 13
abbrev Ni:Stmt:=top 14
abbrev Xa:Stmt:=top 15
abbrev O7:Stmt:=top 16
abbrev Lm:Stmt:=top 17
abbrev Lh:Stmt:=top 18
abbrev Nw:Stmt:=top 20
abbrev Wc:Stmt:=top 22
abbrev N4:Stmt:=top 23
abbrev Wk:Stmt:=top 24
abbrev Ku:Stmt:=top 25
abbrev Oe:Stmt:=top 26
abbrev Lx:Stmt:=top 27
abbrev M8:Stmt:=top 28
abbrev Wd:Stmt:=top 29
abbrev Of:Stmt:=top 31
abbrev Ma:Stmt:=top 32
abbrev Qs:Stmt:=top 33
abbrev Tz:Stmt:=top 34
abbrev N5:Stmt:=top 36
abbrev Ny:Stmt:=top 37
abbrev He:Stmt:=top 38
abbrev Ng:Stmt:=top 39
abbrev O4:Stmt:=top 40
abbrev L9:Stmt:=top 41
abbrev Kx:Stmt:=top 42
abbrev I8:Stmt:=top 43
theorem io:As (["hall"]:List Str) ["hall"] (A8 O2):=by ac_rfl
theorem gu:As (["hall","standing"]:List Str) ["hall","standing"] (A8 Nh):=by ac_rfl
theorem le:As (["hall","who"]:List Str) ["hall","who"] (A8 Ww):=by ac_rfl
theorem mh:As (["hall","standing","who","lost"]:List Str) ["hall","standing","who","lost"] (A8 Wl):=by ac_rfl
theorem cn:As (["hall","standing","who","lost","left"]:List Str) ["hall","standing","who","lost"] (A8 Te):=by ac_rfl
def Ja:Scope:={ kind := .function,names:=[(PySem.Str.ofString ".0",NameKind.local),(PySem.Str.ofString "turns",NameKind.local)],isGenerator:=false,isCoroutine:=false,more:=[] }
theorem Jd:Cf (A8 Te) Ja (["hall","standing","who","lost","left"]:List Str) (["turns"]:List Str) []:=by ac_rfl
theorem J6:(Bn (["hall","standing","who","lost","left"]:List Str) (["turns"]:List Str) []).Nodup:=by decide +kernel
theorem mn:As (["hall","standing","lost"]:List Str) ["hall","standing","lost"] (A8 Xd):=by ac_rfl
theorem Xs:As (["hall","standing","who","lost","left"]:List Str) ["hall","standing","who","lost"] (A8 Fu):=by ac_rfl
theorem Yo:As (["hall","standing","who","behind"]:List Str) ["hall","standing","who"] (A8 Ni):=by ac_rfl
theorem kx:As (["hall"]:List Str) ["hall"] (A8 Xa):=by ac_rfl
theorem Pc:As (["hall","product","wait"]:List Str) ["hall"] (A8 O7):=by ac_rfl
theorem Jc:As (["waits","rows","wait","longer","row"]:List Str) ["waits"] (A8 Lm):=by ac_rfl
def Mf:Scope:={ kind := .function,names:=[(PySem.Str.ofString ".0",NameKind.local),(PySem.Str.ofString "turns",NameKind.local),(PySem.Str.ofString "row",NameKind.free)],isGenerator:=false,isCoroutine:=false,more:=[] }
theorem Mo:Cf (A8 Lm) Mf (["waits","rows","wait","longer","row"]:List Str) (["turns"]:List Str) [4]:=by ac_rfl
theorem Mi:(Bn (["waits","rows","wait","longer","row"]:List Str) (["turns"]:List Str) [4]).Nodup:=by decide +kernel
theorem U5:As (["hall","told","left"]:List Str) ["hall"] (A8 Lh):=by ac_rfl
def L4:Scope:={ kind := .function,names:=[(PySem.Str.ofString ".0",NameKind.local),(PySem.Str.ofString "quiet",NameKind.local),(PySem.Str.ofString "left",NameKind.free)],isGenerator:=false,isCoroutine:=false,more:=[] }
theorem Kv:Cf (A8 Lh) L4 (["hall","told","left"]:List Str) (["quiet"]:List Str) [2]:=by ac_rfl
theorem Kl:(Bn (["hall","told","left"]:List Str) (["quiet"]:List Str) [2]).Nodup:=by decide +kernel
theorem Km:As (["hall","paper","listed","standing","who","behind"]:List Str) ["hall","paper"] (A8 Nw):=by ac_rfl
theorem Os:As (["hall","pending","standing","calls","who","behind"]:List Str) ["hall"] (A8 Wc):=by ac_rfl
theorem Hq:As (["pending","ways","standing","calls","who","behind","later"]:List Str) ["pending"] (A8 N4):=by ac_rfl
theorem Om:As (["pending","ways","ranked","bare","later","standing","who","calls"]:List Str) ["pending","ways","ranked"] (A8 Wk):=by ac_rfl
theorem Fj:As (["hall","pending","ways","table","rank","ranked","standing"]:List Str) ["hall"] (A8 Ku):=by ac_rfl
def Sy:Scope:={ kind := .function,names:=[(PySem.Str.ofString ".0",NameKind.local),(PySem.Str.ofString "standing",NameKind.local),(PySem.Str.ofString "calls",NameKind.local)],isGenerator:=false,isCoroutine:=false,more:=[] }
theorem Sc:Cf (A8 Ku) Sy (["hall","pending","ways","table","rank","ranked","standing"]:List Str) (["standing","calls"]:List Str) []:=by ac_rfl
theorem L5:(Bn (["hall","pending","ways","table","rank","ranked","standing"]:List Str) (["standing","calls"]:List Str) []).Nodup:=by decide +kernel
theorem g0:As (["table","behind"]:List Str) ["table","behind"] (A8 Oe):=by ac_rfl
theorem f7:As (["hall","table","standing","who"]:List Str) ["hall","table","standing","who"] (A8 Lx):=by ac_rfl
def Jx:Scope:={ kind := .function,names:=[(PySem.Str.ofString ".0",NameKind.local),(PySem.Str.ofString "behind",NameKind.local),(PySem.Str.ofString "worth",NameKind.globalImplicit),(PySem.Str.ofString "table",NameKind.free)],isGenerator:=false,isCoroutine:=false,more:=[] }
theorem K3:Cf (A8 Lx) Jx (["hall","table","standing","who"]:List Str) (["behind"]:List Str) [1]:=by ac_rfl
theorem Jz:(Bn (["hall","table","standing","who"]:List Str) (["behind"]:List Str) [1]).Nodup:=by decide +kernel
theorem Zg:As (["hall","table","standing","worths"]:List Str) ["hall","table","standing"] (A8 M8):=by ac_rfl
def M9:Scope:={ kind := .function,names:=[(PySem.Str.ofString ".0",NameKind.local),(PySem.Str.ofString "who",NameKind.local),(PySem.Str.ofString "call_worth",NameKind.globalImplicit),(PySem.Str.ofString "hall",NameKind.free),(PySem.Str.ofString "standing",NameKind.free),(PySem.Str.ofString "table",NameKind.free)],isGenerator:=false,isCoroutine:=false,more:=[] }
theorem Ld:Cf (A8 M8) M9 (["hall","table","standing","worths"]:List Str) (["who"]:List Str) [0,1,2]:=by ac_rfl
theorem Ly:(Bn (["hall","table","standing","worths"]:List Str) (["who"]:List Str) [0,1,2]).Nodup:=by decide +kernel
theorem d8:As (["hall","table","standing","who","reached"]:List Str) ["hall","table","standing","who"] (A8 Wd):=by ac_rfl
theorem Mb:As (["hall","table","calls","coming","standing"]:List Str) ["hall"] (A8 Of):=by ac_rfl
theorem je:As (["hall","table","standing"]:List Str) ["hall","table","standing"] (A8 Ma):=by ac_rfl
def Jh:Scope:={ kind := .function,names:=[(PySem.Str.ofString ".0",NameKind.local),(PySem.Str.ofString "who",NameKind.local),(PySem.Str.ofString "worst_answer",NameKind.globalImplicit),(PySem.Str.ofString "hall",NameKind.free),(PySem.Str.ofString "standing",NameKind.free),(PySem.Str.ofString "table",NameKind.free)],isGenerator:=false,isCoroutine:=false,more:=[] }
theorem Jg:Cf (A8 Ma) Jh (["hall","table","standing"]:List Str) (["who"]:List Str) [0,1,2]:=by ac_rfl
theorem J1:(Bn (["hall","table","standing"]:List Str) (["who"]:List Str) [0,1,2]).Nodup:=by decide +kernel
theorem d4:As (["hall","standing","answers","behind"]:List Str) ["hall","standing","answers"] (A8 Qs):=by ac_rfl
def Gj:Scope:={ kind := .function,names:=[(PySem.Str.ofString ".0",NameKind.local),(PySem.Str.ofString "who",NameKind.local),(PySem.Str.ofString "lost",NameKind.local),(PySem.Str.ofString "after",NameKind.globalImplicit),(PySem.Str.ofString "hall",NameKind.free),(PySem.Str.ofString "standing",NameKind.free)],isGenerator:=false,isCoroutine:=false,more:=[] }
theorem Ga:Cf (A8 Qs) Gj (["hall","standing","answers","behind"]:List Str) (["who","lost"]:List Str) [0,1]:=by ac_rfl
theorem Dx:(Bn (["hall","standing","answers","behind"]:List Str) (["who","lost"]:List Str) [0,1]).Nodup:=by decide +kernel
def G6:Scope:={ kind := .function,names:=[(PySem.Str.ofString ".0",NameKind.local),(PySem.Str.ofString "later",NameKind.local)],isGenerator:=false,isCoroutine:=false,more:=[] }
theorem G3:Cf (A8 Qs) G6 (["hall","standing","answers","behind"]:List Str) (["later"]:List Str) []:=by ac_rfl
theorem G9:(Bn (["hall","standing","answers","behind"]:List Str) (["later"]:List Str) []).Nodup:=by decide +kernel
theorem Rf:As (["hall","table","told","coming","standing"]:List Str) ["hall"] (A8 Tz):=by ac_rfl
def Iw:Scope:={ kind := .function,names:=[(PySem.Str.ofString ".0",NameKind.local),(PySem.Str.ofString "standing",NameKind.local),(PySem.Str.ofString "answers",NameKind.local),(PySem.Str.ofString "table",NameKind.free)],isGenerator:=false,isCoroutine:=false,more:=[] }
theorem Io:Cf (A8 Tz) Iw (["hall","table","told","coming","standing"]:List Str) (["standing","answers"]:List Str) [1]:=by ac_rfl
theorem Em:(Bn (["hall","table","told","coming","standing"]:List Str) (["standing","answers"]:List Str) [1]).Nodup:=by decide +kernel
theorem g9:As (["script","k"]:List Str) ["script","k"] (A8 N5):=by ac_rfl
theorem Li:As (["cells","room","waits","one"]:List Str) ["cells"] (A8 Ny):=by ac_rfl
theorem Dm:As (["script","kind","cell","cells","waits","most","k"]:List Str) ["script"] (A8 He):=by ac_rfl
def Mj:Scope:={ kind := .function,names:=[(PySem.Str.ofString ".0",NameKind.local),(PySem.Str.ofString "k",NameKind.local),(PySem.Str.ofString "_law_cell",NameKind.globalImplicit),(PySem.Str.ofString "script",NameKind.free)],isGenerator:=false,isCoroutine:=false,more:=[] }
theorem Mt:Cf (A8 He) Mj (["script","kind","cell","cells","waits","most","k"]:List Str) (["k"]:List Str) [0]:=by ac_rfl
theorem N0:(Bn (["script","kind","cell","cells","waits","most","k"]:List Str) (["k"]:List Str) [0]).Nodup:=by decide +kernel
def Mw:Scope:={ kind := .function,names:=[(PySem.Str.ofString ".0",NameKind.local),(PySem.Str.ofString "one",NameKind.local),(PySem.Str.ofString "max",NameKind.globalImplicit)],isGenerator:=false,isCoroutine:=false,more:=[] }
theorem Ml:Cf (A8 He) Mw (["script","kind","cell","cells","waits","most","k"]:List Str) (["one"]:List Str) []:=by ac_rfl
theorem Mn:(Bn (["script","kind","cell","cells","waits","most","k"]:List Str) (["one"]:List Str) []).Nodup:=by decide +kernel
def Ms:Scope:={ kind := .function,names:=[(PySem.Str.ofString ".0",NameKind.local),(PySem.Str.ofString "one",NameKind.local),(PySem.Str.ofString "max",NameKind.globalImplicit)],isGenerator:=false,isCoroutine:=false,more:=[] }
theorem Mr:Cf (A8 He) Ms (["script","kind","cell","cells","waits","most","k"]:List Str) (["one"]:List Str) []:=by ac_rfl
theorem Mk:(Bn (["script","kind","cell","cells","waits","most","k"]:List Str) (["one"]:List Str) []).Nodup:=by decide +kernel
def Mq:Scope:={ kind := .function,names:=[(PySem.Str.ofString ".0",NameKind.local),(PySem.Str.ofString "one",NameKind.local),(PySem.Str.ofString "max",NameKind.globalImplicit)],isGenerator:=false,isCoroutine:=false,more:=[] }
theorem Mp:Cf (A8 He) Mq (["script","kind","cell","cells","waits","most","k"]:List Str) (["one"]:List Str) []:=by ac_rfl
theorem Mv:(Bn (["script","kind","cell","cells","waits","most","k"]:List Str) (["one"]:List Str) []).Nodup:=by decide +kernel
theorem Tv:As (["hall","standing","who","lost","left","k"]:List Str) ["hall","standing","who","lost"] (A8 Ng):=by ac_rfl
theorem Xk:As (["hall","standing","who","found"]:List Str) ["hall","standing","who"] (A8 O4):=by ac_rfl
theorem Uh:As (["standing","cell","many","order"]:List Str) ["standing","cell"] (A8 L9):=by ac_rfl
def P6:Scope:={ kind := .function,names:=[(PySem.Str.ofString ".0",NameKind.local),(PySem.Str.ofString "k",NameKind.local),(PySem.Str.ofString "standing",NameKind.free)],isGenerator:=false,isCoroutine:=false,more:=[] }
theorem P5:Cf (A8 L9) P6 (["standing","cell","many","order"]:List Str) (["k"]:List Str) [0]:=by ac_rfl
theorem Pa:(Bn (["standing","cell","many","order"]:List Str) (["k"]:List Str) [0]).Nodup:=by decide +kernel
theorem Ht:As (["hall","script","calls","broken","row","standing","behind"]:List Str) ["hall","script"] (A8 Kx):=by ac_rfl
def Mz:Scope:={ kind := .function,names:=[(PySem.Str.ofString ".0",NameKind.local),(PySem.Str.ofString "standing",NameKind.local),(PySem.Str.ofString "calls",NameKind.free)],isGenerator:=false,isCoroutine:=false,more:=[] }
theorem Mh:Cf (A8 Kx) Mz (["hall","script","calls","broken","row","standing","behind"]:List Str) (["standing"]:List Str) [2]:=by ac_rfl
theorem Mg:(Bn (["hall","script","calls","broken","row","standing","behind"]:List Str) (["standing"]:List Str) [2]).Nodup:=by decide +kernel
theorem Lb:As (["script","hall","paper","broken","found"]:List Str) ["script"] (A8 I8):=by ac_rfl
set_option genInjectivity false in
set_option genSizeOf false in
structure si where
 bL:Addr
 bM:Addr
 fJ:Addr
 fZ:Addr
 gA:Addr
 gB:Addr
 bI:Addr
 bJ:Addr
 fK:Addr
 cH:Addr
 cJ:Addr
 cK:Addr
 cL:Addr
 gC:Addr
 cM:Addr
 gD:Addr
 bT:Addr
 bU:Addr
 cN:Addr
 cO:Addr
 gE:Addr
 cP:Addr
 cQ:Addr
 gF:Addr
 gG:Addr
 bV:Addr
 cR:Addr
 cS:Addr
 cT:Addr
 cU:Addr
 cV:Addr
 cW:Addr
 eR:Addr
structure Txt (K:PySem.W.Frag) (mg:Str -> Option Value) (ad:si):Prop where
 jA:mg "beginning" = some (.ref ad.bL)
 eS:PySem.W.keepIn K (.ref ad.bL) = true
 nW:mg "may_lose" = some (.ref ad.bM)
 gM:PySem.W.keepIn K (.ref ad.bM) = true
 HC:mg "is_listener" = some (.ref ad.fJ)
 nX:PySem.W.keepIn K (.ref ad.fJ) = true
 WY:mg "refuse_wrong_turn" = some (.ref ad.fZ)
 tM:PySem.W.keepIn K (.ref ad.fZ) = true
 WZ:mg "left_behind" = some (.ref ad.gA)
 tO:PySem.W.keepIn K (.ref ad.gA) = true
 XA:mg "quiet_behind" = some (.ref ad.gB)
 tP:PySem.W.keepIn K (.ref ad.gB) = true
 jB:mg "after" = some (.ref ad.bI)
 fL:PySem.W.keepIn K (.ref ad.bI) = true
 kU:mg "all_behind" = some (.ref ad.bJ)
 fM:PySem.W.keepIn K (.ref ad.bJ) = true
 HD:mg "quiet_values" = some (.ref ad.fK)
 nY:PySem.W.keepIn K (.ref ad.fK) = true
 HE:mg "how_many" = some (.ref ad.cH)
 kW:PySem.W.keepIn K (.ref ad.cH) = true
 HH:mg "all_left" = some (.ref ad.cJ)
 kX:PySem.W.keepIn K (.ref ad.cJ) = true
 HJ:mg "standings" = some (.ref ad.cK)
 kY:PySem.W.keepIn K (.ref ad.cK) = true
 HK:mg "lets_kept" = some (.ref ad.cL)
 kZ:PySem.W.keepIn K (.ref ad.cL) = true
 XB:mg "calls_by_standing" = some (.ref ad.gC)
 tQ:PySem.W.keepIn K (.ref ad.gC) = true
 HL:mg "ways_to" = some (.ref ad.cM)
 lA:PySem.W.keepIn K (.ref ad.cM) = true
 XC:mg "without_calls_left" = some (.ref ad.gD)
 tR:PySem.W.keepIn K (.ref ad.gD) = true
 vv:mg "ranks" = some (.ref ad.bT)
 jC:PySem.W.keepIn K (.ref ad.bT) = true
 nZ:mg "worth" = some (.ref ad.bU)
 gN:PySem.W.keepIn K (.ref ad.bU) = true
 HM:mg "call_worth" = some (.ref ad.cN)
 lB:PySem.W.keepIn K (.ref ad.cN) = true
 HN:mg "best_call" = some (.ref ad.cO)
 lC:PySem.W.keepIn K (.ref ad.cO) = true
 XD:mg "worst_answer" = some (.ref ad.gE)
 tS:PySem.W.keepIn K (.ref ad.gE) = true
 HP:mg "kept_paper" = some (.ref ad.cP)
 lD:PySem.W.keepIn K (.ref ad.cP) = true
 HQ:mg "all_answers" = some (.ref ad.cQ)
 lE:PySem.W.keepIn K (.ref ad.cQ) = true
 XE:mg "unbroken_behind" = some (.ref ad.gF)
 tT:PySem.W.keepIn K (.ref ad.gF) = true
 XF:mg "broken_paper" = some (.ref ad.gG)
 tU:PySem.W.keepIn K (.ref ad.gG) = true
 lF:mg "_law_cell" = some (.ref ad.bV)
 fN:PySem.W.keepIn K (.ref ad.bV) = true
 HR:mg "_law_wide" = some (.ref ad.cR)
 lG:PySem.W.keepIn K (.ref ad.cR) = true
 HS:mg "_law_hall" = some (.ref ad.cS)
 lH:PySem.W.keepIn K (.ref ad.cS) = true
 vx:mg "_law_behind" = some (.ref ad.cT)
 jD:PySem.W.keepIn K (.ref ad.cT) = true
 HU:mg "_law_next" = some (.ref ad.cU)
 lI:PySem.W.keepIn K (.ref ad.cU) = true
 HV:mg "_law_who" = some (.ref ad.cV)
 lJ:PySem.W.keepIn K (.ref ad.cV) = true
 HW:mg "_law_plan" = some (.ref ad.cW)
 lK:PySem.W.keepIn K (.ref ad.cW) = true
 m_law:mg "law" = some (.ref ad.eR)
 oA:PySem.W.keepIn K (.ref ad.eR) = true
 bW:mg "len" = none
 gO:mg "max" = none
 aW:mg "tuple" = none
 aX:mg "range" = none
 xE:mg "dict" = none
 vy:mg "min" = none
 fO:mg "sorted" = none
 jE:mg "enumerate" = none
 HY:mg "int" = none
 oB:mg "list" = none
 dJ:mg "isinstance" = none
 xF:mg "bool" = none
 eJ:∃ t,mg "MOST_STANDINGS" = some (.int 3000 t)
inductive Sk (p0 p1 p2:Prop):Prop where
 | mk (h0:p0) (h1:p1) (h2:p2):Sk p0 p1 p2
inductive L3 (p0 p1 p2 p3:Prop):Prop where
 | mk (h0:p0) (h1:p1) (h2:p2) (h3:p3):L3 p0 p1 p2 p3
inductive Ij (p0 p1 p2 p3 p4:Prop):Prop where
 | mk (h0:p0) (h1:p1) (h2:p2) (h3:p3) (h4:p4):Ij p0 p1 p2 p3 p4
inductive Q4 (p0 p1 p2 p3 p4 p5:Prop):Prop where
 | mk (h0:p0) (h1:p1) (h2:p2) (h3:p3) (h4:p4) (h5:p5):Q4 p0 p1 p2 p3 p4 p5
inductive Yn (p0 p1 p2 p3 p4 p5 p6:Prop):Prop where
 | mk (h0:p0) (h1:p1) (h2:p2) (h3:p3) (h4:p4) (h5:p5) (h6:p6):Yn p0 p1 p2 p3 p4 p5 p6
inductive Tx (p0 p1 p2 p3 p4 p5 p6 p7:Prop):Prop where
 | mk (h0:p0) (h1:p1) (h2:p2) (h3:p3) (h4:p4) (h5:p5) (h6:p6) (h7:p7):Tx p0 p1 p2 p3 p4 p5 p6 p7
inductive Mm (p0 p1 p2 p3 p4 p5 p6 p7 p8:Prop):Prop where
 | mk (h0:p0) (h1:p1) (h2:p2) (h3:p3) (h4:p4) (h5:p5) (h6:p6) (h7:p7) (h8:p8):Mm p0 p1 p2 p3 p4 p5 p6 p7 p8
inductive Kj (p0 p1 p2 p3 p4 p5 p6 p7 p8 p9:Prop):Prop where
 | mk (h0:p0) (h1:p1) (h2:p2) (h3:p3) (h4:p4) (h5:p5) (h6:p6) (h7:p7) (h8:p8) (h9:p9):Kj p0 p1 p2 p3 p4 p5 p6 p7 p8 p9
inductive Ul (p0 p1 p2 p3 p4 p5 p6 p7 p8 p9 oC:Prop):Prop where
 | mk (h0:p0) (h1:p1) (h2:p2) (h3:p3) (h4:p4) (h5:p5) (h6:p6) (h7:p7) (h8:p8) (h9:p9) (XG:oC):Ul p0 p1 p2 p3 p4 p5 p6 p7 p8 p9 oC
inductive cu (p0 p1 p2 p3 p4 p5 p6 p7 p8 p9 oC vz:Prop):Prop where
 | mk (h0:p0) (h1:p1) (h2:p2) (h3:p3) (h4:p4) (h5:p5) (h6:p6) (h7:p7) (h8:p8) (h9:p9) (XG:oC) (h11:vz):cu p0 p1 p2 p3 p4 p5 p6 p7 p8 p9 oC vz
inductive cx (p0 p1 p2 p3 p4 p5 p6 p7 p8 p9 oC vz HZ IA IB:Prop):Prop where
 | mk (h0:p0) (h1:p1) (h2:p2) (h3:p3) (h4:p4) (h5:p5) (h6:p6) (h7:p7) (h8:p8) (h9:p9) (XG:oC) (h11:vz) (h12:HZ) (h13:IA) (h14:IB):cx p0 p1 p2 p3 p4 p5 p6 p7 p8 p9 oC vz HZ IA IB
inductive ck (p0 p1 p2 p3 p4 p5 p6 p7 p8 p9 oC vz HZ IA IB p15:Prop):Prop where
 | mk (h0:p0) (h1:p1) (h2:p2) (h3:p3) (h4:p4) (h5:p5) (h6:p6) (h7:p7) (h8:p8) (h9:p9) (XG:oC) (h11:vz) (h12:HZ) (h13:IA) (h14:IB) (h15:p15):ck p0 p1 p2 p3 p4 p5 p6 p7 p8 p9 oC vz HZ IA IB p15
inductive Yx {T0 T1:Type} (p:T0 -> T1 -> Prop):Prop where
 | mk (x0:T0) (x1:T1) (h:p x0 x1):Yx p
inductive Vn {T0 T1 T2:Type} (p:T0 -> T1 -> T2 -> Prop):Prop where
 | mk (x0:T0) (x1:T1) (x2:T2) (h:p x0 x1 x2):Vn p
inductive Uy {T0 T1 T2 T3:Type} (p:T0 -> T1 -> T2 -> T3 -> Prop):Prop where
 | mk (x0:T0) (x1:T1) (x2:T2) (x3:T3) (h:p x0 x1 x2 x3):Uy p
inductive ll {T0 T1 T2 T3 T4:Type} (p:T0 -> T1 -> T2 -> T3 -> T4 -> Prop):Prop where
 | mk (x0:T0) (x1:T1) (x2:T2) (x3:T3) (x4:T4) (h:p x0 x1 x2 x3 x4):ll p
inductive df {T0 T1 T2 T3 T4 T5:Type} (p:T0 -> T1 -> T2 -> T3 -> T4 -> T5 -> Prop):Prop where
 | mk (x0:T0) (x1:T1) (x2:T2) (x3:T3) (x4:T4) (x5:T5) (h:p x0 x1 x2 x3 x4 x5):df p
inductive oj {T0 T1 T2 T3 T4 T5 T6:Type} (p:T0 -> T1 -> T2 -> T3 -> T4 -> T5 -> T6 -> Prop):Prop where
 | mk (x0:T0) (x1:T1) (x2:T2) (x3:T3) (x4:T4) (x5:T5) (x6:T6) (h:p x0 x1 x2 x3 x4 x5 x6):oj p
inductive cw {T0 T1 T2 T3 T4 T5 T6 T7:Type} (p:T0 -> T1 -> T2 -> T3 -> T4 -> T5 -> T6 -> T7 -> Prop):Prop where
 | mk (x0:T0) (x1:T1) (x2:T2) (x3:T3) (x4:T4) (x5:T5) (x6:T6) (x7:T7) (h:p x0 x1 x2 x3 x4 x5 x6 x7):cw p
inductive sv {T0 T1 T2 T3 T4 T5 T6 T7 T8:Type} (p:T0 -> T1 -> T2 -> T3 -> T4 -> T5 -> T6 -> T7 -> T8 -> Prop):Prop where
 | mk (x0:T0) (x1:T1) (x2:T2) (x3:T3) (x4:T4) (x5:T5) (x6:T6) (x7:T7) (x8:T8) (h:p x0 x1 x2 x3 x4 x5 x6 x7 x8):sv p
inductive ab {T0 T1 T2 T3 T4 T5 T6 T7 T8 T9:Type} (p:T0 -> T1 -> T2 -> T3 -> T4 -> T5 -> T6 -> T7 -> T8 -> T9 -> Prop):Prop where
 | mk (x0:T0) (x1:T1) (x2:T2) (x3:T3) (x4:T4) (x5:T5) (x6:T6) (x7:T7) (x8:T8) (x9:T9) (h:p x0 x1 x2 x3 x4 x5 x6 x7 x8 x9):ab p
def Bl (H:Hp) (a:Addr) (ws:List Int) (calm:Option Int):Prop := ∃ t,H a = some (.tup [.ref t,vO calm]) /\ H t = some (.tup (ws.map V.int))
def D8 (H:Hp) (b:Addr) (ls:List Int) (q:Int):Prop := ∃ u,H b = some (.tup [.ref u,.int q]) /\ H u = some (.tup (ls.map V.int))
theorem Bl.same {H H':Hp} {a:Addr} {ws:List Int} {calm:Option Int} (s:A9 H H') (h:Bl H a ws calm):Bl H' a ws calm:=by
 obtain ⟨t,h1,h2⟩ := h
 exact ⟨t,s _ _ h1,s _ _ h2⟩
theorem D8.same {H H':Hp} {a:Addr} {ls:List Int} {q:Int} (s:A9 H H') (h:D8 H a ls q):D8 H' a ls q:=by
 obtain ⟨t,h1,h2⟩ := h
 exact ⟨t,s _ _ h1,s _ _ h2⟩
theorem Y9 (c:Option Int):decide (vO c = V.aL) = decide (c = none):=by cases c <;> simp [vO]
def Bi (ws ls:List Int) (who:Nat) (lost:Bool):List Int:=if lost = true then ls.map (fun x=>x - 1) else (ls.map (fun x=>x - 1)).set who (ws.getD who 0)
def Dh (calm:Option Int) (q:Int) (lost:Bool):Int:=if lost = true then calm.getD 0 else max (q - 1) 0
def Ub (calm:Option Int) (q:Int) (lost:Bool):Prop:=lost = true -> calm ≠ none /\ q = 0
theorem Ia (ws ls:List Int) (who:Nat) (lost:Bool):(Bi ws ls who lost).length = ls.length:=by
 unfold Bi
 split <;> simp
theorem Rx (x:Int):∀ ns:List Int,nw (.int x) (ns.map V.int) = decide (x ∈ ns)
 | []=>rfl
 | n :: ns=>by
  show (b9 (V.int n) (V.int x) || nw (.int x) (ns.map V.int)) = _
  rw [Rx x ns]
  show ((n == x) || decide (x ∈ ns)) = _
  by_cases h:n = x
  ·simp [h]
  ·have h':¬ x = n:=fun e=>h e.symm
   simp [h,h']
theorem Nl:∀ ns:List Int,(ns.map V.int).all G8 = true
 | []=>rfl
 | n :: ns=>by
  show (G8 (V.int n) && (ns.map V.int).all G8) = true
  rw [Nl ns]
  rfl
theorem Pp {ws:List Int} {k:Nat} (h:k < ws.length):Ra (ws.map V.int) (k:Int) = some (.int (ws.getD k 0)):=by
 refine Vh ?_
 rw [List.getElem?_map,List.getElem?_eq_getElem h,List.getD_eq_getElem?_getD,List.getElem?_eq_getElem h]
 rfl
theorem Ux {n k:Nat} (h:k < n):Vr n (k:Int) = some k:=by
 unfold Vr
 rw [if_pos (by omega),if_pos (by omega)]
 simp
theorem bh {a:Int} {n:Nat} (h:a.natAbs < 2 ^ n):intBits a <= n:=intBits_le h
theorem Bh (x:Int) {m:Int} (h:0 < m):0 <= x % m /\ x % m < m:=⟨Int.emod_nonneg x (by omega),Int.emod_lt_of_pos x h⟩
theorem Ke {xs:List V} {c:Int} (h0:0 <= c) (h:c <= xs.length):W1 xs none (some c) = xs.take c.toNat:=by
 obtain ⟨n,rfl⟩ : ∃ n:Nat,c = n:=⟨c.toNat,by omega⟩
 unfold W1
 rw [HT.nC,HT.sU]
 have e:min n xs.length = n:=by omega
 rw [e]
 simp
theorem W4 {a b:Int} {m n:Nat} (ha:intBits a <= m) (hb:intBits b <= n):intBits (a * b) <= m + n:=by
 apply intBits_le
 rw [Int.natAbs_mul,Nat.pow_add]
 have h1:=Nat.lt_of_lt_of_le (natAbs_lt_pow_bits a) (Nat.pow_le_pow_right (by decide) ha)
 have h2:=Nat.lt_of_lt_of_le (natAbs_lt_pow_bits b) (Nat.pow_le_pow_right (by decide) hb)
 exact Nat.mul_lt_mul'' h1 h2
theorem Ex {n:Nat} (h:n <= 10000):n < sizeLine:=Nat.lt_of_le_of_lt h (by decide)
def Af (H H':Hp):Prop := ∀ b xs,H b = some (.tup xs) -> H' b = some (.tup xs)
theorem Af.of {H H':Hp} (s:A9 H H'):Af H H':=fun b xs e=>s b _ e
theorem Af.trans {H H1 H2:Hp} (a:Af H H1) (b:Af H1 H2):Af H H2:=fun c xs e=>b c xs (a c xs e)
theorem Af.lst {H:Hp} {D:Addr} {zs:List V} {o:HO} (h:H D = some (.lst zs)):Af H (upd H D o):=fun b xs e=>by
 rw [Ac (Bp e h (by intro z; cases z))]
 exact e
def En (H:Hp) (r:List Int) (v:V):Prop := ∃ p,v = .ref p /\ H p = some (.tup (r.map V.int))
def E3 (H:Hp) (z:List Int × Int) (v:V):Prop := ∃ p u,v = .ref p /\ H p = some (.tup [.ref u,.int z.2]) /\ H u = some (.tup (z.1.map V.int))
theorem En.up {H H':Hp} {r:List Int} {v:V} (t:Af H H') (h:En H r v):En H' r v:=by
 obtain ⟨p,e,h1⟩ := h
 exact ⟨p,e,t _ _ h1⟩
theorem E3.up {H H':Hp} {z:List Int × Int} {v:V} (t:Af H H') (h:E3 H z v):E3 H' z v:=by
 obtain ⟨p,u,e,h1,h2⟩ := h
 exact ⟨p,u,e,t _ _ h1,t _ _ h2⟩
def Ad {α:Type} (P:α -> V -> Prop) (rs:List α) (vs:List V):Prop:=vs.length = rs.length /\ ∀ (i:Nat) (r:α) (v:V),rs[i]? = some r -> vs[i]? = some v -> P r v
theorem Ad.nil {α:Type} {P:α -> V -> Prop}:Ad P [] []:=⟨rfl,fun i r v e=>by cases e⟩
theorem Ad.imp {α:Type} {P P':α -> V -> Prop} {rs:List α} {vs:List V} (f:∀ r v,P r v -> P' r v) (h:Ad P rs vs):Ad P' rs vs:=⟨h.1,fun i r v e1 e2=>f _ _ (h.2 i r v e1 e2)⟩
theorem Ad.append {α:Type} {P:α -> V -> Prop} {rs ss:List α} {vs us:List V} (h:Ad P rs vs) (g:Ad P ss us):Ad P (rs ++ ss) (vs ++ us):=by
 refine ⟨by rw [List.length_append,List.length_append,h.1,g.1],fun i r v e1 e2=>?_⟩
 rcases Nat.lt_or_ge i rs.length with z | z
 ·rw [List.getElem?_append_left z] at e1
  rw [List.getElem?_append_left (by rw [h.1]; exact z)] at e2
  exact h.2 i r v e1 e2
 ·rw [List.getElem?_append_right z] at e1
  rw [List.getElem?_append_right (by rw [h.1]; exact z),h.1] at e2
  exact g.2 _ r v e1 e2
theorem Ad.one {α:Type} {P:α -> V -> Prop} {r:α} {v:V} (h:P r v):Ad P [r] [v]:=by
 refine ⟨rfl,fun i r' v' e1 e2=>?_⟩
 cases i with
 | zero=>cases e1; cases e2; exact h
 | succ i=>cases e1
theorem Ad.get {α:Type} {P:α -> V -> Prop} {rs:List α} {vs:List V} (h:Ad P rs vs) {i:Nat} {v:V} (e:vs[i]? = some v):∃ r,rs[i]? = some r /\ P r v:=by
 have hi:=(List.getElem?_eq_some_iff.mp e).1
 have mU:i < rs.length:=by
  rw [<- h.1]
  exact hi
 have h2:rs[i]? = some rs[i]:=List.getElem?_eq_getElem mU
 exact ⟨_,h2,h.2 i _ v h2 e⟩
def qv:Option Int -> Int
 | none=>1
 | some c=>c + 1
def Ak (q:Int) (ws:List Int):Int:=ws.foldl (· * ·) q
def Pu (r:List Int) (w:Int):List (List Int):=(List.range w.toNat).map fun t=>r ++ [1 + ((t:Nat):Int)]
def C0 (rows:List (List Int)) (w:Int):List (List Int):=rows.flatMap fun r=>Pu r w
def C6 (ws:List Int):List (List Int):=ws.foldl C0 [[]]
def F6 (r:List Int) (q:Int):List (List Int × Int):=(List.range q.toNat).map fun k=>(r,0 + ((k:Nat):Int))
def Ao (ws:List Int) (q:Int):List (List Int × Int):=(C6 ws).flatMap fun r=>F6 r q
theorem F0 {α β:Type} (f:β -> α -> β) (b:β) (xs:List α) {i:Nat} {x:α} (h:xs[i]? = some x):(xs.take (i + 1)).foldl f b = f ((xs.take i).foldl f b) x:=by
 rw [List.take_add_one,h,List.foldl_append]
 rfl
theorem Oa {α β:Type} (f:α -> List β) (xs:List α) {i:Nat} {x:α} (h:xs[i]? = some x):(xs.take (i + 1)).flatMap f = (xs.take i).flatMap f ++ f x:=by
 rw [List.take_add_one,h,List.flatMap_append]
 simp
theorem Nf {q:Int} (hq:intBits q <= 256):∀ {ws:List Int},(∀ w ∈ ws,intBits w <= 256) -> ∀ i,i <= ws.length -> intBits (Ak q (ws.take i)) <= 256 * (i + 1)
 | ws,h,0,_=>by simpa [Ak] using hq
 | ws,h,i + 1,hi=>by
  have hx:ws[i]? = some ws[i]:=List.getElem?_eq_getElem (by omega)
  have ih:=Nf hq h i (by omega)
  unfold Ak at ih ⊢
  rw [F0 _ _ _ hx]
  exact Nat.le_trans (W4 ih (h _ (List.getElem_mem _))) (by omega)
theorem J2 (q:Int):∀ (ws:List Int) (a:Int),Ak (q * a) ws = q * Ak a ws
 | [],a=>rfl
 | w :: ws,a=>by
  show Ak (q * a * w) ws = q * Ak (a * w) ws
  rw [Int.mul_assoc,J2 q ws (a * w)]
theorem Me {α β:Type} {f:α -> List β} {n:Nat}:∀ {xs:List α},(∀ x ∈ xs,(f x).length = n) -> (xs.flatMap f).length = xs.length * n
 | [],_=>by simp
 | x :: xs,h=>by
  rw [List.flatMap_cons,List.length_append,h x (List.mem_cons_self ..),Me fun y hy=>h y (List.mem_cons_of_mem _ hy),List.length_cons,Nat.succ_mul]
  omega
theorem Qc (r:List Int) (w:Int):(Pu r w).length = w.toNat:=by simp [Pu]
theorem O3 (r:List Int) (q:Int):(F6 r q).length = q.toNat:=by simp [F6]
theorem La (rows:List (List Int)) (w:Int):(C0 rows w).length = rows.length * w.toNat:=Me fun r _=>Qc r w
theorem Ln:∀ (ws:List Int) (rows:List (List Int)),(∀ w ∈ ws,1 <= w) -> ((ws.foldl C0 rows).length:Int) = Ak (rows.length:Int) ws
 | [],rows,_=>rfl
 | w :: ws,rows,h=>by
  have hw:=h w (List.mem_cons_self ..)
  show ((ws.foldl C0 (C0 rows w)).length:Int) = Ak ((rows.length:Int) * w) ws
  rw [Ln ws _ (fun x hx=>h x (List.mem_cons_of_mem _ hx)),La]
  congr 1
  rw [Int.natCast_mul]
  congr 1
  omega
theorem E9:∀ (ws:List Int) (a:Int),0 <= a -> (∀ w ∈ ws,1 <= w) -> a <= Ak a ws
 | [],a,_,_=>Int.le_refl _
 | w :: ws,a,ha,h=>by
  have hw:=h w (List.mem_cons_self ..)
  have h1:a <= a * w:=by
   have:=Int.mul_le_mul_of_nonneg_left hw ha
   rw [Int.mul_one] at this
   exact this
  exact Int.le_trans h1 (E9 ws (a * w) (Int.le_trans ha h1) fun x hx=>h x (List.mem_cons_of_mem _ hx))
theorem X3 {ws:List Int} {a:Int} (ha:0 <= a) (h:∀ w ∈ ws,1 <= w) (i:Nat):Ak a (ws.take i) <= Ak a ws:=by
 have e:Ak a ws = Ak (Ak a (ws.take i)) (ws.drop i):=by
  unfold Ak
  rw [<- List.foldl_append,List.take_append_drop]
 rw [e]
 refine E9 _ _ (Int.le_trans ha (E9 _ _ ha fun w hw=>h w (List.mem_of_mem_take hw))) fun w hw=>h w (List.mem_of_mem_drop hw)
theorem Ot {r x:List Int} {w:Int} (h:x ∈ Pu r w):∃ t:Nat,t < w.toNat /\ x = r ++ [1 + (t:Int)]:=by
 unfold Pu at h
 obtain ⟨t,h1,rfl⟩ := List.mem_map.mp h
 exact ⟨t,List.mem_range.mp h1,rfl⟩
theorem Ir (ws:List Int):∀ i,i <= ws.length -> ∀ r ∈ C6 (ws.take i),r.length = i /\ ∀ (k:Nat) (x w:Int),r[k]? = some x -> ws[k]? = some w -> 1 <= x /\ x <= w
 | 0,_,r,h=>by
  have e:r = []:=List.mem_singleton.mp h
  subst e
  exact ⟨rfl,fun k x w e=>by cases e⟩
 | i + 1,hi,r,h=>by
  have hw:ws[i]? = some ws[i]:=List.getElem?_eq_getElem (by omega)
  have e:C6 (ws.take (i + 1)) = C0 (C6 (ws.take i)) ws[i]:=F0 _ _ _ hw
  rw [e] at h
  obtain ⟨r',h1,h2⟩ := List.mem_flatMap.mp h
  obtain ⟨t,h3,rfl⟩ := Ot h2
  obtain ⟨h4,h5⟩ := Ir ws i (by omega) r' h1
  refine ⟨by simp [h4],fun k x w e1 e2=>?_⟩
  rcases Nat.lt_or_ge k r'.length with z | z
  ·rw [List.getElem?_append_left z] at e1
   exact h5 k x w e1 e2
  ·have hk : k = i := by
    have:=(List.getElem?_eq_some_iff.mp e1).1
    rw [List.length_append,List.length_singleton] at this
    omega
   subst hk
   rw [List.getElem?_append_right z,h4,Nat.sub_self] at e1
   cases e1
   rw [hw] at e2
   cases e2
   omega
def Wq (r s:List Int):Prop:=aD (r.map PyData.int) (s.map PyData.int) = true
theorem K5 (a b:Int):PyData.eqv (.int a) (.int b) = decide (a = b):=by
 show (a == b) = _
 by_cases h:a = b <;> simp [h]
theorem Px:∀ r:List Int,¬ Wq r r
 | []=>by unfold Wq; simp [aD]
 | x :: r=>fun h=>by
  have ih:=Px r
  unfold Wq at h ih
  rw [List.map_cons,aD,K5,if_pos (by simp)] at h
  exact ih h
theorem Ro:∀ {r s:List Int} {x y:Int},r.length = s.length -> Wq r s -> Wq (r ++ [x]) (s ++ [y])
 | [],[],x,y,_,h=>absurd h (Px [])
 | [],_ :: _,_,_,hl,_=>by simp at hl
 | _ :: _,[],_,_,hl,_=>by simp at hl
 | a :: r,b :: s,x,y,hl,h=>by
  unfold Wq at h ⊢
  rw [List.cons_append,List.cons_append,List.map_cons,List.map_cons,aD] at *
  by_cases e:PyData.eqv (.int a) (.int b) = true
  ·rw [if_pos e] at h ⊢
   exact Ro (r:=r) (s:=s) (by simpa using hl) h
  ·rw [if_neg e] at h ⊢
   exact h
theorem R6:∀ {r:List Int} {x y:Int},x < y -> Wq (r ++ [x]) (r ++ [y])
 | [],x,y,h=>by
  unfold Wq
  show aD [PyData.int x] [PyData.int y] = true
  rw [aD,K5,if_neg (by simp; omega),Gy]
  exact decide_eq_true h
 | a :: r,x,y,h=>by
  unfold Wq
  rw [List.cons_append,List.cons_append,List.map_cons,List.map_cons,aD,K5,if_pos (by simp)]
  exact R6 (r:=r) h
theorem Sl (r:List Int) (w:Int):(Pu r w).Pairwise Wq:=by
 unfold Pu
 rw [List.pairwise_map]
 exact List.pairwise_lt_range.imp fun h=>R6 (by omega)
theorem Jv (ws:List Int):∀ i,i <= ws.length -> (C6 (ws.take i)).Pairwise Wq
 | 0,_=>by
  show ([[]]:List (List Int)).Pairwise Wq
  exact List.pairwise_singleton _ _
 | i + 1,hi=>by
  have hw:ws[i]? = some ws[i]:=List.getElem?_eq_getElem (by omega)
  have e:C6 (ws.take (i + 1)) = C0 (C6 (ws.take i)) ws[i]:=F0 _ _ _ hw
  rw [e]
  unfold C0
  rw [List.pairwise_flatMap]
  refine ⟨fun r _=>Sl r _,?_⟩
  refine (Jv ws i (by omega)).imp_of_mem fun {a b} ha hb h x hx y hy=>?_
  obtain ⟨t,_,rfl⟩ := Ot hx
  obtain ⟨u,_,rfl⟩ := Ot hy
  have h1:=(Ir ws i (by omega) a ha).1
  have h2:=(Ir ws i (by omega) b hb).1
  exact Ro (by omega) h
def dS (z:List Int × Int):PyData:=dP (dT z.1) (.int z.2)
theorem Z8 {a b:List Int × Int} (h:Wq a.1 b.1 \/ (a.1 = b.1 /\ a.2 < b.2)):Gy (dS a) (dS b) = true:=by
 show aD [dT a.1,.int a.2] [dT b.1,.int b.2] = true
 rw [aD,Y6]
 rcases h with h | ⟨h1,h2⟩
 ·have cY : ¬ a.1 = b.1 := fun e => by
   rw [e] at h
   exact Px _ h
  rw [if_neg (by simpa using cY)]
  exact h
 ·rw [if_pos (by simpa using h1),aD,K5,if_neg (by simp; omega),Gy]
  exact decide_eq_true h2
theorem P4 {r:List Int} {q:Int} {z:List Int × Int} (h:z ∈ F6 r q):z.1 = r /\ 0 <= z.2 /\ z.2 < q:=by
 unfold F6 at h
 obtain ⟨k,h1,rfl⟩ := List.mem_map.mp h
 have:=List.mem_range.mp h1
 exact ⟨rfl,by show 0 <= 0 + (k:Int); omega,by show 0 + (k:Int) < q; omega⟩
theorem Di (ws:List Int) (q:Int):(Ao ws q).Pairwise fun a b=>Gy (dS a) (dS b) = true:=by
 unfold Ao
 rw [List.pairwise_flatMap]
 refine ⟨fun r _=>?_,?_⟩
 ·unfold F6
  rw [List.pairwise_map]
  exact List.pairwise_lt_range.imp fun {a b} h=>Z8 (a:=(r,0 + ((a:Nat):Int))) (b:=(r,0 + ((b:Nat):Int))) (.inr ⟨rfl,by show 0 + ((a:Nat):Int) < 0 + ((b:Nat):Int); omega⟩)
 ·have h:=Jv ws ws.length (Nat.le_refl _)
  rw [List.take_length] at h
  refine h.imp fun {a b} h x hx y hy=>?_
  exact Z8 (.inl (by rw [(P4 hx).1,(P4 hy).1]; exact h))
theorem Ff {ws:List Int} {q:Int} (h:∀ w ∈ ws,1 <= w) (hq:0 <= q):((Ao ws q).length:Int) = Ak q ws:=by
 unfold Ao
 rw [Me fun r _=>O3 r q,Int.natCast_mul]
 have e:((C6 ws).length:Int) = Ak 1 ws:=Ln ws [[]] h
 rw [e,Int.toNat_of_nonneg hq,Int.mul_comm,<- J2,Int.mul_one]
theorem Nd {ws:List Int} {q:Int} {z:List Int × Int} (h:z ∈ Ao ws q):z.1.length = ws.length /\ (∀ (k:Nat) (x w:Int),z.1[k]? = some x -> ws[k]? = some w -> 1 <= x /\ x <= w) /\ 0 <= z.2 /\ z.2 < q:=by
 obtain ⟨r,h1,h2⟩ := List.mem_flatMap.mp h
 obtain ⟨h3,h4,h5⟩ := P4 h2
 have h6:=Ir ws ws.length (Nat.le_refl _) r (by rw [List.take_length]; exact h1)
 rw [h3]
 exact ⟨h6.1,h6.2,h4,h5⟩
theorem Nz {ws:List Int} (h:∀ w ∈ ws,1 <= w) (hp:Ak 1 ws <= 3000) (i:Nat):(C6 (ws.take i)).length <= 3000:=by
 have e:=Ln (ws.take i) [[]] fun w hw=>h w (List.mem_of_mem_take hw)
 have e2:=X3 (ws:=ws) (a:=1) (by decide) h i
 have e3:Ak (([[]]:List (List Int)).length:Int) (ws.take i) = Ak 1 (ws.take i):=rfl
 unfold C6
 omega
theorem S3 {H:Hp}:∀ {zs:List (List Int × Int)} {us:List V},Ad (E3 H) zs us -> aB H (zs.map dS) us
 | [],us,h=>by
  have e:us = []:=List.length_eq_zero_iff.mp h.1
  subst e
  show aB H [] []
  unfold aB
  rfl
 | z :: zs,us,h=>by
  cases us with
  | nil =>
   have:=h.1
   simp at this
  | cons u us =>
   show aB H (dS z :: zs.map dS) (u :: us)
   unfold aB
   refine ⟨u,us,rfl,?_,S3 ⟨by simpa using h.1,fun i r v e1 e2=>h.2 (i + 1) r v e1 e2⟩⟩
   obtain ⟨p,q,rfl,h1,h2⟩ := h.2 0 z u rfl rfl
   exact Vi h1 (Za h2) (G0 _)
theorem ao {H:Hp} {a:Addr} {zs:List (List Int × Int)} {us:List V} (h:H a = some (.lst us)) (g:Ad (E3 H) zs us):Rp H (.list (zs.map dS)) (.ref a):=by
 unfold Rp
 exact ⟨a,us,rfl,h,S3 g⟩
theorem Qi (z:List Int × Int):(dS z).depth = 2:=by
 unfold dS
 rw [Qh,Xp]
 rfl
theorem Jr:∀ zs:List (List Int × Int),PyData.depthAll (zs.map dS) <= 2
 | []=>by decide
 | z :: zs=>by
  have ih:=Jr zs
  show max (dS z).depth (PyData.depthAll (zs.map dS)) <= 2
  rw [Qi]
  omega
theorem Zd (zs:List (List Int × Int)):(PyData.list (zs.map dS)).depth <= 60:=by
 have:=Jr zs
 show PyData.depthAll (zs.map dS) + 1 <= 60
 omega
theorem Vs (q:Int) (ws:List Int) (w:Int):Ak q (ws ++ [w]) = Ak q ws * w:=by
 unfold Ak
 rw [List.foldl_append]
 rfl
def jm (H:Hp) (v:V):Option (List Int × Int) -> Prop
 | none=>v = .aL
 | some r=>∃ b,v = .ref b /\ D8 H b r.1 r.2
def gn:Option (List Int × Int) -> PyData
 | none=>.none
 | some r=>dP (dT r.1) (.int r.2)
theorem jf {H:Hp} {v:V} {r:Option (List Int × Int)} (h:jm H v r):Rp H (gn r) v:=by
 cases r with
 | none =>
  cases h
  exact Yy
 | some r =>
  obtain ⟨b,rfl,t,h1,h2⟩ := h
  exact Vi h1 (Za h2) (G0 _)
theorem Ad.tail {α:Type} {P:α -> V -> Prop} {r:α} {v:V} {rs:List α} {vs:List V} (h:Ad P (r :: rs) (v :: vs)):P r v /\ Ad P rs vs:=⟨h.2 0 r v rfl rfl,by have:=h.1; simpa using this,fun i a b e1 e2=>h.2 (i + 1) a b e1 e2⟩
theorem Lg {α:Type} {P:α -> Prop} {xs:List α} {x:α} (h:∀ y ∈ xs,P y) (hx:P x):∀ y ∈ xs ++ [x],P y:=fun y hy=>by
 rcases List.mem_append.mp hy with z | z
 ·exact h y z
 ·cases List.mem_singleton.mp z
  exact hx
theorem D8.up {H H':Hp} {b:Addr} {ls:List Int} {q:Int} (t:Af H H') (h:D8 H b ls q):D8 H' b ls q:=by
 obtain ⟨u,h1,h2⟩ := h
 exact ⟨u,t _ _ h1,t _ _ h2⟩
theorem jm.up {H H':Hp} {v:V} {r:Option (List Int × Int)} (s:Af H H') (h:jm H v r):jm H' v r:=by
 cases r with
 | none=>exact h
 | some r =>
  obtain ⟨b,e,h⟩ := h
  exact ⟨b,e,h.up s⟩
def D0 (ws ls:List Int) (cm:Option Int) (q:Int) (who:Nat) (lost:Bool):Option (List Int × Int):=if (0:Int) ∈ Bi ws ls who lost then none else some (Bi ws ls who lost,Dh cm q lost)
def Dq (cm:Option Int) (q:Int):Bool := !decide (cm = none) && decide (q = 0)
def Au (ws ls:List Int) (cm:Option Int) (q:Int) (who:Nat):List (Option (List Int × Int)):=D0 ws ls cm q who false :: if Dq cm q = true then [D0 ws ls cm q who true] else []
def E5 (H:Hp) (r:Option (List Int × Int)) (v:V):Prop:=jm H v r
theorem E5.up {H H':Hp} {v:V} {r:Option (List Int × Int)} (s:Af H H') (h:E5 H r v):E5 H' r v:=jm.up s h
theorem Ad.cons {α:Type} {P:α -> V -> Prop} {r:α} {v:V} {rs:List α} {vs:List V} (h:P r v) (g:Ad P rs vs):Ad P (r :: rs) (v :: vs):=(Ad.one h).append g
theorem Op {H:Hp}:∀ {rs:List (Option (List Int × Int))} {us:List V},Ad (E5 H) rs us -> aB H (rs.map gn) us
 | [],[],_=>by unfold aB; rfl
 | [],_ :: _,h=>by have:=h.1; simp at this
 | _ :: _,[],h=>by have:=h.1; simp at this
 | r :: rs,u :: us,h=>by
  obtain ⟨h1,h2⟩ := h.tail
  show aB H (gn r :: rs.map gn) (u :: us)
  unfold aB
  exact ⟨_,_,rfl,jf h1,Op h2⟩
theorem ar (r:Option (List Int × Int)):PyData.eqv (gn r) .none = decide (r = none):=by cases r <;> rfl
theorem Pz:∀ rs:List (Option (List Int × Int)),(rs.map gn).any (fun e=>PyData.eqv e .none) = decide (none ∈ rs)
 | []=>rfl
 | r :: rs=>by
  rw [List.map_cons,List.any_cons,Pz rs,ar,Bool.eq_iff_iff]
  simp only [Bool.or_eq_true,decide_eq_true_eq,List.mem_cons]
  exact ⟨fun z=>z.imp Eq.symm id,fun z=>z.imp Eq.symm id⟩
def SV (H:Hp) (v:V):Prop := ∃ b k,v = .ref b /\ Dt H b k
def V5 (H:Hp) (cs:List (Du × V)):Prop := ∀ e ∈ cs,(∃ i:Int,e.1 = .inl i) /\ ∃ (l:Addr) (us:List V),e.2 = .ref l /\ H l = some (.lst us) /\ us.length <= 2 /\ ∀ u ∈ us,SV H u
def lj (H:Hp) (v:V):Prop := ∃ (c:Addr) (cs:List (Du × V)),v = .ref c /\ H c = some (.dK cs) /\ cs.length <= 8 /\ V5 H cs
def LT (H H':Hp):Prop:=(∀ b xs,H b = some (.lst xs) -> H' b = some (.lst xs)) /\ Af H H'
theorem LT.of {H H':Hp} (s:A9 H H'):LT H H':=⟨fun b xs e=>s b _ e,Af.of s⟩
theorem LT.dT {H:Hp} {D:Addr} {kvs:List ((List Int × Int) × V)} {o:HO} (h:H D = some (.dT kvs)):LT H (upd H D o) :=
 ⟨fun b xs e=>by rw [Ac (Bp e h (by intro z; cases z))]; exact e,fun b xs e=>by rw [Ac (Bp e h (by intro z; cases z))]; exact e⟩
theorem LT.dK {H:Hp} {D:Addr} {kvs:List (Du × V)} {o:HO} (h:H D = some (.dK kvs)):LT H (upd H D o) :=
 ⟨fun b xs e=>by rw [Ac (Bp e h (by intro z; cases z))]; exact e,fun b xs e=>by rw [Ac (Bp e h (by intro z; cases z))]; exact e⟩
theorem LT.trans {H H1 H2:Hp} (a:LT H H1) (b:LT H1 H2):LT H H2:=⟨fun c xs e=>b.1 c xs (a.1 c xs e),a.2.trans b.2⟩
def Hr (H:Hp) (kvs:List ((List Int × Int) × V)):Prop := ∀ kv ∈ kvs,lj H kv.2
theorem Ry {κ:Type} [DecidableEq κ] {P:V -> Prop} {kvs:List (κ × V)} {k:κ} {v:V} (h:∀ kv ∈ kvs,P kv.2) (hv:P v):∀ kv ∈ B8 kvs k v,P kv.2:=fun kv aG=>by
 unfold B8 at aG
 split at aG
 ·obtain ⟨x,hx,rfl⟩ := List.mem_map.mp aG
  split
  ·exact hv
  ·exact h x hx
 ·rcases List.mem_append.mp aG with z | z
  ·exact h kv z
  ·cases List.mem_singleton.mp z
   exact hv
theorem Bt {n:Nat} (h:n <= 200000):n < sizeLine:=Nat.lt_of_le_of_lt h (by decide)
theorem Bk {κ:Type} [DecidableEq κ] {kvs:List (κ × V)} {k:κ} {v:V} (h:Ae kvs k = some v):(k,v) ∈ kvs:=by
 unfold Ae at h
 obtain ⟨p,hp,rfl⟩ := Option.map_eq_some_iff.mp h
 have h1:=List.find?_some hp
 have h2:=List.mem_of_find?_eq_some hp
 have h3:p.1 = k:=by simpa using h1
 rw [<- h3]
 exact h2
theorem Jq {κ:Type} [DecidableEq κ] {kvs:List (κ × V)} {k:κ} {v:V} (h:(k,v) ∈ kvs):∃ w,Ae kvs k = some w:=by
 cases e:Ae kvs k with
 | some w=>exact ⟨w,rfl⟩
 | none=>exact absurd (List.mem_map_of_mem (f:=(·.1)) h) (Kr e)
def Ei (kvs:List ((List Int × Int) × V)) (H H':Hp):Prop := ∀ b o,H b = some o -> (∀ kv ∈ kvs,kv.2 ≠ .ref b) -> H' b = some o
theorem Ei.of {kvs:List ((List Int × Int) × V)} {H H':Hp} (s:A9 H H'):Ei kvs H H':=fun b o e _=>s b o e
theorem Ei.trans {kvs:List ((List Int × Int) × V)} {H H1 H2:Hp} (a:Ei kvs H H1) (b:Ei kvs H1 H2):Ei kvs H H2:=fun c o e n=>b c o (a c o e n) n
theorem Ei.new {kvs:List ((List Int × Int) × V)} {H H':Hp} {p:Addr} {o:HO} (a:Ei kvs H H') (h:H p = none):Ei kvs H (upd H' p o):=fun b u e n=>by
 rw [Ac (Ah e h)]
 exact a b u e n
theorem Ei.keep {kvs:List ((List Int × Int) × V)} {H H':Hp} {b:Addr} {o:HO} (a:Ei kvs H H') (p:Hr H kvs) (e:H b = some o) (n:∀ cs,o ≠ .dK cs):H' b = some o:=a b o e fun kv aG z=>by
 obtain ⟨c,cs,e1,e2,_⟩ := p kv aG
 rw [z] at e1
 cases e1
 rw [e] at e2
 exact n cs (Option.some.inj e2)
theorem Ei.lt {kvs:List ((List Int × Int) × V)} {H H':Hp} (a:Ei kvs H H') (p:Hr H kvs):LT H H':=⟨fun b xs e=>a.keep p e (fun cs z=>nomatch z),fun b xs e=>a.keep p e (fun cs z=>nomatch z)⟩
theorem Ei.pop {kvs:List ((List Int × Int) × V)} {H:Hp} {c:Addr} {o:HO} {kv:(List Int × Int) × V} (h:kv ∈ kvs) (e:kv.2 = .ref c):Ei kvs H (upd H c o):=fun b u eb n=>by
 rw [Ac (fun z=>n kv h (by rw [e,z]))]
 exact eb
def d7 (H:Hp):V -> Nat
 | .ref c=>match H c with
  | some (.dK cs)=>cs.length
  | _=>0
 | _=>0
def Ce (H:Hp) (kvs:List ((List Int × Int) × V)):Nat:=(kvs.map fun kv=>d7 H kv.2).sum
theorem Ky {H:Hp} {c:Addr} {cs:List (Du × V)} (h:H c = some (.dK cs)):d7 H (.ref c) = cs.length:=by
 unfold d7
 simp only [h]
theorem Eh {H H':Hp}:∀ {kvs:List ((List Int × Int) × V)},Hr H kvs -> (∀ c cs,H c = some (.dK cs) -> H' c = some (.dK cs)) -> Ce H' kvs = Ce H kvs
 | [],_,_=>rfl
 | kv :: kvs,p,k=>by
  obtain ⟨c,cs,e,h1,_⟩ := p kv (by simp)
  have ih:=Eh (kvs:=kvs) (fun x hx=>p x (List.mem_cons_of_mem _ hx)) k
  unfold Ce at ih ⊢
  rw [List.map_cons,List.map_cons,List.sum_cons,List.sum_cons,ih,e,Ky h1,Ky (k c cs h1)]
theorem Lo {H:Hp}:∀ {kvs:List ((List Int × Int) × V)},Hr H kvs -> Ce H kvs <= 8 * kvs.length
 | [],_=>Nat.zero_le _
 | kv :: kvs,p=>by
  obtain ⟨c,cs,e,h1,h2,_⟩ := p kv (by simp)
  have ih:=Lo (kvs:=kvs) (fun x hx=>p x (List.mem_cons_of_mem _ hx))
  unfold Ce at ih ⊢
  rw [List.map_cons,List.sum_cons,e,Ky h1,List.length_cons]
  omega
theorem Nt {H:Hp} {c:Addr} {cs iA:List (Du × V)} (hc:H c = some (.dK cs)) (aI:iA.length < cs.length):∀ {kvs:List ((List Int × Int) × V)},Ce (upd H c (.dK iA)) kvs <= Ce H kvs /\ ((∃ kv ∈ kvs,kv.2 = .ref c) -> Ce (upd H c (.dK iA)) kvs + 1 <= Ce H kvs)
 | []=>⟨Nat.le_refl _,fun ⟨kv,h,_⟩=>by cases h⟩
 | kv :: kvs=>by
  obtain ⟨i1,i2⟩ := Nt hc aI (kvs:=kvs)
  have one:d7 (upd H c (.dK iA)) kv.2 <= d7 H kv.2 /\ (kv.2 = .ref c -> d7 (upd H c (.dK iA)) kv.2 + 1 <= d7 H kv.2):=by
   by_cases z:kv.2 = .ref c
   ·rw [z,Ky hc,Ky A5]
    omega
   ·refine ⟨Nat.le_of_eq ?_,fun y=>absurd y z⟩
    unfold d7
    cases hv:kv.2 with
    | ref d =>
     rw [hv] at z
     have hd:d ≠ c:=fun y=>z (by rw [y])
     simp only [Ac hd]
    | _=>rfl
  unfold Ce at i1 i2 ⊢
  rw [List.map_cons,List.map_cons,List.sum_cons,List.sum_cons]
  refine ⟨by omega,fun ⟨x,hx,ex⟩=>?_⟩
  rcases List.mem_cons.mp hx with y | y
  ·subst y
   have:=one.2 ex
   omega
  ·have:=i2 ⟨x,y,ex⟩
   omega
theorem Zx {cs:List (Du × V)} {k:Du} {v:V} (h:Ae cs k = some v):(Br cs k).length < cs.length:=by
 have hm:=Bk h
 unfold Br
 exact List.length_filter_lt_length_iff_exists.mpr ⟨(k,v),hm,by simp⟩
theorem M7 {cs:List (Du × V)} {k:Du} {e:Du × V} (h:e ∈ Br cs k):e ∈ cs:=(List.mem_filter.mp h).1
def Vy (B:Addr) (H:Hp) (kvs:List ((List Int × Int) × V)):Prop := ∀ kv ∈ kvs,∀ c cs,kv.2 = .ref c -> H c = some (.dK cs) -> ∀ e ∈ cs,e.2 ≠ .ref B
theorem Vy.start {B:Addr} {H:Hp} {kvs:List ((List Int × Int) × V)} (p:Hr H kvs) (h:H B = none):Vy B H kvs:=fun kv aG c cs e1 e2 e he z=>by
 obtain ⟨d,ds,f1,f2,_,f3⟩ := p kv aG
 rw [e1] at f1
 cases f1
 rw [e2] at f2
 cases f2
 obtain ⟨_,l,us,g1,g2,_⟩ := f3 e he
 rw [z] at g1
 cases g1
 rw [h] at g2
 cases g2
theorem Vy.keep {B:Addr} {H H':Hp} {kvs:List ((List Int × Int) × V)} (n:Vy B H kvs) (p:Hr H kvs) (k:∀ c cs,H c = some (.dK cs) -> H' c = some (.dK cs)):Vy B H' kvs:=fun kv aG c cs e1 e2=>by
 obtain ⟨d,ds,f1,f2,_⟩ := p kv aG
 have IC:=f1
 rw [e1] at IC
 cases IC
 have:=k _ _ f2
 rw [e2] at this
 cases this
 exact n kv aG c cs e1 f2
theorem Vy.pop {B c:Addr} {H:Hp} {cs:List (Du × V)} {k:Du} {kvs:List ((List Int × Int) × V)} (n:Vy B H kvs) (hc:H c = some (.dK cs)):Vy B (upd H c (.dK (Br cs k))) kvs:=fun kv aG d ds e1 e2 e he=>by
 by_cases z:d = c
 ·subst z
  rw [A5] at e2
  cases e2
  exact n kv aG d cs e1 hc e (M7 he)
 ·rw [Ac z] at e2
  exact n kv aG d ds e1 e2 e he
theorem V7 (k:List Int × Int):Gy (dS k) (dS k) = false:=by
 have e1:PyData.eqv (dT k.1) (dT k.1) = true:=by
  show PyData.eqvAll (k.1.map PyData.int) (k.1.map PyData.int) = true
  rw [Eo]
  simp
 show aD [dT k.1,.int k.2] [dT k.1,.int k.2] = false
 rw [aD,if_pos e1,aD,if_pos (show PyData.eqv (.int k.2) (.int k.2) = true from PySem.SeqAt.eqv_refl _ rfl)]
 rfl
theorem Jt (ws:List Int) (q:Int):(Ao ws q).Nodup:=(Di ws q).imp fun {a b} h e=>by
 rw [e,V7] at h
 cases h
theorem Nx {α:Type} {xs:List α} {i:Nat} {x:α} (h:xs.Nodup) (e:xs[i]? = some x):x ∉ xs.take i:=fun z=>by
 obtain ⟨j,hj⟩ := List.mem_iff_getElem?.mp z
 have aI:j < i:=by
  apply Classical.byContradiction
  intro y
  rw [List.getElem?_take_eq_none (by omega)] at hj
  cases hj
 rw [List.getElem?_take_of_lt aI] at hj
 have h1:=(List.getElem?_eq_some_iff.mp hj)
 have h2:=(List.getElem?_eq_some_iff.mp e)
 obtain ⟨a1,a2⟩ := h1
 obtain ⟨b1,b2⟩ := h2
 exact (List.pairwise_iff_getElem.mp h) j i a1 b1 aI (a2.trans b2.symm)
theorem Cc {κ:Type} [DecidableEq κ] {kvs:List (κ × V)} {k:κ} {v:V} (hn:(kvs.map (·.1)).Nodup) (h:(k,v) ∈ kvs):Ae kvs k = some v:=by
 induction kvs with
 | nil=>cases h
 | cons p r ih =>
  rw [List.map_cons,List.nodup_cons] at hn
  rcases List.mem_cons.mp h with z | z
  ·subst z
   exact C4 rfl
  ·have hp:¬ p.1 = k:=fun e=>hn.1 (by rw [e]; exact List.mem_map_of_mem (f:=(·.1)) z)
   rw [C5 hp]
   exact ih hn.2 z
theorem Pm {κ:Type} {kvs:List (κ × V)} {x y:κ × V} (hn:(kvs.map (·.2)).Nodup) (hx:x ∈ kvs) (hy:y ∈ kvs) (e:x.2 = y.2):x = y:=by
 induction kvs with
 | nil=>cases hx
 | cons p r ih =>
  rw [List.map_cons,List.nodup_cons] at hn
  rcases List.mem_cons.mp hx with z | z <;> rcases List.mem_cons.mp hy with y' | y'
  ·rw [z,y']
  ·subst z
   exact absurd (by rw [e]; exact List.mem_map_of_mem (f:=(·.2)) y') hn.1
  ·subst y'
   exact absurd (by rw [<- e]; exact List.mem_map_of_mem (f:=(·.2)) z) hn.1
  ·exact ih hn.2 z y'
theorem Z0 {κ:Type} [DecidableEq κ] {kvs:List (κ × V)} {k:κ} {v:V} {e:κ × V} (h:e ∈ B8 kvs k v):e ∈ kvs \/ e = (k,v):=by
 unfold B8 at h
 split at h
 ·obtain ⟨x,hx,rfl⟩ := List.mem_map.mp h
  split
  ·rename_i hk
   exact .inr (by rw [hk])
  ·exact .inl hx
 ·rcases List.mem_append.mp h with z | z
  ·exact .inl z
  ·exact .inr (List.mem_singleton.mp z)
theorem U7 {κ:Type} [DecidableEq κ] {kvs:List (κ × V)} {k j:κ} {v:V} (h:(Ae kvs j).isSome = true \/ j = k):(Ae (B8 kvs k v) j).isSome = true:=by
 rw [Ez]
 split
 ·rfl
 ·rename_i hn
  rcases h with h | h
  ·exact h
  ·exact absurd h hn
def Gk (ws:List Int) (cm:Option Int) (z:List Int × Int) (H:Hp) (cs:List (Du × V)):Prop := ∀ e ∈ cs,∃ (who:Nat) (l:Addr) (us:List V),e.1 = .inl (who:Int) /\ who < ws.length /\ none ∉ Au ws z.1 cm z.2 who /\ e.2 = .ref l /\ H l = some (.lst us) /\ Ad (E5 H) (Au ws z.1 cm z.2 who) us
def Up (ws:List Int) (cm:Option Int) (H:Hp) (z:List Int × Int) (v:V):Prop := ∃ (c:Addr) (cs:List (Du × V)),v = .ref c /\ H c = some (.dK cs) /\ cs.length <= 8 /\ Gk ws cm z H cs
theorem Gk.up {ws:List Int} {cm:Option Int} {z:List Int × Int} {H H':Hp} {cs:List (Du × V)} (t:LT H H') (h:Gk ws cm z H cs):Gk ws cm z H' cs:=fun e he=>by
 obtain ⟨who,l,us,h1,h2,h3,h4,h5,h6⟩ := h e he
 exact ⟨who,l,us,h1,h2,h3,h4,t.1 _ _ h5,h6.imp fun _ _ y=>E5.up t.2 y⟩
theorem Gk.ok {ws:List Int} {cm:Option Int} {z:List Int × Int} {H:Hp} {cs:List (Du × V)} (h:Gk ws cm z H cs):V5 H cs:=fun e he=>by
 obtain ⟨who,l,us,h1,h2,h3,h4,h5,h6⟩ := h e he
 refine ⟨⟨_,h1⟩,l,us,h4,h5,?_,fun u hu=>?_⟩
 ·rw [h6.1]
  unfold Au
  split <;> simp
 ·obtain ⟨m,hm⟩ := List.mem_iff_getElem?.mp hu
  obtain ⟨r,iK,hr2⟩ := h6.get hm
  cases r with
  | none=>exact absurd (List.mem_of_getElem? iK) h3
  | some r =>
   obtain ⟨bb,e,h1⟩ := hr2
   exact ⟨bb,r,e,h1⟩
theorem Up.up {ws:List Int} {cm:Option Int} {z:List Int × Int} {H H':Hp} {v:V} (t:LT H H') (k:∀ c cs,H c = some (.dK cs) -> H' c = some (.dK cs)) (h:Up ws cm H z v):Up ws cm H' z v:=by
 obtain ⟨c,cs,e,h1,h2,h3⟩ := h
 exact ⟨c,cs,e,k _ _ h1,h2,h3.up t⟩
def Ci (ws:List Int) (cm:Option Int) (H:Hp) (kvs:List ((List Int × Int) × V)):Prop:=(∀ kv ∈ kvs,Up ws cm H kv.1 kv.2) /\ (kvs.map (·.1)).Nodup /\ (kvs.map (·.2)).Nodup
theorem Ci.ok {ws:List Int} {cm:Option Int} {H:Hp} {kvs:List ((List Int × Int) × V)} (h:Ci ws cm H kvs):Hr H kvs:=fun kv aG=>by
 obtain ⟨c,cs,e,h1,h2,h3⟩ := h.1 kv aG
 exact ⟨c,cs,e,h1,h2,h3.ok⟩
theorem Ci.keep {ws:List Int} {cm:Option Int} {H H':Hp} {kvs:List ((List Int × Int) × V)} (p:Ci ws cm H kvs) (t:LT H H') (k:∀ c cs,H c = some (.dK cs) -> H' c = some (.dK cs)):Ci ws cm H' kvs:=⟨fun kv aG=>(p.1 kv aG).up t k,p.2⟩
def Lw (ws:List Int) (cm:Option Int) (H:Hp) (kvs:List ((List Int × Int) × V)):Prop := ∀ kv ∈ kvs,∀ c cs,kv.2 = .ref c -> H c = some (.dK cs) -> ∀ who:Nat,who < ws.length -> none ∉ Au ws kv.1.1 cm kv.1.2 who -> (Ae cs (.inl (who:Int))).isSome = true
theorem Lw.keep {ws:List Int} {cm:Option Int} {H H':Hp} {kvs:List ((List Int × Int) × V)} (f:Lw ws cm H kvs) (p:Ci ws cm H kvs) (k:∀ c cs,H c = some (.dK cs) -> H' c = some (.dK cs)):Lw ws cm H' kvs:=fun kv aG c cs e1 e2=>by
 obtain ⟨d,ds,f1,f2,_⟩ := p.1 kv aG
 have IC:=f1
 rw [e1] at IC
 cases IC
 have:=k _ _ f2
 rw [e2] at this
 cases this
 exact f kv aG c cs e1 f2
def An (H:Hp) (kvs:List ((List Int × Int) × V)) (k:List Int × Int) (who:Nat):Prop := ∃ (c:Addr) (cs:List (Du × V)),Ae kvs k = some (.ref c) /\ H c = some (.dK cs) /\ (Ae cs (.inl (who:Int))).isSome = true
theorem Dw {α:Type} {xs:List α} {x:α} (h:xs.Nodup) (hx:x ∉ xs):(xs ++ [x]).Nodup:=by
 rw [List.nodup_append]
 refine ⟨h,by simp,fun a ha b hb e=>?_⟩
 rw [List.mem_singleton.mp hb] at e
 exact hx (e ▸ ha)
def Pj (ws:List Int) (cm:Option Int) (kvs:List ((List Int × Int) × V)) (H:Hp) (later:List Int × Int) (u:V):Prop := ∃ (t b:Addr) (who:Nat) (k:List Int × Int),u = .ref t /\ H t = some (.tup [.ref b,.int (who:Int)]) /\ Dt H b k /\ (∃ v,Ae kvs k = some v) /\ some later ∈ Au ws k.1 cm k.2 who
theorem Pj.up {ws:List Int} {cm:Option Int} {kvs:List ((List Int × Int) × V)} {H H':Hp} {later:List Int × Int} {u:V} (t:Af H H') (h:Pj ws cm kvs H later u):Pj ws cm kvs H' later u:=by
 obtain ⟨a,b,i,k,e,h1,h2,h3,h4⟩ := h
 exact ⟨a,b,i,k,e,t _ _ h1,h2.up t,h3,h4⟩
def F9 (ws:List Int) (cm:Option Int) (H0:Hp) (kvs:List ((List Int × Int) × V)) (n:Nat) (H:Hp) (wv:List ((List Int × Int) × V)):Prop:=(∀ kv ∈ wv,∃ (l:Addr) (us:List V),kv.2 = .ref l /\ H0 l = none /\ H l = some (.lst us) /\ us.length <= n /\ ∀ u ∈ us,Pj ws cm kvs H kv.1 u) /\ (wv.map (·.2)).Nodup
theorem F9.up {ws:List Int} {cm:Option Int} {H0 H H':Hp} {kvs wv:List ((List Int × Int) × V)} {n m:Nat} (t:LT H H') (hn:n <= m) (h:F9 ws cm H0 kvs n H wv):F9 ws cm H0 kvs m H' wv:=⟨fun kv aG=>by
 obtain ⟨l,us,e,h0,h1,h2,h3⟩ := h.1 kv aG
 exact ⟨l,us,e,h0,t.1 _ _ h1,by omega,fun u hu=>(h3 u hu).up t.2⟩,h.2⟩
theorem F9.app {ws:List Int} {cm:Option Int} {H0 H:Hp} {kvs wv:List ((List Int × Int) × V)} {n:Nat} {l:Addr} {us:List V} {x:V} {later:List Int × Int} (h:F9 ws cm H0 kvs n H wv) (hm:(later,V.ref l) ∈ wv) (hl:H l = some (.lst us)) (hu:us.length <= n) (ha:∀ u ∈ us,Pj ws cm kvs H later u) (hx:Pj ws cm kvs H later x):F9 ws cm H0 kvs (n + 1) (upd H l (.lst (us ++ [x]))) wv:=⟨fun kv aG=>by
 have t:Af H (upd H l (.lst (us ++ [x]))):=Af.lst hl
 obtain ⟨l2,gP,e,h0,h1,h2,h3⟩ := h.1 kv aG
 by_cases z:l2 = l
 ·subst z
  have ek:kv = (later,V.ref l2):=Pm h.2 aG hm e
  refine ⟨l2,us ++ [x],e,h0,A5,by rw [List.length_append,List.length_singleton]; omega,fun u hu=>?_⟩
  rw [ek]
  exact (Lg ha hx u hu).up t
 ·exact ⟨l2,gP,e,h0,(Ac z).trans h1,by omega,fun u hu=>(h3 u hu).up t⟩,h.2⟩
def Cl (H:Hp) (wv:List ((List Int × Int) × V)) (later k:List Int × Int) (who:Nat):Prop := ∃ (l:Addr) (us:List V) (t b:Addr),Ae wv later = some (.ref l) /\ H l = some (.lst us) /\ V.ref t ∈ us /\ H t = some (.tup [.ref b,.int (who:Int)]) /\ Dt H b k
theorem Cl.up {H H':Hp} {wv:List ((List Int × Int) × V)} {later k:List Int × Int} {who:Nat} (t:LT H H') (h:Cl H wv later k who):Cl H' wv later k who:=by
 obtain ⟨l,us,a,b,h1,h2,h3,h4,h5⟩ := h
 exact ⟨l,us,a,b,h1,t.1 _ _ h2,h3,t.2 _ _ h4,h5.up t.2⟩
theorem Cl.put {H:Hp} {wv:List ((List Int × Int) × V)} {later k lk:List Int × Int} {who:Nat} {v:V} (hn:Ae wv lk = none) (h:Cl H wv later k who):Cl H (B8 wv lk v) later k who:=by
 obtain ⟨l,us,a,b,h1,h2⟩ := h
 refine ⟨l,us,a,b,?_,h2⟩
 rw [Ez,if_neg (fun e=>by rw [e,hn] at h1; cases h1)]
 exact h1
theorem Cl.app {H:Hp} {wv:List ((List Int × Int) × V)} {later k:List Int × Int} {who:Nat} {l:Addr} {us:List V} {x:V} (hl:H l = some (.lst us)) (h:Cl H wv later k who):Cl (upd H l (.lst (us ++ [x]))) wv later k who:=by
 have t:Af H (upd H l (.lst (us ++ [x]))):=Af.lst hl
 obtain ⟨l2,gP,a,b,h1,h2,h3,h4,h5⟩ := h
 by_cases z:l2 = l
 ·subst z
  rw [hl] at h2
  cases h2
  exact ⟨l2,_,a,b,h1,A5,List.mem_append_left _ h3,t _ _ h4,h5.up t⟩
 ·exact ⟨l2,gP,a,b,h1,(Ac z).trans h2,h3,t _ _ h4,h5.up t⟩
theorem S1 {cs:List (Du × V)} {k j:Du}:Ae (Br cs k) j = if j = k then none else Ae cs j:=by
 induction cs with
 | nil=>split <;> rfl
 | cons p r ih =>
  by_cases e:p.1 = k
  ·rw [Wf e,ih]
   by_cases z:j = k
   ·rw [if_pos z,if_pos z]
   ·rw [if_neg z,if_neg z,C5 (fun y=>z (by rw [<- y,e]))]
  ·have ed : Br (p :: r) k = p :: Br r k := by
    unfold Br
    rw [List.filter_cons,if_pos (by simpa using e)]
   rw [ed]
   by_cases z:p.1 = j
   ·rw [C4 z,C4 z,if_neg (fun y=>e (z.trans y))]
   ·rw [C5 z,C5 z,ih]
theorem An.keep {ws:List Int} {cm:Option Int} {H H':Hp} {kvs:List ((List Int × Int) × V)} {k:List Int × Int} {who:Nat} (p:Ci ws cm H kvs) (kk:∀ c cs,H c = some (.dK cs) -> H' c = some (.dK cs)):An H' kvs k who ↔ An H kvs k who:=by
 constructor
 ·rintro ⟨c,cs,h1,h2,h3⟩
  obtain ⟨d,ds,e,f1,_⟩ := p.1 _ (Bk h1)
  cases e
  have:=kk _ _ f1
  rw [h2] at this
  cases this
  exact ⟨c,cs,h1,f1,h3⟩
 ·rintro ⟨c,cs,h1,h2,h3⟩
  exact ⟨c,cs,h1,kk _ _ h2,h3⟩
theorem An.pop {ws : List Int} {cm : Option Int} {H : Hp} {kvs : List ((List Int × Int) × V)} {k k' : List Int × Int} {who aF : Nat} {c : Addr} {cs : List (Du × V)} (p : Ci ws cm H kvs) (hk : Ae kvs k = some (.ref c)) (hc : H c = some (.dK cs)) :
  An (upd H c (.dK (Br cs (.inl (who:Int))))) kvs k' aF ↔ An H kvs k' aF /\ ¬ (k' = k /\ aF = who):=by
 constructor
 ·rintro ⟨d,ds,h1,h2,h3⟩
  by_cases z:d = c
  ·subst z
   rw [A5] at h2
   cases h2
   have ek:(k',V.ref d) = (k,V.ref d):=Pm p.2.2 (Bk h1) (Bk hk) rfl
   cases ek
   rw [S1] at h3
   by_cases y:(Sum.inl (aF:Int):Du) = .inl (who:Int)
   ·rw [if_pos y] at h3
    cases h3
   ·rw [if_neg y] at h3
    exact ⟨⟨d,cs,h1,hc,h3⟩,fun w=>y (by rw [w.2])⟩
  ·rw [Ac z] at h2
   refine ⟨⟨d,ds,h1,h2,h3⟩,fun w=>z ?_⟩
   rw [w.1,hk] at h1
   cases h1
   rfl
 ·rintro ⟨⟨d,ds,h1,h2,h3⟩,hn⟩
  by_cases z:d = c
  ·subst z
   have ek:(k',V.ref d) = (k,V.ref d):=Pm p.2.2 (Bk h1) (Bk hk) rfl
   cases ek
   rw [hc] at h2
   cases h2
   refine ⟨d,_,h1,A5,?_⟩
   rw [S1,if_neg]
   ·exact h3
   ·intro y
    have y2:(aF:Int) = (who:Int):=Sum.inl.inj y
    exact hn ⟨rfl,by omega⟩
  ·exact ⟨d,ds,h1,(Ac z).trans h2,h3⟩
theorem Ci.pop {ws:List Int} {cm:Option Int} {H:Hp} {c:Addr} {cs:List (Du × V)} {k:Du} {kvs:List ((List Int × Int) × V)} (p:Ci ws cm H kvs) (hc:H c = some (.dK cs)):Ci ws cm (upd H c (.dK (Br cs k))) kvs:=⟨fun kv aG=>by
 obtain ⟨d,ds,e,h1,h2,h3⟩ := p.1 kv aG
 have t:LT H (upd H c (.dK (Br cs k))):=LT.dK hc
 by_cases z:d = c
 ·subst z
  rw [hc] at h1
  cases h1
  exact ⟨d,Br cs k,e,A5,Nat.le_trans (Qx cs k) h2,fun x hx=>(h3.up t) x (M7 hx)⟩
 ·exact ⟨d,ds,e,(Ac z).trans h1,h2,h3.up t⟩,p.2⟩
theorem Ci.ID {ws:List Int} {cm:Option Int} {B:Addr} {H H':Hp} {kvs:List ((List Int × Int) × V)} (p:Ci ws cm H kvs) (n:Vy B H kvs) (t:Af H H') (kl:∀ l us,l ≠ B -> H l = some (.lst us) -> H' l = some (.lst us)) (k:∀ c cs,H c = some (.dK cs) -> H' c = some (.dK cs)):Ci ws cm H' kvs:=⟨fun kv aG=>by
 obtain ⟨c,cs,e1,e2,e3,e4⟩ := p.1 kv aG
 refine ⟨c,cs,e1,k _ _ e2,e3,fun e he=>?_⟩
 obtain ⟨who,l,us,g1,g2,g3,g4,g5,g6⟩ := e4 e he
 exact ⟨who,l,us,g1,g2,g3,g4,kl _ _ (fun z=>n kv aG c cs e1 e2 e he (by rw [g4,z])) g5,g6.imp fun _ _ y=>E5.up t y⟩,p.2⟩
theorem Ju:∀ {xs ys:List Int},xs.map V.int = ys.map V.int -> xs = ys
 | [],[],_=>rfl
 | [],_ :: _,h=>by cases h
 | _ :: _,[],h=>by cases h
 | x :: xs,y :: ys,h=>by
  rw [List.map_cons,List.map_cons] at h
  injection h with h1 h2
  injection h1 with h1
  rw [h1,Ju h2]
def Qb (ws:List Int) (cm:Option Int) (tv:List ((List Int × Int) × V)) (k:List Int × Int) (m:Int):Prop :=
 (∀ who,who < ws.length -> none ∈ Au ws k.1 cm k.2 who \/ ∃ later m',some later ∈ Au ws k.1 cm k.2 who /\ Ae tv later = some (.int m') /\ m' <= m - 1) /\
 (m = 1 \/ ∃ who,who < ws.length /\ none ∉ Au ws k.1 cm k.2 who /\ ∀ later m',some later ∈ Au ws k.1 cm k.2 who -> Ae tv later = some (.int m') -> m - 1 <= m')
def Dj (ws:List Int) (cm:Option Int) (tv:List ((List Int × Int) × V)):Prop :=
 (∀ k v,Ae tv k = some v -> ∃ m:Int,v = .int m /\ 1 <= m /\ k ∈ Ao ws (qv cm) /\ Qb ws cm tv k m) /\
 (∀ k,k ∈ Ao ws (qv cm) -> Ae tv k = none -> ∃ who,who < ws.length /\ none ∉ Au ws k.1 cm k.2 who /\ ∀ later,some later ∈ Au ws k.1 cm k.2 who -> Ae tv later = none)
def Fw (ws:List Int) (cm:Option Int) (tv:List ((List Int × Int) × V)) (aY:List (List Int × Int)) (r:Int) (Lf:(List Int × Int) -> Nat -> Prop):Prop :=
 1 <= r /\ (∀ kv ∈ tv,∃ n:Int,kv.2 = .int n /\ 1 <= n /\ n < r) /\ (∀ k ∈ aY,k ∈ Ao ws (qv cm) /\ Ae tv k = none) /\ (∀ k v,Ae tv k = some v -> k ∈ Ao ws (qv cm)) /\
 (∀ k who,Lf k who ↔ (k ∈ Ao ws (qv cm) /\ who < ws.length /\ none ∉ Au ws k.1 cm k.2 who /\ ∀ later,some later ∈ Au ws k.1 cm k.2 who -> Ae tv later = none)) /\
 (∀ k,k ∈ Ao ws (qv cm) -> ((∀ who,¬ Lf k who) ↔ (k ∈ aY \/ (Ae tv k).isSome = true))) /\
 (∀ k m,Ae tv k = some (.int m) -> Qb ws cm tv k m) /\ ∀ k ∈ aY,Qb ws cm tv k r
theorem Fw.done {ws:List Int} {cm:Option Int} {tv:List ((List Int × Int) × V)} {r:Int} {Lf:(List Int × Int) -> Nat -> Prop} (h:Fw ws cm tv [] r Lf):Dj ws cm tv:=by
 obtain ⟨h0,hv,bD,bX,hb,hc,XH,hd2⟩ := h
 refine ⟨fun k v e=>?_,fun k hk e=>?_⟩
 ·obtain ⟨n,e1,e2,_⟩ := hv _ (Bk e)
  have nH:v = .int n:=e1
  subst nH
  exact ⟨n,rfl,e2,bX k _ e,XH k n e⟩
 ·have hn : ¬ ∀ who, ¬ Lf k who := fun z => by
   rcases (hc k hk).mp z with y | y
   ·cases y
   ·rw [e] at y
    cases y
  obtain ⟨who,hw⟩ := Classical.not_forall.mp hn
  obtain ⟨g1,g2,g3,g4⟩ := (hb k who).mp (Classical.not_not.mp hw)
  exact ⟨who,g2,g3,g4⟩
theorem Fw.step {ws : List Int} {cm : Option Int} {tv sJ : List ((List Int × Int) × V)} {aY beta : List (List Int × Int)} {r : Int} {Lf SN : (List Int × Int) -> Nat -> Prop} (h : Fw ws cm tv aY r Lf)
  (ht:∀ k,Ae sJ k = if k ∈ aY then some (.int r) else Ae tv k) (SO:∀ kv ∈ sJ,∃ n:Int,kv.2 = .int n /\ 1 <= n /\ n < r + 1)
  (hl:∀ k who,SN k who ↔ (Lf k who /\ ∀ later ∈ aY,some later ∉ Au ws k.1 cm k.2 who)) (SQ:∀ k,k ∈ beta ↔ ((∃ who,Lf k who) /\ ∀ who,¬ SN k who)):Fw ws cm sJ beta (r + 1) SN:=by
 obtain ⟨h0,hv,bD,bX,hb,hc,XH,hd2⟩ := h
 have lL:∀ k,Ae sJ k = none ↔ (k ∉ aY /\ Ae tv k = none):=fun k=>by
  rw [ht]
  by_cases z:k ∈ aY
  ·rw [if_pos z]
   exact ⟨fun y=>(nomatch y),fun y=>absurd z y.1⟩
  ·rw [if_neg z]
   exact ⟨fun y=>⟨z,y⟩,fun y=>y.2⟩
 have old:∀ later m',Ae tv later = some (.int m') -> Ae sJ later = some (.int m'):=fun later m' e=>by
  rw [ht,if_neg (fun z=>by rw [(bD later z).2] at e; cases e)]
  exact e
 have back:∀ later m',Ae sJ later = some (.int m') -> (later ∈ aY /\ m' = r) \/ Ae tv later = some (.int m'):=fun later m' e=>by
  rw [ht] at e
  by_cases z:later ∈ aY
  ·rw [if_pos z] at e
   cases e
   exact .inl ⟨z,rfl⟩
  ·rw [if_neg z] at e
   exact .inr e
 have more:∀ k m,m <= r -> Qb ws cm tv k m -> Qb ws cm sJ k m:=fun k m hm ⟨p1,p2⟩=>by
  refine ⟨fun who hw=>?_,?_⟩
  ·rcases p1 who hw with y | ⟨later,m',y1,y2,y3⟩
   ·exact .inl y
   ·exact .inr ⟨later,m',y1,old _ _ y2,y3⟩
  ·rcases p2 with y | ⟨who,y1,y2,y3⟩
   ·exact .inl y
   ·refine .inr ⟨who,y1,y2,fun later m' z1 z2=>?_⟩
    rcases back later m' z2 with ⟨_,e⟩ | e
    ·omega
    ·exact y3 later m' z1 e
 have iH:∀ k who,SN k who ↔ (k ∈ Ao ws (qv cm) /\ who < ws.length /\ none ∉ Au ws k.1 cm k.2 who /\ ∀ later,some later ∈ Au ws k.1 cm k.2 who -> Ae sJ later = none):=fun k who=>by
  rw [hl,hb]
  constructor
  ·rintro ⟨⟨g1,g2,g3,g4⟩,g5⟩
   exact ⟨g1,g2,g3,fun later z=>(lL later).mpr ⟨fun y=>g5 later y z,g4 later z⟩⟩
  ·rintro ⟨g1,g2,g3,g4⟩
   exact ⟨⟨g1,g2,g3,fun later z=>((lL later).mp (g4 later z)).2⟩,fun later y z=>((lL later).mp (g4 later z)).1 y⟩
 refine ⟨by omega,SO,fun k hk=>?_,fun k v e=>?_,iH,fun k hk=>?_,fun k m e=>?_,fun k hk=>?_⟩
 ·obtain ⟨⟨who,hw⟩,hn⟩ := (SQ k).mp hk
  have hs:=((hb k who).mp hw).1
  refine ⟨hs,(lL k).mpr ⟨fun z=>?_,?_⟩⟩
  ·exact (hc k hs).mpr (.inl z) who hw
  ·cases hvk:Ae tv k with
   | none=>rfl
   | some v=>exact absurd hw ((hc k hs).mpr (.inr (by rw [hvk]; rfl)) who)
 ·rw [ht] at e
  by_cases z:k ∈ aY
  ·exact (bD k z).1
  ·rw [if_neg z] at e
   exact bX k v e
 ·constructor
  ·intro z
   by_cases y:∃ who,Lf k who
   ·exact .inl ((SQ k).mpr ⟨y,z⟩)
   ·right
    rcases (hc k hk).mp (fun who w=>y ⟨who,w⟩) with x | x
    ·rw [ht,if_pos x]
     rfl
    ·obtain ⟨v,xG⟩ := Option.isSome_iff_exists.mp x
     obtain ⟨n,e1,_⟩ := hv _ (Bk xG)
     have nH:v = .int n:=e1
     rw [nH] at xG
     rw [old k n xG]
     rfl
  ·rintro (z | z) who w
   ·exact ((SQ k).mp z).2 who w
   ·have w1:=((hl k who).mp w).1
    rw [ht] at z
    by_cases y:k ∈ aY
    ·exact (hc k hk).mpr (.inl y) who w1
    ·rw [if_neg y] at z
     exact (hc k hk).mpr (.inr z) who w1
 ·rcases back k m e with ⟨y1,y2⟩ | y
  ·subst y2
   exact more k m (Int.le_refl _) (hd2 k y1)
  ·obtain ⟨n,e1,e2,e3⟩ := hv _ (Bk y)
   cases e1
   exact more k m (by omega) (XH k m y)
 ·obtain ⟨⟨IE,XI⟩,hn⟩ := (SQ k).mp hk
  obtain ⟨g1,g2,g3,g4⟩ := (hb k IE).mp XI
  refine ⟨fun who hw=>?_,.inr ⟨IE,g2,g3,fun later m' z1 z2=>?_⟩⟩
  ·by_cases y:none ∈ Au ws k.1 cm k.2 who
   ·exact .inl y
   ·right
    have hnn:¬ ∀ later,some later ∈ Au ws k.1 cm k.2 who -> Ae sJ later = none:=fun z=>hn who ((iH k who).mpr ⟨g1,hw,y,z⟩)
    obtain ⟨later,hx⟩ := Classical.not_forall.mp hnn
    obtain ⟨x1,x2⟩ := Classical.not_imp.mp hx
    cases SR:Ae sJ later with
    | none=>exact absurd SR x2
    | some v =>
     obtain ⟨n,e1,e2,e3⟩ := SO _ (Bk SR)
     have nH:v = .int n:=e1
     exact ⟨later,n,x1,by rw [SR,nH],by omega⟩
  ·rcases back later m' z2 with ⟨_,e⟩ | e
   ·omega
   ·rw [g4 later z1] at e
    cases e
theorem j5 {κ:Type} [DecidableEq κ] {kvs:List (κ × V)} {k:κ} {v:V} (hn:(kvs.map (·.1)).Nodup):((B8 kvs k v).map (·.1)).Nodup:=by
 cases e:Ae kvs k with
 | none =>
  rw [Cj v e,List.map_append]
  exact Dw hn (Kr e)
 | some w =>
  have hk:(kvs.any fun kv=>decide (kv.1 = k)) = true:=by
   rw [E2,e]
   rfl
  unfold B8
  rw [if_pos hk,List.map_map]
  have:(kvs.map ((fun x=>x.1) ∘ fun kv=>if kv.1 = k then (kv.1,v) else kv)) = kvs.map (·.1):=by
   apply List.map_congr_left
   intro x _
   show (if x.1 = k then (x.1,v) else x).1 = x.1
   split <;> rfl
  rw [this]
  exact hn
def Xj (H:Hp) (v:V):Prop := ∃ c,v = .ref c /\ H c = some (.dK [])
theorem Fw.start {ws:List Int} {cm:Option Int} {H:Hp} {kvs:List ((List Int × Int) × V)} {aY:List (List Int × Int)} (hp:Ci ws cm H kvs) (hk:kvs.map (·.1) = Ao ws (qv cm)) (hf:Lw ws cm H kvs) (hr:∀ k,k ∈ aY ↔ ∃ v,(k,v) ∈ kvs /\ Xj H v):Fw ws cm [] aY 1 (An H kvs):=by
 have mem:∀ k,k ∈ Ao ws (qv cm) ↔ ∃ v,(k,v) ∈ kvs:=fun k=>by
  rw [<- hk,List.mem_map]
  exact ⟨fun ⟨x,h1,h2⟩=>⟨x.2,by rw [<- h2]; exact h1⟩,fun ⟨v,h1⟩=>⟨_,h1,rfl⟩⟩
 have hb:∀ k who,An H kvs k who ↔ (k ∈ Ao ws (qv cm) /\ who < ws.length /\ none ∉ Au ws k.1 cm k.2 who):=fun k who=>by
  constructor
  ·rintro ⟨c,cs,h1,h2,h3⟩
   have hm:=Bk h1
   obtain ⟨d,ds,e,f1,_,f2⟩ := hp.1 _ hm
   cases e
   rw [h2] at f1
   cases f1
   obtain ⟨w',XJ⟩ := Option.isSome_iff_exists.mp h3
   obtain ⟨oD,l,us,g1,g2,g3,_⟩ := f2 _ (Bk XJ)
   have g1':(who:Int) = (oD:Int):=Sum.inl.inj g1
   have:who = oD:=by omega
   subst this
   exact ⟨(mem k).mpr ⟨_,hm⟩,g2,g3⟩
  ·rintro ⟨h1,h2,h3⟩
   obtain ⟨v,hm⟩ := (mem k).mp h1
   obtain ⟨c,cs,e,f1,_,f2⟩ := hp.1 _ hm
   have e':v = .ref c:=e
   subst e'
   exact ⟨c,cs,Cc hp.2.1 hm,f1,hf _ hm c cs rfl f1 who h2 h3⟩
 have hc:∀ k,k ∈ Ao ws (qv cm) -> ((∀ who,¬ An H kvs k who) ↔ k ∈ aY):=fun k jN=>by
  obtain ⟨v,hm⟩ := (mem k).mp jN
  obtain ⟨c,cs,e,f1,_,f2⟩ := hp.1 _ hm
  have e':v = .ref c:=e
  subst e'
  rw [hr]
  constructor
  ·intro z
   refine ⟨_,hm,c,rfl,?_⟩
   cases cs with
   | nil=>exact f1
   | cons x xs =>
    obtain ⟨who,l,us,g1,_⟩ := f2 x (by simp)
    exact absurd ⟨c,_,Cc hp.2.1 hm,f1,by rw [C4 g1]; rfl⟩ (z who)
  ·rintro ⟨v',dB,c',e1,e2⟩ who ⟨c2,cs2,g1,g2,g3⟩
   have h1:=Cc hp.2.1 hm
   rw [Cc hp.2.1 dB,e1] at h1
   cases h1
   rw [Cc hp.2.1 hm] at g1
   cases g1
   rw [e2] at g2
   cases g2
   cases g3
 refine ⟨Int.le_refl _,(fun kv z=>by cases z),fun k bP=>?_,(fun k v z=>by cases z),fun k who=>?_,fun k jN=>?_,(fun k m z=>by cases z),fun k bP=>?_⟩
 ·obtain ⟨v,hm,_⟩ := (hr k).mp bP
  exact ⟨(mem k).mpr ⟨v,hm⟩,rfl⟩
 ·rw [hb]
  exact ⟨fun z=>⟨z.1,z.2.1,z.2.2,fun _ _=>rfl⟩,fun z=>⟨z.1,z.2.1,z.2.2.1⟩⟩
 ·rw [hc k jN]
  exact ⟨fun z=>.inl z,fun z=>z.elim id (fun y=>by cases y)⟩
 ·obtain ⟨v,hm,_⟩ := (hr k).mp bP
  have jN:=(mem k).mpr ⟨v,hm⟩
  refine ⟨fun who hw=>?_,.inl rfl⟩
  left
  apply Classical.byContradiction
  intro y
  exact (hc k jN).mpr bP who ((hb k who).mpr ⟨jN,hw,y⟩)
theorem Ge (ws:List Int) (w:Int):ws.map V.int ++ [V.int w] = (ws ++ [w]).map V.int:=by rw [List.map_append]; rfl
theorem Fc {α:Type} {ls:List α} {x:α} {i:Nat} (h:ls.length = i):(ls ++ [x]).length = i + 1:=by
 rw [List.length_append,h]
 rfl
theorem Xz {ls:List Int} {j:Nat} (h:j < ls.length):ls[j]? = some (ls.getD j 0):=by
 rw [List.getD_eq_getElem?_getD,List.getElem?_eq_getElem h]
 rfl
theorem Oh {ls:List Int} {j:Nat} (h:j < ls.length):ls.getD j 0 ∈ ls:=List.mem_of_getElem? (Xz h)
def Cm (ws:List Int) (cm:Option Int):Prop:=(∀ w ∈ ws,1 <= w /\ w <= 3000) /\ (∀ c,cm = some c -> 1 <= c /\ c < 3000) /\ 0 < ws.length /\ ws.length <= 8 /\ Ak (qv cm) ws <= 300
theorem Im {w:Int} (h1:0 <= w) (h2:w <= 3000):intBits w <= 256:=Nat.le_trans (bh (n:=12) (by omega)) (by decide)
theorem Cm.qv {ws:List Int} {cm:Option Int} (h:Cm ws cm):1 <= qv cm /\ qv cm <= 3000:=by
 cases cm with
 | none=>exact ⟨Int.le_refl _,by decide⟩
 | some c =>
  have:=h.2.1 c rfl
  show 1 <= c + 1 /\ c + 1 <= 3000
  omega
theorem Oi:∀ (ws:List Int) (a b:Int),0 <= a -> a <= b -> (∀ w ∈ ws,1 <= w) -> Ak a ws <= Ak b ws
 | [],_,_,_,h,_=>h
 | w :: ws,a,b,h0,h,hw=>by
  have h1:=hw w (by simp)
  exact Oi ws (a * w) (b * w) (Int.mul_nonneg h0 (by omega)) (Int.mul_le_mul_of_nonneg_right h (by omega)) fun x hx=>hw x (List.mem_cons_of_mem _ hx)
theorem Lk {b:Int}:∀ (ws:List Int) (a:Int),0 <= a -> (∀ w ∈ ws,1 <= w /\ w <= b) -> Ak a ws <= a * b ^ ws.length
 | [],a,_,_=>by
  show a <= a * b ^ 0
  rw [Int.pow_zero,Int.mul_one]
  exact Int.le_refl _
 | w :: ws,a,h0,hw=>by
  have h1:=hw w (by simp)
  have ih:=Lk ws (a * w) (Int.mul_nonneg h0 (by omega)) fun x hx=>hw x (List.mem_cons_of_mem _ hx)
  have hb:0 <= b ^ ws.length:=Int.pow_nonneg (by omega)
  have h2:a * w * b ^ ws.length <= a * b * b ^ ws.length:=Int.mul_le_mul_of_nonneg_right (Int.mul_le_mul_of_nonneg_left h1.2 h0) hb
  have e:a * b ^ (w :: ws).length = a * b * b ^ ws.length:=by
   rw [List.length_cons,Int.pow_succ,Int.mul_comm (b ^ ws.length) b,Int.mul_assoc]
  rw [e]
  exact Int.le_trans ih h2
theorem Rt {x:Int} (hx:1 <= x):∀ (ws:List Int) (a:Int) (k:Nat),0 <= a -> (∀ w ∈ ws,1 <= w) -> Ak a (ws.set k x) <= Ak a ws * x
 | [],a,_,h0,_=>by
  show a <= a * x
  have:a * 1 <= a * x:=Int.mul_le_mul_of_nonneg_left hx h0
  omega
 | w :: ws,a,0,h0,hw=>by
  have h1:=hw w (by simp)
  show Ak (a * x) ws <= Ak (a * w) ws * x
  have h2:a * x <= x * (a * w):=by
   have:x * a * 1 <= x * a * w:=Int.mul_le_mul_of_nonneg_left h1 (Int.mul_nonneg (by omega) h0)
   rw [Int.mul_one] at this
   rw [Int.mul_comm a x,<- Int.mul_assoc]
   exact this
  refine Int.le_trans (Oi ws _ _ (Int.mul_nonneg h0 (by omega)) h2 fun y hy=>hw y (List.mem_cons_of_mem _ hy)) ?_
  rw [J2,Int.mul_comm]
  exact Int.le_refl _
 | w :: ws,a,k + 1,h0,hw=>by
  have h1:=hw w (by simp)
  exact Rt hx ws (a * w) k (Int.mul_nonneg h0 (by omega)) fun y hy=>hw y (List.mem_cons_of_mem _ hy)
theorem cc {P:Int -> Prop} {ws:List Int} {k:Nat} {x:Int} (h:∀ w ∈ ws,P w) (hx:P x):∀ w ∈ ws.set k x,P w:=fun w hw=>by
 rcases List.mem_or_eq_of_mem_set hw with z | z
 ·exact h w z
 ·rw [z]
  exact hx
theorem Hh {xs:List Int} {k:Nat} {i:Int} (h:k < xs.length) (e:i = (k:Int)):Ra (xs.map V.int) i = some (.int (xs.getD k 0)):=by
 rw [e]
 exact Pp h
def Zi (ws:List Int) (most:Int):Prop:=(∀ w ∈ ws,1 <= w /\ w <= 3000) /\ 0 < ws.length /\ ws.length <= 8 /\ 1 <= most /\ most <= 4 /\ Ak 1 ws * (most + 1) <= 300
theorem Zi.of {ws:List Int} {most b:Int} {n:Nat} (h:∀ w ∈ ws,1 <= w /\ w <= b) (hl:ws.length = n) (h0:0 < n) (h8:n <= 8) (hb:b <= 3000) (hm:1 <= most /\ most <= 4) (hp:b ^ n * (most + 1) <= 300):Zi ws most:=by
 have h1:=Lk ws 1 (by decide) h
 rw [hl,Int.one_mul] at h1
 have h2:Ak 1 ws * (most + 1) <= b ^ n * (most + 1):=Int.mul_le_mul_of_nonneg_right h1 (by omega)
 exact ⟨fun w hw=>by have:=h w hw; omega,by omega,by omega,hm.1,hm.2,by omega⟩
theorem Zi.hall {ws:List Int} {most:Int} (h:Zi ws most):Cm ws none /\ ∀ x:Int,Cm ws (some (1 + x % most)):=by
 obtain ⟨h1,h2,h3,h4,h5,h6⟩ := h
 have hp:=E9 ws 1 (by decide) fun w hw=>(h1 w hw).1
 refine ⟨⟨h1,(fun c z=>nomatch z),h2,h3,?_⟩,fun x=>⟨h1,(fun c z=>?_),h2,h3,?_⟩⟩
 ·show Ak 1 ws <= 300
  have:Ak 1 ws * 1 <= Ak 1 ws * (most + 1):=Int.mul_le_mul_of_nonneg_left (by omega) (by omega)
  omega
 ·cases z
  have:=Bh x (m:=most) (by omega)
  omega
 ·have hx:=Bh x (m:=most) (by omega)
  show Ak (1 + x % most + 1) ws <= 300
  have e:Ak (1 + x % most + 1) ws = (1 + x % most + 1) * Ak 1 ws:=by rw [<- J2,Int.mul_one]
  rw [e,Int.mul_comm]
  have:Ak 1 ws * (1 + x % most + 1) <= Ak 1 ws * (most + 1):=Int.mul_le_mul_of_nonneg_left (by omega) (by omega)
  omega
theorem Qy:∀ n:Nat,(List.replicate n [V.int 1]).flatten = (List.replicate n (1:Int)).map V.int
 | 0=>rfl
 | n + 1=>by
  rw [List.replicate_succ,List.flatten_cons,Qy n,List.replicate_succ,List.map_cons]
  rfl
theorem Oc:∀ n:Nat,Ak 1 (List.replicate n (1:Int)) = 1
 | 0=>rfl
 | n + 1=>by
  rw [List.replicate_succ]
  show Ak (1 * 1) (List.replicate n 1) = 1
  exact Oc n
theorem Na {ws ls:List Int} {who i:Nat} {lost:Bool} (hi:i < ls.length):(Bi ws ls who lost)[i]? = some (if i = who /\ lost = false then ws.getD who 0 else ls.getD i 0 - 1):=by
 have e:(ls.map fun x=>x - 1)[i]? = some (ls.getD i 0 - 1):=by
  rw [List.getElem?_map,List.getElem?_eq_getElem hi,List.getD_eq_getElem?_getD,List.getElem?_eq_getElem hi]
  rfl
 unfold Bi
 cases lost with
 | true =>
  rw [if_pos rfl,if_neg (fun z=>nomatch z.2)]
  exact e
 | false =>
  rw [if_neg Bool.false_ne_true,List.getElem?_set]
  by_cases z:i = who
  ·subst z
   rw [if_pos rfl,if_pos (by rw [List.length_map]; exact hi),if_pos ⟨rfl,rfl⟩]
  ·rw [if_neg (fun y=>z y.symm),if_neg (fun y=>z y.1)]
   exact e
def Ol (cm:Option Int) (q:Int):List Bool:=if Dq cm q = true then [false,true] else [false]
theorem Rg (ws ls:List Int) (cm:Option Int) (q:Int) (who:Nat):Au ws ls cm q who = (Ol cm q).map fun lost=>D0 ws ls cm q who lost:=by
 unfold Au Ol
 split <;> rfl
theorem Lq {xs:List Int} {i:Nat} (h:i < xs.length):xs[i]? = some (xs.getD i 0):=by
 rw [List.getD_eq_getElem?_getD,List.getElem?_eq_getElem h]
 rfl
theorem Vg:∀ (ws:List Int) (rows:List (List Int)) (r0 ext:List Int),r0 ∈ rows -> ext.length = ws.length -> (∀ i,i < ws.length -> 1 <= ext.getD i 0 /\ ext.getD i 0 <= ws.getD i 0) -> r0 ++ ext ∈ ws.foldl C0 rows
 | [],rows,r0,ext,h,hl,_=>by
  have e:ext = []:=List.length_eq_zero_iff.mp hl
  rw [e,List.append_nil]
  exact h
 | w :: ws,rows,r0,[],h,hl,_=>by simp at hl
 | w :: ws,rows,r0,x :: ext,h,hl,hb=>by
  have h0:=hb 0 (by simp)
  have hx:1 <= x /\ x <= w:=h0
  have bR:r0 ++ [x] ∈ C0 rows w:=by
   refine List.mem_flatMap.mpr ⟨r0,h,List.mem_map.mpr ⟨(x - 1).toNat,List.mem_range.mpr (by omega),?_⟩⟩
   have e:1 + (((x - 1).toNat:Nat):Int) = x:=by omega
   rw [e]
  have ih:=Vg ws (C0 rows w) (r0 ++ [x]) ext bR (by simpa using hl) fun i hi=>hb (i + 1) (by simp; omega)
  rw [List.append_assoc] at ih
  exact ih
theorem Iz {ws:List Int} {q:Int} {z:List Int × Int} (h1:z.1.length = ws.length) (h2:∀ i,i < ws.length -> 1 <= z.1.getD i 0 /\ z.1.getD i 0 <= ws.getD i 0) (h3:0 <= z.2) (h4:z.2 < q):z ∈ Ao ws q:=by
 refine List.mem_flatMap.mpr ⟨z.1,?_,List.mem_map.mpr ⟨z.2.toNat,List.mem_range.mpr (by omega),?_⟩⟩
 ·have:=Vg ws [[]] [] z.1 (by simp) h1 h2
  exact this
 ·have e:0 + ((z.2.toNat:Nat):Int) = z.2:=by omega
  rw [e]
theorem Ea {ws:List Int} {q:Int} {z:List Int × Int} (h:z ∈ Ao ws q):z.1.length = ws.length /\ (∀ i,i < ws.length -> 1 <= z.1.getD i 0 /\ z.1.getD i 0 <= ws.getD i 0) /\ 0 <= z.2 /\ z.2 < q:=by
 obtain ⟨m1,m2,m3,m4⟩ := Nd h
 exact ⟨m1,fun i hi=>m2 i _ _ (Lq (by omega)) (Lq hi),m3,m4⟩
theorem av {ws ls:List Int} {who i:Nat} {lost:Bool} (hi:i < ls.length):(Bi ws ls who lost).getD i 0 = if i = who /\ lost = false then ws.getD who 0 else ls.getD i 0 - 1:=by
 rw [List.getD_eq_getElem?_getD,Na hi]
 rfl
theorem Yt {ws ls:List Int} {cm:Option Int} {q:Int} {who:Nat} {o:Option (List Int × Int)}:o ∈ Au ws ls cm q who ↔ ∃ lost,lost ∈ Ol cm q /\ D0 ws ls cm q who lost = o:=by
 rw [Rg,List.mem_map]
theorem Xw {ws ls:List Int} {cm:Option Int} {q:Int} {who:Nat} {lost:Bool} {k:List Int × Int} (h:D0 ws ls cm q who lost = some k):(0:Int) ∉ Bi ws ls who lost /\ k = (Bi ws ls who lost,Dh cm q lost):=by
 unfold D0 at h
 by_cases z:(0:Int) ∈ Bi ws ls who lost
 ·rw [if_pos z] at h
  cases h
 ·rw [if_neg z] at h
  exact ⟨z,(Option.some.inj h).symm⟩
theorem Se {ws:List Int} {cm:Option Int} {k l:List Int × Int} {who:Nat} {lost:Bool} (aN:∀ w ∈ ws,1 <= w) (hk:k ∈ Ao ws (qv cm)) (xH:who < ws.length) (hlo:lost ∈ Ol cm k.2) (h:D0 ws k.1 cm k.2 who lost = some l):l ∈ Ao ws (qv cm):=by
 obtain ⟨g1,g2,g3,g4⟩ := Ea hk
 obtain ⟨hz,rfl⟩ := Xw h
 have hwp:1 <= ws.getD who 0:=aN _ (Oh xH)
 have hlen:(Bi ws k.1 who lost).length = k.1.length:=Ia _ _ _ _
 refine Iz (by rw [hlen]; exact g1) (fun i hi=>?_) ?_ ?_
 ·have b:=g2 i hi
  have cY:(Bi ws k.1 who lost).getD i 0 ≠ 0:=fun e=>by
   have:=Lq (xs:=Bi ws k.1 who lost) (i:=i) (by omega)
   rw [e] at this
   exact hz (List.mem_of_getElem? this)
  show 1 <= (Bi ws k.1 who lost).getD i 0 /\ (Bi ws k.1 who lost).getD i 0 <= ws.getD i 0
  rw [av (by omega)] at cY ⊢
  by_cases y:i = who /\ lost = false
  ·rw [if_pos y,y.1]
   omega
  ·rw [if_neg y] at cY
   rw [if_neg y]
   omega
 ·show 0 <= Dh cm k.2 lost
  unfold Dh
  cases lost with
  | true =>
   rw [if_pos rfl]
   cases cm with
   | none=>exact Int.le_refl _
   | some c =>
    show 0 <= c
    have:k.2 < c + 1:=g4
    omega
  | false =>
   rw [if_neg Bool.false_ne_true]
   omega
 ·show Dh cm k.2 lost < qv cm
  unfold Dh
  cases lost with
  | true =>
   rw [if_pos rfl]
   cases cm with
   | none=>decide
   | some c =>
    show c < c + 1
    omega
  | false =>
   rw [if_neg Bool.false_ne_true]
   have:0 < qv cm:=by omega
   omega
def wd (x:Int × Int):PyData:=dP (.int x.1) (.int x.2)
def Fh (x y:Int × Int):Bool:=decide (y.1 < x.1 \/ (x.1 = y.1 /\ y.2 < x.2))
theorem Jk (a b:Int):PyData.eqv (.int a) (.int b) = decide (a = b):=rfl
theorem gp (x y:Int × Int):X2 (wd x) (wd y) = Fh x y:=by
 obtain ⟨a,b⟩ := x
 obtain ⟨c,d⟩ := y
 show (if PyData.eqv (.int a) (.int c) = true then (if PyData.eqv (.int b) (.int d) = true then aQ [] [] else X2 (.int b) (.int d)) else X2 (.int a) (.int c)) = decide (c < a \/ (a = c /\ d < b))
 rw [Jk,Jk]
 show (if decide (a = c) = true then (if decide (b = d) = true then false else decide (b > d)) else decide (a > c)) = decide (c < a \/ (a = c /\ d < b))
 by_cases h1:a = c
 ·rw [if_pos (decide_eq_true h1)]
  by_cases h2:b = d
  ·rw [if_pos (decide_eq_true h2)]
   exact (decide_eq_false (by omega)).symm
  ·rw [if_neg (by simpa using h2)]
   exact decide_eq_decide.mpr (by omega)
 ·rw [if_neg (by simpa using h1)]
  exact decide_eq_decide.mpr (by omega)
theorem Z2 (x y:Int × Int):Gy (wd x) (wd y) = Fh y x:=by
 obtain ⟨a,b⟩ := x
 obtain ⟨c,d⟩ := y
 show (if PyData.eqv (.int a) (.int c) = true then (if PyData.eqv (.int b) (.int d) = true then aD [] [] else Gy (.int b) (.int d)) else Gy (.int a) (.int c)) = decide (a < c \/ (c = a /\ b < d))
 rw [Jk,Jk]
 show (if decide (a = c) = true then (if decide (b = d) = true then false else decide (b < d)) else decide (a < c)) = decide (a < c \/ (c = a /\ b < d))
 by_cases h1:a = c
 ·rw [if_pos (decide_eq_true h1)]
  by_cases h2:b = d
  ·rw [if_pos (decide_eq_true h2)]
   exact (decide_eq_false (by omega)).symm
  ·rw [if_neg (by simpa using h2)]
   exact decide_eq_decide.mpr (by omega)
 ·rw [if_neg (by simpa using h1)]
  exact decide_eq_decide.mpr (by omega)
theorem Yj (x y:Int × Int):Gc (wd x) (wd y):=by
 show Gc (.tuple [.int x.1,.int x.2]) (.tuple [.int y.1,.int y.2])
 simp [Gc,aK]
theorem Kz (x:Int × Int):(wd x).depth <= 50:=by
 show (dP _ _).depth <= 50
 rw [Qh]
 show max 0 0 + 1 <= 50
 decide
theorem Vc {H:Hp} {p:Addr} {x:Int × Int} (h:H p = some (.tup [.int x.1,.int x.2])):Rp H (wd x) (.ref p):=Vi h (G0 _) (G0 _)
theorem Ye (x y:Int × Int):PyData.eqv (wd x) (wd y) = decide (x = y):=by
 obtain ⟨a,b⟩ := x
 obtain ⟨c,d⟩ := y
 show PyData.eqv (dP _ _) (dP _ _) = _
 rw [iz,Jk,Jk]
 by_cases h1:a = c <;> by_cases h2:b = d <;> simp [h1,h2]
theorem Q5 (f:Nat -> Int × Int):∀ k,argBest (fun i j=>Fh (f i) (f j)) k <= k /\ ∀ j,j <= k -> Fh (f j) (f (argBest (fun i j=>Fh (f i) (f j)) k)) = false
 | 0=>⟨Nat.le_refl _,fun j hj=>by
  have e:j = 0:=by omega
  subst e
  show Fh (f 0) (f 0) = false
  unfold Fh
  exact decide_eq_false (by omega)⟩
 | k + 1=>by
  obtain ⟨h1,h2⟩ := Q5 f k
  rw [Ed]
  generalize argBest (fun i j=>Fh (f i) (f j)) k = b at h1 h2 ⊢
  by_cases z:Fh (f (k + 1)) (f b) = true
  ·rw [if_pos z]
   refine ⟨Nat.le_refl _,fun j hj=>?_⟩
   unfold Fh at z h2 ⊢
   have z':=of_decide_eq_true z
   refine decide_eq_false ?_
   rcases Nat.lt_or_ge k j with y | y
   ·have e:j = k + 1:=by omega
    subst e
    omega
   ·have:=of_decide_eq_false (h2 j y)
    omega
  ·rw [if_neg z]
   refine ⟨by omega,fun j hj=>?_⟩
   rcases Nat.lt_or_ge k j with y | y
   ·have e:j = k + 1:=by omega
    subst e
    simpa using z
   ·exact h2 j y
def Nm:Option V -> Int × Int
 | some (.int m)=>(0,m)
 | _=>(1,0)
def told (tv:List ((List Int × Int) × V)):Option (List Int × Int) -> Int × Int
 | none=>(0,0)
 | some k=>Nm (Ae tv k)
def fw (x y:Int × Int):Int × Int:=if Fh x y = true then y else x
def Ik (tv:List ((List Int × Int) × V)) (ws ls:List Int) (cm:Option Int) (q:Int) (who:Nat):Int × Int :=
 if Dq cm q = true then fw (told tv (D0 ws ls cm q who false)) (told tv (D0 ws ls cm q who true)) else told tv (D0 ws ls cm q who false)
def U0 (tv:List ((List Int × Int) × V)):Prop := ∀ k v,Ae tv k = some v -> ∃ m:Int,v = .int m
theorem Po {tv:List ((List Int × Int) × V)} {ws ls:List Int} {cm:Option Int} {q:Int} {who:Nat}:(∀ o ∈ Au ws ls cm q who,Fh (Ik tv ws ls cm q who) (told tv o) = false) /\ ∃ o,o ∈ Au ws ls cm q who /\ Ik tv ws ls cm q who = told tv o:=by
 rw [Rg]
 unfold Ol Ik
 by_cases z:Dq cm q = true
 ·rw [if_pos z,if_pos z]
  show (∀ o ∈ [D0 ws ls cm q who false,D0 ws ls cm q who true],_) /\ ∃ o,o ∈ [D0 ws ls cm q who false,D0 ws ls cm q who true] /\ _
  unfold fw
  by_cases y:Fh (told tv (D0 ws ls cm q who false)) (told tv (D0 ws ls cm q who true)) = true
  ·rw [if_pos y]
   refine ⟨fun o ho=>?_,_,by simp,rfl⟩
   have iQ:o = D0 ws ls cm q who false \/ o = D0 ws ls cm q who true:=by simpa using ho
   unfold Fh at y ⊢
   have y':=of_decide_eq_true y
   refine decide_eq_false ?_
   rcases iQ with e | e <;> subst e <;> omega
  ·rw [if_neg y]
   refine ⟨fun o ho=>?_,_,by simp,rfl⟩
   have iQ:o = D0 ws ls cm q who false \/ o = D0 ws ls cm q who true:=by simpa using ho
   unfold Fh at y ⊢
   refine decide_eq_false ?_
   have y':=fun h=>y (decide_eq_true h)
   rcases iQ with e | e <;> subst e <;> omega
 ·rw [if_neg z,if_neg z]
  refine ⟨fun o ho=>?_,D0 ws ls cm q who false,by simp,rfl⟩
  have e:o = D0 ws ls cm q who false:=by simpa using ho
  subst e
  unfold Fh
  exact decide_eq_false (by omega)
theorem Qd {H:Hp}:∀ {ds:List PyData} {us:List V},us.length = ds.length -> (∀ (i:Nat) (d:PyData) (u:V),ds[i]? = some d -> us[i]? = some u -> Rp H d u) -> aB H ds us
 | [],us,hl,_=>by
  unfold aB
  exact List.length_eq_zero_iff.mp hl
 | d :: ds,[],hl,_=>by simp at hl
 | d :: ds,u :: us,hl,h=>by
  unfold aB
  exact ⟨u,us,rfl,h 0 d u rfl rfl,Qd (by simpa using hl) fun i d' u' h1 h2=>h (i + 1) d' u' (by simpa using h1) (by simpa using h2)⟩
theorem aj {f:Nat -> Int × Int} {n:Nat} (hn:0 < n):Ds ((List.range n).map fun i=>wd (f i)) < n /\ ∀ j,j < n -> Fh (f j) (f (Ds ((List.range n).map fun i=>wd (f i)))) = false:=by
 have e:Ds ((List.range n).map fun i=>wd (f i)) = argBest (fun i j=>Fh (f i) (f j)) (n - 1):=by
  unfold Ds
  rw [List.length_map,List.length_range]
  have key:∀ k,k <= n - 1 -> argBest (fun i j=>X2 (((List.range n).map fun i=>wd (f i)).getD i .none) (((List.range n).map fun i=>wd (f i)).getD j .none)) k = argBest (fun i j=>Fh (f i) (f j)) k:=fun k=>by
   induction k with
   | zero=>exact fun _=>rfl
   | succ k ih =>
    intro hk
    have b:=(Q5 f k).1
    rw [Ed,Ed,ih (by omega)]
    generalize argBest (fun i j=>Fh (f i) (f j)) k = b0 at b ⊢
    have g:∀ i,i < n -> ((List.range n).map fun i=>wd (f i)).getD i .none = wd (f i):=fun i hi=>by
     rw [List.getD_eq_getElem?_getD,List.getElem?_map,List.getElem?_range hi]
     rfl
    show (if X2 (((List.range n).map fun i=>wd (f i)).getD (k + 1) .none) (((List.range n).map fun i=>wd (f i)).getD b0 .none) = true then _ else _) = _
    rw [g _ (by omega),g _ (by omega),gp]
  exact key (n - 1) (Nat.le_refl _)
 rw [e]
 obtain ⟨h1,h2⟩ := Q5 f (n - 1)
 exact ⟨by omega,fun j hj=>h2 j (by omega)⟩
def Hc (f:Nat -> Int × Int) (n j:Nat):Prop:=j < n /\ (∀ i,i < n -> Fh (f i) (f j) = false) /\ ∀ m,m < j -> f m ≠ f j
theorem Vf {Pr:Nat -> Prop}:∀ (b:Nat),Pr b -> ∃ j,j <= b /\ Pr j /\ ∀ m,m < j -> ¬ Pr m:=fun b=>by
 induction b using Nat.strongRecOn with
 | ind b ih =>
  intro hb
  by_cases z:∃ m,m < b /\ Pr m
  ·obtain ⟨m,h1,h2⟩ := z
   obtain ⟨j,j1,j2,j3⟩ := ih m h1 h2
   exact ⟨j,by omega,j2,j3⟩
  ·exact ⟨b,Nat.le_refl _,hb,fun m hm hp=>z ⟨m,hm,hp⟩⟩
theorem Hc.of {f:Nat -> Int × Int} {n j:Nat} (hn:0 < n) (hj:j <= Ds ((List.range n).map fun i=>wd (f i))) (e:f j = f (Ds ((List.range n).map fun i=>wd (f i)))) (h:∀ m,m < j -> ¬ f m = f (Ds ((List.range n).map fun i=>wd (f i)))):Hc f n j:=by
 obtain ⟨b1,b2⟩ := aj (f:=f) hn
 refine ⟨by omega,fun i hi=>by rw [e]; exact b2 i hi,fun m hm=>by rw [e]; exact h m hm⟩
def Tg (H:Hp) (f:Nat -> Int × Int) (ys:List V):Prop := ∀ (i:Nat) (u:V),ys[i]? = some u -> ∃ p,u = .ref p /\ H p = some (.tup [.int (f i).1,.int (f i).2])
theorem Tg.snoc {H H':Hp} {f:Nat -> Int × Int} {ys:List V} {p:Addr} {n:Nat} (h:Tg H f ys) (t:Af H H') (hn:ys.length = n) (e:H' p = some (.tup [.int (f n).1,.int (f n).2])):Tg H' f (ys ++ [.ref p]):=fun i u hu=>by
 rcases Nat.lt_or_ge i ys.length with y | y
 ·rw [List.getElem?_append_left y] at hu
  obtain ⟨p3,e1,e2⟩ := h i u hu
  exact ⟨p3,e1,t _ _ e2⟩
 ·rw [List.getElem?_append_right y] at hu
  have hi0:i - ys.length = 0:=by
   have:=(List.getElem?_eq_some_iff.mp hu).1
   rw [List.length_singleton] at this
   omega
  rw [hi0] at hu
  cases hu
  have ei:i = n:=by omega
  subst ei
  exact ⟨p,rfl,e⟩
theorem Tg.rp {H:Hp} {f:Nat -> Int × Int} {ys:List V} {n:Nat} (h:Tg H f ys) (hn:ys.length = n):aB H ((List.range n).map fun i=>wd (f i)) ys:=by
 refine Qd (by rw [List.length_map,List.length_range]; exact hn) fun i d u h1 h2=>?_
 obtain ⟨p3,e1,e2⟩ := h i u h2
 subst e1
 rw [List.getElem?_map] at h1
 obtain ⟨i',rX,rfl⟩ := Option.map_eq_some_iff.mp h1
 have XM:i < n:=by
  have:=(List.getElem?_eq_some_iff.mp h2).1
  omega
 rw [List.getElem?_range XM] at rX
 cases rX
 exact Vc e2
theorem Uw (f:Nat -> Int × Int) (n:Nat):∀ d ∈ (List.range n).map fun i=>wd (f i),∀ e ∈ (List.range n).map fun i=>wd (f i),Gc d e:=fun d hd e he=>by
 obtain ⟨i1,_,rfl⟩ := List.mem_map.mp hd
 obtain ⟨i2,_,rfl⟩ := List.mem_map.mp he
 exact Yj _ _
theorem Vd (f:Nat -> Int × Int) (n:Nat):∀ d ∈ (List.range n).map fun i=>wd (f i),d.depth <= 50:=fun d hd=>by
 obtain ⟨i1,_,rfl⟩ := List.mem_map.mp hd
 exact Kz _
theorem cg (f:Nat -> Int × Int) {n i:Nat} (h:i < n):((List.range n).map fun i=>wd (f i))[i]? = some (wd (f i)):=by
 rw [List.getElem?_map,List.getElem?_range h]
 rfl
theorem Xy {f:Nat -> Int × Int} {n i:Nat} {e:PyData} (h:((List.range n).map fun i=>wd (f i))[i]? = some e):e = wd (f i):=by
 rw [List.getElem?_map] at h
 obtain ⟨i',rX,rfl⟩ := Option.map_eq_some_iff.mp h
 have XM:i < n:=by
  have:=(List.getElem?_eq_some_iff.mp rX).1
  rwa [List.length_range] at this
 rw [List.getElem?_range XM] at rX
 cases rX
 rfl
def Da (tv:List ((List Int × Int) × V)) (ws ls:List Int) (cm:Option Int) (q:Int) (who:Nat):Bool:=Dq cm q && Fh (told tv (D0 ws ls cm q who false)) (told tv (D0 ws ls cm q who true))
theorem Ey {tv:List ((List Int × Int) × V)} {k:List Int × Int} {m:Int} (h:Ae tv k = some (.int m)):told tv (some k) = (0,m):=by
 show Nm (Ae tv k) = _
 rw [h]
 rfl
theorem Fp {ws:List Int} {cm:Option Int} {tv:List ((List Int × Int) × V)} (h:Dj ws cm tv) (o:Option (List Int × Int)):(o = none /\ told tv o = (0,0)) \/ (∃ k m,o = some k /\ Ae tv k = some (.int m) /\ 1 <= m /\ told tv o = (0,m)) \/ told tv o = (1,0):=by
 cases o with
 | none=>exact .inl ⟨rfl,rfl⟩
 | some k =>
  cases hv:Ae tv k with
  | none =>
   refine .inr (.inr ?_)
   show Nm (Ae tv k) = _
   rw [hv]
   rfl
  | some v =>
   obtain ⟨m,e1,h1,_⟩ := h.1 k v hv
   subst e1
   exact .inr (.inl ⟨k,m,rfl,hv,h1,Ey hv⟩)
theorem R8 {ws:List Int} {cm:Option Int} {tv:List ((List Int × Int) × V)} {k b:List Int × Int} {m:Int} {who:Nat} (h:Dj ws cm tv) (hv:Ae tv k = some (.int m)) (hw:who < ws.length) (ho:D0 ws k.1 cm k.2 who (Da tv ws k.1 cm k.2 who) = some b):∃ m':Int,Ae tv b = some (.int m') /\ 1 <= m' /\ m' <= m - 1:=by
 obtain ⟨m0,e0,h1,jN,p1,p2⟩ := h.1 k _ hv
 cases e0
 have Vf:∀ o ∈ Au ws k.1 cm k.2 who,Fh (told tv (some b)) (told tv o) = false:=fun o hm=>by
  have g:∀ x:Int × Int,Fh x x = false:=fun x=>by
   unfold Fh
   exact decide_eq_false (by omega)
  have XN:∀ x y:Int × Int,Fh x y = true -> Fh y x = false:=fun x y e=>by
   unfold Fh at e ⊢
   have:=of_decide_eq_true e
   exact decide_eq_false (by omega)
  unfold Da at ho
  unfold Au at hm
  by_cases z:Dq cm k.2 = true
  ·rw [if_pos z] at hm
   rw [z,Bool.true_and] at ho
   have lY:o = D0 ws k.1 cm k.2 who false \/ o = D0 ws k.1 cm k.2 who true:=by simpa using hm
   cases y:Fh (told tv (D0 ws k.1 cm k.2 who false)) (told tv (D0 ws k.1 cm k.2 who true)) with
   | true =>
    rw [y] at ho
    rw [<- ho]
    rcases lY with e | e <;> rw [e]
    ·exact XN _ _ y
    ·exact g _
   | false =>
    rw [y] at ho
    rw [<- ho]
    rcases lY with e | e <;> rw [e]
    ·exact g _
    ·exact y
  ·rw [if_neg z] at hm
   have z':Dq cm k.2 = false:=by simpa using z
   rw [z',Bool.false_and] at ho
   have lY:o = D0 ws k.1 cm k.2 who false:=by simpa using hm
   rw [lY,ho]
   exact g _
 have key:∃ c:Int,Fh (told tv (some b)) (0,c) = false /\ c <= m - 1:=by
  rcases p1 who hw with z | ⟨later,m',z1,z2,z3⟩
  ·exact ⟨0,Vf none z,by omega⟩
  ·have:=Vf _ z1
   rw [Ey z2] at this
   exact ⟨m',this,z3⟩
 obtain ⟨c,c1,c2⟩ := key
 unfold Fh at c1
 have c3:=of_decide_eq_false c1
 rcases Fp h (some b) with ⟨e,_⟩ | ⟨k',m',e,e1,e2,e3⟩ | e
 ·cases e
 ·cases e
  rw [e3] at c3
  have c4:¬ ((0:Int) < 0 \/ ((0:Int) = 0 /\ c < m')):=c3
  exact ⟨m',e1,e2,by omega⟩
 ·rw [e] at c3
  have c4:¬ ((0:Int) < 1 \/ ((1:Int) = 0 /\ c < 0)):=c3
  omega
theorem Wx {ws : List Int} {cm : Option Int} {tv : List ((List Int × Int) × V)} {k : List Int × Int} {m : Int} {b : Nat} (h : Dj ws cm tv) (hv : Ae tv k = some (.int m)) (hn : 0 < ws.length) (hb : b < ws.length)
  (cX:∀ j,j < ws.length -> Fh (Ik tv ws k.1 cm k.2 j) (Ik tv ws k.1 cm k.2 b) = false):Ik tv ws k.1 cm k.2 b = (0,m - 1):=by
 obtain ⟨m0,e0,h1,_,p1,p2⟩ := h.1 k _ hv
 cases e0
 have up:∀ j,j < ws.length -> (Ik tv ws k.1 cm k.2 j).1 = 0 /\ 0 <= (Ik tv ws k.1 cm k.2 j).2 /\ (Ik tv ws k.1 cm k.2 j).2 <= m - 1:=fun j hj=>by
  obtain ⟨w1,o,w2,w3⟩ := Po (tv:=tv) (ws:=ws) (ls:=k.1) (cm:=cm) (q:=k.2) (who:=j)
  rw [w3] at w1 ⊢
  have key:∃ c:Int,Fh (told tv o) (0,c) = false /\ c <= m - 1:=by
   rcases p1 j hj with z | ⟨later,m',z1,z2,z3⟩
   ·exact ⟨0,w1 none z,by omega⟩
   ·have:=w1 _ z1
    rw [Ey z2] at this
    exact ⟨m',this,z3⟩
  obtain ⟨c,c1,c2⟩ := key
  unfold Fh at c1
  have c3:=of_decide_eq_false c1
  rcases Fp h o with ⟨_,e⟩ | ⟨_,m',_,_,e1,e⟩ | e
  ·rw [e]
   exact ⟨rfl,Int.le_refl _,by show (0:Int) <= m - 1; omega⟩
  ·rw [e] at c3 ⊢
   have c4:¬ ((0:Int) < 0 \/ ((0:Int) = 0 /\ c < m')):=c3
   exact ⟨rfl,by show (0:Int) <= m'; omega,by show m' <= m - 1; omega⟩
  ·rw [e] at c3
   have c4:¬ ((0:Int) < 1 \/ ((1:Int) = 0 /\ c < 0)):=c3
   omega
 have low:∃ j,j < ws.length /\ m - 1 <= (Ik tv ws k.1 cm k.2 j).2:=by
  rcases p2 with z | ⟨who,z1,z2,z3⟩
  ·exact ⟨0,hn,by have:=up 0 hn; omega⟩
  ·refine ⟨who,z1,?_⟩
   have u:=up who z1
   obtain ⟨_,o,w2,w3⟩ := Po (tv:=tv) (ws:=ws) (ls:=k.1) (cm:=cm) (q:=k.2) (who:=who)
   rw [w3] at u ⊢
   rcases Fp h o with ⟨e0,e⟩ | ⟨l,m',e0,e2,e1,e⟩ | e
   ·rw [e0] at w2
    exact absurd w2 z2
   ·rw [e0] at w2
    have:=z3 l m' w2 e2
    rw [e]
    exact this
   ·rw [e] at u
    simp only at u
    omega
 obtain ⟨j,j1,j2⟩ := low
 have u:=up j j1
 have ub:=up b hb
 have g:=cX j j1
 unfold Fh at g
 have g':=of_decide_eq_false g
 refine Prod.ext ub.1 ?_
 show (Ik tv ws k.1 cm k.2 b).2 = m - 1
 omega
def g8 (tv:List ((List Int × Int) × V)) (k:List Int × Int) (o:Option (List Int × Int)):Prop:=(Ae tv k = none -> ∃ b,o = some b /\ Ae tv b = none) /\ ∀ m:Int,Ae tv k = some (.int m) -> (o = none -> m = 1) /\ ∀ (b:List Int × Int) (m':Int),o = some b -> Ae tv b = some (.int m') -> m - 1 <= m'
theorem Xx {ws:List Int} {cm:Option Int} {tv:List ((List Int × Int) × V)} (h:Dj ws cm tv) {o:Option (List Int × Int)} (e:told tv o = (1,0)):∃ b,o = some b /\ Ae tv b = none:=by
 cases o with
 | none=>cases e
 | some b =>
  refine ⟨b,rfl,?_⟩
  cases hv:Ae tv b with
  | none=>rfl
  | some v =>
   obtain ⟨m,e1,_⟩ := h.1 b v hv
   subst e1
   rw [Ey hv] at e
   cases e
theorem c6 {ws:List Int} {cm:Option Int} {tv:List ((List Int × Int) × V)} {k:List Int × Int} {j:Nat} {o:Option (List Int × Int)} (h:Dj ws cm tv) (hk:k ∈ Ao ws (qv cm)) (hn:0 < ws.length) (hb:Hc (fun i=>Ik tv ws k.1 cm k.2 i) ws.length j) (ho:o ∈ Au ws k.1 cm k.2 j):g8 tv k o:=by
 obtain ⟨w1,o1,w2,w3⟩ := Po (tv:=tv) (ws:=ws) (ls:=k.1) (cm:=cm) (q:=k.2) (who:=j)
 have wo:=w1 o ho
 refine ⟨fun hv=>?_,fun m hv=>?_⟩
 ·obtain ⟨who,y1,y2,y3⟩ := h.2 k hk hv
  obtain ⟨v1,o2,v2,v3⟩ := Po (tv:=tv) (ws:=ws) (ls:=k.1) (cm:=cm) (q:=k.2) (who:=who)
  have e2:told tv o2 = (1,0):=by
   cases o2 with
   | none=>exact absurd v2 y2
   | some b =>
    show Nm (Ae tv b) = _
    rw [y3 b v2]
    rfl
  have cX:=hb.2.1 who y1
  simp only at cX
  rw [v3,e2] at cX
  refine Xx h ?_
  unfold Fh at cX wo
  have g1:=of_decide_eq_false cX
  have g2:=of_decide_eq_false wo
  rcases Fp h o with ⟨_,e⟩ | ⟨_,m',_,_,e1,e⟩ | e
  ·rw [e] at g2
   simp only at g1 g2
   omega
  ·rw [e] at g2
   simp only at g1 g2
   omega
  ·exact e
 ·obtain ⟨m0,e0,h1,_⟩ := h.1 k _ hv
  cases e0
  have XO:=Wx h hv hn hb.1 hb.2.1
  rw [XO] at wo
  unfold Fh at wo
  have g2:=of_decide_eq_false wo
  refine ⟨fun e=>?_,fun b m' e SO=>?_⟩
  ·subst e
   have e3:told tv none = (0,0):=rfl
   rw [e3] at g2
   have g3:¬ ((0:Int) < 0 \/ ((0:Int) = 0 /\ (0:Int) < m - 1)):=g2
   omega
  ·subst e
   rw [Ey SO] at g2
   have g3:¬ ((0:Int) < 0 \/ ((0:Int) = 0 /\ m' < m - 1)):=g2
   omega
theorem Th (a b:List Int × Int):PyData.eqv (dS a) (dS b) = decide (a = b):=by
 show (PyData.eqvAll (a.1.map PyData.int) (b.1.map PyData.int) && (PyData.eqv (.int a.2) (.int b.2) && true)) = _
 rw [Eo]
 have e:PyData.eqv (.int a.2) (.int b.2) = decide (a.2 = b.2):=by
  show (a.2 == b.2) = _
  rw [Bool.eq_iff_iff]
  simp
 rw [e,Bool.and_true,Bool.eq_iff_iff]
 simp [Prod.ext_iff]
def Je (o:Option HO):Nat:=match o with
 | some (.lst vs)=>vs.length
 | _=>0
def Fa (o:Option HO):Nat:=match o with
 | some (.dT wv)=>wv.length
 | _=>0
theorem Oy {α:Type} {xs:List α} (h:0 < xs.length):∃ y,xs[xs.length - 1]? = some y:=⟨xs[xs.length - 1],List.getElem?_eq_getElem (by omega)⟩
theorem Ad.take {α:Type} {P:α -> V -> Prop} {rs:List α} {vs:List V} (h:Ad P rs vs) (n:Nat):Ad P (rs.take n) (vs.take n):=by
 refine ⟨by rw [List.length_take,List.length_take,h.1],fun i r v e1 e2=>?_⟩
 rcases Nat.lt_or_ge i n with z | z
 ·rw [List.getElem?_take_of_lt z] at e1 e2
  exact h.2 i r v e1 e2
 ·rw [List.getElem?_take_eq_none z] at e1
  cases e1
inductive nt (ws:List Int) (cm:Option Int) (tv:List ((List Int × Int) × V)):(List Int × Int) -> Prop
 | base:nt ws cm tv (ws,0)
 | step {k k':List Int × Int} {j:Nat}:nt ws cm tv k -> Hc (fun i=>Ik tv ws k.1 cm k.2 i) ws.length j -> some k' ∈ Au ws k.1 cm k.2 j -> nt ws cm tv k'
def Sf (ws:List Int) (cm:Option Int) (tv:List ((List Int × Int) × V)) (k:List Int × Int):Prop:=k ∈ Ao ws (qv cm) /\ Ae tv k = none /\ nt ws cm tv k
structure Ps (ws:List Int) (cm:Option Int) (tv cv:List ((List Int × Int) × V)) (E:List (List Int × Int)):Prop where
 nd:(cv.map (·.1)).Nodup
 sf:∀ k ∈ E,Sf ws cm tv k
 ent:∀ kv ∈ cv,Sf ws cm tv kv.1 /\ ∃ j:Nat,kv.2 = .int (j:Int) /\ Hc (fun i=>Ik tv ws kv.1.1 cm kv.1.2 i) ws.length j /\ ∀ o ∈ Au ws kv.1.1 cm kv.1.2 j,∃ k',o = some k' /\ (k' ∈ cv.map (·.1) \/ k' ∈ E)
 xI:(ws,0) ∈ cv.map (·.1) \/ (ws,0) ∈ E
theorem Ps.len {ws:List Int} {cm:Option Int} {tv cv:List ((List Int × Int) × V)} {E:List (List Int × Int)} (h:Ps ws cm tv cv E) (aC:Cm ws cm):cv.length <= 300:=by
 have h1:=List.Nodup.length_le_of_subset h.nd (show cv.map (·.1) ⊆ Ao ws (qv cm) from fun k hk=>by
  obtain ⟨kv,aG,rfl⟩ := List.mem_map.mp hk
  exact (h.ent kv aG).1.1)
 have h2:=Ff (ws:=ws) (q:=qv cm) (fun w hw=>(aC.1 w hw).1) (by have:=aC.qv.1; omega)
 have h3:=aC.2.2.2.2
 rw [List.length_map] at h1
 omega
theorem Ps.start {ws:List Int} {cm:Option Int} {tv:List ((List Int × Int) × V)} (h:Sf ws cm tv (ws,0)):Ps ws cm tv [] [(ws,0)]:=⟨List.nodup_nil,fun k hk=>by cases List.mem_singleton.mp hk; exact h,(fun kv aG=>by cases aG),.inr (List.mem_singleton.mpr rfl)⟩
theorem Ps.skip {ws:List Int} {cm:Option Int} {tv cv:List ((List Int × Int) × V)} {E:List (List Int × Int)} {k:List Int × Int} (h:Ps ws cm tv cv (E ++ [k])) (hk:k ∈ cv.map (·.1)):Ps ws cm tv cv E:=by
 have key:∀ x,x ∈ cv.map (·.1) \/ x ∈ E ++ [k] -> x ∈ cv.map (·.1) \/ x ∈ E:=fun x hx=>by
  rcases hx with z | z
  ·exact .inl z
  ·rcases List.mem_append.mp z with y | y
   ·exact .inr y
   ·rw [List.mem_singleton.mp y]
    exact .inl hk
 refine ⟨h.nd,fun x hx=>h.sf x (List.mem_append_left _ hx),fun kv aG=>?_,key _ h.xI⟩
 obtain ⟨h1,j,h2,h3,h4⟩ := h.ent kv aG
 refine ⟨h1,j,h2,h3,fun o ho=>?_⟩
 obtain ⟨k',e,z⟩ := h4 o ho
 exact ⟨k',e,key _ z⟩
theorem Ps.put {ws:List Int} {cm:Option Int} {tv cv:List ((List Int × Int) × V)} {E Eb:List (List Int × Int)} {k:List Int × Int} {j:Nat} (h:Ps ws cm tv cv (E ++ [k])) (hk:Ae cv k = none) (hb:Hc (fun i=>Ik tv ws k.1 cm k.2 i) ws.length j) (he:Au ws k.1 cm k.2 j = Eb.map some) (hs:∀ x ∈ Eb,Sf ws cm tv x):Ps ws cm tv (B8 cv k (.int (j:Int))) (E ++ Eb):=by
 have ep:=Cj (kvs:=cv) (k:=k) (.int (j:Int)) hk
 have key:∀ x,x ∈ cv.map (·.1) \/ x ∈ E ++ [k] -> x ∈ (B8 cv k (.int (j:Int))).map (·.1) \/ x ∈ E ++ Eb:=fun x hx=>by
  rw [ep,List.map_append]
  rcases hx with z | z
  ·exact .inl (List.mem_append_left _ z)
  ·rcases List.mem_append.mp z with y | y
   ·exact .inr (List.mem_append_left _ y)
   ·rw [List.mem_singleton.mp y]
    exact .inl (List.mem_append_right _ (by simp))
 refine ⟨V1 _ h.nd hk,fun x hx=>?_,fun kv aG=>?_,key _ h.xI⟩
 ·rcases List.mem_append.mp hx with y | y
  ·exact h.sf x (List.mem_append_left _ y)
  ·exact hs x y
 ·have oE:=aG
  rw [ep] at oE
  rcases List.mem_append.mp oE with z | z
  ·obtain ⟨h1,i,h2,h3,h4⟩ := h.ent kv z
   refine ⟨h1,i,h2,h3,fun o ho=>?_⟩
   obtain ⟨k',e,y⟩ := h4 o ho
   exact ⟨k',e,key _ y⟩
  ·rw [List.mem_singleton.mp z]
   refine ⟨h.sf k (by simp),j,rfl,hb,fun o ho=>?_⟩
   rw [he] at ho
   obtain ⟨x,hx,rfl⟩ := List.mem_map.mp ho
   exact ⟨x,rfl,.inr (List.mem_append_right _ hx)⟩
def jv (ws:List Int) (cm:Option Int) (tv ps:List ((List Int × Int) × V)):Prop:=Ps ws cm tv ps [] /\ ps.Pairwise fun x y=>Gy (dS x.1) (dS y.1) = true
theorem Ps.perm {ws:List Int} {cm:Option Int} {tv cv ps:List ((List Int × Int) × V)} (h:Ps ws cm tv cv []) (hp:ps.Perm cv):Ps ws cm tv ps []:=by
 have hm:=hp.map (·.1)
 refine ⟨hm.nodup_iff.mpr h.nd,h.sf,fun kv aG=>?_,?_⟩
 ·obtain ⟨h1,j,h2,h3,h4⟩ := h.ent kv (hp.mem_iff.mp aG)
  refine ⟨h1,j,h2,h3,fun o ho=>?_⟩
  obtain ⟨k',e,z⟩ := h4 o ho
  exact ⟨k',e,z.imp (fun y=>hm.mem_iff.mpr y) id⟩
 ·exact h.xI.imp (fun y=>hm.mem_iff.mpr y) id
theorem Zs {ws:List Int} {cm:Option Int} {tv:List ((List Int × Int) × V)} {k:List Int × Int} {j:Nat} (mF:Dj ws cm tv) (aC:Cm ws cm) (h:Sf ws cm tv k) (hb:Hc (fun i=>Ik tv ws k.1 cm k.2 i) ws.length j):∃ Eb:List (List Int × Int),Au ws k.1 cm k.2 j = Eb.map some /\ (∀ x ∈ Eb,Sf ws cm tv x) /\ Eb.length <= 2:=by
 have all:∀ o ∈ Au ws k.1 cm k.2 j,∃ b,o = some b /\ Sf ws cm tv b:=fun o ho=>by
  obtain ⟨b,e,hv⟩ := (c6 mF h.1 aC.2.2.1 hb ho).1 h.2.1
  subst e
  obtain ⟨lost,hl,e2⟩ := Yt.mp ho
  exact ⟨b,rfl,Se (fun w hw=>(aC.1 w hw).1) h.1 hb.1 hl e2,hv,.step h.2.2 hb ho⟩
 have key:∀ l:List (Option (List Int × Int)),(∀ o ∈ l,∃ b,o = some b /\ Sf ws cm tv b) -> ∃ Eb:List (List Int × Int),l = Eb.map some /\ (∀ x ∈ Eb,Sf ws cm tv x):=by
  intro l
  induction l with
  | nil=>exact fun _=>⟨[],rfl,fun x hx=>by cases hx⟩
  | cons o l ih =>
   intro hl
   obtain ⟨Eb,e1,e2⟩ := ih fun o ho=>hl o (List.mem_cons_of_mem _ ho)
   obtain ⟨b,e3,e4⟩ := hl o List.mem_cons_self
   refine ⟨b :: Eb,by rw [e3,e1]; rfl,fun x hx=>?_⟩
   rcases List.mem_cons.mp hx with y | y
   ·rw [y]
    exact e4
   ·exact e2 x y
 obtain ⟨Eb,e1,e2⟩ := key _ all
 refine ⟨Eb,e1,e2,?_⟩
 have hl:Eb.length = (Au ws k.1 cm k.2 j).length:=by rw [e1,List.length_map]
 rw [hl]
 unfold Au
 split <;> simp
theorem Yg {H:Hp} {Eb:List (List Int × Int)} {us:List V} (h:Ad (E5 H) (Eb.map some) us):Ad (E3 H) Eb us:=by
 refine ⟨by rw [h.1,List.length_map],fun i r v e1 e2=>?_⟩
 obtain ⟨b,e3,u,e4,e5⟩ := h.2 i (some r) v (by rw [List.getElem?_map,e1]; rfl) e2
 exact ⟨b,u,e3,e4,e5⟩
theorem Et:∀ xs ys:List Int,aD (xs.map PyData.int) (ys.map PyData.int) = true -> aD (ys.map PyData.int) (xs.map PyData.int) = false
 | [],[],_=>rfl
 | [],y :: ys,h=>rfl
 | x :: xs,[],h=>by simp [aD] at h
 | x :: xs,y :: ys,h=>by
  have e:∀ a b:Int,PyData.eqv (.int a) (.int b) = decide (a = b):=fun a b=>by
   show (a == b) = _
   rw [Bool.eq_iff_iff]
   simp
  rw [List.map_cons,List.map_cons,aD,e] at h ⊢
  by_cases z:x = y
  ·subst z
   rw [if_pos (by simp)] at h ⊢
   exact Et xs ys h
  ·rw [if_neg (by simp; exact z)] at h
   rw [if_neg (by simp; exact fun y=>z y.symm)]
   have h1:x < y:=of_decide_eq_true h
   exact decide_eq_false (by omega)
theorem Rm {a b:List Int × Int} (h:Gy (dS a) (dS b) = true):Gy (dS b) (dS a) = false:=by
 have h':aD [dT a.1,.int a.2] [dT b.1,.int b.2] = true:=h
 show aD [dT b.1,.int b.2] [dT a.1,.int a.2] = false
 rw [aD,Y6] at h' ⊢
 by_cases z:a.1 = b.1
 ·rw [if_pos (by simp [z])] at h' ⊢
  exact Et [a.2] [b.2] h'
 ·rw [if_neg (by simp [z])] at h'
  rw [if_neg (by simp; exact fun y=>z y.symm)]
  exact Et a.1 b.1 h'
theorem Gr {L:List (List Int × Int)} (hs:L.Pairwise fun a b=>Gy (dS a) (dS b) = true) {a b:List Int × Int} (ha:a ∈ L) (hb:b ∈ L):Gy (dS a) (dS b) = decide (L.idxOf a < L.idxOf b):=by
 have la:=List.idxOf_lt_length_of_mem ha
 have lb:=List.idxOf_lt_length_of_mem hb
 have ea:L[L.idxOf a] = a:=List.getElem_idxOf la
 have eb:L[L.idxOf b] = b:=List.getElem_idxOf lb
 have hp:=List.pairwise_iff_getElem.mp hs
 rcases Nat.lt_trichotomy (L.idxOf a) (L.idxOf b) with z | z | z
 ·have:=hp _ _ la lb z
  rw [ea,eb] at this
  rw [this,decide_eq_true z]
 ·have e : a = b := by
   rw [<- ea,<- eb]
   congr 1
  subst e
  rw [decide_eq_false (Nat.lt_irrefl _)]
  exact V7 a
 ·have:=hp _ _ lb la z
  rw [ea,eb] at this
  rw [Rm this,decide_eq_false (by omega)]
theorem Ov (j:Int):aD [PyData.int j] [PyData.int j] = false:=by
 rw [aD,if_pos (show PyData.eqv (.int j) (.int j) = true from PySem.SeqAt.eqv_refl _ rfl)]
 rfl
def Hm (kv:(List Int × Int) × V):PyData:=match kv.2 with
 | .int i=>.int i
 | _=>.none
theorem Uc {ws:List Int} {cm:Option Int} {tv cv:List ((List Int × Int) × V)} (h:Ps ws cm tv cv []):∀ a ∈ cv,∀ b ∈ cv,Tt (Hd Hm a) (Hd Hm b) /\ Gy (Hd Hm a) (Hd Hm b) = decide ((Ao ws (qv cm)).idxOf a.1 < (Ao ws (qv cm)).idxOf b.1):=fun a ha b hb=>by
 obtain ⟨⟨a1,_⟩,i,ei,_⟩ := h.ent a ha
 obtain ⟨⟨b1,_⟩,j,ej,_⟩ := h.ent b hb
 have wa:Hm a = .int i:=by unfold Hm; rw [ei]
 have wb:Hm b = .int j:=by unfold Hm; rw [ej]
 have cs:∀ x y:List Int,aK (x.map PyData.int) (y.map PyData.int):=by
  intro x
  induction x with
  | nil=>intro y; unfold aK; trivial
  | cons u x ih =>
   intro y
   cases y with
   | nil=>unfold aK; trivial
   | cons v y=>exact ⟨trivial,ih y⟩
 refine ⟨?_,?_⟩
 ·show Hs [dS a.1,Hm a] [dS b.1,Hm b]
  rw [wa,wb]
  exact Py ⟨⟨cs _ _,trivial,trivial⟩,trivial,trivial⟩
 ·show aD [dS a.1,Hm a] [dS b.1,Hm b] = _
  rw [aD,Th,wa,wb]
  by_cases z:a.1 = b.1
  ·rw [if_pos (by simp [z])]
   have e:a = b:=by
    obtain ⟨ka,va⟩ := a
    obtain ⟨kb,vb⟩ := b
    have z':ka = kb:=z
    subst z'
    have h1:=Cc h.nd ha
    have h2:=Cc h.nd hb
    rw [h1] at h2
    rw [Option.some.inj h2]
   subst e
   have eij:(i:Int) = j:=by
    rw [ei] at ej
    injection ej
   rw [eij,decide_eq_false (Nat.lt_irrefl _)]
   exact Ov j
  ·rw [if_neg (by simp [z])]
   exact Gr (Di ws (qv cm)) a1 b1
theorem bj {ws:List Int} {cm:Option Int} {tv cv ps:List ((List Int × Int) × V)} (h:Ps ws cm tv cv []) (hp:ps.Perm cv) (hs:ps.Pairwise fun x y=>(Ao ws (qv cm)).idxOf x.1 <= (Ao ws (qv cm)).idxOf y.1):jv ws cm tv ps:=by
 have h':=h.perm hp
 refine ⟨h',?_⟩
 have hn:=List.pairwise_map.mp h'.nd
 refine List.Pairwise.imp_of_mem (fun {x y} hx hy z=>?_) (hs.and hn)
 have mX:=(h'.ent x hx).1.1
 have IG:=(h'.ent y hy).1.1
 rw [Gr (Di ws (qv cm)) mX IG]
 refine decide_eq_true (Nat.lt_of_le_of_ne z.1 fun e=>z.2 ?_)
 have lx:=List.idxOf_lt_length_of_mem mX
 have ly:=List.idxOf_lt_length_of_mem IG
 rw [<- List.getElem_idxOf lx,<- List.getElem_idxOf ly]
 congr 1
theorem Lc {H:Hp}:∀ {ps:List ((List Int × Int) × V)} {us:List V},Paired (ng H) ps us -> Ad (ng H) ps us
 | _,_,.nil=>Ad.nil
 | _,_,.cons r t=>Ad.cons r (Lc t)
theorem eh {i:Nat} {v:V} {σ:L2.St} {H:Hp} {Q:L2.St -> Hp -> Prop} (h:Q (List.set σ i (some v)) H):Fd i v σ H Q:=h
theorem g7 {c:TT} {tb u:TS} {D:Hn} {σ:L2.St} {H:Hp} (h:Pg c tb { D with nx:=u D } σ H):n8 (Pg c tb) u D σ H:=h
theorem li {H:Hp} {b:Addr} {k:List Int × Int} (h:Dt H b k):Rp H (dS k) (.ref b):=by
 obtain ⟨u,h1,h2⟩ := h
 exact Vi h1 (Za h2) (by unfold Rp; rfl)
theorem ee (a b:List Int × Int):Gc (dS a) (dS b):=by
 have cs:∀ x y:List Int,aK (x.map PyData.int) (y.map PyData.int):=by
  intro x
  induction x with
  | nil=>intro y; unfold aK; trivial
  | cons u x ih =>
   intro y
   cases y with
   | nil=>unfold aK; trivial
   | cons v y=>exact ⟨trivial,ih y⟩
 exact ⟨cs _ _,trivial,trivial⟩
def Gz (tv:List ((List Int × Int) × V)) (ws ls:List Int) (cm:Option Int) (q:Int):List Bool:=(List.range ws.length).map fun w=>Da tv ws ls cm q w
theorem Gb (tv:List ((List Int × Int) × V)) (ws ls:List Int) (cm:Option Int) (q:Int):(Gz tv ws ls cm q).length = ws.length:=by unfold Gz; rw [List.length_map,List.length_range]
theorem Uo {tv:List ((List Int × Int) × V)} {ws ls:List Int} {cm:Option Int} {q:Int} {i:Nat} (h:i < ws.length):(Gz tv ws ls cm q)[i]? = some (Da tv ws ls cm q i):=by
 unfold Gz
 rw [List.getElem?_map,List.getElem?_range h]
 rfl
def N6 (tv:List ((List Int × Int) × V)) (ws:List Int) (cm:Option Int) (k:List Int × Int) (who:Nat):Option (List Int × Int):=D0 ws k.1 cm k.2 who (Da tv ws k.1 cm k.2 who)
inductive bg (ws:List Int) (cm:Option Int) (tv:List ((List Int × Int) × V)):(List Int × Int) -> Prop
 | base:bg ws cm tv (ws,0)
 | step {k k':List Int × Int} {j:Nat}:bg ws cm tv k -> j < ws.length -> N6 tv ws cm k j = some k' -> bg ws cm tv k'
def Uf (ws:List Int) (cm:Option Int) (tv:List ((List Int × Int) × V)) (k:List Int × Int):Prop:=k ∈ Ao ws (qv cm) /\ (∃ m:Int,Ae tv k = some (.int m)) /\ bg ws cm tv k
structure Q8 (ws:List Int) (cm:Option Int) (tv cv:List ((List Int × Int) × V)) (E:List (List Int × Int)):Prop where
 nd:(cv.map (·.1)).Nodup
 sf:∀ k ∈ E,Uf ws cm tv k
 ent:∀ kv ∈ cv,Uf ws cm tv kv.1 /\ ∀ j k',j < ws.length -> N6 tv ws cm kv.1 j = some k' -> k' ∈ cv.map (·.1) \/ k' ∈ E
 xI:(ws,0) ∈ cv.map (·.1) \/ (ws,0) ∈ E
theorem Q8.len {ws:List Int} {cm:Option Int} {tv cv:List ((List Int × Int) × V)} {E:List (List Int × Int)} (h:Q8 ws cm tv cv E) (aC:Cm ws cm):cv.length <= 300:=by
 have h1:=List.Nodup.length_le_of_subset h.nd (show cv.map (·.1) ⊆ Ao ws (qv cm) from fun k hk=>by
  obtain ⟨kv,aG,rfl⟩ := List.mem_map.mp hk
  exact (h.ent kv aG).1.1)
 have h2:=Ff (ws:=ws) (q:=qv cm) (fun w hw=>(aC.1 w hw).1) (by have:=aC.qv.1; omega)
 have h3:=aC.2.2.2.2
 rw [List.length_map] at h1
 omega
theorem Q8.start {ws:List Int} {cm:Option Int} {tv:List ((List Int × Int) × V)} (h:Uf ws cm tv (ws,0)):Q8 ws cm tv [] [(ws,0)]:=⟨List.nodup_nil,fun k hk=>by cases List.mem_singleton.mp hk; exact h,(fun kv aG=>by cases aG),.inr (List.mem_singleton.mpr rfl)⟩
theorem Q8.skip {ws:List Int} {cm:Option Int} {tv cv:List ((List Int × Int) × V)} {E:List (List Int × Int)} {k:List Int × Int} (h:Q8 ws cm tv cv (E ++ [k])) (hk:k ∈ cv.map (·.1)):Q8 ws cm tv cv E:=by
 have key:∀ x,x ∈ cv.map (·.1) \/ x ∈ E ++ [k] -> x ∈ cv.map (·.1) \/ x ∈ E:=fun x hx=>by
  rcases hx with z | z
  ·exact .inl z
  ·rcases List.mem_append.mp z with y | y
   ·exact .inr y
   ·rw [List.mem_singleton.mp y]
    exact .inl hk
 exact ⟨h.nd,fun x hx=>h.sf x (List.mem_append_left _ hx),fun kv aG=>⟨(h.ent kv aG).1,fun j k' h1 h2=>key _ ((h.ent kv aG).2 j k' h1 h2)⟩,key _ h.xI⟩
theorem Q8.put {ws:List Int} {cm:Option Int} {tv cv:List ((List Int × Int) × V)} {E:List (List Int × Int)} {k:List Int × Int} {v:V} (h:Q8 ws cm tv cv (E ++ [k])) (hk:Ae cv k = none) (hs:∀ x ∈ (List.range ws.length).filterMap (N6 tv ws cm k),Uf ws cm tv x):Q8 ws cm tv (B8 cv k v) (E ++ (List.range ws.length).filterMap (N6 tv ws cm k)):=by
 have ep:=Cj (kvs:=cv) (k:=k) v hk
 have key:∀ x,x ∈ cv.map (·.1) \/ x ∈ E ++ [k] -> x ∈ (B8 cv k v).map (·.1) \/ x ∈ E ++ (List.range ws.length).filterMap (N6 tv ws cm k):=fun x hx=>by
  rw [ep,List.map_append]
  rcases hx with z | z
  ·exact .inl (List.mem_append_left _ z)
  ·rcases List.mem_append.mp z with y | y
   ·exact .inr (List.mem_append_left _ y)
   ·rw [List.mem_singleton.mp y]
    exact .inl (List.mem_append_right _ (by simp))
 refine ⟨V1 _ h.nd hk,fun x hx=>?_,fun kv aG=>?_,key _ h.xI⟩
 ·rcases List.mem_append.mp hx with y | y
  ·exact h.sf x (List.mem_append_left _ y)
  ·exact hs x y
 ·have oE:=aG
  rw [ep] at oE
  rcases List.mem_append.mp oE with z | z
  ·exact ⟨(h.ent kv z).1,fun j k' h1 h2=>key _ ((h.ent kv z).2 j k' h1 h2)⟩
  ·rw [List.mem_singleton.mp z]
   exact ⟨h.sf k (by simp),fun j k' h1 h2=>.inr (List.mem_append_right _ (List.mem_filterMap.mpr ⟨j,List.mem_range.mpr h1,h2⟩))⟩
theorem Q8.perm {ws:List Int} {cm:Option Int} {tv cv ps:List ((List Int × Int) × V)} (h:Q8 ws cm tv cv []) (hp:ps.Perm cv):Q8 ws cm tv ps []:=by
 have hm:=hp.map (·.1)
 exact ⟨hm.nodup_iff.mpr h.nd,h.sf,fun kv aG=>⟨(h.ent kv (hp.mem_iff.mp aG)).1,fun j k' h1 h2=>((h.ent kv (hp.mem_iff.mp aG)).2 j k' h1 h2).imp (fun y=>hm.mem_iff.mpr y) id⟩,h.xI.imp (fun y=>hm.mem_iff.mpr y) id⟩
theorem Nk {tv:List ((List Int × Int) × V)} {ws ls:List Int} {cm:Option Int} {q:Int} {who:Nat}:Ub cm q (Da tv ws ls cm q who):=fun h=>by
 have h1:Dq cm q = true:=by
  unfold Da at h
  exact (Bool.and_eq_true_iff.mp h).1
 unfold Dq at h1
 simpa using h1
theorem i4 {ws:List Int} {cm:Option Int} {tv:List ((List Int × Int) × V)} {k:List Int × Int} (mF:Dj ws cm tv) (aC:Cm ws cm) (h:Uf ws cm tv k):∀ x ∈ (List.range ws.length).filterMap (N6 tv ws cm k),Uf ws cm tv x:=fun x hx=>by
 obtain ⟨j,hj,e⟩ := List.mem_filterMap.mp hx
 have mY:=List.mem_range.mp hj
 obtain ⟨m,hm⟩ := h.2.1
 obtain ⟨m',dB,_⟩ := R8 mF hm mY e
 refine ⟨Se (fun w hw=>(aC.1 w hw).1) h.1 mY ?_ e,⟨m',dB⟩,.step h.2.2 mY e⟩
 have lY:=Nk (tv:=tv) (ws:=ws) (ls:=k.1) (cm:=cm) (q:=k.2) (who:=j)
 unfold Ol
 cases e2:Da tv ws k.1 cm k.2 j with
 | false=>split <;> simp
 | true =>
  obtain ⟨a1,a2⟩ := lY e2
  have h1:Dq cm k.2 = true:=by
   unfold Dq
   simp [a1,a2]
  first
   | (rw [if_pos h1]; simp)
   | (split
      ·simp
      ·exact absurd (by simpa [Dq] using h1) (by assumption))
def K2 (tv:List ((List Int × Int) × V)) (ws:List Int) (cm:Option Int) (H:Hp) (kv:(List Int × Int) × V) (u:V):Prop := ∃ (p b t:Addr) (m:Int),u = .ref p /\ H p = some (.tup [.ref b,.int m,.ref t]) /\ Dt H b kv.1 /\ Ae tv kv.1 = some (.int m) /\ kv.2 = .ref t /\ H t = some (.tup ((Gz tv ws kv.1.1 cm kv.1.2).map V.bl))
theorem K2.up {tv:List ((List Int × Int) × V)} {ws:List Int} {cm:Option Int} {H H':Hp} {kv:(List Int × Int) × V} {u:V} (s:Af H H') (h:K2 tv ws cm H kv u):K2 tv ws cm H' kv u:=by
 obtain ⟨p,b,t,m,h1,h2,h3,h4,h5,h6⟩ := h
 exact ⟨p,b,t,m,h1,s _ _ h2,h3.up s,h4,h5,s _ _ h6⟩
def nn (tv:List ((List Int × Int) × V)) (k:List Int × Int):Int:=match Ae tv k with
 | some (.int m)=>m
 | _=>0
def Jl (tv:List ((List Int × Int) × V)) (ws:List Int) (cm:Option Int) (kv:(List Int × Int) × V):PyData := .tuple [dS kv.1,.int (nn tv kv.1),.tuple ((Gz tv ws kv.1.1 cm kv.1.2).map PyData.bool)]
theorem Rs {H:Hp}:∀ l:List Bool,aB H (l.map PyData.bool) (l.map V.bl)
 | []=>by unfold aB; rfl
 | x :: l=>by
  show aB H (PyData.bool x :: l.map PyData.bool) (V.bl x :: l.map V.bl)
  unfold aB
  exact ⟨_,_,rfl,kr x,Rs l⟩
theorem K2.rp {tv:List ((List Int × Int) × V)} {ws:List Int} {cm:Option Int} {H:Hp} {kv:(List Int × Int) × V} {u:V} (h:K2 tv ws cm H kv u):Rp H (Jl tv ws cm kv) u:=by
 obtain ⟨p,b,t,m,rfl,h2,h3,h4,h5,h6⟩ := h
 have e:nn tv kv.1 = m:=by unfold nn; rw [h4]
 unfold Jl
 rw [e]
 unfold Rp
 refine ⟨p,_,rfl,h2,?_⟩
 unfold aB
 refine ⟨_,_,rfl,li h3,?_⟩
 unfold aB
 refine ⟨_,_,rfl,G0 m,?_⟩
 unfold aB
 refine ⟨_,_,rfl,?_,?_⟩
 ·unfold Rp
  exact ⟨t,_,rfl,h6,Rs _⟩
 ·unfold aB
  rfl
theorem S8 (tv:List ((List Int × Int) × V)) (ws:List Int) (cm:Option Int) (kv:(List Int × Int) × V):(Jl tv ws cm kv).depth <= 50:=by
 have hb:∀ l:List Bool,PyData.depthAll (l.map PyData.bool) = 0:=by
  intro l
  induction l with
  | nil=>rfl
  | cons x l ih=>simp only [List.map_cons,PyData.depthAll,PyData.depth,ih]; rfl
 unfold Jl
 simp only [PyData.depth,PyData.depthAll,Qi,hb]
 omega
theorem Jo:∀ l:List PyData,PyData.canLayAll0 l = true -> aD l l = false
 | [],_=>rfl
 | x :: l,h=>by
  have h1:x.canLay0 = true /\ PyData.canLayAll0 l = true:=by simpa [PyData.canLayAll0] using h
  rw [aD,if_pos (PySem.SeqAt.eqv_refl x h1.1)]
  exact Jo l h1.2
theorem O0:∀ l:List PyData,PyData.canLayAll0 l = true -> Hs l l
 | [],_=>by unfold Hs; trivial
 | x :: l,h=>by
  have h1:x.canLay0 = true /\ PyData.canLayAll0 l = true:=by simpa [PyData.canLayAll0] using h
  unfold Hs
  rw [if_pos (PySem.SeqAt.eqv_refl x h1.1)]
  exact O0 l h1.2
theorem Wn {ws:List Int} {cm:Option Int} {tv:List ((List Int × Int) × V)} {H:Hp} {a b:(List Int × Int) × V} {u:V} (hr:Rp H (Jl tv ws cm a) u) (ha:a.1 ∈ Ao ws (qv cm)) (hb:b.1 ∈ Ao ws (qv cm)):Tt (Jl tv ws cm a) (Jl tv ws cm b) /\ Gy (Jl tv ws cm a) (Jl tv ws cm b) = decide ((Ao ws (qv cm)).idxOf a.1 < (Ao ws (qv cm)).idxOf b.1):=by
 by_cases z:a.1 = b.1
 ·have e:Jl tv ws cm b = Jl tv ws cm a:=by unfold Jl; rw [z]
  have hc:PyData.canLayAll0 [dS a.1,.int (nn tv a.1),.tuple ((Gz tv ws a.1.1 cm a.1.2).map PyData.bool)] = true:=Cu _ _ hr
  rw [e,z,decide_eq_false (Nat.lt_irrefl _)]
  exact ⟨O0 _ hc,Jo _ hc⟩
 ·refine ⟨?_,?_⟩
  ·show Hs (dS a.1 :: _) (dS b.1 :: _)
   unfold Hs
   rw [Th,if_neg (by simp [z])]
   exact ee _ _
  ·show aD (dS a.1 :: _) (dS b.1 :: _) = _
   rw [aD,Th,if_neg (by simp [z])]
   exact Gr (Di ws (qv cm)) ha hb
def Xh (ws:List Int) (cm:Option Int) (tv ps:List ((List Int × Int) × V)):Prop:=Q8 ws cm tv ps [] /\ ps.Pairwise fun x y=>Gy (dS x.1) (dS y.1) = true
theorem Xb {ws:List Int} {cm:Option Int} {tv cv ps:List ((List Int × Int) × V)} (h:Q8 ws cm tv cv []) (hp:ps.Perm cv) (hs:ps.Pairwise fun x y=>(Ao ws (qv cm)).idxOf x.1 <= (Ao ws (qv cm)).idxOf y.1):Xh ws cm tv ps:=by
 have h':=h.perm hp
 refine ⟨h',?_⟩
 have hn:=List.pairwise_map.mp h'.nd
 refine List.Pairwise.imp_of_mem (fun {x y} hx hy z=>?_) (hs.and hn)
 have mX:=(h'.ent x hx).1.1
 have IG:=(h'.ent y hy).1.1
 rw [Gr (Di ws (qv cm)) mX IG]
 refine decide_eq_true (Nat.lt_of_le_of_ne z.1 fun e=>z.2 ?_)
 have lx:=List.idxOf_lt_length_of_mem mX
 have ly:=List.idxOf_lt_length_of_mem IG
 rw [<- List.getElem_idxOf lx,<- List.getElem_idxOf ly]
 congr 1
theorem Md {H:Hp} {D:Addr} {o:HO} {u:HO} (h:H D = some u) (hu:∀ xs,u ≠ .tup xs):Af H (upd H D o):=fun b xs e=>by
 rw [Ac (fun z=>by rw [z,h] at e; exact hu xs (Option.some.inj e))]
 exact e
theorem c9 {H:Hp} {l:Addr} (h:H l = some (.lst [])):Rp H (.list []) (.ref l):=by
 unfold Rp
 refine ⟨l,_,rfl,h,?_⟩
 unfold aB
 rfl
theorem Y3 (rs:List (List Int × Int)):(!PyData.eqv (.list (rs.map dS)) (.list [])) = decide (0 < rs.length):=by
 cases rs with
 | nil=>rfl
 | cons r rs=>rfl
theorem V8 (ws ls:List Int) (cm:Option Int) (q:Int) (who:Nat):(Au ws ls cm q who).length <= 2:=by
 unfold Au
 split <;> simp
theorem Ki {kvs:List ((List Int × Int) × V)} {k:List Int × Int} {v:V} (h:Ae kvs k = some v):k ∈ kvs.map (·.1):=by
 unfold Ae at h
 obtain ⟨p,hp,_⟩ := Option.map_eq_some_iff.mp h
 have h1:=List.find?_some hp
 have h2:=List.mem_of_find?_eq_some hp
 have h3:p.1 = k:=by simpa using h1
 rw [<- h3]
 exact List.mem_map_of_mem h2
theorem Hk {kvs:List ((List Int × Int) × V)} {k:List Int × Int}:(Ae kvs k).isSome = true ↔ k ∈ kvs.map (·.1):=by
 constructor
 ·intro h
  obtain ⟨v,e⟩ := Option.isSome_iff_exists.mp h
  exact Ki e
 ·intro h
  cases e:Ae kvs k with
  | some v=>rfl
  | none =>
   obtain ⟨p,hp,rfl⟩ := List.mem_map.mp h
   unfold Ae at e
   have e':kvs.find? (fun kv=>decide (kv.1 = p.1)) = none:=by simpa using e
   have:=List.find?_eq_none.mp e' p hp
   simp at this
def ni (H:Hp) (q:(List Int × Int) × V) (u:V):Prop := ∃ t b,u = .ref t /\ H t = some (.tup [.ref b,q.2]) /\ Dt H b q.1
theorem Yk {H H':Hp} {b:Addr} {k:List Int × Int} (s:A9 H H') (h:Dt H b k):Dt H' b k:=h.up fun c xs e=>s c _ e
abbrev Kq:=(List Int × Int) × Int
def PQ (H:Hp) (p:Kq) (u:V):Prop:=ni H (p.1,.int p.2) u
theorem PQ.up {H H':Hp} {p:Kq} {u:V} (s:Af H H') (h:PQ H p u):PQ H' p u:=by
 obtain ⟨t,b,e,h1,h2⟩ := h
 exact ⟨t,b,e,s _ _ h1,h2.up s⟩
def Dd (ps:List Kq):List ((List Int × Int) × V):=ps.map fun p=>(p.1,V.int p.2)
theorem Dy (ps:List Kq):(Dd ps).map (·.1) = ps.map (·.1):=by
 unfold Dd
 rw [List.map_map]
 rfl
theorem K9 (ps:List Kq):(Dd ps).length = ps.length:=by
 unfold Dd
 rw [List.length_map]
theorem Mc (ps:List Kq) (p:Kq):Dd (ps ++ [p]) = Dd ps ++ [(p.1,V.int p.2)]:=by
 unfold Dd
 rw [List.map_append]
 rfl
def d0 (n:Nat) (ps:List Kq):Prop:=(∀ p ∈ ps,p.1.1.length = n) /\ ps.length <= 2000
def Uj (ws:List Int) (cm:Option Int) (ps:List Kq):Prop:=(ps.map (·.1)).Nodup /\ (ws,0) ∈ ps.map (·.1) /\ ∀ p ∈ ps,0 <= p.2 /\ p.2 < (ws.length:Int) /\ ∀ b ∈ Au ws p.1.1 cm p.1.2 p.2.toNat,∃ k,b = some k /\ k ∈ ps.map (·.1)
theorem Ew (kvs:List ((List Int × Int) × V)) (k:List Int × Int) (v:V):(B8 kvs k v).map (·.1) = if k ∈ kvs.map (·.1) then kvs.map (·.1) else kvs.map (·.1) ++ [k]:=by
 by_cases h:k ∈ kvs.map (·.1)
 ·rw [if_pos h]
  have ha:(kvs.any fun kv=>decide (kv.1 = k)) = true:=by
   obtain ⟨p,hp,e⟩ := List.mem_map.mp h
   exact List.any_eq_true.mpr ⟨p,hp,decide_eq_true e⟩
  unfold B8
  rw [if_pos ha,List.map_map]
  refine List.map_congr_left fun p _=>?_
  show (if p.1 = k then (p.1,v) else p).1 = p.1
  split <;> rfl
 ·rw [if_neg h, Cj v (by
   cases e:Ae kvs k with
   | none=>rfl
   | some w=>exact absurd (Ki e) h),List.map_append]
  rfl
theorem Va:∀ (qs kvs:List ((List Int × Int) × V)) (k:List Int × Int),k ∈ (Bv kvs qs).map (·.1) ↔ k ∈ kvs.map (·.1) \/ k ∈ qs.map (·.1)
 | [],kvs,k=>by
  show k ∈ kvs.map (·.1) ↔ _
  simp
 | q :: qs,kvs,k=>by
  show k ∈ (Bv (B8 kvs q.1 q.2) qs).map (·.1) ↔ _
  rw [Va qs,Ew,List.map_cons,List.mem_cons]
  split
  ·rename_i h
   constructor
   ·rintro (z | z)
    ·exact .inl z
    ·exact .inr (.inr z)
   ·rintro (z | z | z)
    ·exact .inl z
    ·rw [z]
     exact .inl h
    ·exact .inr z
  ·rw [List.mem_append,List.mem_singleton]
   constructor
   ·rintro ((z | z) | z)
    ·exact .inl z
    ·exact .inr (.inl z)
    ·exact .inr (.inr z)
   ·rintro (z | z | z)
    ·exact .inl (.inl z)
    ·exact .inl (.inr z)
    ·exact .inr z
theorem Vo:∀ (qs kvs:List ((List Int × Int) × V)),(Bv kvs qs).length = kvs.length + qs.length -> (qs.map (·.1)).Nodup /\ ∀ k ∈ qs.map (·.1),k ∉ kvs.map (·.1)
 | [],kvs,_=>⟨List.nodup_nil,fun k hk=>by cases hk⟩
 | q :: qs,kvs,h=>by
  have h':(Bv (B8 kvs q.1 q.2) qs).length = kvs.length + (qs.length + 1):=h
  have h1:=Fs qs (B8 kvs q.1 q.2)
  have hl:(B8 kvs q.1 q.2).length = if q.1 ∈ kvs.map (·.1) then kvs.length else kvs.length + 1:=by
   have:=congrArg List.length (Ew kvs q.1 q.2)
   rw [List.length_map] at this
   rw [this]
   split
   ·rw [List.length_map]
   ·rw [List.length_append,List.length_map]
    rfl
  by_cases hq:q.1 ∈ kvs.map (·.1)
  ·rw [if_pos hq] at hl
   omega
  rw [if_neg hq] at hl
  obtain ⟨h2,h3⟩ := Vo qs (B8 kvs q.1 q.2) (by omega)
  rw [Ew,if_neg hq] at h3
  refine ⟨?_,fun k hk=>?_⟩
  ·rw [List.map_cons,List.nodup_cons]
   exact ⟨fun z=>h3 _ z (by simp),h2⟩
  ·rw [List.map_cons,List.mem_cons] at hk
   rcases hk with z | z
   ·rw [z]
    exact hq
   ·exact fun y=>h3 k z (List.mem_append_left _ y)
theorem Ru:∀ (qs kvs:List ((List Int × Int) × V)),(qs.map (·.1)).Nodup -> (∀ k ∈ qs.map (·.1),k ∉ kvs.map (·.1)) -> (Bv kvs qs).length = kvs.length + qs.length
 | [],kvs,_,_=>rfl
 | q :: qs,kvs,h,g=>by
  rw [List.map_cons,List.nodup_cons] at h
  have hq:q.1 ∉ kvs.map (·.1):=g q.1 (by simp)
  show (Bv (B8 kvs q.1 q.2) qs).length = _
  rw [Ru qs _ h.2 (fun k hk=>?_)]
  ·have:=congrArg List.length (Ew kvs q.1 q.2)
   rw [List.length_map,if_neg hq,List.length_append,List.length_map] at this
   rw [this,List.length_cons]
   simp only [List.length_cons,List.length_nil]
   omega
  ·rw [Ew,if_neg hq,List.mem_append,List.mem_singleton]
   rintro (z | z)
   ·exact g k (by rw [List.map_cons]; exact List.mem_cons_of_mem _ hk) z
   ·rw [z] at hk
    exact h.1 hk
theorem Vp (ps:List Kq):(Bv [] (Dd ps)).length < ps.length ↔ ¬ (ps.map (·.1)).Nodup:=by
 have h1:=Fs (Dd ps) []
 have e:=K9 ps
 constructor
 ·intro h hn
  have:=Ru (Dd ps) [] (by rw [Dy]; exact hn) (fun k _ z=>by cases z)
  simp only [List.length_nil] at this
  omega
 ·intro h
  apply Classical.byContradiction
  intro hn
  simp only [List.length_nil] at h1
  have:=(Vo (Dd ps) [] (by simp only [List.length_nil]; omega)).1
  rw [Dy] at this
  exact h this
theorem Y0 (ps:List Kq) (k:List Int × Int):(Ae (Bv [] (Dd ps)) k).isSome = true ↔ k ∈ ps.map (·.1):=by
 rw [Hk,Va,Dy]
 simp
theorem Zy {H:Hp} {ps:List Kq} {us:List V} (h:Ad (PQ H) ps us):us.length = (Dd ps).length /\ ∀ (j:Nat) u q,us[j]? = some u -> (Dd ps)[j]? = some q -> ∃ t b,u = .ref t /\ H t = some (.tup [.ref b,q.2]) /\ Dt H b q.1:=by
 refine ⟨by rw [K9]; exact h.1,fun j u q e1 e2=>?_⟩
 unfold Dd at e2
 rw [List.getElem?_map] at e2
 obtain ⟨p,hp,rfl⟩ := Option.map_eq_some_iff.mp e2
 exact h.2 j p u hp e1
def Hf (ws:List Int) (cm:Option Int) (ps:List Kq):Prop:=(ps.map (·.1)).Nodup /\ ∀ p ∈ ps,p.1 ∈ Ao ws (qv cm) /\ 0 <= p.2 /\ p.2 < (ws.length:Int)
theorem Wj {ws:List Int} {cm:Option Int} {ks:List (List Int × Int)} (aC:Cm ws cm) (hn:ks.Nodup) (hs:∀ k ∈ ks,k ∈ Ao ws (qv cm)):ks.length <= 300:=by
 have h1:=List.Nodup.length_le_of_subset hn (show ks ⊆ Ao ws (qv cm) from fun k hk=>hs k hk)
 have h2:=Ff (ws:=ws) (q:=qv cm) (fun w hw=>(aC.1 w hw).1) (by have:=aC.qv.1; omega)
 have h3:=aC.2.2.2.2
 omega
theorem Hf.vc {ws:List Int} {cm:Option Int} {ps:List Kq} (h:Hf ws cm ps) (aC:Cm ws cm):ps.length <= 300:=by
 have:=Wj aC h.1 fun k hk=>by
  obtain ⟨p,hp,rfl⟩ := List.mem_map.mp hk
  exact (h.2 p hp).1
 rwa [List.length_map] at this
theorem Hf.good {ws:List Int} {cm:Option Int} {ps:List Kq} (h:Hf ws cm ps) (aC:Cm ws cm):d0 ws.length ps:=⟨fun p hp=>(Ea (h.2 p hp).1).1,by have:=h.vc aC; omega⟩
theorem Hf.snoc {ws:List Int} {cm:Option Int} {ps:List Kq} {z:List Int × Int} {who:Int} (h:Hf ws cm ps) (hz:z ∉ ps.map (·.1)) (h1:z ∈ Ao ws (qv cm)) (h2:0 <= who /\ who < (ws.length:Int)):Hf ws cm (ps ++ [(z,who)]):=by
 refine ⟨?_,fun p hp=>?_⟩
 ·rw [List.map_append]
  exact Dw h.1 hz
 ·rcases List.mem_append.mp hp with y | y
  ·exact h.2 p y
  ·rw [List.mem_singleton.mp y]
   exact ⟨h1,h2⟩
theorem X0 {ws:List Int} {cm:Option Int} (aC:Cm ws cm):(ws,(0:Int)) ∈ Ao ws (qv cm) :=
 Iz rfl (fun i hi=>⟨(aC.1 _ (by rw [List.getD_eq_getElem?_getD,List.getElem?_eq_getElem hi]; exact List.getElem_mem hi)).1,Int.le_refl _⟩) (Int.le_refl _) (by have:=aC.qv.1; show (0:Int) < qv cm; omega)
theorem Vu {ws:List Int} {cm:Option Int} {k k':List Int × Int} {who:Nat} (aC:Cm ws cm) (hk:k ∈ Ao ws (qv cm)) (hw:who < ws.length) (h:some k' ∈ Au ws k.1 cm k.2 who):k' ∈ Ao ws (qv cm):=by
 obtain ⟨lost,hl,e2⟩ := Yt.mp h
 exact Se (fun w hw=>(aC.1 w hw).1) hk hw hl e2
theorem k9 {us:List V} {i:Int} (h0:0 <= i) (h1:i < (us.length:Int)):∃ u,Ra us i = some u /\ u ∈ us:=by
 have hi:i.toNat < us.length:=by omega
 refine ⟨us[i.toNat],?_,List.getElem_mem hi⟩
 unfold Ra Vr
 rw [if_pos h0,if_pos h1]
 exact List.getElem?_eq_getElem hi
def d2 (H:Hp) (u:V):Int × Int:=match u with
 | .ref t=>match H t with
  | some (.tup [.int x,.int k])=>(x,k)
  | _=>(0,0)
 | _=>(0,0)
def dP (p:Int × Int):PyData := .tuple [.int p.1,.int p.2]
theorem Xm {H:Hp} {t:Addr} {x k:Int} (h:H t = some (.tup [.int x,.int k])):d2 H (.ref t) = (x,k) /\ Rp H (dP (x,k)) (.ref t):=by
 refine ⟨by simp only [d2,h],?_⟩
 unfold dP Rp
 refine ⟨_,_,rfl,h,?_⟩
 unfold aB
 refine ⟨_,_,rfl,G0 _,?_⟩
 unfold aB
 refine ⟨_,_,rfl,G0 _,?_⟩
 unfold aB
 rfl
theorem Z9 {x k y j:Int} (hx:0 <= x) (hy:0 <= y) (hk:0 <= k /\ k < 8) (hj:0 <= j /\ j < 8):Tt (dP (x,k)) (dP (y,j)) /\ Gy (dP (x,k)) (dP (y,j)) = decide ((x * 8 + k).toNat < (y * 8 + j).toNat):=by
 refine ⟨Py (show aK [.int x,.int k] [.int y,.int j] from ⟨trivial,trivial,trivial⟩),?_⟩
 have e:∀ a b:Int,PyData.eqv (.int a) (.int b) = decide (a = b):=fun a b=>by
  show (a == b) = _
  rw [Bool.eq_iff_iff]
  simp
 unfold dP
 rw [show Gy (.tuple [.int x,.int k]) (.tuple [.int y,.int j]) = (if PyData.eqv (.int x) (.int y) then (if PyData.eqv (.int k) (.int j) then false else decide (k < j)) else decide (x < y)) by simp [Gy,aD],e,e]
 by_cases h1:x = y
 ·subst h1
  rw [if_pos (decide_eq_true rfl)]
  by_cases h2:k = j
  ·subst h2
   rw [if_pos (decide_eq_true rfl)]
   simp
  ·rw [if_neg (by simp [h2])]
   by_cases h3:k < j
   ·rw [decide_eq_true h3,decide_eq_true (by omega)]
   ·rw [decide_eq_false h3,decide_eq_false (by omega)]
 ·rw [if_neg (by simp [h1])]
  by_cases h3:x < y
  ·rw [decide_eq_true h3,decide_eq_true (by omega)]
  ·rw [decide_eq_false h3,decide_eq_false (by omega)]
def F4 (ws:List Int) (cm:Option Int) (ps:List Kq) (rs:List (List Int × Int)) (br:Bool):Prop:=((ws,0) ∈ ps.map (·.1) \/ (ws,0) ∈ rs) /\ (∀ p ∈ ps,∀ k,some k ∈ Au ws p.1.1 cm p.1.2 p.2.toNat -> k ∈ ps.map (·.1) \/ k ∈ rs) /\ (br = true ↔ ∃ p ∈ ps,none ∈ Au ws p.1.1 cm p.1.2 p.2.toNat)
theorem F4.skip {ws:List Int} {cm:Option Int} {ps:List Kq} {rs:List (List Int × Int)} {z:List Int × Int} {br:Bool} (h:F4 ws cm ps (rs ++ [z]) br) (hz:z ∈ ps.map (·.1)):F4 ws cm ps rs br:=by
 have key:∀ x,x ∈ ps.map (·.1) \/ x ∈ rs ++ [z] -> x ∈ ps.map (·.1) \/ x ∈ rs:=fun x hx=>by
  rcases hx with y | y
  ·exact .inl y
  ·rcases List.mem_append.mp y with w | w
   ·exact .inr w
   ·rw [List.mem_singleton.mp w]
    exact .inl hz
 exact ⟨key _ h.1,fun p hp k hk=>key _ (h.2.1 p hp k hk),h.2.2⟩
theorem F4.put {ws:List Int} {cm:Option Int} {ps:List Kq} {rs SS:List (List Int × Int)} {z:List Int × Int} {w:Int} {br br':Bool} (h:F4 ws cm ps (rs ++ [z]) br) (hs:∀ x ∈ rs,x ∈ SS) (hb:∀ k,some k ∈ Au ws z.1 cm z.2 w.toNat -> k ∈ SS) (XO:br' = true ↔ br = true \/ none ∈ Au ws z.1 cm z.2 w.toNat):F4 ws cm (ps ++ [(z,w)]) SS br':=by
 have key:∀ x,x ∈ ps.map (·.1) \/ x ∈ rs ++ [z] -> x ∈ (ps ++ [(z,w)]).map (·.1) \/ x ∈ SS:=fun x hx=>by
  rw [List.map_append,List.mem_append]
  rcases hx with y | y
  ·exact .inl (.inl y)
  ·rcases List.mem_append.mp y with v | v
   ·exact .inr (hs x v)
   ·rw [List.mem_singleton.mp v]
    exact .inl (.inr (by simp))
 refine ⟨key _ h.1,fun p hp k hk=>?_,?_⟩
 ·rcases List.mem_append.mp hp with y | y
  ·exact key _ (h.2.1 p y k hk)
  ·rw [List.mem_singleton.mp y] at hk
   exact .inr (hb k hk)
 ·rw [XO,h.2.2]
  constructor
  ·rintro (⟨p,hp,y⟩ | y)
   ·exact ⟨p,List.mem_append_left _ hp,y⟩
   ·exact ⟨(z,w),by simp,y⟩
  ·rintro ⟨p,hp,y⟩
   rcases List.mem_append.mp hp with v | v
   ·exact .inl ⟨p,v,y⟩
   ·rw [List.mem_singleton.mp v] at y
    exact .inr y
theorem F4.lets {ws:List Int} {cm:Option Int} {ps:List Kq} {br:Bool} (h:F4 ws cm ps [] br) (hp:Hf ws cm ps):Uj ws cm ps ↔ br = false:=by
 have mem:∀ x,x ∈ ps.map (·.1) \/ x ∈ ([]:List (List Int × Int)) -> x ∈ ps.map (·.1):=fun x hx=>hx.resolve_right fun z=>by cases z
 constructor
 ·intro z
  cases br with
  | false=>rfl
  | true =>
   obtain ⟨p,hp,y⟩ := h.2.2.mp rfl
   obtain ⟨k,e,_⟩ := (z.2.2 p hp).2.2 none y
   cases e
 ·intro z
  refine ⟨hp.1,mem _ h.1,fun p tV=>⟨(hp.2 p tV).2.1,(hp.2 p tV).2.2,fun b hb=>?_⟩⟩
  cases b with
  | none =>
   have:=h.2.2.mpr ⟨p,tV,hb⟩
   rw [z] at this
   cases this
  | some k=>exact ⟨k,rfl,mem _ (h.2.1 p tV k hb)⟩
theorem F4.safe {ws:List Int} {cm:Option Int} {ps:List Kq} {tv:List ((List Int × Int) × V)} (h:Uj ws cm ps) (hr:Dj ws cm tv):Ae tv (ws,0) = none:=by
 have key:∀ (n:Nat) (k:List Int × Int) (m:Int),m <= n -> k ∈ ps.map (·.1) -> Ae tv k = some (.int m) -> False:=by
  intro n
  induction n with
  | zero =>
   intro k m hm _ hv
   obtain ⟨m',e,h1,_⟩ := hr.1 k _ hv
   cases e
   omega
  | succ n ih =>
   intro k m hm hk hv
   obtain ⟨m',e,h1,hs,hE⟩ := hr.1 k _ hv
   cases e
   obtain ⟨p,hp,rfl⟩ := List.mem_map.mp hk
   obtain ⟨h2,h3,h4⟩ := h.2.2 p hp
   rcases hE.1 p.2.toNat (by omega) with z | ⟨later,m2,z1,z2,z3⟩
   ·obtain ⟨k,e,_⟩ := h4 _ z
    cases e
   ·obtain ⟨k,e,bP⟩ := h4 _ z1
    cases e
    exact ih _ m2 (by omega) bP z2
 cases e:Ae tv (ws,0) with
 | none=>rfl
 | some v =>
  obtain ⟨m,rfl,_⟩ := hr.1 _ _ e
  exact (key m.toNat _ m (by omega) h.2.1 e).elim
def ug (D:Addr) (H H':Hp):Prop := ∀ b ob,b ≠ D -> H b = some ob -> H' b = some ob
def ln (D c:Addr) (H H':Hp):Prop := ∀ b ob,b ≠ D -> b ≠ c -> H b = some ob -> H' b = some ob
def j8 (ws:List Int) (cm:Option Int) (H:Hp) (kvs:List ((List Int × Int) × V)) (i:Nat) (H':Hp) (wv:List ((List Int × Int) × V)):Prop := ∀ k who later,(∃ v,(k,v) ∈ kvs.take i) -> An H kvs k who -> some later ∈ Au ws k.1 cm k.2 who -> Cl H' wv later k who
def ma (ws:List Int) (cm:Option Int) (cs:List (Du × V)) (j:Nat) (kk:List Int × Int) (H':Hp) (wv:List ((List Int × Int) × V)):Prop := ∀ who later,(∃ e ∈ cs.take j,e.1 = .inl ((who:Nat):Int)) -> some later ∈ Au ws kk.1 cm kk.2 who -> Cl H' wv later kk who
def Zv (kvs:List ((List Int × Int) × V)) (H' H:Hp):Prop := ∀ k who,An H' kvs k who -> An H kvs k who
def eg (ws:List Int) (cm:Option Int) (kvs:List ((List Int × Int) × V)) (aY:List (List Int × Int)) (i:Nat) (H H':Hp):Prop := ∀ k who,An H kvs k who -> (∀ later ∈ aY.take i,some later ∉ Au ws k.1 cm k.2 who) -> An H' kvs k who
def gv (ws:List Int) (cm:Option Int) (kvs:List ((List Int × Int) × V)) (aY:List (List Int × Int)) (i:Nat) (H':Hp):Prop := ∀ later ∈ aY.take i,∀ k who,some later ∈ Au ws k.1 cm k.2 who -> ¬ An H' kvs k who
def lq (kvs:List ((List Int × Int) × V)) (H H':Hp) (beta:List (List Int × Int)):Prop := ∀ k,k ∈ beta ↔ ((∃ who,An H kvs k who) /\ ∀ who,¬ An H' kvs k who)
def ui (H7:Hp) (gP:List V) (j:Nat) (H8:Hp) (kvs:List ((List Int × Int) × V)):Prop := ∀ t b who k,V.ref t ∈ gP.take j -> H7 t = some (.tup [.ref b,.int ((who:Nat):Int)]) -> Dt H7 b k -> ¬ An H8 kvs k who
def u6 (T:Addr) (kvs:List ((List Int × Int) × V)) (H4 H':Hp):Prop := ∀ b ob,b ≠ T -> H4 b = some ob -> (∀ kv ∈ kvs,kv.2 ≠ .ref b) -> H' b = some ob
theorem Iv:Ay [V.bl false] [Value.bool false] := .cons rfl .nil
theorem qj {us:List Value} (h:us.length = 0):us = []:=List.length_eq_zero_iff.mp h
theorem Ji {us:List Value} (h:us.length = 1):∃ a0,us = [a0]:=by
 cases us with
 | nil=>cases h
 | cons a us =>
  obtain rfl:=qj (Nat.succ.inj h)
  exact ⟨a,rfl⟩
theorem Qr {us:List Value} (h:us.length = 2):∃ a0 a1,us = [a0,a1]:=by
 cases us with
 | nil=>cases h
 | cons a us =>
  obtain ⟨a1,rfl⟩ := Ji (Nat.succ.inj h)
  exact ⟨a,a1,rfl⟩
theorem Q3 {us:List Value} (h:us.length = 3):∃ a0 a1 a2,us = [a0,a1,a2]:=by
 cases us with
 | nil=>cases h
 | cons a us =>
  obtain ⟨a1,a2,rfl⟩ := Qr (Nat.succ.inj h)
  exact ⟨a,a1,a2,rfl⟩
theorem Vq {us:List Value} (h:us.length = 4):∃ a0 a1 a2 a3,us = [a0,a1,a2,a3]:=by
 cases us with
 | nil=>cases h
 | cons a us =>
  obtain ⟨a1,a2,a3,rfl⟩ := Q3 (Nat.succ.inj h)
  exact ⟨a,a1,a2,a3,rfl⟩
section
variable {P:Program} {w:World} {K:PySem.W.Frag} {mg:Str -> Option Value} {base:Heap} {ad:si}
def Le (K:PySem.W.Frag):Sp:=fun vs H Q _=>Vn fun (a:Addr) (ws:List Int) (cm:Option Int)=>Sk (vs = [.ref a]) (Bl H a ws cm) (∀ (p:Addr) (H':Hp),A9 H H' -> D8 H' p ws 0 -> Q (.ref p) H')
theorem gz {fd  : FuncData} (T:Txt K mg ad) (F:Fy K "beginning" "beginning" O2 ad.bL fd):Aj P w K mg base Bm 1 ad.bL fd ["hall"] (Le K):=by
 refine F.ok io (fun vs H Q E h=>?_) (fun aM A outer s H vs Q E hr h=>?_)
 ·rcases h with ⟨a,ws,cm,rfl,⟨t,ha,ht⟩,q⟩ <;> rfl
 ·obtain ⟨a,ws,cm,rfl,⟨t,ha,ht⟩,q⟩ := h
  refine ⟨_,(Ab (Aq (Bz (A0 (Bg (Bf K) (pv 0) Aa (fun _ _=>rfl)) (A0 Aa A6))))),?_⟩
  refine ⟨_,rfl,a,_,_,_,rfl,rfl,.inr (C7.of ha),rfl,?_⟩
  exact ⟨Bo,fun p hp=>q p _ (A9.upd hp) ⟨t,A5,A9.upd hp _ _ ht⟩⟩
def Ko (K:PySem.W.Frag):Sp:=fun vs H Q _=>df fun (a b:Addr) (ws ls:List Int) (calm:Option Int) (q:Int)=>L3 (vs = [.ref a,.ref b]) (Bl H a ws calm) (D8 H b ls q) (Q (.bl (!decide (calm = none) && decide (q = 0))) H)
theorem fc {fd  : FuncData} (T:Txt K mg ad) (F:Fy K "may_lose" "may_lose" Nh ad.bM fd):Aj P w K mg base Bm 1 ad.bM fd ["hall","standing"] (Ko K):=by
 refine F.ok gu (fun vs H Q E h=>?_) (fun aM A outer s H vs Q E hr h=>?_)
 ·rcases h with ⟨a,b,ws,ls,calm,n,rfl,⟨t,ha,_⟩,⟨u,hb,_⟩,q⟩ <;> rfl
 ·obtain ⟨a,b,ws,ls,calm,n,rfl,⟨t,ha,_⟩,⟨u,hb,_⟩,q⟩ := h
  refine ⟨_,(Ab (Aq (Ur (Fo P0 (Bg (Bf K) (pv 0) Aa (fun _ _=>rfl)) D3 (Be _)) (P1 (Fo Gf (Bg (Bf K) (pv 1) Aa (fun _ _=>rfl)) Aa (Be _)))))),?_⟩
  refine ⟨_,rfl,a,_,_,_,rfl,rfl,.inr (C7.of ha),rfl,rfl,_,decide (V.int n = V.int 0),rfl,fun _ Q' z=>⟨_,rfl,b,_,_,_,rfl,rfl,.inr (C7.of hb),rfl,rfl,z⟩,?_⟩
  have e2:decide (V.int n = V.int 0) = decide (n = 0):=by simp
  rw [Y9,e2]
  exact q
def V9 (K:PySem.W.Frag):Sp:=fun vs H Q _=>Uy fun (a:Addr) (ws:List Int) (calm:Option Int) (who:Int)=>Sk (vs = [.ref a,.int who]) (Bl H a ws calm) (Q (.bl (decide (0 <= who /\ who < ws.length))) H)
theorem lh {fd  : FuncData} (T:Txt K mg ad) (F:Fy K "is_listener" "is_listener" Ww ad.fJ fd):Aj P w K mg base Bm 1 ad.fJ fd ["hall","who"] (V9 K):=by
 refine F.ok le (fun vs H Q E h=>?_) (fun aM A outer s H vs Q E hr h=>?_)
 ·rcases h with ⟨a,ws,calm,who,rfl,⟨t,bD,bX⟩,q⟩ <;> rfl
 ·obtain ⟨a,ws,calm,who,rfl,⟨t,bD,bX⟩,q⟩ := h
  refine ⟨_,(Ab (Aq (Ur (Fo lf (pv 1) Aa (Be _)) (P1 (Fo Rq (pv 1) (B9 (Cz K) (by rfl) T.bW PySem.boot_len (A0 (Bg (Bf K) (pv 0) Aa (fun _ _=>rfl)) A6)) (Be _)))))),?_⟩
  refine ⟨_,rfl,_,_,rfl,rfl,_,decide (who < (ws.length:Int)),rfl,fun _ Q' z=>⟨_,rfl,_,rfl,a,_,_,_,rfl,rfl,.inr (C7.of bD),rfl,t,_,rfl,.inr (C7.of bX),_,_,rfl,rfl,?_⟩,?_⟩
  ·rw [List.length_map]
   exact z
  ·rw [show (decide (who >= 0) && decide (who < (ws.length:Int))) = decide (0 <= who /\ who < (ws.length:Int)) by rw [Bool.decide_and]]
   exact q
def Yf (K:PySem.W.Frag):Sp:=fun vs H Q _=>cw fun (a b:Addr) (ws ls:List Int) (calm:Option Int) (q:Int) (who:Nat) (lost:Bool)=>Q4 (vs = [.ref a,.ref b,.int who,.bl lost]) (Bl H a ws calm) (D8 H b ls q) (who < ws.length) (Ub calm q lost) (Q .aL H)
theorem jx {fd jF bZ:FuncData} (T:Txt K mg ad) (F:Fy K "refuse_wrong_turn" "refuse_wrong_turn" Wl ad.fZ fd) (mG:Aj P w K mg base Bm 1 ad.fJ jF ["hall","who"] (V9 K)) (mH:Az K jF ["hall","who"] []) (dM:Aj P w K mg base Bm 1 ad.bM bZ ["hall","standing"] (Ko K)) (dN:Az K bZ ["hall","standing"] []):Aj P w K mg base Bm 2 ad.fZ fd ["hall","standing","who","lost"] (Yf K):=by
 refine F.ok mh (fun vs H Q E h=>?_) (fun aM A outer s H vs Q E hr h=>?_)
 ·rcases h with ⟨a,b,ws,ls,calm,n,who,lost,rfl,ha,hb,hw,hm,q⟩ <;> rfl
 ·obtain ⟨a,b,ws,ls,calm,n,who,lost,rfl,ha,hb,hw,hm,q⟩ := h
  refine ⟨_,(A7 (Cn (Fm (Ee (Ag mG (hr.mono (by decide)) rfl T.HC T.nX mH .nil B0 (A0 (pv 0) (A0 (pv 2) A6))))) (Ab Ll) Ax) (Ab (Cn (PW.pt (K7 (Ee (pv 3)) (Ka (Fm (Ee (Ag dM (hr.mono (by decide)) rfl T.nW T.gM dN .nil B0 (A0 (pv 0) (A0 (pv 1) A6)))))))) (Ab Ll) Ax))),?_⟩
  obtain ⟨t,bD,bX⟩ := id ha
  refine ⟨_,rfl,_,rfl,a,ws,calm,(who:Int),rfl,ha,_,rfl,Ix ?_ ?_⟩
  ·rw [decide_eq_true (show (0:Int) <= (who:Int) /\ (who:Int) < (ws.length:Int) by omega)]
   rfl
  refine ⟨_,rfl,_,rfl,!(!decide (calm = none) && decide (n = 0)),fun _ Q' z=>⟨_,rfl,_,rfl,a,b,ws,ls,calm,n,rfl,ha,hb,_,rfl,z⟩,Ix ?_ q⟩
  cases lost with
  | false=>rfl
  | true =>
   obtain ⟨h1,h2⟩ := hm rfl
   simp [h1,h2]
def Y1 (K:PySem.W.Frag):Sp:=fun vs H Q _=>cw fun (a b:Addr) (ws ls:List Int) (calm:Option Int) (q:Int) (who:Nat) (lost:Bool)=>Tx (vs = [.ref a,.ref b,.int who,.bl lost]) (Bl H a ws calm) (D8 H b ls q) (who < ws.length) (ls.length = ws.length) (ws.length <= 8) (Ub calm q lost) (∀ (l:Addr) (H':Hp),H l = none -> A9 H H' -> H' l = some (.lst ((Bi ws ls who lost).map V.int)) -> Q (.ref l) H')
theorem kd {fd vA:FuncData} (T:Txt K mg ad) (F:Fy K "left_behind" "left_behind" Te ad.gA fd) (xJ:Aj P w K mg base Bm 2 ad.fZ vA ["hall","standing","who","lost"] (Yf K)) (xK:Az K vA ["hall","standing","who","lost"] []):Aj P w K mg base Bm 3 ad.gA fd ["hall","standing","who","lost"] (Y1 K):=by
 refine F.ok cn (fun vs H Q E h=>?_) (fun aM A outer s H vs Q E hr h=>?_)
 ·rcases h with ⟨a,b,ws,ls,calm,n,who,lost,rfl,ha,hb,hw,hl,h8,hm,q⟩ <;> rfl
 ·obtain ⟨a,b,ws,ls,calm,n,who,lost,rfl,ha,hb,hw,hl,h8,hm,q⟩ := h
  refine ⟨_,(A7 (Co (Ag xJ (hr.mono (by decide)) rfl T.WY T.tM xK .nil B0 (A0 (pv 0) (A0 (pv 1) (A0 (pv 2) (A0 (pv 3) A6)))))) (A7 (D6 (i:=4) cn.nd rfl (Dk (w':=Nq K _) (Df (Bg (Bf K) (pv 1) Aa (fun _ _=>rfl)))) _ rfl Jd rfl rfl (fun _ _ _ _=>(Al (i:=0) J6 rfl (Or.inl rfl))) (fun _ _ _ _=>Cp) (fun _ _ _ _=>(B6 Hu (pv 0) Aa)) rfl rfl) (A7 (Dn (Fm (Ee (pv 3))) (Ab (U3 (Bg (Bf K) (Bg (Bf K) (pv 0) Aa (fun _ _=>rfl)) (pv 2) (fun _ _=>rfl)) (Yl (pv 4) (pv 2) Rz))) Ax) (Ab (Aq (pv 4)))))),?_⟩
  obtain ⟨t,bD,bX⟩ := id ha
  obtain ⟨u,eU,gQ⟩ := id hb
  refine ⟨_,rfl,_,rfl,_,rfl,_,rfl,a,b,ws,ls,calm,n,who,lost,rfl,ha,hb,hw,hm,?_⟩
  refine ⟨_,rfl,b,_,_,_,rfl,rfl,.inr (C7.of eU),rfl,u,rfl,.inr ⟨⟨_,C7.of gQ⟩,fun D hD=>?_⟩⟩
  refine Xv (K:=K) (a:=u) (xs:=ls.map V.int) (fun i ys H'=>ys = ((ls.take i).map (fun x=>x - 1)).map V.int /\ H' D = some (.lst ys) /\ A9 H H') ⟨rfl,A5,A9.upd hD⟩ (by rintro i ys H' _ ⟨_,_,s⟩; exact C7.of (s _ _ gQ)) ?_ ?_
  ·rintro i x ys H' hx ⟨rfl,mI,s'⟩ Qe hQ
   rw [List.getElem?_map] at hx
   obtain ⟨y,hy,rfl⟩ := Option.map_eq_some_iff.mp hx
   have hi:=(List.getElem?_eq_some_iff.mp hy).1
   refine ⟨_,rfl,_,_,rfl,rfl,hQ _ _ mI (B7 (by simp; omega)) ⟨?_,A5,s'.new hD⟩⟩
   rw [List.take_add_one,hy]
   simp
  rintro ys H2 ⟨rfl,vB,s2⟩
  rw [List.length_map,List.take_length] at vB
  refine ⟨_,rfl,_,rfl,(fun σ' H'=>σ' = [some (.ref a),some (.ref b),some (.int (who:Nat)),some (.bl lost),some (.ref D)] /\ A9 H H' /\ H' D = some (.lst ((Bi ws ls who lost).map V.int))),fun e=>?_,fun e=>?_,?_⟩
  ·have e':lost = false:=by simpa using e
   subst e'
   refine ⟨_,rfl,a,_,_,_,rfl,rfl,.inr (C7.of (s2 _ _ bD)),rfl,_,rfl,t,_,_,_,rfl,rfl,.inr (C7.of (s2 _ _ bX)),Pp hw,?_⟩
   refine ⟨_,rfl,_,rfl,D,_,_,_,rfl,rfl,vB,Ux (by simp; omega),rfl,s2.new hD,?_⟩
   rw [A5]
   unfold Bi
   simp
  ·have e':lost = true:=by simpa using e
   subst e'
   exact ⟨rfl,s2,vB⟩
  ·rintro σ' H' ⟨rfl,s3,e3⟩
   exact ⟨_,rfl,q D H' hD s3 e3⟩
def Yv (K:PySem.W.Frag):Sp:=fun vs H Q _=>oj fun (a b:Addr) (ws ls:List Int) (calm:Option Int) (q:Int) (lost:Bool)=>Ij (vs = [.ref a,.ref b,.bl lost]) (Bl H a ws calm) (D8 H b ls q) (Ub calm q lost) (Q (.int (Dh calm q lost)) H)
theorem kq {fd  : FuncData} (T:Txt K mg ad) (F:Fy K "quiet_behind" "quiet_behind" Xd ad.gB fd):Aj P w K mg base Bm 1 ad.gB fd ["hall","standing","lost"] (Yv K):=by
 refine F.ok mn (fun vs H Q E h=>?_) (fun aM A outer s H vs Q E hr h=>?_)
 ·rcases h with ⟨a,b,ws,ls,calm,n,lost,rfl,⟨t,ha,_⟩,⟨u,hb,_⟩,hm,q⟩ <;> rfl
 ·obtain ⟨a,b,ws,ls,calm,n,lost,rfl,⟨t,ha,_⟩,⟨u,hb,_⟩,hm,q⟩ := h
  refine ⟨_,(A7 (Cn (Ee (pv 2)) (Ab (Aq (Bg (Bf K) (pv 0) Aa (fun _ _=>rfl)))) Ax) (Ab (Aq (B9 (F8 rfl) (by rfl) T.gO boot_max (A0 (B6 Hu (Bg (Bf K) (pv 1) Aa (fun _ _=>rfl)) Aa) (A0 Aa A6)))))),?_⟩
  refine ⟨_,rfl,_,rfl,?_⟩
  cases lost with
  | true =>
   refine N7 rfl ?_
   refine ⟨_,rfl,a,_,_,_,rfl,rfl,.inr (C7.of ha),rfl,?_⟩
   cases calm with
   | none=>exact absurd rfl (hm rfl).1
   | some c=>exact q
  | false =>
   refine Ix rfl ?_
   refine ⟨_,rfl,b,_,_,_,rfl,rfl,.inr (C7.of hb),rfl,_,_,rfl,rfl,_,_,rfl,?_⟩
   have e:(if (0:Int) > n - 1 then (0:Int) else n - 1) = Dh calm n false:=by
    unfold Dh
    rw [if_neg Bool.false_ne_true]
    omega
   show Q (.int (if (0:Int) > n - 1 then (0:Int) else n - 1)) H
   rw [e]
   exact q
def Lu (K:PySem.W.Frag):Sp:=fun vs H Q _=>cw fun (a b:Addr) (ws ls:List Int) (calm:Option Int) (q:Int) (who:Nat) (lost:Bool)=>Mm (vs = [.ref a,.ref b,.int who,.bl lost]) (Bl H a ws calm) (D8 H b ls q) (who < ws.length) (ls.length = ws.length) (ws.length <= 8) (Ub calm q lost) (((0:Int) ∈ Bi ws ls who lost -> ∀ H',A9 H H' -> Q .aL H')) (((0:Int) ∉ Bi ws ls who lost -> ∀ (p:Addr) (H':Hp),A9 H H' -> D8 H' p (Bi ws ls who lost) (Dh calm q lost) -> Q (.ref p) H'))
theorem ge {fd vC vD:FuncData} (T:Txt K mg ad) (F:a9 K "after" "after" Fu ad.bI fd) (xM:Aj P w K mg base Bm 3 ad.gA vC ["hall","standing","who","lost"] (Y1 K)) (xN:Az K vC ["hall","standing","who","lost"] []) (xO:Aj P w K mg base Bm 1 ad.gB vD ["hall","standing","lost"] (Yv K)) (xP:Az K vD ["hall","standing","lost"] []):Aj P w K mg base Bm 4 ad.bI fd ["hall","standing","who","lost"] (Lu K):=by
 refine F.ok Xs (fun vs H Q E h=>?_) (fun aM A outer s H vs Q E hr h=>?_)
 ·rcases h with ⟨a,b,ws,ls,calm,n,who,lost,rfl,ha,hb,hw,hl,h8,hm,q1,q2⟩ <;> rfl
 ·obtain ⟨a,b,ws,ls,calm,n,who,lost,rfl,ha,hb,hw,hl,h8,hm,q1,q2⟩ := h
  refine ⟨_,(A7 (Ap (i:=4) Xs.nd rfl (Or.inl rfl) (Ag xM (hr.mono (by decide)) rfl T.WZ T.tO xN .nil B0 (A0 (pv 0) (A0 (pv 1) (A0 (pv 2) (A0 (pv 3) A6)))))) (A7 (Cn (Bc (iu K) Aa (pv 4) rfl) (Ab (Aq D3)) Ax) (Ab (Aq (Bz (A0 (C8 (Cw K) (by rfl) T.aW boot_tuple (A0 (pv 4) A6)) (A0 (Ag xO (hr.mono (by decide)) rfl T.XA T.tP xP .nil B0 (A0 (pv 0) (A0 (pv 1) (A0 (pv 3) A6)))) A6))))))),?_⟩
  refine ⟨_,rfl,_,rfl,_,rfl,_,rfl,a,b,ws,ls,calm,n,who,lost,rfl,ha,hb,hw,hl,h8,hm,fun l H1 hl0 s1 SM=>?_⟩
  refine ⟨_,rfl,l,_,rfl,.inl (Ba.of SM),rfl,Nl _,_,rfl,?_⟩
  rw [Rx]
  refine Ej (fun h0=>?_) (fun h0=>?_)
  ·exact q1 (by simpa using h0) H1 s1
  ·refine ⟨_,rfl,l,_,rfl,.inl ⟨Ba.of SM,fun t ht=>?_⟩⟩
   have s2:A9 H (upd H1 t (.tup ((Bi ws ls who lost).map V.int))):=s1.new (s1.free ht)
   refine ⟨_,rfl,_,rfl,_,rfl,a,b,ws,ls,calm,n,lost,rfl,ha.same s2,hb.same s2,hm,Bo,fun p hp=>?_⟩
   refine q2 (by simpa using h0) p _ (s2.new (s2.free hp)) ⟨t,A5,?_⟩
   rw [Ac (fun e=>by rw [<- e,A5] at hp; cases hp),A5]
def Jf (K:PySem.W.Frag):Sp:=fun vs H Q _=>cw fun (a b:Addr) (ws ls:List Int) (cm:Option Int) (q w:Int) (who:Nat)=>Tx (vs = [.ref a,.ref b,.int w]) (w = (who:Int)) (Bl H a ws cm) (D8 H b ls q) (who < ws.length) (ls.length = ws.length) (ws.length <= 8) (∀ (l:Addr) (us:List V) (H':Hp),H l = none -> A9 H H' -> H' l = some (.lst us) -> Ad (E5 H') (Au ws ls cm q who) us -> Q (.ref l) H')
theorem gj {fd bZ aZ:FuncData} (T:Txt K mg ad) (F:Fy K "all_behind" "all_behind" Ni ad.bJ fd) (dM:Aj P w K mg base Bm 1 ad.bM bZ ["hall","standing"] (Ko K)) (dN:Az K bZ ["hall","standing"] []) (cA:Aj P w K mg base Bm 4 ad.bI aZ ["hall","standing","who","lost"] (Lu K)) (dQ:Az K aZ ["hall","standing","who","lost"] []) (aO:Az K aZ ["hall","standing","who","lost"] [Value.bool false]):Aj P w K mg base Bm 5 ad.bJ fd ["hall","standing","who"] (Jf K):=by
 refine F.ok Yo (fun vs H Q E h=>?_) (fun aM A outer s H vs Q E hr h=>?_)
 ·rcases h with ⟨a,b,ws,ls,cm,n,w0,who,rfl,rfl,ha,hb,hw,hl,h8,q⟩ <;> rfl
 ·obtain ⟨a,b,ws,ls,cm,n,w0,who,rfl,rfl,ha,hb,hw,hl,h8,q⟩ := h
  refine ⟨_,(A7 (Ap (i:=3) Yo.nd rfl (Or.inl rfl) (D1 (A0 (Q9 (Ag cA (hr.mono (by decide)) rfl T.jB T.fL aO (Iv) B0 (A0 (pv 0) (A0 (pv 1) (A0 (pv 2) A6))))) A6))) (A7 (Dn (Ee (Ag dM (hr.mono (by decide)) rfl T.nW T.gM dN .nil B0 (A0 (pv 0) (A0 (pv 1) A6)))) (Ab (Co (E4 (u':=Vb K _ _ _ _) (Fe PySem.F.plainAttrs_list PySem.F.slot_list_append PySem.F.type_list_append Cy (pv 3) (A0 (Q9 (Ag cA (hr.mono (by decide)) rfl T.jB T.fL dQ .nil B0 (A0 (pv 0) (A0 (pv 1) (A0 (pv 2) (A0 Ft A6)))))) A6))))) Ax) (Ab (Aq (pv 3))))),?_⟩
  refine ⟨(fun v H9=>E5 H9 (D0 ws ls cm n who false) v /\ A9 H H9),⟨_,rfl,_,rfl,_,rfl,a,b,ws,ls,cm,n,who,false,rfl,ha,hb,hw,hl,h8,(fun z=>nomatch z),(fun hz H2 s2=>⟨by unfold D0; rw [if_pos hz]; rfl,s2⟩),fun hz p H2 s2 cE=>⟨by unfold D0; rw [if_neg hz]; exact ⟨p,rfl,cE⟩,s2⟩⟩,?_⟩
  rintro v H1 ⟨hv,s1⟩
  refine ⟨Bo,fun L hL=>?_⟩
  have s2:A9 H1 (upd H1 L (.lst [v])):=A9.upd hL
  have e2:(upd H1 L (.lst [v])) L = some (.lst [v]):=A5
  generalize upd H1 L (.lst [v]) = H2 at s2 e2 ⊢
  have aU:=s1.trans s2
  refine ⟨_,rfl,_,rfl,a,b,ws,ls,cm,n,rfl,ha.same aU,hb.same aU,_,rfl,(fun σ' H'=>∃ (us:List V),L3 (σ' = [some (.ref a),some (.ref b),some (.int who),some (.ref L)]) (H' L = some (.lst us)) (Ad (E5 H') (Au ws ls cm n who) us) (A9 H H')),fun hm=>?_,fun hm=>?_,?_⟩
  ·have dB:Dq cm n = true:=hm
   have xQ:Ub cm n true:=fun _=>by
    unfold Dq at dB
    simp only [Bool.and_eq_true,Bool.not_eq_true',decide_eq_false_iff_not,decide_eq_true_eq] at dB
    exact dB
   refine ⟨_,rfl,.inl ⟨rfl,_,Ba.of e2⟩,(fun v H9=>E5 H9 (D0 ws ls cm n who true) v /\ A9 H2 H9),⟨_,rfl,_,rfl,_,rfl,a,b,ws,ls,cm,n,who,true,rfl,ha.same aU,hb.same aU,hw,hl,h8,xQ,(fun hz H2 s2=>⟨by unfold D0; rw [if_pos hz]; rfl,s2⟩),fun hz p H2 s2 cE=>⟨by unfold D0; rw [if_neg hz]; exact ⟨p,rfl,cE⟩,s2⟩⟩,?_⟩
   rintro v2 H3 ⟨xG,s3⟩
   have e3:=s3 _ _ e2
   have tt:Af H3 (upd H3 L (.lst ([v] ++ [v2]))):=Af.lst e3
   refine ⟨L,_,_,rfl,rfl,e3,B7 (by simp),[v] ++ [v2],rfl,A5,?_,(aU.trans s3).new (s1.free hL)⟩
   unfold Au
   rw [if_pos dB]
   exact Ad.cons (hv.up (((Af.of s2).trans (Af.of s3)).trans tt)) (Ad.one (xG.up tt))
  ·have dB : ¬ Dq cm n = true := by
    rw [show Dq cm n = false from hm]
    exact Bool.false_ne_true
   refine ⟨[v],rfl,e2,?_,aU⟩
   unfold Au
   rw [if_neg dB]
   exact Ad.one (hv.up (Af.of s2))
  rintro σ' H' ⟨us,rfl,eL,hall,s'⟩
  exact ⟨_,rfl,q L us H' (s1.free hL) s' eL hall⟩
def Vm (K:PySem.W.Frag):Sp:=fun vs H Q _=>Vn fun (a:Addr) (ws:List Int) (cm:Option Int)=>Sk (vs = [.ref a]) (Bl H a ws cm) (Q (.int (qv cm)) H)
theorem kg {fd  : FuncData} (T:Txt K mg ad) (F:Fy K "quiet_values" "quiet_values" Xa ad.fK fd):Aj P w K mg base Bm 1 ad.fK fd ["hall"] (Vm K):=by
 refine F.ok kx (fun vs H Q E h=>?_) (fun aM A outer s H vs Q E hr h=>?_)
 ·rcases h with ⟨a,ws,cm,rfl,⟨t,bD,bX⟩,q⟩ <;> rfl
 ·obtain ⟨a,ws,cm,rfl,⟨t,bD,bX⟩,q⟩ := h
  refine ⟨_,(Ab (Aq (Y8 (Bc L8 (Bg (Bf K) (pv 0) Aa (fun _ _=>rfl)) D3 (Be _)) Aa (B6 D2 (Bg (Bf K) (pv 0) Aa (fun _ _=>rfl)) Aa)))),?_⟩
  cases cm with
  | none=>exact ⟨_,rfl,a,_,_,_,rfl,rfl,.inr (C7.of bD),rfl,rfl,_,rfl,N7 rfl q⟩
  | some c=>exact ⟨_,rfl,a,_,_,_,rfl,rfl,.inr (C7.of bD),rfl,rfl,_,rfl,Ix rfl ⟨_,rfl,a,_,_,_,rfl,rfl,.inr (C7.of bD),rfl,_,_,rfl,rfl,q⟩⟩
def Sw (K:PySem.W.Frag):Sp:=fun vs H Q _=>Vn fun (a:Addr) (ws:List Int) (cm:Option Int)=>Q4 (vs = [.ref a]) (Bl H a ws cm) ((∀ w ∈ ws,intBits w <= 256)) (intBits (qv cm) <= 256) (ws.length <= 8) (Q (.int (Ak (qv cm) ws)) H)
theorem ft {fd jG:FuncData} (T:Txt K mg ad) (F:Fy K "how_many" "how_many" O7 ad.cH fd) (mJ:Aj P w K mg base Bm 1 ad.fK jG ["hall"] (Vm K)) (mK:Az K jG ["hall"] []):Aj P w K mg base Bm 2 ad.cH fd ["hall"] (Sw K):=by
 refine F.ok Pc (fun vs H Q E h=>?_) (fun aM A outer s H vs Q E hr h=>?_)
 ·rcases h with ⟨a,ws,cm,rfl,⟨t,bD,bX⟩,hb,vn,hl,q⟩ <;> rfl
 ·obtain ⟨a,ws,cm,rfl,⟨t,bD,bX⟩,hb,vn,hl,q⟩ := h
  refine ⟨_,(A7 (Ap (i:=1) Pc.nd rfl (Or.inl rfl) (Ag mJ (hr.mono (by decide)) rfl T.HD T.nY mK .nil B0 (A0 (pv 0) A6))) (A7 (Ck PassesOwn.never rfl (Dk (w':=Nq K _) (Df (Bg (Bf K) (pv 0) Aa (fun _ _=>rfl)))) (Al (i:=2) Pc.nd rfl (Or.inl rfl)) (Ab (Ap (i:=1) Pc.nd rfl (Or.inl rfl) (B6 Zm (pv 1) (pv 2))))) (Ab (Aq (pv 1))))),?_⟩
  refine ⟨_,rfl,a,ws,cm,rfl,⟨t,bD,bX⟩,?_⟩
  refine ⟨_,rfl,a,_,_,_,rfl,rfl,.inr (C7.of bD),rfl,t,rfl,.inr ⟨⟨_,C7.of bX⟩,?_⟩⟩
  refine Uu (K:=K) (a:=t) (xs:=ws.map V.int) (fun i σ H'=>∃ (v2:Option V),σ = [some (.ref a),some (.int (Ak (qv cm) (ws.take i))),v2] /\ H' = H) ⟨none,rfl,rfl⟩ (by rintro i σ H' _ ⟨_,_,e⟩; exact (by rw [e]; exact C7.of bX)) ?_ ?_
  ·rintro i y σ H' hy ⟨v2,rfl,eH⟩
   subst eH
   rw [List.getElem?_map] at hy
   obtain ⟨x,hx,rfl⟩ := Option.map_eq_some_iff.mp hy
   have hi:=(List.getElem?_eq_some_iff.mp hx).1
   have b1:=Nf vn hb i (by omega)
   refine ⟨_,rfl,_,rfl,_,_,rfl,rfl,nh b1 (hb x (List.mem_of_getElem? hx)) (by omega),?_⟩
   refine ⟨some (.int x),?_,rfl⟩
   have e:Ak (qv cm) (ws.take (i + 1)) = Ak (qv cm) (ws.take i) * x:=F0 _ _ _ hx
   rw [e]
   rfl
  ·rintro σ H' ⟨v2,rfl,eH⟩
   subst eH
   rw [List.length_map,List.take_length]
   exact ⟨_,rfl,q⟩
def Ti (K:PySem.W.Frag):Sp:=fun vs H Q _=>Yx fun (t:Addr) (ws:List Int)=>Q4 (vs = [.ref t]) (H t = some (.tup (ws.map V.int))) ((∀ w ∈ ws,1 <= w)) (Ak 1 ws <= 3000) (ws.length <= 8) (∀ (l:Addr) (us:List V) (H':Hp),H l = none -> A9 H H' -> H' l = some (.lst us) -> Ad (En H') (C6 ws) us -> Q (.ref l) H')
theorem fg {fd  : FuncData} (T:Txt K mg ad) (F:Fy K "all_left" "all_left" Lm ad.cJ fd):Aj P w K mg base Bm 1 ad.cJ fd ["waits"] (Ti K):=by
 refine F.ok Jc (fun vs H Q E h=>?_) (fun aM A outer s H vs Q E hr h=>?_)
 ·rcases h with ⟨t,ws,rfl,ht,aN,hp,kA,q⟩ <;> rfl
 ·obtain ⟨t,ws,rfl,ht,aN,hp,kA,q⟩ := h
  refine ⟨_,(A7 (Ap (i:=1) Jc.nd rfl (Or.inl rfl) (D1 (A0 (Bz A6) A6))) (A7 (Ck PassesOwn.never rfl (Dk (w':=Nq K _) (Df (pv 0))) (Al (i:=2) Jc.nd rfl (Or.inl rfl)) (A7 (Ap (i:=3) Jc.nd rfl (Or.inl rfl) (D1 A6)) (A7 (Ck PassesOwn.never rfl (Dk (w':=Nq K _) (Df (pv 1))) (Al (i:=4) Jc.nd rfl (Or.inr rfl)) (Ab (Co (E4 (u':=Vb K _ _ _ _) (Fe PySem.F.plainAttrs_list PySem.F.slot_list_extend PySem.F.type_list_extend Gm (pv 3) (A0 (E6 (Xc (by rfl) T.aX (A0 Aa (A0 (B6 D2 (pv 2) Aa) A6))) _ rfl Mo rfl rfl (fun _ _ _ _=>(Al (i:=0) Mi rfl (Or.inl rfl))) (fun _ _ _ _=>Cp) (fun _ _ _ _=>(B6 (Zj K) (pv 1) (Bz (A0 (pv 0) A6))))) A6)))))) (Ab (Ap (i:=1) Jc.nd rfl (Or.inl rfl) (pv 3)))))) (Ab (Aq (pv 1))))),?_⟩
  refine ⟨Bo,fun E0 hE0=>⟨Bo,fun L0 XQ=>?_⟩⟩
  have s0:A9 H (upd H E0 (.tup [])):=A9.upd hE0
  have e0:(upd H E0 (.tup [])) E0 = some (.tup (([]:List Int).map V.int)):=A5
  generalize upd H E0 (.tup []) = H0 at s0 e0 XQ ⊢
  have s1:A9 H0 (upd H0 L0 (.lst [.ref E0])):=A9.upd XQ
  have e1:(upd H0 L0 (.lst [.ref E0])) L0 = some (.lst [.ref E0]):=A5
  have r1:Ad (En (upd H0 L0 (.lst [.ref E0]))) (C6 (ws.take 0)) [.ref E0]:=Ad.one ⟨E0,rfl,s1 _ _ e0⟩
  generalize upd H0 L0 (.lst [.ref E0]) = H1 at s1 e1 r1 ⊢
  have s01:=s0.trans s1
  refine ⟨_,rfl,t,rfl,.inr ⟨⟨_,C7.of (s01 _ _ ht)⟩,?_⟩⟩
  refine Uu (K:=K) (a:=t) (xs:=ws.map V.int) (fun i σ H'=>ll fun (L:Addr) (us:List V) (v2 v3 v4:Option V)=>Ij (σ = [some (.ref t),some (.ref L),v2,v3,v4]) (H' L = some (.lst us)) (A9 H H') (Ad (En H') (C6 (ws.take i)) us) (H L = none))
   ⟨L0,_,none,none,none,rfl,e1,s01,r1,s0.free XQ⟩ (by rintro i σ H' _ ⟨_,_,_,_,_,_,_,s,_,_⟩; exact C7.of (s _ _ ht)) ?_ ?_
  ·rintro i y σ H2 hy ⟨L,us,v2,v3,v4,rfl,f1,s2,f2,hL⟩
   rw [List.getElem?_map] at hy
   obtain ⟨w,hw,rfl⟩ := Option.map_eq_some_iff.mp hy
   have hwi:=aN w (List.mem_of_getElem? hw)
   have IH:=Nz aN hp i
   have jH:=Nz aN hp (i + 1)
   have xR:C6 (ws.take (i + 1)) = C0 (C6 (ws.take i)) w:=F0 _ _ _ hw
   rw [xR,La] at jH
   have hiw:=(List.getElem?_eq_some_iff.mp hw).1
   have XR:∀ r ∈ C6 (ws.take i),r.length <= 8:=fun r hr=>by
    have:=(Ir ws i (by omega) r hr).1
    omega
   generalize C6 (ws.take i) = rows at f2 IH jH xR XR
   refine ⟨Bo,fun D hD=>?_⟩
   have s3:A9 H2 (upd H2 D (.lst [])):=A9.upd hD
   have e3:(upd H2 D (.lst [])) D = some (.lst []):=A5
   have f3:=s3 _ _ f1
   have g3:=f2.imp fun r v z=>En.up (Af.of s3) z
   have XS:L ≠ D:=Ah f1 hD
   generalize upd H2 D (.lst []) = H3 at s3 e3 f3 g3 ⊢
   refine ⟨_,rfl,L,rfl,.inl ⟨⟨_,Ba.of f3⟩,?_⟩⟩
   refine Cq (K:=K) (a:=L) (xs:=us) (fun j σ H'=>Yx fun (zs:List V) (v4:Option V)=>Ij (σ = [some (.ref t),some (.ref L),some (.int w),some (.ref D),v4]) (H' D = some (.lst zs)) (H' L = some (.lst us)) (A9 H2 H') (Ad (En H') (C0 (rows.take j) w) zs))
    ⟨[],v4,rfl,e3,f3,s3,Ad.nil⟩ (by rintro j σ H' _ ⟨_,_,_,_,e,_⟩; exact Ba.of e) ?_ ?_
   ·rintro j y σ H4 hy ⟨zs,v4',rfl,h1,h2,s4,h3⟩
    have g4:=f2.imp fun r v z=>En.up (Af.of s4) z
    obtain ⟨r,iK,p,rfl,XT⟩ := g4.get hy
    have hj:=(List.getElem?_eq_some_iff.mp iK).1
    have hr8:=XR r (List.mem_of_getElem? iK)
    have ezl:zs.length = (rows.take j).length * w.toNat:=by rw [h3.1,La]
    have lM:zs.length <= 3000:=by
     rw [ezl]
     refine Nat.le_trans (Nat.mul_le_mul_right _ ?_) jH
     rw [List.length_take]
     omega
    have hw3:w.toNat <= 3000:=Nat.le_trans (Nat.le_mul_of_pos_left _ (by omega)) jH
    refine ⟨_,rfl,.inl ⟨rfl,_,Ba.of h1⟩,_,rfl,_,_,rfl,rfl,1,w + 1,rfl,by omega,fun B hB=>?_⟩
    refine Dp (fun m ys H'=>H' B = some (.lst ys) /\ A9 H4 H' /\ Ad (En H') ((List.range m).map fun t=>r ++ [1 + ((t:Nat):Int)]) ys) ⟨A5,A9.upd hB,Ad.nil⟩ ?_ ?_
    ·rintro m ys H5 hm ⟨k1,s5,k2⟩ Qe hQ
     refine ⟨_,rfl,_,rfl,Bo,fun P hP=>?_⟩
     have s6:A9 H5 (upd H5 P (.tup [.int (1 + (m:Int))])):=A9.upd hP
     refine ⟨p,P,_,_,rfl,rfl,C7.of (s6 _ _ (s5 _ _ XT)),A5,by simp,Nat.le_of_lt (Ex (by simp; omega)),fun p' H6 s7 e7=>?_⟩
     generalize upd H5 P (.tup [.int (1 + (m:Int))]) = H5' at s6 s7
     have XU:=s6.trans s7
     have jO:=XU _ _ k1
     have kl:ys.length = m:=by rw [k2.1]; simp
     refine hQ _ _ jO (Ex (by omega)) ⟨A5,(s5.trans XU).new hB,?_⟩
     have tu:Af H5 (upd H6 B (.lst (ys ++ [.ref p']))):=(Af.of XU).trans (Af.lst jO)
     rw [List.range_succ,List.map_append]
     refine (k2.imp fun r v z=>En.up tu z).append (Ad.one ⟨p',rfl,?_⟩)
     refine Af.lst jO _ _ ?_
     rw [e7,List.map_append]
     rfl
    ·rintro ys H5 ⟨k1,s5,k2⟩
     have eB:((List.range (w + 1 - 1).toNat).map fun t=>r ++ [1 + ((t:Nat):Int)]) = Pu r w:=by
      rw [show w + 1 - 1 = w by omega]
      rfl
     rw [eB] at k2
     have eG:=s5 _ _ h1
     have kl:ys.length = w.toNat:=by rw [k2.1,Qc]
     refine ⟨D,B,_,_,rfl,rfl,eG,k1,Nat.le_of_lt (Ex (by omega)),?_⟩
     have tu:Af H5 (upd H5 D (.lst (zs ++ ys))):=Af.lst eG
     refine ⟨zs ++ ys,_,rfl,A5,by rw [Ac XS]; exact s5 _ _ h2,(s4.trans s5).new hD,?_⟩
     have e:C0 (rows.take (j + 1)) w = C0 (rows.take j) w ++ Pu r w:=Oa _ _ iK
     rw [e]
     exact (h3.imp fun r v z=>En.up ((Af.of s5).trans tu) z).append (k2.imp fun r v z=>En.up tu z)
   ·rintro σ H4 ⟨zs,v4',rfl,h1,h2,s4,h3⟩
    rw [f2.1,List.take_length] at h3
    refine ⟨_,rfl,D,zs,_,_,_,rfl,h1,s2.trans s4,?_,s2.free hD⟩
    rw [xR]
    exact h3
  ·rintro σ H2 ⟨L,us,v2,v3,v4,rfl,f1,s2,f2,hL⟩
   rw [List.length_map,List.take_length] at f2
   exact ⟨_,rfl,q L us H2 hL s2 f1 f2⟩
def Ug (K:PySem.W.Frag):Sp:=fun vs H Q _=>Vn fun (a:Addr) (ws:List Int) (cm:Option Int)=>Mm (vs = [.ref a]) (Bl H a ws cm) ((∀ w ∈ ws,1 <= w)) (1 <= qv cm) ((∀ w ∈ ws,intBits w <= 256)) (intBits (qv cm) <= 256) (ws.length <= 8) (Ak (qv cm) ws <= 3000) (∀ (l:Addr) (us:List V) (H':Hp),H l = none -> A9 H H' -> H' l = some (.lst us) -> Ad (E3 H') (Ao ws (qv cm)) us -> Q (.ref l) H')
theorem fq {fd oF oG jG:FuncData} (T:Txt K mg ad) (F:Fy K "standings" "standings" Lh ad.cK fd) (oH:Aj P w K mg base Bm 1 ad.cJ oF ["waits"] (Ti K)) (oJ:Az K oF ["waits"] []) (oK:Aj P w K mg base Bm 2 ad.cH oG ["hall"] (Sw K)) (oM:Az K oG ["hall"] []) (mJ:Aj P w K mg base Bm 1 ad.fK jG ["hall"] (Vm K)) (mK:Az K jG ["hall"] []):Aj P w K mg base Bm 3 ad.cK fd ["hall"] (Ug K):=by
 refine F.ok U5 (fun vs H Q E h=>?_) (fun aM A outer s H vs Q E hr h=>?_)
 ·rcases h with ⟨a,ws,cm,rfl,⟨t,bD,bX⟩,aN,vE,hb,vn,kA,hp,q⟩ <;> rfl
 ·obtain ⟨a,ws,cm,rfl,⟨t,bD,bX⟩,aN,vE,hb,vn,kA,hp,q⟩ := h
  refine ⟨_,(A7 (Cn (Bc R7 (Ag oK (hr.mono (by decide)) rfl T.HE T.kW oM .nil B0 (A0 (pv 0) A6)) (bf (v := .int 3000) (by rfl) T.eJ.choose_spec ⟨_,rfl⟩) (Be _)) (Ab Ll) Ax) (A7 (Ap (i:=1) U5.nd rfl (Or.inl rfl) (D1 A6)) (A7 (Ck PassesOwn.never rfl (Dk (w':=Nq K _) (Df (Ag oH (hr.mono (by decide)) rfl T.HH T.kX oJ .nil B0 (A0 (Bg (Bf K) (pv 0) Aa (fun _ _=>rfl)) A6)))) (Al (i:=2) U5.nd rfl (Or.inr rfl)) (Ab (Co (E4 (u':=Vb K _ _ _ _) (Fe PySem.F.plainAttrs_list PySem.F.slot_list_extend PySem.F.type_list_extend Gm (pv 1) (A0 (E6 (Db (by rfl) T.aX (A0 (Ag mJ (hr.mono (by decide)) rfl T.HD T.nY mK .nil B0 (A0 (pv 0) A6)) A6)) _ rfl Kv rfl rfl (fun _ _ _ _=>(Al (i:=0) Kl rfl (Or.inl rfl))) (fun _ _ _ _=>Cp) (fun _ _ _ _=>(Bz (A0 (pv 1) (A0 (pv 0) A6))))) A6)))))) (Ab (Aq (pv 1)))))),?_⟩
  have xS:Ak 1 ws <= 3000:=by
   have e:=J2 (qv cm) ws 1
   rw [Int.mul_one] at e
   have h1:1 <= Ak 1 ws:=E9 ws 1 (by decide) aN
   have h2:=Int.mul_le_mul_of_nonneg_right vE (show 0 <= Ak 1 ws by omega)
   rw [Int.one_mul] at h2
   omega
  have hq3:qv cm <= 3000:=Int.le_trans (E9 ws _ (by omega) aN) hp
  refine ⟨_,rfl,a,ws,cm,rfl,⟨t,bD,bX⟩,hb,vn,kA,_,_,rfl,rfl,_,rfl,Ix (decide_eq_false (by omega)) ?_⟩
  refine ⟨Bo,fun D hD=>?_⟩
  have s1:A9 H (upd H D (.lst [])):=A9.upd hD
  have e1:(upd H D (.lst [])) D = some (.lst []):=A5
  generalize upd H D (.lst []) = H1 at s1 e1 ⊢
  refine ⟨_,rfl,a,_,_,_,rfl,rfl,.inr (C7.of (s1 _ _ bD)),rfl,t,ws,rfl,s1 _ _ bX,aN,xS,kA,fun L us H2 hL s2 f1 f2=>⟨L,rfl,.inl ⟨⟨_,Ba.of f1⟩,?_⟩⟩⟩
  have vF:=s1.trans s2
  have e2:=s2 _ _ e1
  have XS:L ≠ D:=(Ah e1 hL).symm
  refine Cq (K:=K) (a:=L) (xs:=us) (fun j σ H'=>Yx fun (zs:List V) (v2:Option V)=>Q4 (σ = [some (.ref a),some (.ref D),v2]) (H' D = some (.lst zs)) (H' L = some (.lst us)) (A9 H H') (Af H2 H') (Ad (E3 H') (((C6 ws).take j).flatMap fun r=>F6 r (qv cm)) zs))
   ⟨[],none,rfl,e2,f1,vF,Af.of (A9.refl _),Ad.nil⟩ (by rintro j σ H' _ ⟨_,_,_,_,e,_⟩; exact Ba.of e) ?_ ?_
  ·rintro j y σ H4 hy ⟨zs,v2,rfl,h1,h2,s4,t4,h3⟩
   have g4:=f2.imp fun r v z=>En.up t4 z
   obtain ⟨r,iK,p,rfl,XT⟩ := g4.get hy
   have hj:=(List.getElem?_eq_some_iff.mp iK).1
   have lM:zs.length <= 3000:=by
    have e:=Ff (ws:=ws) (q:=qv cm) aN (by omega)
    rw [h3.1]
    have e2:Ao ws (qv cm) = (((C6 ws).take j).flatMap fun r=>F6 r (qv cm)) ++ (((C6 ws).drop j).flatMap fun r=>F6 r (qv cm)):=by
     rw [<- List.flatMap_append,List.take_append_drop]
     rfl
    rw [e2,List.length_append] at e
    omega
   refine ⟨_,rfl,.inl ⟨rfl,_,Ba.of h1⟩,_,rfl,a,ws,cm,rfl,⟨t,s4 _ _ bD,s4 _ _ bX⟩,qv cm,rfl,by omega,by omega,fun B hB=>?_⟩
   refine Dp (fun m ys H'=>H' B = some (.lst ys) /\ A9 H4 H' /\ Ad (E3 H') ((List.range m).map fun k=>(r,0 + ((k:Nat):Int))) ys) ⟨A5,A9.upd hB,Ad.nil⟩ ?_ ?_
   ·rintro m ys H5 hm ⟨k1,s5,k2⟩ Qe hQ
    refine ⟨_,rfl,_,rfl,Bo,fun P hP=>?_⟩
    have s6:A9 H5 (upd H5 P (.tup [.ref p,.int (0 + (m:Int))])):=A9.upd hP
    have e6:(upd H5 P (.tup [.ref p,.int (0 + (m:Int))])) P = some (.tup [.ref p,.int (0 + (m:Int))]):=A5
    generalize upd H5 P (.tup [.ref p,.int (0 + (m:Int))]) = H6 at s6 e6
    have jO:=s6 _ _ k1
    have kl:ys.length = m:=by rw [k2.1]; simp
    refine hQ _ _ jO (Ex (by omega)) ⟨A5,(s5.trans s6).new hB,?_⟩
    have tu:Af H5 (upd H6 B (.lst (ys ++ [.ref P]))):=(Af.of s6).trans (Af.lst jO)
    rw [List.range_succ,List.map_append]
    refine (k2.imp fun r v z=>E3.up tu z).append (Ad.one ⟨P,p,rfl,?_,?_⟩)
    ·exact Af.lst jO _ _ e6
    ·exact Af.lst jO _ _ (s6 _ _ (s5 _ _ XT))
   ·rintro ys H5 ⟨k1,s5,k2⟩
    have eG:=s5 _ _ h1
    have k3:Ad (E3 H5) (F6 r (qv cm)) ys:=k2
    have kl:ys.length = (qv cm).toNat:=by rw [k3.1,O3]
    refine ⟨D,B,_,_,rfl,rfl,eG,k1,Nat.le_of_lt (Ex (by omega)),?_⟩
    have tu:Af H5 (upd H5 D (.lst (zs ++ ys))):=Af.lst eG
    refine ⟨zs ++ ys,_,rfl,A5,by rw [Ac XS]; exact s5 _ _ h2,(s4.trans s5).new hD,(t4.trans (Af.of s5)).trans tu,?_⟩
    have e:(((C6 ws).take (j + 1)).flatMap fun r=>F6 r (qv cm)) = (((C6 ws).take j).flatMap fun r=>F6 r (qv cm)) ++ F6 r (qv cm):=Oa _ _ iK
    rw [e]
    exact (h3.imp fun r v z=>E3.up ((Af.of s5).trans tu) z).append (k3.imp fun r v z=>E3.up tu z)
  ·rintro σ H4 ⟨zs,v2,rfl,h1,h2,s4,t4,h3⟩
   rw [f2.1,List.take_length] at h3
   exact ⟨_,rfl,q D zs H4 hD s4 h1 h3⟩
def Ss (K:PySem.W.Frag):Sp:=fun vs H Q _=>df fun (a l:Addr) (ws:List Int) (cm:Option Int) (us:List V) (ps:List Kq)=>Mm (vs = [.ref a,.ref l]) (Bl H a ws cm) (0 < ws.length) (ws.length <= 8) ((∀ x ∈ ws,1 <= x)) (H l = some (.lst us)) (Ad (PQ H) ps us) (d0 ws.length ps) (∀ (r:Bool) (H':Hp),A9 H H' -> (r = true ↔ Uj ws cm ps) -> Q (.bl r) H')
theorem i6 {fd bA cB jF:FuncData} (T:Txt K mg ad) (F:Fy K "lets_kept" "lets_kept" Nw ad.cL fd) (bN:Aj P w K mg base Bm 5 ad.bJ bA ["hall","standing","who"] (Jf K)) (bO:Az K bA ["hall","standing","who"] []) (cC:Aj P w K mg base Bm 1 ad.bL cB ["hall"] (Le K)) (cD:Az K cB ["hall"] []) (mG:Aj P w K mg base Bm 1 ad.fJ jF ["hall","who"] (V9 K)) (mH:Az K jF ["hall","who"] []):Aj P w K mg base Bm 6 ad.cL fd ["hall","paper"] (Ss K):=by
 refine F.ok Km (fun vs H Q E h=>?_) (fun aM A outer s H vs Q E hr h=>?_)
 ·rcases h with ⟨a,l,ws,cm,us,ps,rfl,ha,h0,h8,aN,hl,eF,hg,q⟩ <;> rfl
 ·obtain ⟨a,l,ws,cm,us,ps,rfl,ha,h0,h8,aN,hl,eF,hg,q⟩ := h
  refine ⟨_,(A7 (Ap (i:=2) Km.nd rfl (Or.inl rfl) (C8 (Tj K (pk hr) rfl) (by rfl) T.xE boot_dict (A0 (pv 1) A6))) (A7 (Cn (PW.pt (U2 (Bc Rq (B9 On (by rfl) T.bW PySem.boot_len (A0 (pv 2) A6)) (B9 (Cz K) (by rfl) T.bW PySem.boot_len (A0 (pv 1) A6)) (Be _)) (P2 (Fr (Ec (E8 hr) (Ag cC (hr.mono (by decide)) rfl T.jA T.eS cD .nil B0 (A0 (pv 0) A6)) (pv 2)) rfl)))) (Ab (Aq Ft)) Ax) (A7 (Ck PassesOwn.never rfl (Dk (w':=Nq K _) (Df (pv 1))) (Ep K (n:=2) rfl (Bu (Al (i:=3) Km.nd rfl (Or.inl rfl)) (Bu (Al (i:=4) Km.nd rfl (Or.inl rfl)) Ek))) (A7 (Cn (Fm (Ee (Ag mG (hr.mono (by decide)) rfl T.HC T.nX mH .nil B0 (A0 (pv 0) (A0 (pv 4) A6))))) (Ab (Aq Ft)) Ax) (Ab (Ck PassesOwn.never rfl (Dk (w':=Nq K _) (Df (Ag bN (hr.mono (by decide)) rfl T.kU T.fM bO .nil B0 (A0 (pv 0) (A0 (pv 3) (A0 (pv 4) A6)))))) (Al (i:=5) Km.nd rfl (Or.inl rfl)) (Ab (Cn (PW.pt (U2 (Bc L8 (pv 5) D3 (Be _)) (P2 (Fr (Ec (E8 hr) (pv 5) (pv 2)) rfl)))) (Ab (Aq Ft)) Ax)))))) (Ab (Aq Ft))))),?_⟩
  obtain ⟨sI,hag⟩ := Zy eF
  refine ⟨_,rfl,l,us,Dd ps,rfl,Ba.of hl,sI,hag,fun d hd=>?_⟩
  have s1:A9 H (upd H d (.dT (Bv [] (Dd ps)))):=A9.upd hd
  have e1:(upd H d (.dT (Bv [] (Dd ps)))) d = some (.dT (Bv [] (Dd ps))):=A5
  generalize upd H d (.dT (Bv [] (Dd ps))) = H1 at s1 e1 ⊢
  have II:=eF.1
  have bD:=ha.same s1
  obtain ⟨wt,XW,XX⟩ := id bD
  refine ⟨_,rfl,d,_,rfl,e1,_,rfl,l,_,rfl,.inl (Ba.of (s1 _ _ hl)),_,_,rfl,rfl,_,rfl,(fun c H'=>A9 H1 H' /\ (c = true ↔ ¬ ((ps.map (·.1)).Nodup /\ (ws,0) ∈ ps.map (·.1)))),fun aI=>?_,fun EX=>?_,fun c H2 hc=>?_⟩
  ·simp only [decide_eq_true_eq] at aI
   exact ⟨A9.refl _,fun _ z=>(Vp ps).mp (by omega) z.1,fun _=>rfl⟩
  ·simp only [decide_eq_false_iff_not] at EX
   have mE:(ps.map (·.1)).Nodup:=Classical.byContradiction fun z=>EX (by have:=(Vp ps).mpr z; omega)
   refine ⟨_,rfl,a,ws,cm,rfl,bD,fun p H2 s2 cE=>?_⟩
   refine ⟨_,rfl,d,_,rfl,D4.t (s2 _ _ e1) (show Dt H2 p (ws,0) from cE),_,rfl,s2,?_⟩
   rw [<- Y0]
   cases (Ae (Bv [] (Dd ps)) (ws,0)).isSome <;> simp [mE]
  obtain ⟨aU,hc⟩ := hc
  refine Ej (fun h=>?_) (fun h=>?_)
  ·refine q false _ (s1.trans aU) ⟨(fun z=>nomatch z),fun z=>absurd ⟨z.1,z.2.1⟩ (hc.mp h)⟩
  obtain ⟨mE,hb⟩ : (ps.map (·.1)).Nodup /\ (ws,0) ∈ ps.map (·.1):=Classical.byContradiction fun z=>h (hc.mpr z)
  replace e1:=aU _ _ e1
  replace s1:=s1.trans aU
  clear hc h c bD XW XX wt aU hd
  generalize H2 = H1 at e1 s1 ⊢
  refine ⟨_,rfl,l,rfl,.inl ⟨⟨_,Ba.of (s1 _ _ hl)⟩,?_⟩⟩
  refine Cq (K:=K) (a:=l) (xs:=us) (fun i σ H'=>Vn fun (v3 v4 v5:Option V)=>Sk (σ = [some (.ref a),some (.ref l),some (.ref d),v3,v4,v5]) ((∀ p ∈ ps.take i,0 <= p.2 /\ p.2 < (ws.length:Int) /\ ∀ b ∈ Au ws p.1.1 cm p.1.2 p.2.toNat,∃ k,b = some k /\ k ∈ ps.map (·.1))) (A9 H1 H')) ⟨_,_,_,rfl,(fun p hp=>by rw [List.take_zero] at hp; cases hp),A9.refl _⟩ (by rintro i σ H' _ ⟨_,_,_,_,_,s⟩; exact Ba.of (s _ _ (s1 _ _ hl))) ?_ ?_
  ·rintro i u σ H2 hu ⟨v3,v4,v5,rfl,hall,s2⟩
   obtain ⟨p,hp,t,b,rfl,ht,hb⟩ := eF.get hu
   have tV:=List.mem_of_getElem? hp
   have jU:=hg.1 p tV
   have vF:=s1.trans s2
   have XY:D8 H2 b p.1.1 p.1.2:=Yk vF hb
   refine ⟨t,_,rfl,C7.of (vF _ _ ht),rfl,_,_,rfl,_,_,rfl,rfl,?_⟩
   refine ⟨_,rfl,_,rfl,a,ws,cm,_,rfl,ha.same vF,_,rfl,Ej (fun hn=>?_) (fun hn=>?_)⟩
   ·refine q false _ vF ⟨(fun z=>nomatch z),fun z=>?_⟩
    have:=z.2.2 p tV
    rw [decide_eq_true ⟨this.1,this.2.1⟩] at hn
    cases hn
   have IJ:0 <= p.2 /\ p.2 < (ws.length:Int):=Classical.byContradiction fun z=>hn (by rw [decide_eq_false z]; rfl)
   obtain ⟨w,ew⟩ : ∃ w:Nat,p.2 = (w:Int):=⟨p.2.toNat,by omega⟩
   have IK:p.2.toNat = w:=by omega
   refine ⟨_,rfl,_,rfl,_,rfl,a,b,ws,p.1.1,cm,p.1.2,_,w,rfl,ew,ha.same vF,XY,by omega,jU,h8,fun L ys H3 hL s3 eL eV=>⟨L,rfl,.inl ⟨⟨_,Ba.of eL⟩,?_⟩⟩⟩
   refine Cq (K:=K) (a:=L) (xs:=ys) (fun j σ H'=>∃ (v5:Option V),Sk (σ = [some (.ref a),some (.ref l),some (.ref d),some (.ref b),some (.int p.2),v5]) ((∀ x ∈ (Au ws p.1.1 cm p.1.2 w).take j,∃ k,x = some k /\ k ∈ ps.map (·.1))) (H3 = H')) ⟨_,rfl,(fun x hx=>by rw [List.take_zero] at hx; cases hx),rfl⟩ (by rintro j σ H' _ ⟨_,_,_,e⟩; exact (by rw [<- e]; exact Ba.of eL)) ?_ ?_
   ·rintro j y σ H4 hy ⟨v5,rfl,jP,rfl⟩
    obtain ⟨x,hx,IL⟩ := eV.get hy
    have SU:=vF.trans s3
    have ed3:=s3 _ _ (s2 _ _ e1)
    cases x with
    | none =>
     obtain rfl:y = V.aL:=IL
     refine ⟨_,rfl,rfl,_,rfl,(fun c H'=>c = true /\ H' = H3),(fun _=>⟨rfl,rfl⟩),(fun z=>nomatch z),fun c H5 hc=>?_⟩
     obtain ⟨rfl,rfl⟩ := hc
     refine N7 rfl ?_
     refine q false _ SU ⟨(fun z=>nomatch z),fun z=>?_⟩
     obtain ⟨k,e,_⟩ := (z.2.2 p tV).2.2 none (by rw [IK]; exact List.mem_of_getElem? hx)
     cases e
    | some k =>
     obtain ⟨bb,rfl,hk⟩ := IL
     refine ⟨_,rfl,rfl,_,rfl,(fun c H'=>c = !(Ae (Bv [] (Dd ps)) k).isSome /\ H' = H3),(fun z=>nomatch z),fun _=>⟨_,rfl,_,rfl,d,_,rfl,D4.t ed3 (show Dt H3 bb k from hk),_,rfl,rfl,rfl⟩,fun c H5 hc=>?_⟩
     obtain ⟨rfl,rfl⟩ := hc
     refine Ej (fun hn=>?_) (fun hn=>?_)
     ·refine q false _ SU ⟨(fun z=>nomatch z),fun z=>?_⟩
      obtain ⟨k',e,bP⟩ := (z.2.2 p tV).2.2 (some k) (by rw [IK]; exact List.mem_of_getElem? hx)
      cases e
      rw [<- Y0] at bP
      rw [bP] at hn
      cases hn
     ·refine ⟨_,rfl,fun x' iW=>?_,rfl⟩
      rw [List.take_add_one,hx] at iW
      rcases List.mem_append.mp iW with z | z
      ·exact jP x' z
      ·have e:x' = some k:=by simpa using z
       refine ⟨k,e,?_⟩
       rw [<- Y0]
       cases hv:(Ae (Bv [] (Dd ps)) k).isSome with
       | true=>rfl
       | false =>
        rw [hv] at hn
        exact absurd rfl hn
   rintro σ H4 ⟨v5,rfl,jP,rfl⟩
   rw [eV.1,List.take_length] at jP
   refine ⟨_,_,_,rfl,fun p' GX=>?_,s2.trans s3⟩
   rw [List.take_add_one,hp] at GX
   rcases List.mem_append.mp GX with z | z
   ·exact hall p' z
   ·have e:p' = p:=by simpa using z
    rw [e]
    exact ⟨IJ.1,IJ.2,by rw [IK]; exact jP⟩
  rintro σ H2 ⟨v3,v4,v5,rfl,hall,s2⟩
  rw [eF.1,List.take_length] at hall
  exact q true _ (s1.trans s2) ⟨fun _=>⟨mE,hb,hall⟩,fun _=>rfl⟩
def Ya (K:PySem.W.Frag):Sp:=fun vs H Q _=>Vn fun (a:Addr) (ws:List Int) (cm:Option Int)=>Mm (vs = [.ref a]) (Bl H a ws cm) ((∀ w ∈ ws,1 <= w)) (1 <= qv cm) ((∀ w ∈ ws,intBits w <= 256)) (intBits (qv cm) <= 256) (ws.length <= 8) (Ak (qv cm) ws <= 3000) (∀ (D:Addr) (kvs:List ((List Int × Int) × V)) (H':Hp),H D = none -> A9 H H' -> H' D = some (.dT kvs) -> Ci ws cm H' kvs -> kvs.map (·.1) = Ao ws (qv cm) -> Lw ws cm H' kvs -> (∀ kv ∈ kvs,∀ c,kv.2 = .ref c -> H c = none) -> kvs.length <= 3000 -> Q (.ref D) H')
theorem lw {fd oN bA:FuncData} (T:Txt K mg ad) (F:Fy K "calls_by_standing" "calls_by_standing" Wc ad.gC fd) (oO:Aj P w K mg base Bm 3 ad.cK oN ["hall"] (Ug K)) (oP:Az K oN ["hall"] []) (bN:Aj P w K mg base Bm 5 ad.bJ bA ["hall","standing","who"] (Jf K)) (bO:Az K bA ["hall","standing","who"] []):Aj P w K mg base Bm 6 ad.gC fd ["hall"] (Ya K):=by
 refine F.ok Os (fun vs H Q E h=>?_) (fun aM A outer s H vs Q E hr h=>?_)
 ·rcases h with ⟨a,ws,cm,rfl,ha,aN,vE,eU,gQ,FC,hp,q⟩ <;> rfl
 ·obtain ⟨a,ws,cm,rfl,ha,aN,vE,eU,gQ,FC,hp,q⟩ := h
  refine ⟨_,(A7 (Ap (i:=1) Os.nd rfl (Or.inl rfl) Fg) (A7 (Ck PassesOwn.never rfl (Dk (w':=Nq K _) (Df (Ag oO (hr.mono (by decide)) rfl T.HJ T.kY oP .nil B0 (A0 (pv 0) A6)))) (Al (i:=2) Os.nd rfl (Or.inl rfl)) (A7 (Ap (i:=3) Os.nd rfl (Or.inl rfl) Z5) (A7 (Ck PassesOwn.never rfl (Db (by rfl) T.aX (A0 (B9 (Cz K) (by rfl) T.bW PySem.boot_len (A0 (Bg (Bf K) (pv 0) Aa (fun _ _=>rfl)) A6)) A6)) (Al (i:=4) Os.nd rfl (Or.inl rfl)) (A7 (Ap (i:=5) Os.nd rfl (Or.inl rfl) (Ag bN (hr.mono (by decide)) rfl T.kU T.fM bO .nil B0 (A0 (pv 0) (A0 (pv 2) (A0 (pv 4) A6))))) (Ab (Dn (Bc (Wz K hr) D3 (pv 5) rfl) (Ab (Gw (E8 hr) (pv 3) (pv 4) (pv 5) rfl)) Ax)))) (Ab (Gw (E8 hr) (pv 1) (pv 2) (pv 3) rfl))))) (Ab (Aq (pv 1))))),?_⟩
  refine fun D hD=>?_
  have s1:A9 H (upd H D (.dT [])):=A9.upd hD
  have e1:(upd H D (.dT [])) D = some (.dT []):=A5
  generalize upd H D (.dT []) = H1 at s1 e1 ⊢
  refine ⟨_,rfl,a,ws,cm,rfl,ha.same s1,aN,vE,eU,gQ,FC,hp,fun l us H2 hl s2 el iV=>⟨l,rfl,.inl ⟨⟨_,Ba.of el⟩,?_⟩⟩⟩
  have hlen:us.length <= 3000:=by
   have h1:=iV.1
   have h2:=Ff aN (show 0 <= qv cm by omega)
   omega
  have aU:=s1.trans s2
  have eD2:=s2 _ _ e1
  refine Cq (K:=K) (a:=l) (xs:=us) (fun i σ H'=>ll fun (kvs:List ((List Int × Int) × V)) (v2 v3 v4 v5:Option V)=>Mm (σ = [some (.ref a),some (.ref D),v2,v3,v4,v5]) (A9 H H') (LT H2 H') (H' D = some (.dT kvs)) (Ci ws cm H' kvs) ((∀ kv ∈ kvs,∀ c,kv.2 = .ref c -> H c = none)) (kvs.length <= i) (kvs.map (·.1) = (Ao ws (qv cm)).take i) (Lw ws cm H' kvs))
   ⟨[],_,_,_,_,rfl,aU,⟨fun _ _ z=>z,fun _ _ z=>z⟩,eD2,⟨(fun kv z=>by cases z),List.Pairwise.nil,List.Pairwise.nil⟩,(fun kv z=>by cases z),Nat.le_refl _,rfl,(fun kv z=>by cases z)⟩ (by rintro i σ H' _ ⟨_,_,_,_,_,_,_,t,_⟩; exact Ba.of (t.1 _ _ el)) ?_ ?_
  ·rintro i u σ H' hu ⟨kvs,v2,v3,v4,v5,rfl,s',t',mI,fX,fG,gR,eX,oQ⟩
   have hi:=(List.getElem?_eq_some_iff.mp hu).1
   obtain ⟨z,hz,p,w,rfl,hz1,hz2⟩ := iV.get hu
   obtain ⟨m1,m2,m3,m4⟩ := Nd (List.mem_of_getElem? hz)
   have IM:D8 H' p z.1 z.2:=⟨w,t'.2 _ _ hz1,t'.2 _ _ hz2⟩
   refine fun c hc=>?_
   have s3:A9 H' (upd H' c (.dK [])):=A9.upd hc
   have e3:(upd H' c (.dK [])) c = some (.dK []):=A5
   generalize upd H' c (.dK []) = H3 at s3 e3 ⊢
   have SU:=s'.trans s3
   obtain ⟨wt,bD,bX⟩ := id (ha.same SU)
   refine ⟨_,rfl,a,_,_,_,rfl,rfl,.inr (C7.of bD),rfl,wt,_,rfl,.inr (C7.of bX),_,rfl,by omega,by rw [List.length_map]; omega,?_⟩
   refine Jn (n:=(ws.map V.int).length) (fun j σ H4=>Vn fun (cs:List (Du × V)) (v4 v5:Option V)=>Q4 (σ = [some (.ref a),some (.ref D),some (.ref p),some (.ref c),v4,v5]) (A9 H' H4) (H4 c = some (.dK cs)) (Gk ws cm z H4 cs) (cs.length <= j) (∀ who:Nat,who < j -> none ∉ Au ws z.1 cm z.2 who -> (Ae cs (.inl (who:Int))).isSome = true))
    ⟨[],_,_,rfl,s3,e3,(fun e z=>by cases z),Nat.le_refl _,(fun who z=>absurd z (Nat.not_lt_zero _))⟩ ?_ ?_
   ·rintro j σ H4 hj ⟨cs,v4,v5,rfl,s4,SW,tW,mT,SX⟩
    rw [List.length_map] at hj
    have s04:=s'.trans s4
    refine ⟨_,rfl,_,rfl,_,rfl,a,p,ws,z.1,cm,z.2,_,j,rfl,by omega,ha.same s04,IM.same s4,hj,m1,FC,fun L gP H5 hL s5 eL lQ=>?_⟩
    refine ⟨_,rfl,L,gP,.none,(Au ws z.1 cm z.2 j).map gn,rfl,Ba.of eL,Yy,Op lQ,by decide,_,rfl,_,fun hb=>?_,fun hb=>?_,fun _ _ z=>z⟩
    ·rw [if_pos rfl,Pz] at hb
     have vg:none ∉ Au ws z.1 cm z.2 j:=by simpa using hb
     have mL:=s5 _ _ SW
     refine ⟨_,rfl,_,rfl,_,rfl,c,_,rfl,.inl ⟨cs,.inl (j:Int),mL,congrArg V.int (Int.zero_add _),B7 (by omega),rfl⟩,?_⟩
     have t6:LT H5 (upd H5 c (.dK (B8 cs (.inl (j:Int)) (.ref L)))):=LT.dK mL
     refine ⟨B8 cs (.inl (j:Int)) (.ref L),_,_,rfl,(s4.trans s5).new hc,A5,?_,Nat.le_trans (D9 _ _ _) (by omega),fun who xH hn=>U7 ?_⟩
     ·have hold:Gk ws cm z (upd H5 c (.dK (B8 cs (.inl (j:Int)) (.ref L)))) cs:=tW.up ((LT.of s5).trans t6)
      intro e he
      rcases Z0 he with y | y
      ·exact hold e y
      ·subst y
       exact ⟨j,L,gP,rfl,hj,vg,rfl,t6.1 _ _ eL,lQ.imp fun _ _ y=>E5.up t6.2 y⟩
     ·rcases Nat.lt_or_ge who j with y | y
      ·exact .inl (SX who y hn)
      ·have e:who = j:=by omega
       rw [e]
       exact .inr rfl
    ·rw [if_pos rfl,Pz] at hb
     have XZ:none ∈ Au ws z.1 cm z.2 j:=by simpa using hb
     refine ⟨cs,_,_,rfl,s4.trans s5,s5 _ _ SW,tW.up (LT.of s5),by omega,fun who xH hn=>?_⟩
     rcases Nat.lt_or_ge who j with y | y
     ·exact SX who y hn
     ·have e:who = j:=by omega
      rw [e] at hn
      exact absurd XZ hn
   rintro σ H4 ⟨cs,v4,v5,rfl,s4,SW,tW,mT,SX⟩
   rw [List.length_map] at mT
   have FD:=s4 _ _ mI
   refine ⟨_,rfl,_,rfl,_,rfl,D,_,rfl,K0.t FD (show Dt H4 p z from IM.same s4) (Bt (by omega)),?_⟩
   have t5:LT H4 (upd H4 D (.dT (B8 kvs z (.ref c)))):=LT.dT FD
   have k5:∀ c' iA,H4 c' = some (.dK iA) -> (upd H4 D (.dT (B8 kvs z (.ref c)))) c' = some (.dK iA):=fun c' iA e=>by
    rw [Ac (Bp e FD (by intro z; cases z))]
    exact e
   have s05:=s'.trans s4
   have hnz:Ae kvs z = none:=by
    cases hv:Ae kvs z with
    | none=>rfl
    | some v =>
     have:=List.mem_map_of_mem (f:=(·.1)) (Bk hv)
     rw [eX] at this
     exact absurd this (Nx (Jt _ _) hz)
   have ep:B8 kvs z (.ref c) = kvs ++ [(z,.ref c)]:=Cj _ hnz
   have kB:Ci ws cm (upd H4 D (.dT (B8 kvs z (.ref c)))) kvs:=(fX.keep (LT.of s4) (fun c cs e=>s4 _ _ e)).keep t5 k5
   have xU:Lw ws cm (upd H4 D (.dT (B8 kvs z (.ref c)))) kvs:=(oQ.keep fX (fun c cs e=>s4 _ _ e)).keep (fX.keep (LT.of s4) (fun c cs e=>s4 _ _ e)) k5
   have mL:=k5 _ _ SW
   have xV:=tW.up t5
   have sN:A9 H (upd H4 D (.dT (B8 kvs z (.ref c)))):=s05.new hD
   have tN:LT H2 (upd H4 D (.dT (B8 kvs z (.ref c)))):=(t'.trans (LT.of s4)).trans t5
   have eN:(upd H4 D (.dT (B8 kvs z (.ref c)))) D = some (.dT (B8 kvs z (.ref c))):=A5
   rw [ep] at kB xU mL xV sN tN eN ⊢
   generalize upd H4 D (.dT (kvs ++ [(z,.ref c)])) = H6 at kB xU mL xV sN tN eN ⊢
   have dE:∀ kv ∈ kvs,kv.2 ≠ .ref c:=fun kv aG e=>by
    obtain ⟨d,ds,e1,e2,_⟩ := fX.1 kv aG
    rw [e] at e1
    cases e1
    rw [hc] at e2
    cases e2
   refine ⟨kvs ++ [(z,.ref c)],_,_,_,_,rfl,sN,tN,eN,⟨Lg kB.1 ⟨c,cs,rfl,mL,by omega,xV⟩,?_,?_⟩,Lg fG (fun c' e=>by cases e; exact s'.free hc),by rw [List.length_append,List.length_singleton]; omega,?_,?_⟩
   ·rw [List.map_append]
    refine Dw kB.2.1 (fun y=>?_)
    rw [eX] at y
    exact Nx (Jt _ _) hz y
   ·rw [List.map_append]
    refine Dw kB.2.2 (fun y=>?_)
    obtain ⟨kv,aG,e⟩ := List.mem_map.mp y
    exact dE kv aG e
   ·rw [List.map_append,eX,List.take_add_one,hz]
    rfl
   ·intro kv aG c' iA e1 e2
    rcases List.mem_append.mp aG with y | y
    ·exact xU kv y c' iA e1 e2
    ·cases List.mem_singleton.mp y
     cases e1
     rw [mL] at e2
     cases e2
     exact fun who hw hn=>SX who (by rw [List.length_map]; exact hw) hn
  rintro σ H' ⟨kvs,v2,v3,v4,v5,rfl,s',t',mI,fX,fG,gR,eX,oQ⟩
  rw [iV.1,List.take_length] at eX
  exact ⟨_,rfl,q D kvs H' hD s' mI fX eX oQ fG (by omega)⟩
def Tb (K:PySem.W.Frag):Sp:=fun vs H Q _=>Uy fun (D:Addr) (kvs:List ((List Int × Int) × V)) (ws:List Int) (cm:Option Int)=>Ij (vs = [.ref D]) (H D = some (.dT kvs)) (Ci ws cm H kvs) (kvs.length <= 3000) (∀ (W:Addr) (wv:List ((List Int × Int) × V)) (H':Hp),H W = none -> A9 H H' -> H' W = some (.dT wv) -> F9 ws cm H kvs 48000 H' wv -> (∀ k who later,An H kvs k who -> some later ∈ Au ws k.1 cm k.2 who -> Cl H' wv later k who) -> wv.length <= 48000 -> Q (.ref W) H')
theorem im {fd  : FuncData} (T:Txt K mg ad) (F:Fy K "ways_to" "ways_to" N4 ad.cM fd):Aj P w K mg base Bm 1 ad.cM fd ["pending"] (Tb K):=by
 refine F.ok Hq (fun vs H Q E h=>?_) (fun aM A outer s H vs Q E hr h=>?_)
 ·rcases h with ⟨D,kvs,ws,cm,rfl,hD,eF,gR,q⟩ <;> rfl
 ·obtain ⟨D,kvs,ws,cm,rfl,hD,eF,gR,q⟩ := h
  refine ⟨_,(A7 (Ap (i:=1) Hq.nd rfl (Or.inl rfl) Fg) (A7 (Pl (Ck PassesOwn.never rfl (Ig (pv 0)) (Ep K (n:=2) rfl (Bu (Al (i:=2) Hq.nd rfl (Or.inl rfl)) (Bu (Al (i:=3) Hq.nd rfl (Or.inl rfl)) Ek))) (Ab (Pl (Ck PassesOwn.never rfl (Ig (pv 3)) (Ep K (n:=2) rfl (Bu (Al (i:=4) Hq.nd rfl (Or.inl rfl)) (Bu (Al (i:=5) Hq.nd rfl (Or.inl rfl)) Ek))) (Ab (Ck PassesOwn.never rfl (Dk (w':=Nq K _) (Df (pv 5))) (Al (i:=6) Hq.nd rfl (Or.inl rfl)) (Ab (Co (E4 (u':=Vb K _ _ _ _) (Fe PySem.F.plainAttrs_list PySem.F.slot_list_append PySem.F.type_list_append Cy (Q9 (Zp (E8 hr) (pv 1) (pv 6) (D1 A6) ⟨rfl,rfl,rfl,rfl⟩)) (A0 (Bz (A0 (pv 2) (A0 (pv 4) A6))) A6)))))))))))) (Ab (Aq (pv 1))))),?_⟩
  have fX:=eF.ok
  refine fun W hW=>?_
  have s1:A9 H (upd H W (.dT [])):=A9.upd hW
  have e1:(upd H W (.dT [])) W = some (.dT []):=A5
  generalize upd H W (.dT []) = H1 at s1 e1 ⊢
  have hD1:=s1 _ _ hD
  have YA:W ≠ D:=(Ah hD hW).symm
  refine ⟨D,.dT kvs,trivial,hD1,_,rfl,D,.dT kvs,rfl,trivial,hD1,fun o=>?_⟩
  refine No (d:=D) (o:=o) (u := .dT kvs) (fun i σ H'=>df fun (wv:List ((List Int × Int) × V)) (v2 v3 v4 v5 v6:Option V)=>Yn (σ = [some (.ref D),some (.ref W),v2,v3,v4,v5,v6]) (H' D = some (.aP o (.dT kvs))) ((ug D H H')) (H' W = some (.dT wv)) (F9 ws cm H kvs (16 * i) H' wv) (wv.length <= 16 * i) (j8 ws cm H kvs i H' wv))
   ⟨[],_,_,_,_,_,rfl,A5,(fun b ob n e=>(Ac n).trans (s1 _ _ e)),(Ac YA).trans e1,⟨(fun kv z=>by cases z),List.Pairwise.nil⟩,Nat.zero_le _,(fun k who later z=>by obtain ⟨v,z⟩ := z; rw [List.take_zero] at z; cases z)⟩ (by rintro i σ H' _ ⟨_,_,_,_,_,_,_,e,_⟩; exact e) ?_ ?_
  ·rintro i x y T σ H' hi hit ⟨wv,v2,v3,v4,v5,v6,rfl,mI,k',lN,tX,fW,vt⟩ hT
   have YB:i < 3000:=Nat.lt_of_lt_of_le hi gR
   obtain ⟨kk,bb,aG,rfl,mV⟩ := hit
   have bR:(kk,y) ∈ kvs:=List.mem_of_getElem? aG
   obtain ⟨kw,hkw⟩ := Jq bR
   obtain ⟨c,cs,ey,hc,mT,tW⟩ := eF.1 _ bR
   have YC:y = .ref c:=ey
   subst YC
   have s2:A9 H' (upd H' T (.tup [.ref bb,.ref c])):=A9.upd hT
   have e2:(upd H' T (.tup [.ref bb,.ref c])) T = some (.tup [.ref bb,.ref c]):=A5
   generalize upd H' T (.tup [.ref bb,.ref c]) = H2 at s2 e2 ⊢
   refine ⟨T,_,rfl,C7.of e2,rfl,_,_,rfl,_,_,rfl,rfl,?_⟩
   have YD:c ≠ D:=Bp hc hD (by intro z; cases z)
   have YE:c ≠ W:=Ah hc hW
   have jV:=s2 _ _ (k' c _ YD hc)
   refine ⟨c,.dK cs,trivial,jV,_,rfl,c,.dK cs,rfl,trivial,jV,fun o2=>?_⟩
   have YF:LT H2 (upd H2 c (.aP o2 (.dK cs))):=LT.dK jV
   refine No (d:=c) (o:=o2) (u := .dK cs) (fun j σ H3=>Uy fun (wv:List ((List Int × Int) × V)) (v4 v5 v6:Option V)=>Kj (σ = [some (.ref D),some (.ref W),some (.ref bb),some (.ref c),v4,v5,v6]) (H3 c = some (.aP o2 (.dK cs))) (H3 D = some (.aP o (.dT kvs))) ((ln D c H H3)) (Af H2 H3) (H3 W = some (.dT wv)) (F9 ws cm H kvs (16 * i + 2 * j) H3 wv) (wv.length <= 16 * i + 2 * j) ((j8 ws cm H kvs i H3 wv)) (ma ws cm cs j kk H3 wv))
    ⟨wv,_,_,_,rfl,A5,(Ac YD.symm).trans (s2 _ _ mI),(fun b ob n1 n2 e=>(Ac n2).trans (s2 _ _ (k' b ob n1 e))),YF.2,(Ac YE.symm).trans (s2 _ _ lN),tX.up ((LT.of s2).trans YF) (by omega),by omega,(fun k who later z1 z2 z3=>(vt k who later z1 z2 z3).up ((LT.of s2).trans YF)),(fun who later z=>by obtain ⟨e,z,_⟩ := z; rw [List.take_zero] at z; cases z)⟩ (by rintro j σ H3 _ ⟨_,_,_,_,_,e,_⟩; exact e) ?_ ?_
   ·rintro j x2 y2 T2 σ H3 hj YG ⟨YH,v4,v5,v6,rfl,vG,YI,k3,t3,tY,xW,IP,YJ,xX⟩ IQ
    have hj8:j < 8:=Nat.lt_of_lt_of_le hj mT
    obtain ⟨kk2,IT,rfl⟩ := YG
    obtain ⟨w2,l,gP,ei,hw2,YK,el,hl,xY⟩ := tW _ (List.mem_of_getElem? IT)
    have sE:gP.length <= 2:=by
     rw [xY.1]
     unfold Au
     split <;> simp
    have ei':kk2 = .inl (w2:Int):=ei
    subst ei'
    have el':y2 = .ref l:=el
    subst el'
    have s4:A9 H3 (upd H3 T2 (.tup [kV (.inl (w2:Int)),.ref l])):=A9.upd IQ
    have e4:(upd H3 T2 (.tup [kV (.inl (w2:Int)),.ref l])) T2 = some (.tup [kV (.inl (w2:Int)),.ref l]):=A5
    generalize upd H3 T2 (.tup [kV (.inl (w2:Int)),.ref l]) = H4 at s4 e4 ⊢
    refine ⟨T2,_,rfl,C7.of e4,rfl,_,_,rfl,_,_,rfl,rfl,?_⟩
    have hlD:l ≠ D:=Bp hl hD (by intro z; cases z)
    have IU:l ≠ c:=Bp hl hc (by intro z; cases z)
    refine ⟨_,rfl,l,rfl,.inl ⟨⟨_,Ba.of (s4 _ _ (k3 l _ hlD IU hl))⟩,?_⟩⟩
    refine Cq (K:=K) (a:=l) (xs:=gP) (fun m σ H5=>Yx fun (wv:List ((List Int × Int) × V)) (v6:Option V)=>Ul (σ = [some (.ref D),some (.ref W),some (.ref bb),some (.ref c),some (kV (.inl (w2:Int))),some (.ref l),v6]) (H5 c = some (.aP o2 (.dK cs))) (H5 D = some (.aP o (.dT kvs))) ((ln D c H H5)) (Af H2 H5) (H5 W = some (.dT wv)) (F9 ws cm H kvs (16 * i + 2 * j + m) H5 wv) (wv.length <= 16 * i + 2 * j + m) ((j8 ws cm H kvs i H5 wv)) ((ma ws cm cs j kk H5 wv)) (∀ later,some later ∈ (Au ws kk.1 cm kk.2 w2).take m -> Cl H5 wv later kk w2))
     ⟨YH,_,rfl,s4 _ _ vG,s4 _ _ YI,(fun b ob n1 n2 e=>s4 _ _ (k3 b ob n1 n2 e)),t3.trans (Af.of s4),s4 _ _ tY,xW.up (LT.of s4) (Nat.le_refl _),IP,(fun k who later z1 z2 z3=>(YJ k who later z1 z2 z3).up (LT.of s4)),(fun who later z1 z2=>(xX who later z1 z2).up (LT.of s4)),(fun later z=>by rw [List.take_zero] at z; cases z)⟩ (by rintro m σ H5 _ ⟨_,_,_,_,_,k5,_⟩; exact Ba.of (k5 l _ hlD IU hl)) ?_ ?_
    ·rintro m u σ H5 hu ⟨xZ,v6,rfl,mL,gS,k5,t5,SY,kC,YL,TC,tZ,uA⟩
     have lY:m < 2:=Nat.lt_of_lt_of_le (List.getElem?_eq_some_iff.mp hu).1 sE
     obtain ⟨r0,FE,iK⟩ := xY.get hu
     obtain ⟨lk,er⟩ : ∃ lk,r0 = some lk:=by
      cases r0 with
      | none=>exact absurd (List.mem_of_getElem? FE) YK
      | some r=>exact ⟨r,rfl⟩
     subst er
     obtain ⟨lb,rfl,uB⟩ := iK
     have YM:Dt H lb lk:=uB
     have tH5:Af H H5:=fun b xs e=>k5 b _ (Bp e hD (by intro z; cases z)) (Bp e hc (by intro z; cases z)) e
     have YN:=YM.up tH5
     have IV:∀ E,H5 E = none -> H E = none:=fun E hE=>by
      cases hHE:H E with
      | none=>rfl
      | some ob =>
       by_cases z1:E = D
       ·rw [z1,gS] at hE
        cases hE
       by_cases z2:E = c
       ·rw [z2,mL] at hE
        cases hE
       rw [k5 E ob z1 z2 hHE] at hE
       cases hE
     refine ⟨(fun v H7=>Vn fun (uC:List ((List Int × Int) × V)) (l7:Addr) (y0:List V)=>ck (v = .ref l7) (Ae uC lk = some (.ref l7)) (H l7 = none) (H7 l7 = some (.lst y0)) (y0.length <= 16 * i + 2 * j + m) ((∀ u ∈ y0,Pj ws cm kvs H7 lk u)) (H7 c = some (.aP o2 (.dK cs))) (H7 D = some (.aP o (.dT kvs))) ((∀ b ob,b ≠ D -> b ≠ c -> H b = some ob -> H7 b = some ob)) (Af H5 H7) (H7 W = some (.dT uC)) (F9 ws cm H kvs (16 * i + 2 * j + m) H7 uC) (uC.length <= 16 * i + 2 * j + m + 1) ((∀ k who later,(∃ v,(k,v) ∈ kvs.take i) -> An H kvs k who -> some later ∈ Au ws k.1 cm k.2 who -> Cl H7 uC later k who)) ((∀ who later,(∃ e ∈ cs.take j,e.1 = .inl ((who:Nat):Int)) -> some later ∈ Au ws kk.1 cm kk.2 who -> Cl H7 uC later kk who)) ((∀ later,some later ∈ (Au ws kk.1 cm kk.2 w2).take m -> Cl H7 uC later kk w2))),⟨_,rfl,W,rfl,.inr ⟨xZ,.inl SY⟩,_,rfl,Bo,fun E hE=>?_⟩,?_⟩
     ·have s6:A9 H5 (upd H5 E (.lst [])):=A9.upd hE
      have e6:(upd H5 E (.lst [])) E = some (.lst []):=A5
      generalize upd H5 E (.lst []) = H6 at s6 e6 ⊢
      have IW:=s6 _ _ SY
      refine ⟨xZ,lk,lb,rfl,YN.up (Af.of s6),IW,Bt (by omega),fun v hv=>?_,fun hv=>?_⟩
      ·obtain ⟨l7,y0,e7,h0,h1,h2,h3⟩ := kC.1 _ (Bk hv)
       have e7':v = .ref l7:=e7
       exact ⟨xZ,l7,y0,e7,by rw [hv,e7'],h0,s6 _ _ h1,h2,(fun u hu=>(h3 u hu).up (Af.of s6)),s6 _ _ mL,s6 _ _ gS,(fun b ob n1 n2 e=>s6 _ _ (k5 b ob n1 n2 e)),Af.of s6,IW,kC.up (LT.of s6) (Nat.le_refl _),by omega,(fun k who later z1 z2 z3=>(TC k who later z1 z2 z3).up (LT.of s6)),(fun who later z1 z2=>(tZ who later z1 z2).up (LT.of s6)),(fun later z=>(uA later z).up (LT.of s6))⟩
      ·have t7:LT H6 (upd H6 W (.dT (B8 xZ lk (.ref E)))):=LT.dT IW
       have nE:=IV E hE
       have TF:=(LT.of s6).trans t7
       refine ⟨B8 xZ lk (.ref E),E,[],rfl,by rw [Ez,if_pos rfl],nE,t7.1 _ _ e6,Nat.zero_le _,(fun u hu=>by cases hu),(Ac YE).trans (s6 _ _ mL),(Ac YA.symm).trans (s6 _ _ gS),(fun b ob n1 n2 e=>(Ac (Ah e hW)).trans (s6 _ _ (k5 b ob n1 n2 e))),(Af.of s6).trans t7.2,A5,?_,Nat.le_trans (D9 _ _ _) (by omega),(fun k who later z1 z2 z3=>((TC k who later z1 z2 z3).up TF).put hv),(fun who later z1 z2=>((tZ who later z1 z2).up TF).put hv),(fun later z=>((uA later z).up TF).put hv)⟩
       refine ⟨fun kv aG=>?_,?_⟩
       ·rcases Z0 aG with y | y
        ·exact (kC.up TF (Nat.le_refl _)).1 kv y
        ·subst y
         exact ⟨E,[],rfl,nE,t7.1 _ _ e6,Nat.zero_le _,fun u hu=>by cases hu⟩
       ·rw [Cj _ hv,List.map_append]
        refine Dw kC.2 (fun y=>?_)
        obtain ⟨kv,aG,e⟩ := List.mem_map.mp y
        obtain ⟨l9,us9,e9,_,h9,_⟩ := kC.1 kv aG
        have e':kv.2 = .ref E:=e
        rw [e'] at e9
        cases e9
        rw [hE] at h9
        cases h9
     rintro v H7 ⟨uC,l7,y0,rfl,TH,n7,YO,YQ,IX,hc7,hD7,k7,t7,IY,YR,hwl7,hs7,YS,YT⟩
     refine ⟨.inl ⟨rfl,_,Ba.of YO⟩,_,rfl,_,rfl,Bo,fun T3 hT3=>?_⟩
     have s8:A9 H7 (upd H7 T3 (.tup [.ref bb,kV (.inl (w2:Int))])):=A9.upd hT3
     have e8:(upd H7 T3 (.tup [.ref bb,kV (.inl (w2:Int))])) T3 = some (.tup [.ref bb,kV (.inl (w2:Int))]):=A5
     generalize upd H7 T3 (.tup [.ref bb,kV (.inl (w2:Int))]) = H8 at s8 e8 ⊢
     have kA:=s8 _ _ YO
     refine ⟨l7,_,_,rfl,rfl,kA,Bt (by omega),?_⟩
     have YU:l7 ≠ D:=(Ah hD n7).symm
     have YV:l7 ≠ c:=(Ah hc n7).symm
     have YW:l7 ≠ W:=Bp YO IY (by intro z; cases z)
     have IZ:Dt H8 bb kk:=(((mV.up (Af.of s2)).up t5).up t7).up (Af.of s8)
     have YX:Pj ws cm kvs H8 lk (.ref T3):=⟨T3,bb,w2,kk,rfl,e8,IZ,⟨kw,hkw⟩,List.mem_of_getElem? FE⟩
     refine ⟨uC,_,rfl,(Ac YV.symm).trans (s8 _ _ hc7),(Ac YU.symm).trans (s8 _ _ hD7),(fun b ob n1 n2 e=>(Ac (Ah e n7)).trans (s8 _ _ (k7 b ob n1 n2 e))),((t5.trans t7).trans (Af.of s8)).trans (Af.lst kA),(Ac YW.symm).trans (s8 _ _ IY),?_,by omega,(fun k who later z1 z2 z3=>((hs7 k who later z1 z2 z3).up (LT.of s8)).app kA),(fun who later z1 z2=>((YS who later z1 z2).up (LT.of s8)).app kA),(fun later z=>?_)⟩
     ·exact F9.app (YR.up (LT.of s8) (Nat.le_refl _)) (Bk TH) kA YQ (fun u hu=>(IX u hu).up (Af.of s8)) YX
     ·rw [List.take_add_one,FE] at z
      rcases List.mem_append.mp z with y | y
      ·exact ((YT later y).up (LT.of s8)).app kA
      ·have ey:later = lk:=by simpa using y
       subst ey
       have tt:Af H8 (upd H8 l7 (.lst (y0 ++ [.ref T3]))):=Af.lst kA
       exact ⟨l7,_,T3,bb,TH,A5,by simp,tt _ _ e8,IZ.up tt⟩
    rintro σ H5 ⟨xZ,v6,rfl,mL,gS,k5,t5,SY,kC,YL,TC,tZ,uA⟩
    refine ⟨xZ,_,_,_,rfl,mL,gS,k5,t5,SY,kC.up ⟨fun _ _ z=>z,fun _ _ z=>z⟩ (by omega),by omega,TC,fun who later z1 z2=>?_⟩
    obtain ⟨e,he,ew⟩ := z1
    rw [List.take_add_one,IT] at he
    rcases List.mem_append.mp he with y | y
    ·exact tZ who later ⟨e,y,ew⟩ z2
    ·have ey:e = (.inl (w2:Int),.ref l):=by simpa using y
     subst ey
     have ew2:(w2:Int) = (who:Int):=Sum.inl.inj ew
     have ew3:w2 = who:=by omega
     subst ew3
     refine uA later ?_
     rw [xY.1,List.take_length]
     exact z2
   rintro σ H3 ⟨YH,v4,v5,v6,rfl,vG,YI,k3,t3,tY,xW,IP,YJ,xX⟩
   have hll:Cd (.dK cs) <= 8:=mT
   have tz:LT H3 (upd H3 c (.dK cs)):=⟨fun b xs e=>by rw [Ac (Bp e vG (by intro z; cases z))]; exact e,fun b xs e=>by rw [Ac (Bp e vG (by intro z; cases z))]; exact e⟩
   refine ⟨o2,vG,YH,_,_,_,_,_,rfl,(Ac YD.symm).trans YI,(fun b ob n1 e=>?_),(Ac YE.symm).trans tY,xW.up tz (show 16 * i + 2 * Cd (.dK cs) <= 16 * (i + 1) by omega),by omega,fun k who later z1 z2 z3=>?_⟩
   ·by_cases z:b = c
    ·subst z
     rw [hc] at e
     cases e
     exact A5
    ·exact (Ac z).trans (k3 b ob n1 z e)
   ·obtain ⟨v,hv⟩ := z1
    rw [List.take_add_one,aG] at hv
    rcases List.mem_append.mp hv with y | y
    ·exact (YJ k who later ⟨v,y⟩ z2 z3).up tz
    ·have ey:(k,v) = (kk,.ref c):=by simpa using y
     cases ey
     obtain ⟨c',iA,g1,g2,g3⟩ := z2
     rw [Cc eF.2.1 bR] at g1
     cases g1
     rw [hc] at g2
     cases g2
     obtain ⟨w',XJ⟩ := Option.isSome_iff_exists.mp g3
     refine (xX who later ⟨(.inl (who:Int),w'),?_,rfl⟩ z3).up tz
     show _ ∈ cs.take cs.length
     rw [List.take_length]
     exact Bk XJ
  rintro σ H' ⟨wv,v2,v3,v4,v5,v6,rfl,mI,k',lN,tX,fW,vt⟩
  have YY:Cd (.dT kvs) <= 3000:=gR
  have tD:LT H' (upd H' D (.dT kvs)):=⟨fun b xs e=>by rw [Ac (Bp e mI (by intro z; cases z))]; exact e,fun b xs e=>by rw [Ac (Bp e mI (by intro z; cases z))]; exact e⟩
  refine ⟨o,mI,_,rfl,q W wv _ hW (fun b ob e=>?_) ((Ac YA).trans lN) (tX.up tD (show 16 * Cd (.dT kvs) <= 48000 by omega)) (fun k who later z2 z3=>?_) (by omega)⟩
  ·by_cases z:b = D
   ·subst z
    rw [hD] at e
    cases e
    exact A5
   ·exact (Ac z).trans (k' b ob z e)
  ·obtain ⟨c',iA,g1,g2,g3⟩ := id z2
   refine (vt k who later ⟨.ref c',?_⟩ z2 z3).up tD
   show _ ∈ kvs.take kvs.length
   rw [List.take_length]
   exact Bk g1
def Zf (K : PySem.W.Frag) : Sp := fun vs H Q _ => ab fun (D W R : Addr) (kvs wv : List ((List Int × Int) × V)) (rs : List V) (aY : List (List Int × Int)) (H0 : Hp) (ws : List Int) (cm : Option Int) => Kj (vs = [.ref D, .ref W, .ref R]) (H D = some (.dT kvs)) (Ci ws cm H kvs) (H W = some (.dT wv)) (F9 ws cm H0 kvs 48000 H wv) ((∀ k who later, An H kvs k who -> some later ∈ Au ws k.1 cm k.2 who -> Cl H wv later k who)) (H R = some (.lst rs)) (Ad (E3 H) aY rs) (Ce H kvs <= 24000) (∀ (B : Addr) (bs : List V) (beta : List (List Int × Int)) (H' : Hp), H B = none -> Ei kvs H H' -> Ci ws cm H' kvs -> H' B = some (.lst bs) -> Ad (E3 H') beta bs -> Ce H' kvs + bs.length <= Ce H kvs ->
  (∀ k who,An H' kvs k who ↔ (An H kvs k who /\ ∀ later ∈ aY,some later ∉ Au ws k.1 cm k.2 who)) -> (∀ k,k ∈ beta ↔ ((∃ who,An H kvs k who) /\ ∀ who,¬ An H' kvs k who)) -> Q (.ref B) H')
theorem lg {fd  : FuncData} (T:Txt K mg ad) (F:Fy K "without_calls_left" "without_calls_left" Wk ad.gD fd):Aj P w K mg base Bm 1 ad.gD fd ["pending","ways","ranked"] (Zf K):=by
 refine F.ok Om (fun vs H Q E h=>?_) (fun aM A outer s H vs Q E hr h=>?_)
 ·rcases h with ⟨D,W,R,kvs,wv,rs,aY,H0,ws,cm,rfl,hD,eF,hW,tX,mB,hR,oS,hle,q⟩ <;> rfl
 ·obtain ⟨D,W,R,kvs,wv,rs,aY,H0,ws,cm,rfl,hD,eF,hW,tX,mB,hR,oS,hle,q⟩ := h
  refine ⟨_,(A7 (Ap (i:=3) Om.nd rfl (Or.inl rfl) (D1 A6)) (A7 (Ck PassesOwn.never rfl (Dk (w':=Nq K _) (Df (pv 2))) (Al (i:=4) Om.nd rfl (Or.inl rfl)) (Ab (Ck PassesOwn.never rfl (Dk (w':=Nq K _) (Df (Q9 (Zb (E8 hr) (pv 1) (pv 4) (D1 A6) ⟨rfl,rfl,rfl,rfl⟩)))) (Ep K (n:=2) rfl (Bu (Al (i:=5) Om.nd rfl (Or.inl rfl)) (Bu (Al (i:=6) Om.nd rfl (Or.inl rfl)) Ek))) (A7 (Ap (i:=7) Om.nd rfl (Or.inl rfl) (Fn (E8 hr) (pv 0) (pv 5) (fun _ _=>rfl))) (Ab (Dn (Fr (Td (E8 hr) (pv 6) (pv 7)) rfl) (A7 (Co (Yp (pv 7) (pv 6) ⟨rfl,rfl,rfl,rfl⟩)) (Ab (Dn (Fm (Uk (pv 7))) (Ab (Co (E4 (u':=Vb K _ _ _ _) (Fe PySem.F.plainAttrs_list PySem.F.slot_list_append PySem.F.type_list_append Cy (pv 3) (A0 (pv 5) A6))))) Ax))) Ax)))))) (Ab (Aq (pv 3))))),?_⟩
  have fX:=eF.ok
  refine ⟨Bo,fun B hB=>?_⟩
  have s1:A9 H (upd H B (.lst [])):=A9.upd hB
  have e1:(upd H B (.lst [])) B = some (.lst []):=A5
  generalize upd H B (.lst []) = H1 at s1 e1 ⊢
  have c1:∀ c cs,H c = some (.dK cs) -> H1 c = some (.dK cs):=fun c cs e=>s1 _ _ e
  refine ⟨_,rfl,R,rfl,.inl ⟨⟨_,Ba.of (s1 _ _ hR)⟩,?_⟩⟩
  refine Cq (K:=K) (a:=R) (xs:=rs) (fun i σ H'=>df fun (bs:List V) (beta:List (List Int × Int)) (v4 v5 v6 v7:Option V)=>Ul (σ = [some (.ref D),some (.ref W),some (.ref R),some (.ref B),v4,v5,v6,v7]) (Ei kvs H H') (Ci ws cm H' kvs) (H' B = some (.lst bs)) (Ad (E3 H') beta bs) (Ce H' kvs + bs.length <= Ce H kvs) (Vy B H' kvs) ((Zv kvs H' H)) ((eg ws cm kvs aY i H H')) ((gv ws cm kvs aY i H')) ((lq kvs H H' beta)))
   ⟨[],[],_,_,_,_,rfl,Ei.of s1,eF.keep (LT.of s1) c1,e1,Ad.nil,by rw [Eh fX c1]; exact Nat.le_refl _,(Vy.start fX hB).keep fX c1,(fun k who z=>(An.keep eF c1).mp z),(fun k who z _=>(An.keep eF c1).mpr z),(fun later z=>by rw [List.take_zero] at z; cases z),fun k=>⟨(fun z=>by cases z),fun z=>?_⟩⟩ (by rintro i σ H' _ ⟨_,_,_,_,_,_,_,ch,_⟩; exact Ba.of (ch.keep fX hR (fun cs z=>nomatch z))) ?_ ?_
  ·obtain ⟨⟨who,z1⟩,z2⟩ := z
   exact absurd ((An.keep eF c1).mpr z1) (z2 who)
  ·rintro i u σ H' hu ⟨bs,beta,v4,v5,v6,v7,rfl,ch,eK,TJ,YZ,ZA,nb,l1,l2,l3,l4⟩
   obtain ⟨lk,uB,lb,lu,rfl,ZC,ZD⟩ := oS.get hu
   have YM:Dt H lb lk:=⟨lu,ZC,ZD⟩
   have uD:=eK.ok
   have lt':=ch.lt fX
   have lN:=ch.keep fX hW (fun cs z=>nomatch z)
   have ZE:=tX.up lt' (Nat.le_refl _)
   refine ⟨(fun v H7=>Yx fun (la:Addr) (gP:List V)=>Q4 (v = .ref la) (H7 la = some (.lst gP)) (la ≠ B) ((∀ u ∈ gP,Pj ws cm kvs H7 lk u)) ((∀ lx,Ae wv lk = some (.ref lx) -> lx = la)) (A9 H' H7)),⟨_,rfl,W,rfl,.inr ⟨wv,.inl lN⟩,_,rfl,Bo,fun E hE=>?_⟩,?_⟩
   ·have s6:A9 H' (upd H' E (.lst [])):=A9.upd hE
    refine ⟨_,D4.t (s6 _ _ lN) ((YM.up lt'.2).up (Af.of s6)),?_⟩
    cases hv:Ae wv lk with
    | none=>exact ⟨E,[],rfl,A5,(Ah TJ hE).symm,(fun u hu=>by cases hu),(fun lx z=>by cases z),s6⟩
    | some v =>
     obtain ⟨la,gP,e2,h0,h1,h2,h3⟩ := tX.1 _ (Bk hv)
     obtain ⟨lc,us3,e3,_,g1,_,g3⟩ := ZE.1 _ (Bk hv)
     have e23:V.ref la = V.ref lc:=e2.symm.trans e3
     cases e23
     have e3':v = .ref la:=e3
     exact ⟨la,us3,e3,s6 _ _ g1,Ah h1 hB,(fun u hu=>(g3 u hu).up (Af.of s6)),(fun lx z=>by rw [e3'] at z; cases z; rfl),s6⟩
   rintro v H7 ⟨la,gP,rfl,ZF,ZG,ZH,hlx,s7⟩
   refine ⟨la,rfl,.inl ⟨⟨_,Ba.of ZF⟩,?_⟩⟩
   have c7:∀ c cs,H' c = some (.dK cs) -> H7 c = some (.dK cs):=fun c cs e=>s7 _ _ e
   have ZI:=eK.keep (LT.of s7) c7
   have lt7:LT H H7:=lt'.trans (LT.of s7)
   refine Cq (K:=K) (a:=la) (xs:=gP) (fun j σ H8=>ll fun (bs:List V) (beta:List (List Int × Int)) (v5 v6 v7:Option V)=>cx (σ = [some (.ref D),some (.ref W),some (.ref R),some (.ref B),some (.ref lb),v5,v6,v7]) (Ei kvs H H8) (Ci ws cm H8 kvs) (H8 B = some (.lst bs)) (Ad (E3 H8) beta bs) (Ce H8 kvs + bs.length <= Ce H kvs) (Vy B H8 kvs) ((Zv kvs H8 H)) ((eg ws cm kvs aY (i + 1) H H8)) ((gv ws cm kvs aY i H8)) ((lq kvs H H8 beta)) (Af H7 H8) (H8 la = some (.lst gP)) ((Zv kvs H8 H7)) (ui H7 gP j H8 kvs))
    ⟨bs,beta,_,_,_,rfl,ch.trans (Ei.of s7),ZI,s7 _ _ TJ,YZ.imp (fun _ _ z=>E3.up (Af.of s7) z),by rw [Eh uD c7]; exact ZA,nb.keep uD c7,(fun k who z=>l1 k who ((An.keep eK c7).mp z)),(fun k who z1 z2=>(An.keep eK c7).mpr (l2 k who z1 fun later hl=>z2 later (List.take_subset_take_left _ (Nat.le_succ i) hl))),(fun later hl k who z1 z2=>l3 later hl k who z1 ((An.keep eK c7).mp z2)),(fun k=>(l4 k).trans ⟨fun z=>⟨z.1,fun who y=>z.2 who ((An.keep eK c7).mp y)⟩,fun z=>⟨z.1,fun who y=>z.2 who ((An.keep eK c7).mpr y)⟩⟩),(fun _ _ z=>z),ZF,(fun k who z=>z),(fun t b who k z=>by rw [List.take_zero] at z; cases z)⟩ (by rintro j σ H8 _ ⟨_,_,_,_,_,_,_,_,_,_,_,_,_,_,_,_,_,e,_⟩; exact Ba.of e) ?_ ?_
   ·rintro j u σ H8 hu2 ⟨sL,gT,v5,v6,v7,rfl,FF,kD,TK,oU,y6,TL,m1,m2,m3,m4,FG,uE,m5,m6⟩
    have hpo8:=kD.ok
    obtain ⟨t,b,who,k,rfl,ht7,hb7,⟨v,aG⟩,ZJ⟩ := ZH u (List.mem_of_getElem? hu2)
    have ht:=FG _ _ ht7
    have hb:=hb7.up FG
    refine ⟨t,_,rfl,C7.of ht,rfl,_,_,rfl,_,_,rfl,rfl,?_⟩
    have hD8:=FF.keep fX hD (fun cs z=>nomatch z)
    have bR:=Bk aG
    obtain ⟨c,cs,ev,hc,mT,tW⟩ := kD.1 _ bR
    have ev':v = .ref c:=ev
    subst ev'
    have taken:∀ (HX:Hp),(∀ k' aF,An HX kvs k' aF -> An H8 kvs k' aF) -> ¬ An HX kvs k who -> ∀ t' b' aF k',V.ref t' ∈ gP.take (j + 1) -> H7 t' = some (.tup [.ref b',.int ((aF:Nat):Int)]) -> Dt H7 b' k' -> ¬ An HX kvs k' aF:=fun HX mX ZK t' b' aF k' z1 z2 z3 z4=>by
     rw [List.take_add_one,hu2] at z1
     rcases List.mem_append.mp z1 with y | y
     ·exact m6 t' b' aF k' y z2 z3 (mX _ _ z4)
     ·have e1:t' = t:=by simpa using y
      subst e1
      rw [ht7] at z2
      cases z2
      obtain ⟨u1,f1,f2⟩ := hb7
      obtain ⟨u2,g1,g2⟩ := z3
      rw [f1] at g1
      injection g1 with g1
      injection g1 with g1
      injection g1 with ZL JA
      injection JA with JA
      injection ZL with ZL
      injection JA with JA
      subst ZL
      rw [f2] at g2
      have ek:k = k':=by
       have h1:k.1 = k'.1:=by
        have:=Option.some.inj g2
        injection this with this
        exact Ju this
       exact Prod.ext h1 JA
      subst ek
      exact ZK z4
    refine ⟨_,rfl,_,rfl,D,.ref c,rfl,(by rw [<- aG]; exact D4.t hD8 hb),?_⟩
    refine ⟨_,rfl,_,rfl,c,_,rfl,D4.k (k := .inl (who:Int)) hc,_,rfl,_,fun jP=>?_,fun jP=>?_,fun _ _ z=>z⟩
    ·obtain ⟨w',hw⟩ := Option.isSome_iff_exists.mp jP
     have vH:An H8 kvs k who:=⟨c,cs,aG,hc,by rw [hw]; rfl⟩
     refine ⟨_,rfl,c,rfl,.inl ⟨cs,.inl hc⟩,_,rfl,cs,.inl (who:Int),w',hc,rfl,hw,?_⟩
     have ZM:Ei kvs H8 (upd H8 c (.dK (Br cs (.inl (who:Int))))):=Ei.pop bR rfl
     have oV:Ci ws cm (upd H8 c (.dK (Br cs (.inl (who:Int))))) kvs:=kD.pop hc
     have uF:LT H8 (upd H8 c (.dK (Br cs (.inl (who:Int))))):=LT.dK hc
     have TM:(upd H8 c (.dK (Br cs (.inl (who:Int))))) c = some (.dK (Br cs (.inl (who:Int)))):=A5
     have TN:Vy B (upd H8 c (.dK (Br cs (.inl (who:Int))))) kvs:=TL.pop hc
     have ZN:=(Nt hc (Zx hw) (kvs:=kvs)).2 ⟨_,bR,rfl⟩
     have y8:∀ k' aF,An (upd H8 c (.dK (Br cs (.inl (who:Int))))) kvs k' aF ↔ An H8 kvs k' aF /\ ¬ (k' = k /\ aF = who):=fun k' aF=>An.pop kD aG hc
     generalize upd H8 c (.dK (Br cs (.inl (who:Int)))) = H9 at ZM oV uF TM TN ZN y8 ⊢
     have JB:=oV.ok
     have JC:=uF.1 _ _ TK
     have hb9:=hb.up uF.2
     have n1:∀ k' aF,An H9 kvs k' aF -> An H kvs k' aF:=fun k' aF z=>m1 _ _ ((y8 k' aF).mp z).1
     have n2:∀ k' aF,An H kvs k' aF -> (∀ later ∈ aY.take (i + 1),some later ∉ Au ws k'.1 cm k'.2 aF) -> An H9 kvs k' aF:=fun k' aF z1 z2=>(y8 k' aF).mpr ⟨m2 _ _ z1 z2,fun e=>by
      refine z2 lk ?_ (by rw [e.1,e.2]; exact ZJ)
      rw [List.take_add_one,uB]
      simp⟩
     have n3:∀ later ∈ aY.take i,∀ k' aF,some later ∈ Au ws k'.1 cm k'.2 aF -> ¬ An H9 kvs k' aF:=fun later hl k' aF z1 z2=>m3 later hl k' aF z1 ((y8 k' aF).mp z2).1
     have n5:∀ k' aF,An H9 kvs k' aF -> An H8 kvs k' aF:=fun k' aF z=>((y8 k' aF).mp z).1
     have n6:=taken H9 n5 (fun z=>((y8 k who).mp z).2 ⟨rfl,rfl⟩)
     have other:∀ k',k' ≠ k -> ((∀ aF,¬ An H9 kvs k' aF) ↔ ∀ aF,¬ An H8 kvs k' aF):=fun k' bP=>⟨fun z aF y=>z aF ((y8 k' aF).mpr ⟨y,fun e=>bP e.1⟩),fun z aF y=>z aF (n5 _ _ y)⟩
     have TQ:k ∉ gT:=fun z=>((m4 k).mp z).2 who vH
     refine ⟨_,rfl,c,_,rfl,.inl TM,_,fun he=>?_,fun he=>?_,fun _ _ z=>z⟩
     ·have fP : Br cs (.inl (who : Int)) = [] := by
       have:(Br cs (.inl (who:Int))).isEmpty = true:=by simpa using he
       exact List.isEmpty_iff.mp this
      have oW:∀ aF,¬ An H9 kvs k aF:=fun aF z=>by
       obtain ⟨c',iA,g1,g2,g3⟩ := z
       rw [aG] at g1
       cases g1
       rw [TM] at g2
       cases g2
       rw [fP] at g3
       cases g3
      refine ⟨_,rfl,.inl ⟨rfl,_,Ba.of JC⟩,_,rfl,B,_,_,rfl,rfl,JC,Bt (by omega),?_⟩
      have oX:Af H9 (upd H9 B (.lst (sL ++ [.ref b]))):=Af.lst JC
      have TR:∀ c' iA,H9 c' = some (.dK iA) -> (upd H9 B (.lst (sL ++ [.ref b]))) c' = some (.dK iA):=fun c' iA e=>by
       rw [Ac (Bp e JC (by intro z; cases z))]
       exact e
      have kl:∀ x xs,x ≠ B -> H9 x = some (.lst xs) -> (upd H9 B (.lst (sL ++ [.ref b]))) x = some (.lst xs):=fun x xs n e=>(Ac n).trans e
      have kE:∀ k' aF,An (upd H9 B (.lst (sL ++ [.ref b]))) kvs k' aF ↔ An H9 kvs k' aF:=fun k' aF=>An.keep oV TR
      obtain ⟨ub,ZO,ZP⟩ := hb9
      refine ⟨sL ++ [.ref b],gT ++ [k],_,_,_,rfl,(FF.trans ZM).new hB,oV.ID TN oX kl TR,A5,(oU.imp fun _ _ z=>E3.up oX (E3.up uF.2 z)).append (Ad.one ⟨b,ub,rfl,oX _ _ ZO,oX _ _ ZP⟩),?_,TN.keep JB TR,(fun k' aF z=>n1 _ _ ((kE k' aF).mp z)),(fun k' aF z1 z2=>(kE k' aF).mpr (n2 _ _ z1 z2)),(fun later hl k' aF z1 z2=>n3 later hl k' aF z1 ((kE k' aF).mp z2)),(fun k'=>?_),(FG.trans uF.2).trans oX,kl _ _ ZG (uF.1 _ _ uE),(fun k' aF z=>m5 _ _ (n5 _ _ ((kE k' aF).mp z))),(fun t' b' aF k' z1 z2 z3 z4=>n6 t' b' aF k' z1 z2 z3 ((kE k' aF).mp z4))⟩
      ·rw [Eh JB TR,List.length_append,List.length_singleton]
       omega
      ·have e10:(∀ aF,¬ An (upd H9 B (.lst (sL ++ [.ref b]))) kvs k' aF) ↔ ∀ aF,¬ An H9 kvs k' aF:=⟨fun z aF y=>z aF ((kE k' aF).mpr y),fun z aF y=>z aF ((kE k' aF).mp y)⟩
       rw [e10]
       by_cases bP:k' = k
       ·subst bP
        exact ⟨fun _=>⟨⟨who,m1 _ _ vH⟩,oW⟩,fun _=>by simp⟩
       ·rw [other k' bP,<- m4 k']
        simp [bP]
     ·have cY : Br cs (.inl (who : Int)) ≠ [] := fun z => by
       rw [z] at he
       exact absurd he (by decide)
      refine ⟨sL,gT,_,_,_,rfl,FF.trans ZM,oV,JC,oU.imp (fun _ _ z=>E3.up uF.2 z),by omega,TN,n1,n2,n3,(fun k'=>?_),FG.trans uF.2,uF.1 _ _ uE,(fun k' aF z=>m5 _ _ (n5 _ _ z)),n6⟩
      by_cases bP:k' = k
      ·subst bP
       refine ⟨fun z=>absurd z TQ,fun z=>?_⟩
       obtain ⟨x,hx⟩ := List.exists_mem_of_ne_nil _ cY
       obtain ⟨oD,l9,us9,g1,_⟩ := tW x (M7 hx)
       have hs:(Ae (Br cs (.inl (who:Int))) (.inl (oD:Int))).isSome = true:=by
        obtain ⟨y,hy⟩ := Jq (k:=x.1) (v:=x.2) hx
        rw [<- g1,hy]
        rfl
       exact absurd ⟨c,_,aG,TM,hs⟩ (z.2 oD)
      ·rw [other k' bP]
       exact m4 k'
    ·have vg : ¬ An H8 kvs k who := fun z => by
      obtain ⟨c',iA,g1,g2,g3⟩ := z
      rw [aG] at g1
      cases g1
      rw [hc] at g2
      cases g2
      rw [jP] at g3
      cases g3
     exact ⟨sL,gT,_,_,_,rfl,FF,kD,TK,oU,y6,TL,m1,m2,m3,m4,FG,uE,m5,taken H8 (fun _ _ z=>z) vg⟩
   rintro σ H8 ⟨sL,gT,v5,v6,v7,rfl,FF,kD,TK,oU,y6,TL,m1,m2,m3,m4,FG,uE,m5,m6⟩
   refine ⟨sL,gT,_,_,_,_,rfl,FF,kD,TK,oU,y6,TL,m1,m2,(fun later hl k who z1 z2=>?_),m4⟩
   rw [List.take_add_one,uB] at hl
   rcases List.mem_append.mp hl with y | y
   ·exact m3 later y k who z1 z2
   ·have e1:later = lk:=by simpa using y
    subst e1
    obtain ⟨lx,ux,tx,bx,f1,f2,f3,f4,f5⟩ := (mB k who later (m1 _ _ z2) z1).up lt7
    have ex:=hlx lx f1
    subst ex
    rw [ZF] at f2
    cases f2
    refine m6 tx bx who k ?_ f4 f5 z2
    rw [List.take_length]
    exact f3
  rintro σ H' ⟨bs,beta,v4,v5,v6,v7,rfl,ch,eK,TJ,YZ,ZA,nb,l1,l2,l3,l4⟩
  unfold eg at l2
  unfold gv at l3
  rw [oS.1,List.take_length] at l2 l3
  exact ⟨_,rfl,q B bs beta H' hB ch eK TJ YZ ZA (fun k who=>⟨fun z=>⟨l1 k who z,fun later hl y=>l3 later hl k who y z⟩,fun z=>l2 k who z.1 z.2⟩) l4⟩
def Ow (K:PySem.W.Frag):Sp:=fun vs H Q _=>Vn fun (a:Addr) (ws:List Int) (cm:Option Int)=>Mm (vs = [.ref a]) (Bl H a ws cm) ((∀ w ∈ ws,1 <= w)) (1 <= qv cm) ((∀ w ∈ ws,intBits w <= 256)) (intBits (qv cm) <= 256) (ws.length <= 8) (Ak (qv cm) ws <= 3000) (∀ (T:Addr) (tv:List ((List Int × Int) × V)) (H':Hp),H T = none -> A9 H H' -> H' T = some (.dT tv) -> Dj ws cm tv -> (tv.map (·.1)).Nodup -> tv.length <= 60000 -> Q (.ref T) H')
theorem gr {fd vI oY vJ:FuncData} (T:Txt K mg ad) (F:Fy K "ranks" "ranks" Ku ad.bT fd) (y9:Aj P w K mg base Bm 6 ad.gC vI ["hall"] (Ya K)) (ya:Az K vI ["hall"] []) (oZ:Aj P w K mg base Bm 1 ad.cM oY ["pending"] (Tb K)) (pA:Az K oY ["pending"] []) (yb:Aj P w K mg base Bm 1 ad.gD vJ ["pending","ways","ranked"] (Zf K)) (yc:Az K vJ ["pending","ways","ranked"] []):Aj P w K mg base Bm 7 ad.bT fd ["hall"] (Ow K):=by
 refine F.ok Fj (fun vs H Q E h=>?_) (fun aM A outer s H vs Q E hr h=>?_)
 ·rcases h with ⟨a,ws,cm,rfl,ha,aN,vE,eU,gQ,FC,hp,q⟩ <;> rfl
 ·obtain ⟨a,ws,cm,rfl,ha,aN,vE,eU,gQ,FC,hp,q⟩ := h
  refine ⟨_,(A7 (Ap (i:=1) Fj.nd rfl (Or.inl rfl) (Ag y9 (hr.mono (by decide)) rfl T.XB T.tQ ya .nil B0 (A0 (pv 0) A6))) (A7 (Ap (i:=2) Fj.nd rfl (Or.inl rfl) (Ag oZ (hr.mono (by decide)) rfl T.HL T.lA pA .nil B0 (A0 (pv 1) A6))) (A7 (Ap (i:=3) Fj.nd rfl (Or.inl rfl) Fg) (A7 (Ap (i:=4) Fj.nd rfl (Or.inl rfl) Aa) (A7 (Pl (D6 (i:=5) Fj.nd rfl (Ig (pv 1)) _ rfl Sc rfl rfl (fun _ _ _ _=>(Ep K (n:=2) rfl (Bu (Al (i:=0) L5 rfl (Or.inl rfl)) (Bu (Al (i:=1) L5 rfl (Or.inl rfl)) Ek)))) (fun _ _ _ _=>(V6 (Fm (Uk (pv 1))))) (fun _ _ _ _=>(pv 0)) rfl rfl)) (A7 (Ip PassesOwn.never (Kp (pv 5) (by intro _; rfl)) (A7 (Ck PassesOwn.never rfl (Dk (w':=Nq K _) (Df (pv 5))) (Al (i:=6) Fj.nd rfl (Or.inl rfl)) (Ab (Gw (E8 hr) (pv 3) (pv 6) (pv 4) rfl))) (A7 (Ap (i:=5) Fj.nd rfl (Or.inl rfl) (Ag yb (hr.mono (by decide)) rfl T.XC T.tR yc .nil B0 (A0 (pv 1) (A0 (pv 2) (A0 (pv 5) A6))))) (Ab (Ap (i:=4) Fj.nd rfl (Or.inl rfl) (B6 D2 (pv 4) Aa)))))) (Ab (Aq (pv 3))))))))),?_⟩
  refine ⟨_,rfl,a,ws,cm,rfl,ha,aN,vE,eU,gQ,FC,hp,fun D kvs H1 hD s1 eD eF eX oQ fG gR=>?_⟩
  have fX:=eF.ok
  refine ⟨_,rfl,D,kvs,ws,cm,rfl,eD,eF,gR,fun W wv H2 hW s2 eW tX ZQ fW=>?_⟩
  refine fun T hT=>?_
  have s3:A9 H2 (upd H2 T (.dT [])):=A9.upd hT
  have e3:(upd H2 T (.dT [])) T = some (.dT []):=A5
  generalize upd H2 T (.dT []) = H3 at s3 e3 ⊢
  have uG:=s2.trans s3
  have FH:=uG _ _ eD
  have hTD:T ≠ D:=(Ah (s2 _ _ eD) hT).symm
  refine ⟨D,.dT kvs,trivial,FH,_,rfl,D,.dT kvs,rfl,trivial,FH,fun o=>?_⟩
  have uH:=eF.keep (LT.of uG) (fun c cs e=>uG _ _ e)
  have ZR:=uH.ok
  have JD:=oQ.keep eF (fun c cs e=>uG _ _ e)
  have tF:LT H3 (upd H3 D (.aP o (.dT kvs))):=LT.dT FH
  have kF:∀ c cs,H3 c = some (.dK cs) -> (upd H3 D (.aP o (.dT kvs))) c = some (.dK cs):=fun c cs e=>by
   rw [Ac (Bp e FH (by intro z; cases z))]
   exact e
  have bF:∀ b ob,b ≠ D -> H3 b = some ob -> (upd H3 D (.aP o (.dT kvs))) b = some ob:=fun b ob n e=>(Ac n).trans e
  have dF:(upd H3 D (.aP o (.dT kvs))) D = some (.aP o (.dT kvs)):=A5
  have uI:=uH.keep tF kF
  have vK:=JD.keep uH kF
  generalize upd H3 D (.aP o (.dT kvs)) = HF at tF kF bF dF uI vK ⊢
  refine fun R hR=>?_
  refine Kn (K:=K) (d:=D) (o:=o) (u := .dT kvs) (fun i zs H'=>∃ (aY:List (List Int × Int)),Ij (H' R = some (.lst zs)) (zs.length <= i) (Ad (E3 H') aY zs) (A9 HF H') (∀ k,k ∈ aY ↔ ∃ v,(k,v) ∈ kvs.take i /\ Xj HF v)) ⟨[],A5,Nat.le_refl _,Ad.nil,A9.upd hR,fun k=>⟨(fun z=>by cases z),fun ⟨v,z,_⟩=>by rw [List.take_zero] at z; cases z⟩⟩ (by rintro i zs H' _ ⟨_,_,_,_,s,_⟩; exact s _ _ dF) ?_ ?_ ?_ ?_
  ·rintro i x y T2 zs H' hi hit ⟨aY,jY,lM,dC,s',JE⟩ IQ
   have YB:i < 3000:=Nat.lt_of_lt_of_le hi gR
   obtain ⟨kk,bb,aG,rfl,mV⟩ := hit
   obtain ⟨c,cs,ey,hc,mT,tW⟩ := uI.1 _ (List.mem_of_getElem? aG)
   have YC:y = .ref c:=ey
   subst YC
   have s4:A9 H' (upd H' T2 (.tup [.ref bb,.ref c])):=A9.upd IQ
   have e4:(upd H' T2 (.tup [.ref bb,.ref c])) T2 = some (.tup [.ref bb,.ref c]):=A5
   generalize upd H' T2 (.tup [.ref bb,.ref c]) = H4 at s4 e4 ⊢
   have kG:=s4 _ _ jY
   refine ⟨_,rfl,c,cs,rfl,.inl (s4 _ _ (s' _ _ hc)),?_⟩
   obtain ⟨ku,sF,nM⟩ := mV.up (Af.of s4)
   refine Ej (fun TU=>?_) (fun TU=>?_)
   ·have fP : cs = [] := by
     have:cs.isEmpty = true:=by simpa using TU
     exact List.isEmpty_iff.mp this
    subst fP
    have tt:Af H4 (upd H4 R (.lst (zs ++ [.ref bb]))):=Af.lst kG
    refine ⟨_,rfl,kG,Bt (by omega),aY ++ [kk],A5,by rw [List.length_append,List.length_singleton]; omega,(dC.imp fun _ _ z=>E3.up tt (E3.up (Af.of s4) z)).append (Ad.one ⟨bb,ku,rfl,tt _ _ sF,tt _ _ nM⟩),(s'.trans s4).new hR,fun k=>?_⟩
    rw [List.mem_append,JE,List.mem_singleton,List.take_add_one,aG]
    constructor
    ·rintro (⟨v,z1,z2⟩ | z)
     ·exact ⟨v,List.mem_append_left _ z1,z2⟩
     ·subst z
      exact ⟨.ref c,by simp,c,rfl,hc⟩
    ·rintro ⟨v,z1,z2⟩
     rcases List.mem_append.mp z1 with y | y
     ·exact .inl ⟨v,y,z2⟩
     ·have e1:(k,v) = (kk,.ref c):=by simpa using y
      cases e1
      exact .inr rfl
   ·have cY : cs ≠ [] := fun z => by
     rw [z] at TU
     exact absurd TU (by decide)
    refine ⟨aY,kG,by omega,dC.imp fun _ _ z=>E3.up (Af.of s4) z,s'.trans s4,fun k=>?_⟩
    rw [JE,List.take_add_one,aG]
    constructor
    ·rintro ⟨v,z1,z2⟩
     exact ⟨v,List.mem_append_left _ z1,z2⟩
    ·rintro ⟨v,z1,z2⟩
     rcases List.mem_append.mp z1 with y | y
     ·exact ⟨v,y,z2⟩
     ·have e1:(k,v) = (kk,.ref c):=by simpa using y
      cases e1
      obtain ⟨c',e2,e3⟩ := z2
      cases e2
      rw [hc] at e3
      cases e3
      exact absurd rfl cY
  ·rintro σ H1 Q1 Q2 hQ ⟨v,e1,c,cs,e2,r,z⟩
   exact ⟨v,e1,c,cs,e2,r,hQ _ _ z⟩
  ·rintro σ H1 Q1 Q2 hQ ⟨v,e1,z⟩
   exact ⟨v,e1,hQ _ _ z⟩
  rintro zs HG ⟨yd,JF,lM,dC,sG,vL⟩
  rw [show kvs.take (Cd (.dT kvs)) = kvs from List.take_length] at vL
  have ZS:=Fw.start uI eX vK vL
  have uJ:=sG _ _ dF
  have YY:Cd (.dT kvs) <= 3000:=gR
  have tG:LT HG (upd HG D (.dT kvs)):=⟨fun b xs e=>by rw [Ac (Bp e uJ (by intro z; cases z))]; exact e,fun b xs e=>by rw [Ac (Bp e uJ (by intro z; cases z))]; exact e⟩
  have jI:A9 H3 (upd HG D (.dT kvs)):=fun b ob e=>by
   by_cases z:b = D
   ·subst z
    rw [FH] at e
    cases e
    exact A5
   ·exact (Ac z).trans (sG _ _ (bF b ob z e))
  refine ⟨o,uJ,?_⟩
  have kG:=tG.1 _ _ JF
  have mM:Ad (E3 (upd HG D (.dT kvs))) yd zs:=dC.imp fun _ _ z=>E3.up tG.2 z
  have cG:∀ c cs,HF c = some (.dK cs) -> (upd HG D (.dT kvs)) c = some (.dK cs):=fun c cs e=>by
   rw [Ac (Bp (sG _ _ e) uJ (by intro z; cases z))]
   exact sG _ _ e
  have TV:H3 R = none:=by
   cases hx:H3 R with
   | none=>rfl
   | some ob =>
    by_cases z:R = D
    ·rw [z,dF] at hR
     cases hR
    ·rw [bF R ob z hx] at hR
     cases hR
  generalize upd HG D (.dT kvs) = H4 at tG jI kG mM cG ⊢
  clear tG JF dC sG uJ
  have JG:=uH.keep (LT.of jI) (fun c cs e=>jI _ _ e)
  have ye:=JG.ok
  have mN:Fw ws cm [] yd 1 (An H4 kvs):=by
   have e:An H4 kvs = An HF kvs:=by
    funext k who
    exact propext (An.keep uI cG)
   rw [e]
   exact ZS
  have ZT:∀ k who later,An H4 kvs k who -> some later ∈ Au ws k.1 cm k.2 who -> Cl H4 wv later k who:=fun k who later z1 z2=>((ZQ k who later ((An.keep eF (fun c cs e=>jI _ _ (uG _ _ e))).mp z1) z2).up (LT.of s3)).up (LT.of jI)
  have eD4:=jI _ _ FH
  have eW4:=jI _ _ (s3 _ _ eW)
  have ZU:=jI _ _ e3
  have ZV:=tX.up ((LT.of s3).trans (LT.of jI)) (Nat.le_refl _)
  have hl4:Ce H4 kvs <= 24000:=by
   have:=Lo ye
   omega
  have hTv:∀ kv ∈ kvs,kv.2 ≠ .ref T:=fun kv aG z=>by
   obtain ⟨c,cs,e1,e2,_⟩ := ZR kv aG
   rw [z] at e1
   cases e1
   rw [e3] at e2
   cases e2
  dsimp only
  refine Id (fun σ' H'=>df fun (R:Addr) (rs:List V) (aY:List (List Int × Int)) (tv:List ((List Int × Int) × V)) (rank:Int) (v6:Option V)=>Kj (σ' = [some (.ref a),some (.ref D),some (.ref W),some (.ref T),some (.int rank),some (.ref R),v6]) ((u6 T kvs H4 H')) (Ci ws cm H' kvs) (H' T = some (.dT tv)) ((tv.map (·.1)).Nodup) (H' R = some (.lst rs)) (Ad (E3 H') aY rs) (Fw ws cm tv aY rank (An H' kvs)) ((Zv kvs H' H4)) (tv.length + rs.length + Ce H' kvs <= 27000))
   (fun σ' H'=>2 * Ce H' kvs + match σ' with
    | [_,_,_,_,_,some (.ref R),_]=>(match H' R with
     | some (.lst [])=>0
     | _=>1)
    | _=>0) ⟨R,zs,yd,[],1,_,rfl,(fun b ob _ e _=>e),JG,ZU,List.Pairwise.nil,kG,mM,mN,(fun _ _ z=>z),by show 0 + zs.length + _ <= _; omega⟩ ?_ ?_
  ·rintro σ' H' ⟨R,rs,aY,tv,rank,v6,rfl,kp,eK,vM,htv,jY,oS,JH,hJ,hsum⟩
   have uD:=eK.ok
   refine ⟨_,rfl,_,.inl ⟨_,Ba.of jY,rfl⟩,?_⟩
   have mI:=kp D _ hTD.symm eD4 (fun kv aG z=>by
    obtain ⟨c,cs,e1,e2,_⟩ := ye kv aG
    rw [z] at e1
    cases e1
    rw [eD4] at e2
    cases e2)
   refine Ej (fun cY=>?_) (fun fP=>?_)
   ·have ZW : 0 < rs.length := by
     cases rs with
     | nil=>exact absurd cY (by decide)
     | cons x xs=>simp
    have hRT:R ≠ T:=Bp jY vM (by intro z; cases z)
    have mu0:(match H' R with
     | some (.lst [])=>0
     | _=>1) = 1:=by
     rw [jY]
     cases rs with
     | nil=>exact absurd ZW (by decide)
     | cons x xs=>rfl
    refine ⟨_,rfl,R,rfl,.inl ⟨⟨_,Ba.of jY⟩,?_⟩⟩
    refine Cq (K:=K) (a:=R) (xs:=rs) (fun i σ H5=>Yx fun (pB:List ((List Int × Int) × V)) (v6:Option V)=>Yn (σ = [some (.ref a),some (.ref D),some (.ref W),some (.ref T),some (.int rank),some (.ref R),v6]) ((∀ b,b ≠ T -> H5 b = H' b)) (H5 T = some (.dT pB)) ((pB.map (·.1)).Nodup) ((∀ kv ∈ pB,∃ n:Int,kv.2 = .int n /\ 1 <= n /\ n < rank + 1)) ((∀ k,Ae pB k = if k ∈ aY.take i then some (.int rank) else Ae tv k)) (pB.length <= tv.length + i))
     ⟨tv,_,rfl,(fun _ _=>rfl),vM,htv,(fun kv aG=>by obtain ⟨n,e1,e2,e3⟩ := JH.2.1 kv aG; exact ⟨n,e1,e2,by omega⟩),(fun k=>by rw [List.take_zero,if_neg (by simp)]),Nat.le_refl _⟩ (by rintro i σ H5 _ ⟨_,_,_,e,_⟩; exact Ba.of ((e R hRT).trans jY)) ?_ ?_
    ·rintro i u σ H5 hu ⟨pB,v6,rfl,k5,ZX,yf,yg,uK,hl5⟩
     have hi:=(List.getElem?_eq_some_iff.mp hu).1
     obtain ⟨k,JI,b,u1,rfl,eU,gQ⟩ := oS.get hu
     have hbk:Dt H5 b k:=⟨u1,(k5 b (Bp eU vM (by intro z; cases z))).trans eU,(k5 u1 (Bp gQ vM (by intro z; cases z))).trans gQ⟩
     refine ⟨_,rfl,_,rfl,_,rfl,T,_,rfl,K0.t ZX hbk (Bt (by omega)),?_⟩
     refine ⟨B8 pB k (.int rank),_,rfl,(fun x n=>(Ac n).trans (k5 x n)),A5,j5 yf,Ry (P:=fun v=>∃ n:Int,v = .int n /\ 1 <= n /\ n < rank + 1) yg ⟨rank,rfl,JH.1,by omega⟩,(fun k'=>?_),Nat.le_trans (D9 _ _ _) (by omega)⟩
     rw [Ez,uK,List.take_add_one,JI]
     by_cases z:k' = k
     ·rw [if_pos z,if_pos (by rw [z]; simp)]
     ·rw [if_neg z]
      have e:(k' ∈ aY.take i ++ (some k).toList) ↔ k' ∈ aY.take i:=by simp [z]
      by_cases y:k' ∈ aY.take i
      ·rw [if_pos y,if_pos (e.mpr y)]
      ·rw [if_neg y,if_neg (fun x=>y (e.mp x))]
    rintro σ H5 ⟨pB,v65,rfl,k5,ZX,yf,yg,uK,hl5⟩
    rw [oS.1,List.take_length] at uK
    have c5:∀ c cs,H' c = some (.dK cs) -> H5 c = some (.dK cs):=fun c cs e=>(k5 c (Bp e vM (by intro z; cases z))).trans e
    have t5:LT H' H5:=⟨fun b xs e=>(k5 b (Bp e vM (by intro z; cases z))).trans e,fun b xs e=>(k5 b (Bp e vM (by intro z; cases z))).trans e⟩
    have JJ:=eK.keep t5 c5
    have kB:=JJ.ok
    have TX:∀ k who,An H5 kvs k who ↔ An H' kvs k who:=fun k who=>An.keep eK c5
    have ZY:An H5 kvs = An H' kvs:=by
     funext k who
     exact propext (TX k who)
    have hl5e:=Eh uD c5
    have kp5:∀ b ob,b ≠ T -> H4 b = some ob -> (∀ kv ∈ kvs,kv.2 ≠ .ref b) -> H5 b = some ob:=fun b ob n e m=>(k5 b n).trans (kp b ob n e m)
    have pC:∀ b ob,b ≠ T -> H4 b = some ob -> (∀ cs,ob ≠ .dK cs) -> H5 b = some ob:=fun b ob n e m=>kp5 b ob n e fun kv aG z=>by
     obtain ⟨c,cs,e1,e2,_⟩ := ye kv aG
     rw [z] at e1
     cases e1
     rw [e] at e2
     exact m cs (Option.some.inj e2)
    have hWT:W ≠ T:=Ah eW hT
    have t45:LT H4 H5:=⟨fun b xs e=>pC b _ (Bp e ZU (by intro z; cases z)) e (fun cs z=>nomatch z),fun b xs e=>pC b _ (Bp e ZU (by intro z; cases z)) e (fun cs z=>nomatch z)⟩
    refine ⟨_,rfl,_,rfl,_,rfl,D,W,R,kvs,wv,rs,aY,H1,ws,cm,rfl,(k5 D hTD.symm).trans mI,JJ,pC W _ hWT eW4 (fun cs z=>nomatch z),ZV.up t45 (Nat.le_refl _),(fun k who later z1 z2=>(ZT k who later (hJ k who ((TX k who).mp z1)) z2).up t45),(k5 R hRT).trans jY,oS.imp (fun _ _ z=>E3.up t5.2 z),Nat.le_trans (Lo kB) (by omega),fun B bs beta H6 hB ch6 ZZ hB6 hbs6 JK JL hbt6=>?_⟩
    have hri6:Fw ws cm pB beta (rank + 1) (An H6 kvs):=Fw.step JH uK yg (fun k who=>by rw [JL,TX]) (fun k=>by rw [hbt6,ZY])
    have hT6:H6 T = some (.dT pB):=ch6 T _ ZX hTv
    refine ⟨_,rfl,_,_,rfl,rfl,⟨B,bs,beta,pB,rank + 1,_,rfl,(fun b ob n e m=>ch6 b ob (kp5 b ob n e m) m),ZZ,hT6,yf,hB6,hbs6,hri6,(fun k who z=>hJ k who ((TX k who).mp ((JL k who).mp z).1)),by omega⟩,?_⟩
    show 2 * Ce H6 kvs + (match H6 B with
     | some (.lst [])=>0
     | _=>1) < 2 * Ce H' kvs + (match H' R with
     | some (.lst [])=>0
     | _=>1)
    rw [mu0,hB6]
    cases bs with
    | nil =>
     show 2 * Ce H6 kvs + 0 < _
     have:Ce H6 kvs + 0 <= Ce H5 kvs:=JK
     omega
    | cons x xs =>
     show 2 * Ce H6 kvs + 1 < _
     rw [List.length_cons] at JK
     omega
   ·have hrs1 : rs = [] := by
     cases rs with
     | nil=>rfl
     | cons x xs=>exact absurd rfl fP
    have JM:aY = []:=by
     have:=oS.1
     rw [hrs1] at this
     exact List.length_eq_zero_iff.mp this.symm
    rw [JM] at JH
    refine ⟨_,rfl,q T tv H' (s1.free (s2.free hT)) (fun b ob e=>?_) vM JH.done htv (by omega)⟩
    have e4:=jI _ _ (uG _ _ (s1 _ _ e))
    refine kp b ob (fun z=>?_) e4 (fun kv aG z=>?_)
    ·have:=s1.free (s2.free hT)
     rw [z,this] at e
     cases e
    ·rw [fG kv aG b z] at e
     cases e
  ·intro σ H0 Q1 Q2 z h1
   obtain ⟨_,e,k,t,h2⟩ := h1
   exact ⟨_,e,k,t,z _ _ h2⟩
def Q6 (K:PySem.W.Frag):Sp:=fun vs H Q _=>Uy fun (TB:Addr) (v:V) (o:Option (List Int × Int)) (tv:List ((List Int × Int) × V))=>Ij (vs = [.ref TB,v]) (H TB = some (.dT tv)) (E5 H o v) (U0 tv) (∀ (p:Addr) (H':Hp),A9 H H' -> H' p = some (.tup [.int (told tv o).1,.int (told tv o).2]) -> Q (.ref p) H')
theorem fu {fd  : FuncData} (T:Txt K mg ad) (F:Fy K "worth" "worth" Oe ad.bU fd):Aj P w K mg base Bm 1 ad.bU fd ["table","behind"] (Q6 K):=by
 refine F.ok g0 (fun vs H Q E h=>?_) (fun aM A outer s H vs Q E hr h=>?_)
 ·rcases h with ⟨TB,v,o,tv,rfl,hT,hv,gU,q⟩ <;> rfl
 ·obtain ⟨TB,v,o,tv,rfl,hT,hv,gU,q⟩ := h
  refine ⟨_,(A7 (Cn (Bc L8 (pv 1) D3 (Be _)) (Ab (Aq (Bz (A0 Aa (A0 Aa A6))))) Ax) (A7 (Cn (Fr (Td (E8 hr) (pv 1) (pv 0)) rfl) (Ab (Aq (Bz (A0 Aa (A0 (Fn (E8 hr) (pv 0) (pv 1) (fun _ _=>rfl)) A6))))) Ax) (Ab (Aq (Bz (A0 Aa (A0 Aa A6))))))),?_⟩
  cases o with
  | none =>
   have ev:v = .aL:=hv
   subst ev
   exact ⟨_,rfl,rfl,_,rfl,N7 rfl ⟨Bo,fun p hp=>q p _ (A9.upd hp) A5⟩⟩
  | some k =>
   obtain ⟨p,ev,cE⟩ := hv
   subst ev
   refine ⟨_,rfl,rfl,_,rfl,Ix rfl ?_⟩
   refine ⟨_,rfl,_,rfl,TB,_,rfl,D4.t hT (show Dt H p k from cE),_,rfl,Ej (fun hn=>?_) (fun hn=>?_)⟩
   ·obtain ⟨v,hv⟩ := Option.isSome_iff_exists.mp hn
    obtain ⟨m,e⟩ := gU k v hv
    subst e
    have dg:D4 H TB (.ref p) (some (.int m)):=by
     rw [<- hv]
     exact D4.t hT cE
    refine ⟨_,rfl,_,rfl,TB,_,rfl,dg,Bo,fun p2 xt=>q p2 _ (A9.upd xt) ?_⟩
    have e:told tv (some k) = (0,m):=by
     show Nm (Ae tv k) = _
     rw [hv]
     rfl
    rw [e]
    exact A5
   ·refine ⟨Bo,fun p2 xt=>q p2 _ (A9.upd xt) ?_⟩
    have e:told tv (some k) = (1,0):=by
     show Nm (Ae tv k) = _
     cases hv:Ae tv k with
     | none=>rfl
     | some v=>rw [hv] at hn; exact absurd rfl hn
    rw [e]
    exact A5
def Tf (K:PySem.W.Frag):Sp:=fun vs H Q _=>ab fun (a TB b:Addr) (ws ls:List Int) (cm:Option Int) (q w:Int) (who:Nat) (tv:List ((List Int × Int) × V))=>Ul (vs = [.ref a,.ref TB,.ref b,.int w]) (w = (who:Int)) (Bl H a ws cm) (D8 H b ls q) (H TB = some (.dT tv)) (U0 tv) (who < ws.length) (ls.length = ws.length) (ws.length <= 8) ((∀ x ∈ ws,1 <= x)) (∀ (p:Addr) (H':Hp),A9 H H' -> H' p = some (.tup [.int (Ik tv ws ls cm q who).1,.int (Ik tv ws ls cm q who).2]) -> Q (.ref p) H')
theorem f9 {fd fQ bA:FuncData} (T:Txt K mg ad) (F:Fy K "call_worth" "call_worth" Lx ad.cN fd) (fR:Aj P w K mg base Bm 1 ad.bU fQ ["table","behind"] (Q6 K)) (fS:Az K fQ ["table","behind"] []) (bN:Aj P w K mg base Bm 5 ad.bJ bA ["hall","standing","who"] (Jf K)) (bO:Az K bA ["hall","standing","who"] []):Aj P w K mg base Bm 6 ad.cN fd ["hall","table","standing","who"] (Tf K):=by
 refine F.ok f7 (fun vs H Q E h=>?_) (fun aM A outer s H vs Q E hr h=>?_)
 ·rcases h with ⟨a,TB,b,ws,ls,cm,n,w0,who,tv,rfl,rfl,ha,hb,hT,gU,hw,hl,h8,aN,q⟩ <;> rfl
 ·obtain ⟨a,TB,b,ws,ls,cm,n,w0,who,tv,rfl,rfl,ha,hb,hT,gU,hw,hl,h8,aN,q⟩ := h
  refine ⟨_,(Ab (Aq (B9 (Wo K hr rfl) (by rfl) T.vy boot_min (A0 (E6 (Dk (w':=Nq K _) (Df (Ag bN (hr.mono (by decide)) rfl T.kU T.fM bO .nil B0 (A0 (pv 0) (A0 (pv 2) (A0 (pv 3) A6)))))) _ rfl K3 rfl rfl (fun _ _ _ _=>(Al (i:=0) Jz rfl (Or.inl rfl))) (fun _ _ _ _=>Cp) (fun _ _ _ _=>(Ag fR (hr.mono (by decide)) rfl T.nZ T.gN fS .nil B0 (A0 (pv 1) (A0 (pv 0) A6))))) A6)))),?_⟩
  have hbl:(Au ws ls cm n who).length <= 2:=by
   unfold Au
   split <;> simp
  refine ⟨_,rfl,_,rfl,_,rfl,a,b,ws,ls,cm,n,_,who,rfl,rfl,ha,hb,hw,hl,h8,fun l us H1 SM s1 el lQ=>⟨l,rfl,.inl ⟨⟨_,Ba.of el⟩,fun W hW=>?_⟩⟩⟩
  have II:=lQ.1
  refine Gx (K:=K) (a:=l) (xs:=us) (fun i zs H'=>zs.length = i /\ Tg H' (fun j=>told tv ((Au ws ls cm n who).getD j none)) zs /\ H' W = some (.lst zs) /\ A9 H1 H') ⟨rfl,(fun j u h=>by simp at h),A5,A9.upd hW⟩ (by rintro i zs H' _ ⟨_,_,_,s⟩; exact Ba.of (s _ _ el)) ?_ ?_
  ·rintro i y zs H' hy ⟨lM,dC,lN,s'⟩ Qe hQ
   obtain ⟨o,ho,hyo⟩ := lQ.get hy
   have hi:=(List.getElem?_eq_some_iff.mp hy).1
   refine ⟨_,rfl,_,rfl,TB,y,o,tv,rfl,(s1.trans s') _ _ hT,hyo.up (Af.of s'),gU,fun p H2 s2 e2=>?_⟩
   have TY:=s2 _ _ lN
   have tt:Af H2 (upd H2 W (.lst (zs ++ [.ref p]))):=Af.lst TY
   refine hQ _ _ TY (B7 (by omega)) ⟨by rw [List.length_append,List.length_singleton]; omega,dC.snoc ((Af.of s2).trans tt) lM (tt _ _ ?_),A5,(s'.trans s2).new hW⟩
   have eo:(Au ws ls cm n who).getD i none = o:=by rw [List.getD_eq_getElem?_getD,ho]; rfl
   show H2 p = some (.tup [.int (told tv ((Au ws ls cm n who).getD i none)).1,.int (told tv ((Au ws ls cm n who).getD i none)).2])
   rw [eo]
   exact e2
  rintro zs H2 ⟨lM,dC,TY,s2⟩
  have hzl2:zs.length = (Au ws ls cm n who).length:=by omega
  have aU:=s1.trans s2
  have eU:0 < (Au ws ls cm n who).length:=by
   unfold Au
   simp
  refine ⟨W,_,_,rfl,Ba.of TY,dC.rp hzl2,by omega,Uw _ _,Vd _ _,fun v hv=>?_⟩
  obtain ⟨p,e1,e2⟩ := dC _ v hv
  subst e1
  refine q p H2 aU ?_
  rw [e2]
  have key:told tv ((Au ws ls cm n who).getD (Kh ((List.range (Au ws ls cm n who).length).map fun i=>wd (told tv ((Au ws ls cm n who).getD i none)))) none) = Ik tv ws ls cm n who:=by
   by_cases hm:Dq cm n = true
   ·have eb : Au ws ls cm n who = [D0 ws ls cm n who false, D0 ws ls cm n who true] := by
     unfold Au
     rw [if_pos hm]
    rw [eb]
    unfold Ik fw
    rw [if_pos hm]
    have el2:Kh ((List.range [D0 ws ls cm n who false,D0 ws ls cm n who true].length).map fun i=>wd (told tv ([D0 ws ls cm n who false,D0 ws ls cm n who true].getD i none))) = if Fh (told tv (D0 ws ls cm n who false)) (told tv (D0 ws ls cm n who true)) = true then 1 else 0:=by
     rw [<- Z2]
     unfold Kh
     rw [show ((List.range [D0 ws ls cm n who false,D0 ws ls cm n who true].length).map fun i=>wd (told tv ([D0 ws ls cm n who false,D0 ws ls cm n who true].getD i none))).length - 1 = 0 + 1 from rfl,Ed]
     rfl
    rw [el2]
    by_cases y:Fh (told tv (D0 ws ls cm n who false)) (told tv (D0 ws ls cm n who true)) = true
    ·rw [if_pos y,if_pos y]
     rfl
    ·rw [if_neg y,if_neg y]
     rfl
   ·have eb : Au ws ls cm n who = [D0 ws ls cm n who false] := by
     unfold Au
     rw [if_neg hm]
    rw [eb]
    unfold Ik
    rw [if_neg hm]
    rfl
  rw [<- key]
def U9 (K:PySem.W.Frag):Sp:=fun vs H Q _=>cw fun (a TB b:Addr) (ws ls:List Int) (cm:Option Int) (q:Int) (tv:List ((List Int × Int) × V))=>Kj (vs = [.ref a,.ref TB,.ref b]) (Bl H a ws cm) (D8 H b ls q) (H TB = some (.dT tv)) (U0 tv) (0 < ws.length) (ls.length = ws.length) (ws.length <= 8) ((∀ x ∈ ws,1 <= x)) (∀ (j:Nat) (H':Hp),A9 H H' -> Hc (fun i=>Ik tv ws ls cm q i) ws.length j -> Q (.int (j:Int)) H')
theorem ip {fd pD:FuncData} (T:Txt K mg ad) (F:Fy K "best_call" "best_call" M8 ad.cO fd) (pE:Aj P w K mg base Bm 6 ad.cN pD ["hall","table","standing","who"] (Tf K)) (pF:Az K pD ["hall","table","standing","who"] []):Aj P w K mg base Bm 7 ad.cO fd ["hall","table","standing"] (U9 K):=by
 refine F.ok Zg (fun vs H Q E h=>?_) (fun aM A outer s H vs Q E hr h=>?_)
 ·rcases h with ⟨a,TB,b,ws,ls,cm,n,tv,rfl,ha,hb,hT,gU,sH,hl,h8,aN,q⟩ <;> rfl
 ·obtain ⟨a,TB,b,ws,ls,cm,n,tv,rfl,ha,hb,hT,gU,sH,hl,h8,aN,q⟩ := h
  refine ⟨_,(A7 (D6 (i:=3) Zg.nd rfl (Db (by rfl) T.aX (A0 (B9 (Cz K) (by rfl) T.bW PySem.boot_len (A0 (Bg (Bf K) (pv 0) Aa (fun _ _=>rfl)) A6)) A6)) _ rfl Ld rfl rfl (fun _ _ _ _=>(Al (i:=0) Ly rfl (Or.inl rfl))) (fun _ _ _ _=>Cp) (fun _ _ _ _=>(Ag pE (hr.mono (by decide)) rfl T.HM T.lB pF .nil B0 (A0 (pv 1) (A0 (pv 2) (A0 (pv 3) (A0 (pv 0) A6)))))) rfl rfl) (Ab (Aq (E4 (u':=Vb K _ _ _ _) (Fe PySem.F.plainAttrs_list PySem.F.slot_list_index PySem.F.type_list_index (Wp hr) (pv 3) (A0 (B9 (Xe K hr rfl) (by rfl) T.gO boot_max (A0 (pv 3) A6)) A6)))))),?_⟩
  obtain ⟨wt,bD,bX⟩ := id ha
  refine ⟨_,rfl,a,_,_,_,rfl,rfl,.inr (C7.of bD),rfl,wt,_,rfl,.inr (C7.of bX),_,rfl,by omega,by rw [List.length_map]; omega,fun D hD=>?_⟩
  refine Dp (cnt:=((ws.map V.int).length:Int).toNat) (fun j ys H'=>ys.length = j /\ Tg H' (fun i=>Ik tv ws ls cm n i) ys /\ H' D = some (.lst ys) /\ A9 H H') ⟨rfl,(fun i u h=>by simp at h),A5,A9.upd hD⟩ ?_ ?_
  ·rintro j ys H5 hj ⟨sM,eV,gS,s5⟩ Qe hQ
   rw [List.length_map] at hj
   have mY:j < ws.length:=by omega
   refine ⟨_,rfl,_,rfl,_,rfl,_,rfl,a,TB,b,ws,ls,cm,n,_,j,tv,rfl,Int.zero_add _,ha.same s5,hb.same s5,s5 _ _ hT,gU,mY,hl,h8,aN,fun p2 H6 s6 e6=>?_⟩
   have yh:=s6 _ _ gS
   have tt:Af H6 (upd H6 D (.lst (ys ++ [.ref p2]))):=Af.lst yh
   exact hQ _ _ yh (B7 (by omega)) ⟨by rw [List.length_append,List.length_singleton]; omega,eV.snoc ((Af.of s6).trans tt) sM (tt _ _ e6),A5,(s5.trans s6).new hD⟩
  rintro ys H5 ⟨sM,eV,gS,s5⟩
  have JN:ys.length = ws.length:=by
   rw [sM,List.length_map]
   omega
  refine ⟨_,rfl,.inl ⟨rfl,_,Ba.of gS⟩,_,rfl,D,_,_,rfl,Ba.of gS,eV.rp JN,by omega,Uw _ _,Vd _ _,fun vb nO=>?_⟩
  obtain ⟨pb,TZ,eb2⟩ := eV _ vb nO
  subst TZ
  obtain ⟨j,j1,j2,j3⟩ := Vf (Pr:=fun m=>Ik tv ws ls cm n m = Ik tv ws ls cm n (Ds ((List.range ws.length).map fun i=>wd (Ik tv ws ls cm n i)))) _ rfl
  have hbi:Hc (fun i=>Ik tv ws ls cm n i) ws.length j:=Hc.of sH j1 j2 j3
  refine ⟨D,ys,_,wd (Ik tv ws ls cm n (Ds ((List.range ws.length).map fun i=>wd (Ik tv ws ls cm n i)))),_,j,rfl,rfl,Ba.of gS,Vc eb2,eV.rp JN,Kz _,⟨_,cg _ hbi.1,by rw [Ye]; exact decide_eq_true j2⟩,(fun m e hm he=>by rw [Xy he,Ye]; exact decide_eq_false (j3 m hm)),?_⟩
  exact q j H5 s5 hbi
def Z4 (K:PySem.W.Frag):Sp:=fun vs H Q _=>ab fun (a TB b:Addr) (ws ls:List Int) (cm:Option Int) (q w:Int) (who:Nat) (tv:List ((List Int × Int) × V))=>Kj (vs = [.ref a,.ref TB,.ref b,.int w]) (w = (who:Int)) (Bl H a ws cm) (D8 H b ls q) (H TB = some (.dT tv)) (U0 tv) (who < ws.length) (ls.length = ws.length) (ws.length <= 8) (∀ (H':Hp),A9 H H' -> Q (.bl (Da tv ws ls cm q who)) H')
theorem mo {fd fQ aZ bZ:FuncData} (T:Txt K mg ad) (F:Fy K "worst_answer" "worst_answer" Wd ad.gE fd) (fR:Aj P w K mg base Bm 1 ad.bU fQ ["table","behind"] (Q6 K)) (fS:Az K fQ ["table","behind"] []) (cA:Aj P w K mg base Bm 4 ad.bI aZ ["hall","standing","who","lost"] (Lu K)) (dQ:Az K aZ ["hall","standing","who","lost"] []) (aO:Az K aZ ["hall","standing","who","lost"] [Value.bool false]) (dM:Aj P w K mg base Bm 1 ad.bM bZ ["hall","standing"] (Ko K)) (dN:Az K bZ ["hall","standing"] []):Aj P w K mg base Bm 5 ad.gE fd ["hall","table","standing","who"] (Z4 K):=by
 refine F.ok d8 (fun vs H Q E h=>?_) (fun aM A outer s H vs Q E hr h=>?_)
 ·rcases h with ⟨a,TB,b,ws,ls,cm,n,w0,who,tv,rfl,rfl,ha,hb,hT,gU,hw,hl,h8,q⟩ <;> rfl
 ·obtain ⟨a,TB,b,ws,ls,cm,n,w0,who,tv,rfl,rfl,ha,hb,hT,gU,hw,hl,h8,q⟩ := h
  refine ⟨_,(A7 (Ap (i:=4) d8.nd rfl (Or.inl rfl) (Ag fR (hr.mono (by decide)) rfl T.nZ T.gN fS .nil B0 (A0 (pv 1) (A0 (Q9 (Ag cA (hr.mono (by decide)) rfl T.jB T.fL aO (Iv) B0 (A0 (pv 0) (A0 (pv 2) (A0 (pv 3) A6))))) A6)))) (A7 (Cn (Fm (Ee (Ag dM (hr.mono (by decide)) rfl T.nW T.gM dN .nil B0 (A0 (pv 0) (A0 (pv 2) A6))))) (Ab (Aq Ft)) Ax) (Ab (Aq (Fo (du hr) (Ag fR (hr.mono (by decide)) rfl T.nZ T.gN fS .nil B0 (A0 (pv 1) (A0 (Q9 (Ag cA (hr.mono (by decide)) rfl T.jB T.fL dQ .nil B0 (A0 (pv 0) (A0 (pv 2) (A0 (pv 3) (A0 Ft A6)))))) A6))) (pv 4) (Be _)))))),?_⟩
  refine ⟨_,rfl,(fun v H9=>E5 H9 (D0 ws ls cm n who false) v /\ A9 H H9),⟨_,rfl,_,rfl,_,rfl,a,b,ws,ls,cm,n,who,false,rfl,ha,hb,hw,hl,h8,(fun z=>nomatch z),(fun hz H2 s2=>⟨by unfold D0; rw [if_pos hz]; rfl,s2⟩),fun hz p H2 s2 cE=>⟨by unfold D0; rw [if_neg hz]; exact ⟨p,rfl,cE⟩,s2⟩⟩,?_⟩
  rintro v H1 ⟨hv,s1⟩
  refine ⟨TB,v,_,tv,rfl,s1 _ _ hT,hv,gU,fun p1 H2 s2 e2=>?_⟩
  have aU:=s1.trans s2
  refine ⟨_,rfl,_,rfl,a,b,ws,ls,cm,n,rfl,ha.same aU,hb.same aU,_,rfl,?_⟩
  have em:(!decide (cm = none) && decide (n = 0)) = Dq cm n:=rfl
  rw [em]
  refine Ej (fun hm=>?_) (fun hm=>?_)
  ·have dB:Dq cm n = false:=by simpa using hm
   have e:Da tv ws ls cm n who = false:=by
    unfold Da
    rw [dB]
    rfl
   rw [<- e]
   exact q H2 aU
  ·have dB:Dq cm n = true:=by simpa using hm
   have xQ:Ub cm n true:=fun _=>by
    unfold Dq at dB
    simp only [Bool.and_eq_true,Bool.not_eq_true',decide_eq_false_iff_not,decide_eq_true_eq] at dB
    exact dB
   refine ⟨_,rfl,(fun v H9=>E5 H9 (D0 ws ls cm n who true) v /\ A9 H2 H9),⟨_,rfl,_,rfl,_,rfl,a,b,ws,ls,cm,n,who,true,rfl,ha.same aU,hb.same aU,hw,hl,h8,xQ,(fun hz H2 s2=>⟨by unfold D0; rw [if_pos hz]; rfl,s2⟩),fun hz p H2 s2 cE=>⟨by unfold D0; rw [if_neg hz]; exact ⟨p,rfl,cE⟩,s2⟩⟩,?_⟩
   rintro v3 H3 ⟨hv3,s3⟩
   refine ⟨TB,v3,_,tv,rfl,s3 _ _ (aU _ _ hT),hv3,gU,fun p4 H4 s4 e4=>?_⟩
   have jI:=s3.trans s4
   refine ⟨_,rfl,wd (told tv (D0 ws ls cm n who true)),wd (told tv (D0 ws ls cm n who false)),Vc e4,Vc (jI _ _ e2),Yj _ _,Nat.le_trans (Kz _) (by decide),?_⟩
   rw [Z2]
   have e:Da tv ws ls cm n who = Fh (told tv (D0 ws ls cm n who false)) (told tv (D0 ws ls cm n who true)):=by
    unfold Da
    rw [dB]
    rfl
   rw [<- e]
   exact q H4 (aU.trans jI)
def Sg (K:PySem.W.Frag):Sp:=fun vs H Q _=>Vn fun (a:Addr) (ws:List Int) (cm:Option Int)=>Ij (vs = [.ref a]) (Bl H a ws cm) (Cm ws cm) ((∀ (tv:List ((List Int × Int) × V)) (H':Hp),A9 H H' -> Dj ws cm tv -> (tv.map (·.1)).Nodup -> (Ae tv (ws,0)).isSome = true -> Q .aL H')) (∀ (p:Addr) (us:List V) (ps tv:List ((List Int × Int) × V)) (H':Hp),A9 H H' -> H p = none -> H' p = some (.lst us) -> Dj ws cm tv -> (tv.map (·.1)).Nodup -> Ae tv (ws,0) = none -> jv ws cm tv ps -> Ad (ng H') ps us -> Q (.ref p) H')
theorem dm {fd fT cB pG bA:FuncData} (T:Txt K mg ad) (F:Fy K "kept_paper" "kept_paper" Of ad.cP fd) (gW:Aj P w K mg base Bm 7 ad.bT fT ["hall"] (Ow K)) (gX:Az K fT ["hall"] []) (cC:Aj P w K mg base Bm 1 ad.bL cB ["hall"] (Le K)) (cD:Az K cB ["hall"] []) (pH:Aj P w K mg base Bm 7 ad.cO pG ["hall","table","standing"] (U9 K)) (pI:Az K pG ["hall","table","standing"] []) (bN:Aj P w K mg base Bm 5 ad.bJ bA ["hall","standing","who"] (Jf K)) (bO:Az K bA ["hall","standing","who"] []):Aj P w K mg base Bm 8 ad.cP fd ["hall"] (Sg K):=by
 refine F.ok Mb (fun vs H Q E h=>?_) (fun aM A outer s H vs Q E hr h=>?_)
 ·rcases h with ⟨a,ws,cm,rfl,ha,aC,q0,q⟩ <;> rfl
 ·obtain ⟨a,ws,cm,rfl,ha,aC,q0,q⟩ := h
  refine ⟨_,(A7 (Ap (i:=1) Mb.nd rfl (Or.inl rfl) (Ag gW (hr.mono (by decide)) rfl T.vv T.jC gX .nil B0 (A0 (pv 0) A6))) (A7 (Cn (Fr (Td (E8 hr) (Ag cC (hr.mono (by decide)) rfl T.jA T.eS cD .nil B0 (A0 (pv 0) A6)) (pv 1)) rfl) (Ab (Aq D3)) Ax) (A7 (Ap (i:=2) Mb.nd rfl (Or.inl rfl) Fg) (A7 (Ap (i:=3) Mb.nd rfl (Or.inl rfl) (D1 (A0 (Ag cC (hr.mono (by decide)) rfl T.jA T.eS cD .nil B0 (A0 (pv 0) A6)) A6))) (A7 (Ip PassesOwn.never (Kp (pv 3) (by intro _; rfl)) (A7 (Ap (i:=4) Mb.nd rfl (Or.inl rfl) (E4 (u':=Zu K _ _ _) (P9 PySem.F.plainAttrs_list PySem.F.slot_list_pop PySem.F.type_list_pop Ty (pv 3)))) (Ab (Dn (Fr (Ec (E8 hr) (pv 4) (pv 2)) rfl) (A7 (Gw (E8 hr) (pv 2) (pv 4) (Ag pH (hr.mono (by decide)) rfl T.HN T.lC pI .nil B0 (A0 (pv 0) (A0 (pv 1) (A0 (pv 4) A6)))) rfl) (Ab (Co (E4 (u':=Vb K _ _ _ _) (Fe PySem.F.plainAttrs_list PySem.F.slot_list_extend PySem.F.type_list_extend Gm (pv 3) (A0 (Ag bN (hr.mono (by decide)) rfl T.kU T.fM bO .nil B0 (A0 (pv 0) (A0 (pv 4) (A0 (Fn (E8 hr) (pv 2) (pv 4) (fun _ _=>rfl)) A6)))) A6)))))) Ax)))) (Ab (Aq (B9 (Sr hr rfl) (by rfl) T.fO boot_sorted (A0 (P9 PySem.F.plainAttrs_dict PySem.F.slot_dict_items PySem.F.type_dict_items Wi (pv 2)) A6))))))))),?_⟩
  obtain ⟨wt,bD,bX⟩ := id ha
  have hq:=aC.qv
  have aN:∀ x ∈ ws,1 <= x:=fun x hx=>(aC.1 x hx).1
  have h8:=aC.2.2.2.1
  have sH:=aC.2.2.1
  refine ⟨_,rfl,a,ws,cm,rfl,ha,(fun w hw=>(aC.1 w hw).1),hq.1,(fun w hw=>Im (by have:=aC.1 w hw; omega) (aC.1 w hw).2),Im (by omega) hq.2,aC.2.2.2.1,(by have:=aC.2.2.2.2; omega),fun TB tv H1 hTB s1 uL mF mE FI=>?_⟩
  have gU:U0 tv:=fun k v hv=>by
   obtain ⟨m,e,_⟩ := mF.1 k v hv
   exact ⟨m,e⟩
  refine ⟨_,rfl,a,ws,cm,rfl,ha.same s1,fun b0 H2 s2 vk=>?_⟩
  have aU:=s1.trans s2
  refine ⟨_,rfl,TB,_,rfl,D4.t (s2 _ _ uL) (show Dt H2 b0 (ws,0) from vk),_,rfl,?_⟩
  refine Ej (fun h=>q0 tv H2 aU mF mE h) (fun JO=>?_)
  have JP:Ae tv (ws,0) = none:=by
   cases e:Ae tv (ws,0) with
   | none=>rfl
   | some v=>rw [e] at JO; exact absurd rfl JO
  have yi:Sf ws cm tv (ws,0):=⟨Iz rfl (fun i hi=>⟨aN _ (by rw [List.getD_eq_getElem?_getD,List.getElem?_eq_getElem hi]; exact List.getElem_mem hi),Int.le_refl _⟩) (Int.le_refl _) (by have:=hq.1; show (0:Int) < qv cm; omega),JP,.base⟩
  refine fun C hC=>?_
  have s3:A9 H2 (upd H2 C (.dT [])):=A9.upd hC
  have e3:(upd H2 C (.dT [])) C = some (.dT []):=A5
  generalize upd H2 C (.dT []) = H3 at s3 e3 ⊢
  refine ⟨_,rfl,a,ws,cm,rfl,(ha.same aU).same s3,fun b1 H4 s4 eU=>?_⟩
  refine ⟨Bo,fun L hL=>?_⟩
  have s5:A9 H4 (upd H4 L (.lst [.ref b1])):=A9.upd hL
  have e5:(upd H4 L (.lst [.ref b1])) L = some (.lst [.ref b1]):=A5
  generalize upd H4 L (.lst [.ref b1]) = H5 at s5 e5 ⊢
  have UA:H2 C = none:=hC
  have kH:H2 L = none:=by
   cases e:H2 L with
   | none=>rfl
   | some o=>rw [s4 _ _ (s3 _ _ e)] at hL; cases hL
  have s25:A9 H2 H5:=(s3.trans s4).trans s5
  obtain ⟨bu,yj,yk⟩ := eU.same s5
  dsimp only
  refine eh ?_
  refine g7 ?_
  refine Id (fun σ' H'=>Uy fun (es:List V) (E:List (List Int × Int)) (cv:List ((List Int × Int) × V)) (v4:Option V)=>Yn (σ' = [some (.ref a),some (.ref TB),some (.ref C),some (.ref L),v4]) (A9 H2 H') (H' L = some (.lst es)) (Ad (E3 H') E es) (H' C = some (.dT cv)) (Ps ws cm tv cv E) (E.length <= 2 * cv.length + 1))
   (fun _ H'=>3 * (301 - Fa (H' C)) + Je (H' L)) ⟨[.ref b1],[(ws,0)],[],none,rfl,s25,e5,Ad.one ⟨b1,bu,rfl,yj,yk⟩,s5 _ _ (s4 _ _ e3),Ps.start yi,by simp⟩ ?_ ?_
  ·rintro σ' H' ⟨es,E,cv,v4,rfl,s',mO,mW,gH,eQ,hEl⟩
   have mT:=eQ.len aC
   refine ⟨_,rfl,_,.inl ⟨_,Ba.of mO,rfl⟩,?_⟩
   refine Ej (fun cY=>?_) (fun fP=>?_)
   ·have yl : 0 < es.length := by
     cases es with
     | nil=>exact absurd cY (by decide)
     | cons x xs=>simp
    have VR:=mW.1
    obtain ⟨y,hy⟩ := Oy yl
    refine ⟨_,rfl,.inl ⟨rfl,_,Ba.of mO⟩,L,es,y,rfl,rfl,mO,hy,?_⟩
    obtain ⟨k,JI,b,b2,rfl,ym,yn⟩ := mW.get hy
    have eE:E = E.take (es.length - 1) ++ [k]:=by
     have h1:=List.take_append_drop (es.length - 1) E
     have h2:E.drop (es.length - 1) = [k]:=by
      rw [List.drop_eq_getElem_cons (by omega),(List.getElem?_eq_some_iff.mp JI).2,List.drop_of_length_le (by omega)]
     rw [h2] at h1
     exact h1.symm
    have yo:C ≠ L:=Bp gH mO (by intro z; cases z)
    have hTL:TB ≠ L:=fun z=>by rw [z] at uL; exact absurd (s2 _ _ uL) (by rw [kH]; exact fun h=>nomatch h)
    have t4:Af H' (upd H' L (.lst es.dropLast)):=Af.lst mO
    have uM:(upd H' L (.lst es.dropLast)) L = some (.lst es.dropLast):=A5
    have iL:(upd H' L (.lst es.dropLast)) C = some (.dT cv):=(Ac yo).trans gH
    have pJ:A9 H2 (upd H' L (.lst es.dropLast)):=s'.new kH
    generalize upd H' L (.lst es.dropLast) = H6 at t4 uM iL pJ ⊢
    have fE:D8 H6 b k.1 k.2:=⟨b2,t4 _ _ ym,t4 _ _ yn⟩
    have iB:Ad (E3 H6) (E.take (es.length - 1)) es.dropLast:=by
     rw [List.dropLast_eq_take]
     exact (mW.imp (fun _ _ y=>E3.up t4 y)).take _
    have JQ:(E.take (es.length - 1)).length = E.length - 1:=by rw [List.length_take]; omega
    rw [eE] at eQ
    generalize E.take (es.length - 1) = E0 at eQ iB JQ eE
    have yp:Je (H' L) = es.length:=by rw [mO]; rfl
    have iY:Fa (H' C) = cv.length:=by rw [gH]; rfl
    refine ⟨_,rfl,_,rfl,C,_,rfl,D4.t iL (show Dt H6 b k from fE),_,rfl,(fun JR H7=>Uy fun (es:List V) (E:List (List Int × Int)) (vN:List ((List Int × Int) × V)) (v4:Option V)=>Tx (JR = [some (.ref a),some (.ref TB),some (.ref C),some (.ref L),v4]) (A9 H2 H7) (H7 L = some (.lst es)) (Ad (E3 H7) E es) (H7 C = some (.dT vN)) (Ps ws cm tv vN E) (E.length <= 2 * vN.length + 1) (3 * (301 - Fa (H7 C)) + Je (H7 L) < 3 * (301 - Fa (H' C)) + Je (H' L))),fun h=>?_,fun h=>?_,?_⟩
    ·have FJ : Ae cv k = none := by
      cases e:Ae cv k with
      | none=>rfl
      | some v=>rw [e] at h; cases h
     have pK:Sf ws cm tv k:=eQ.sf k (by simp)
     have gR:k.1.length = ws.length:=(Ea pK.1).1
     refine ⟨_,rfl,_,rfl,_,rfl,a,TB,b,ws,k.1,cm,k.2,tv,rfl,(ha.same aU).same pJ,fE,pJ _ _ (s2 _ _ uL),gU,sH,gR,h8,aN,fun j H7 s7 cX=>?_⟩
     have yq:=s7 _ _ iL
     have hL7:=s7 _ _ uM
     refine ⟨_,rfl,_,rfl,C,_,rfl,K0.t yq (show Dt H7 b k from fE.same s7) (Bt (by omega)),?_⟩
     have GG:L ≠ C:=fun z=>yo z.symm
     have k8:∀ b o,b ≠ C -> H7 b = some o -> (upd H7 C (.dT (B8 cv k (.int (j:Int))))) b = some o:=fun b o n e=>(Ac n).trans e
     have mP:(upd H7 C (.dT (B8 cv k (.int (j:Int))))) C = some (.dT (B8 cv k (.int (j:Int)))):=A5
     generalize upd H7 C (.dT (B8 cv k (.int (j:Int)))) = H8 at k8 mP ⊢
     have t8:Af H7 H8:=fun b xs e=>k8 b _ (Bp e yq (by intro z; cases z)) e
     have s8:A9 H2 H8:=fun b o e=>k8 b o (Ah e UA) (s7 _ _ (pJ _ _ e))
     have uN:=k8 _ _ GG hL7
     have pL:D8 H8 b k.1 k.2:=(fE.same s7).up t8
     have ev:Ae (B8 cv k (.int (j:Int))) k = some (.int (j:Int)):=by rw [Ez,if_pos rfl]
     refine ⟨_,rfl,.inl ⟨rfl,_,Ba.of uN⟩,_,rfl,_,rfl,_,rfl,_,rfl,C,.int (j:Int),rfl,(by rw [<- ev]; exact D4.t mP (show Dt H8 b k from pL)),a,b,ws,k.1,cm,k.2,(j:Int),j,rfl,rfl,(ha.same aU).same s8,pL,cX.1,gR,h8,fun l us H9 ZN s9 el9 hall=>?_⟩
     obtain ⟨Eb,TZ,eb2,eb3⟩ := Zs mF aC pK cX
     rw [TZ] at hall
     have iV:=Yg hall
     have JS:=s9 _ _ uN
     have hel6:=iB.1
     have II:=iV.1
     refine ⟨L,l,es.dropLast,us,rfl,rfl,JS,el9,Nat.le_of_lt (Bt (by omega)),?_⟩
     have oX:Af H9 (upd H9 L (.lst (es.dropLast ++ us))):=Af.lst JS
     have jJ:(upd H9 L (.lst (es.dropLast ++ us))) C = some (.dT (B8 cv k (.int (j:Int)))):=(Ac yo).trans (s9 _ _ mP)
     have jU:(B8 cv k (.int (j:Int))).length = cv.length + 1:=by rw [Cj _ FJ,List.length_append,List.length_singleton]
     refine ⟨es.dropLast ++ us,E0 ++ Eb,B8 cv k (.int (j:Int)),_,rfl,(s8.trans s9).new kH,A5,((iB.imp fun _ _ y=>E3.up (((Af.of s7).trans t8).trans ((Af.of s9).trans oX)) y).append (iV.imp fun _ _ y=>E3.up oX y)),jJ,eQ.put FJ cX TZ eb2,?_,?_⟩
     ·rw [List.length_append,jU,JQ]
      omega
     ·have m1:Je ((upd H9 L (.lst (es.dropLast ++ us))) L) = (es.dropLast ++ us).length:=by rw [A5]; rfl
      have m2:Fa ((upd H9 L (.lst (es.dropLast ++ us))) C) = cv.length + 1:=by rw [jJ]; exact jU
      rw [m1,m2,yp,iY,List.length_append,List.length_dropLast]
      omega
    ·have jN : k ∈ cv.map (·.1) := by
      cases e:Ae cv k with
      | none=>rw [e] at h; cases h
      | some v=>exact Vl e
     refine ⟨es.dropLast,E0,cv,_,rfl,pJ,uM,iB,iL,eQ.skip jN,by omega,?_⟩
     have m1:Je (H6 L) = es.dropLast.length:=by rw [uM]; rfl
     have m2:Fa (H6 C) = cv.length:=by rw [iL]; rfl
     rw [m1,m2,yp,iY,List.length_dropLast]
     omega
    ·rintro JR H7 ⟨es7,E7,cv7,v47,rfl,a1,a2,a3,a4,a5,a6,a7⟩
     exact ⟨⟨es7,E7,cv7,v47,rfl,a1,a2,a3,a4,a5,a6⟩,a7⟩
   ·have yr : es = [] := by
     cases es with
     | nil=>rfl
     | cons x xs=>exact absurd rfl fP
    have hE1:E = []:=by
     have h1:=mW.1
     rw [yr] at h1
     exact List.length_eq_zero_iff.mp h1.symm
    subst hE1
    refine ⟨_,rfl,.inr (.inr (.inl ⟨rfl,.inr ⟨cv,gH⟩⟩)),C,cv,rfl,rfl,gH,fun vw hvw=>?_⟩
    have sV:A9 H' (upd H' vw (Qa vw C)):=A9.upd hvw
    refine ⟨vw,C,cv,Hm,(fun kv=>(Ao ws (qv cm)).idxOf kv.1),rfl,A5,sV _ _ gH,(fun kv aG=>?_),Uc eQ,fun p us ps H9 s9 hp e9 bH gL JT=>?_⟩
    ·obtain ⟨_,j,ej,_⟩ := eQ.ent kv aG
     have e:Hm kv = .int j:=by unfold Hm; rw [ej]
     rw [e,ej]
     exact ⟨G0 _,by show 0 <= 40; omega⟩
    ·have hpH : H p = none := by
      cases e:H p with
      | none=>rfl
      | some o=>rw [sV _ _ (s' _ _ (aU _ _ e))] at hp; cases hp
     exact q p us ps tv H9 (((aU.trans s').trans sV).trans s9) hpH e9 mF mE JP (bj eQ bH gL) (Lc JT)
  ·intro σ H0 Q1 Q2 z h1
   obtain ⟨_,e,k,t,h2⟩ := h1
   exact ⟨_,e,k,t,z _ _ h2⟩
def Tm (K:PySem.W.Frag):Sp:=fun vs H Q _=>cw fun (a TB b:Addr) (ws ls:List Int) (cm:Option Int) (q:Int) (tv:List ((List Int × Int) × V))=>Tx (vs = [.ref a,.ref TB,.ref b]) (Bl H a ws cm) (D8 H b ls q) (H TB = some (.dT tv)) (U0 tv) (ls.length = ws.length) (ws.length <= 8) (∀ (p:Addr) (H':Hp),A9 H H' -> H' p = some (.tup ((Gz tv ws ls cm q).map V.bl)) -> Q (.ref p) H')
theorem j9 {fd vP:FuncData} (T:Txt K mg ad) (F:Fy K "all_answers" "all_answers" Ma ad.cQ fd) (yt:Aj P w K mg base Bm 5 ad.gE vP ["hall","table","standing","who"] (Z4 K)) (yu:Az K vP ["hall","table","standing","who"] []):Aj P w K mg base Bm 6 ad.cQ fd ["hall","table","standing"] (Tm K):=by
 refine F.ok je (fun vs H Q E h=>?_) (fun aM A outer s H vs Q E hr h=>?_)
 ·rcases h with ⟨a,TB,b,ws,ls,cm,n,tv,rfl,ha,hb,hT,gU,hl,h8,q⟩ <;> rfl
 ·obtain ⟨a,TB,b,ws,ls,cm,n,tv,rfl,ha,hb,hT,gU,hl,h8,q⟩ := h
  refine ⟨_,(Ab (Aq (C8 (Cw K) (by rfl) T.aW boot_tuple (A0 (E6 (Db (by rfl) T.aX (A0 (B9 (Cz K) (by rfl) T.bW PySem.boot_len (A0 (Bg (Bf K) (pv 0) Aa (fun _ _=>rfl)) A6)) A6)) _ rfl Jg rfl rfl (fun _ _ _ _=>(Al (i:=0) J1 rfl (Or.inl rfl))) (fun _ _ _ _=>Cp) (fun _ _ _ _=>(Ag yt (hr.mono (by decide)) rfl T.XD T.tS yu .nil B0 (A0 (pv 1) (A0 (pv 2) (A0 (pv 3) (A0 (pv 0) A6))))))) A6)))),?_⟩
  obtain ⟨wt,bD,bX⟩ := id ha
  refine ⟨_,rfl,a,_,_,_,rfl,rfl,.inr (C7.of bD),rfl,wt,_,rfl,.inr (C7.of bX),_,rfl,by omega,by rw [List.length_map]; omega,fun D hD=>?_⟩
  refine Dp (cnt:=((ws.map V.int).length:Int).toNat) (fun j ys H'=>ys = ((Gz tv ws ls cm n).take j).map V.bl /\ H' D = some (.lst ys) /\ A9 H H') ⟨rfl,A5,A9.upd hD⟩ ?_ ?_
  ·rintro j ys H5 hj ⟨rfl,gS,s5⟩ Qe hQ
   rw [List.length_map] at hj
   have mY:j < ws.length:=by omega
   have sI:=Gb tv ws ls cm n
   refine ⟨_,rfl,_,rfl,_,rfl,_,rfl,a,TB,b,ws,ls,cm,n,_,j,tv,rfl,Int.zero_add _,ha.same s5,hb.same s5,s5 _ _ hT,gU,mY,hl,h8,fun H6 s6=>?_⟩
   have yh:=s6 _ _ gS
   refine hQ _ _ yh (B7 (by rw [List.length_map,List.length_take]; omega)) ⟨?_,A5,(s5.trans s6).new hD⟩
   rw [List.take_add_one,Uo mY,List.map_append]
   rfl
  rintro ys H5 ⟨rfl,gS,s5⟩
  have e:(Gz tv ws ls cm n).take ((ws.map V.int).length:Int).toNat = Gz tv ws ls cm n:=List.take_of_length_le (by rw [Gb,List.length_map]; omega)
  rw [e] at gS
  refine ⟨D,_,rfl,.inl ⟨Ba.of gS,fun p hp=>?_⟩⟩
  exact q p _ (s5.trans (A9.upd hp)) A5
def Xr (K:PySem.W.Frag):Sp:=fun vs H Q _=>oj fun (a b A:Addr) (ws:List Int) (cm:Option Int) (k:List Int × Int) (tv:List ((List Int × Int) × V))=>Yn (vs = [.ref a,.ref b,.ref A]) (Bl H a ws cm) (D8 H b k.1 k.2) (H A = some (.tup ((Gz tv ws k.1 cm k.2).map V.bl))) (k.1.length = ws.length) (ws.length <= 8) (∀ (l:Addr) (us:List V) (H':Hp),H l = none -> A9 H H' -> H' l = some (.lst us) -> Ad (E3 H') ((List.range ws.length).filterMap (N6 tv ws cm k)) us -> Q (.ref l) H')
theorem l8 {fd aZ:FuncData} (T:Txt K mg ad) (F:Fy K "unbroken_behind" "unbroken_behind" Qs ad.gF fd) (cA:Aj P w K mg base Bm 4 ad.bI aZ ["hall","standing","who","lost"] (Lu K)) (dQ:Az K aZ ["hall","standing","who","lost"] []) (aO:Az K aZ ["hall","standing","who","lost"] [Value.bool false]):Aj P w K mg base Bm 5 ad.gF fd ["hall","standing","answers"] (Xr K):=by
 refine F.ok d4 (fun vs H Q E h=>?_) (fun aM A outer s H vs Q E hr h=>?_)
 ·rcases h with ⟨a,b,A,ws,cm,k,tv,rfl,ha,hb,hA,hl,h8,q⟩ <;> rfl
 ·obtain ⟨a,b,A,ws,cm,k,tv,rfl,ha,hb,hA,hl,h8,q⟩ := h
  refine ⟨_,(A7 (D6 (i:=3) d4.nd rfl (Xt (by rfl) T.jE (A0 (pv 2) A6)) _ rfl Ga rfl rfl (fun _ _ _ _=>(Ep K (n:=2) rfl (Bu (Al (i:=0) Dx rfl (Or.inl rfl)) (Bu (Al (i:=1) Dx rfl (Or.inl rfl)) Ek)))) (fun _ _ _ _=>Cp) (fun _ _ _ _=>(Ag cA (hr.mono (by decide)) rfl T.jB T.fL dQ .nil B0 (A0 (pv 2) (A0 (pv 3) (A0 (pv 0) (A0 (pv 1) A6)))))) rfl rfl) (Ab (Aq (E6 (Dk (w':=Nq K _) (Df (pv 3))) _ rfl G3 rfl rfl (fun _ _ _ _=>(Al (i:=0) G9 rfl (Or.inl rfl))) (fun _ _ _ _=>(V6 (Bc P0 (pv 0) D3 (Be _)))) (fun _ _ _ _=>(pv 0)))))),?_⟩
  have sI:=Gb tv ws k.1 cm k.2
  refine ⟨_,rfl,true,A,rfl,⟨_,C7.of hA⟩,fun D hD=>?_⟩
  refine Sz (K:=K) (b1:=true) (c:=A) (xs:=(Gz tv ws k.1 cm k.2).map V.bl) (fun i ys H'=>Ad (E5 H') ((List.range i).map (N6 tv ws cm k)) ys /\ H' D = some (.lst ys) /\ A9 H H') ⟨Ad.nil,A5,A9.upd hD⟩ (by rintro i ys H' _ ⟨_,_,s⟩; exact C7.of (s _ _ hA)) ?_ ?_ ?_ ?_
  ·rintro i x T ys H2 hx ⟨eV,vB,s2⟩ hT
   have hi:=(List.getElem?_eq_some_iff.mp hx).1
   rw [List.length_map,sI] at hi
   rw [List.getElem?_map,Uo hi] at hx
   cases hx
   have sM:=eV.1
   rw [List.length_map,List.length_range] at sM
   have s3:A9 H2 (upd H2 T (.tup [V.int (i:Nat),V.bl (Da tv ws k.1 cm k.2 i)])):=A9.upd hT
   have e3:(upd H2 T (.tup [V.int (i:Nat),V.bl (Da tv ws k.1 cm k.2 i)])) T = some (.tup [V.int (i:Nat),V.bl (Da tv ws k.1 cm k.2 i)]):=A5
   generalize upd H2 T (.tup [V.int (i:Nat),V.bl (Da tv ws k.1 cm k.2 i)]) = H3 at s3 e3 ⊢
   have s23:=s2.trans s3
   simp only [L6,↓reduceIte]
   have fin:∀ (v:V) (H4:Hp),A9 H3 H4 -> E5 H4 (N6 tv ws cm k i) v -> H4 D = some (.lst ys) /\ ys.length < sizeLine /\ Ad (E5 (upd H4 D (.lst (ys ++ [v])))) ((List.range (i + 1)).map (N6 tv ws cm k)) (ys ++ [v]) /\ (upd H4 D (.lst (ys ++ [v]))) D = some (.lst (ys ++ [v])) /\ A9 H (upd H4 D (.lst (ys ++ [v]))):=fun v H4 s4 hv=>by
    have FD:=s4 _ _ (s3 _ _ vB)
    have tt:Af H4 (upd H4 D (.lst (ys ++ [v]))):=Af.lst FD
    refine ⟨FD,B7 (by omega),?_,A5,(s23.trans s4).new hD⟩
    rw [List.range_succ,List.map_append]
    exact (eV.imp fun _ _ y=>E5.up (((Af.of s3).trans (Af.of s4)).trans tt) y).append (Ad.one (E5.up tt hv))
   refine ⟨_,rfl,_,rfl,_,rfl,_,rfl,a,b,ws,k.1,cm,k.2,i,Da tv ws k.1 cm k.2 i,rfl,ha.same s23,hb.same s23,hi,hl,h8,Nk,fun h H4 s4=>?_,fun h p H4 s4 hp=>?_⟩
   ·refine fin _ H4 s4 ?_
    have e:N6 tv ws cm k i = none:=by unfold N6 D0; rw [if_pos h]
    rw [e]
    rfl
   ·refine fin _ H4 s4 ?_
    have e:N6 tv ws cm k i = some (Bi ws k.1 i (Da tv ws k.1 cm k.2 i),Dh cm k.2 (Da tv ws k.1 cm k.2 i)):=by unfold N6 D0; rw [if_neg h]
    rw [e]
    exact ⟨p,rfl,hp⟩
  ·rintro σ H' Q1 Q2 hQ z
   exact hQ _ _ z
  ·rintro σ H' Q1 Q2 hQ ⟨v1,e1,v2,e2,v3,e3,v4,e4,a',b',ws',ls',cm',q',aF,JU,hv,h1,h2,h3,h4,h5,h6,q1,q2⟩
   exact ⟨v1,e1,v2,e2,v3,e3,v4,e4,a',b',ws',ls',cm',q',aF,JU,hv,h1,h2,h3,h4,h5,h6,fun h H2 s2=>hQ _ _ (q1 h H2 s2),fun h p H2 s2 hp=>hQ _ _ (q2 h p H2 s2 hp)⟩
  rintro ys H2 ⟨eV,vB,s2⟩
  rw [List.length_map,sI] at eV
  refine ⟨_,rfl,D,rfl,.inl ⟨⟨_,Ba.of vB⟩,fun C hC=>?_⟩⟩
  have sM:=eV.1
  rw [List.length_map,List.length_range] at sM
  refine Tq (K:=K) (a:=D) (xs:=ys) (fun i zs H'=>Ad (E3 H') ((List.range i).filterMap (N6 tv ws cm k)) zs /\ H' C = some (.lst zs) /\ A9 H2 H') ⟨Ad.nil,A5,A9.upd hC⟩ (by rintro i zs H' _ ⟨_,_,s⟩; exact Ba.of (s _ _ vB)) ?_ ?_ ?_ ?_
  ·rintro i x zs H3 hx ⟨dC,pM,s3⟩
   obtain ⟨r,iK,hv⟩ := eV.get hx
   have hi:=(List.getElem?_eq_some_iff.mp iK).1
   rw [List.length_map,List.length_range] at hi
   rw [List.getElem?_map,List.getElem?_range hi] at iK
   have er:N6 tv ws cm k i = r:=by simpa using iK
   have lM:zs.length <= i:=by
    rw [dC.1]
    exact Nat.le_trans (List.length_filterMap_le _ _) (by rw [List.length_range]; exact Nat.le_refl _)
   cases r with
   | none =>
    obtain rfl:x = .aL:=hv
    refine ⟨_,rfl,rfl,_,rfl,Ix (by simp) ⟨?_,pM,s3⟩⟩
    rw [List.range_succ,List.filterMap_append]
    have e0:[i].filterMap (N6 tv ws cm k) = []:=by simp [er]
    rw [e0,List.append_nil]
    exact dC
   | some k' =>
    obtain ⟨p,rfl,u,xS,xt⟩ := hv
    have tt:Af H3 (upd H3 C (.lst (zs ++ [.ref p]))):=Af.lst pM
    refine ⟨_,rfl,rfl,_,rfl,N7 (by simp) ⟨_,rfl,pM,B7 (by omega),?_,A5,s3.new hC⟩⟩
    rw [List.range_succ,List.filterMap_append]
    have e0:[i].filterMap (N6 tv ws cm k) = [k']:=by simp [er]
    rw [e0]
    exact (dC.imp fun _ _ y=>E3.up tt y).append (Ad.one ⟨p,u,rfl,tt _ _ (s3 _ _ xS),tt _ _ (s3 _ _ xt)⟩)
  ·rintro σ H' Q1 Q2 hQ ⟨v,e1,e2,c,e3,z⟩
   exact ⟨v,e1,e2,c,e3,hQ _ _ z⟩
  ·rintro σ H' Q1 Q2 hQ ⟨v,e1,z⟩
   exact ⟨v,e1,hQ _ _ z⟩
  rintro zs H3 ⟨dC,pM,s3⟩
  rw [sM] at dC
  refine q C zs H3 ?_ (s2.trans s3) pM dC
  cases e:H C with
  | none=>rfl
  | some o=>rw [s2 _ _ e] at hC; cases hC
def Z1 (K:PySem.W.Frag):Sp:=fun vs H Q _=>Vn fun (a:Addr) (ws:List Int) (cm:Option Int)=>Ij (vs = [.ref a]) (Bl H a ws cm) (Cm ws cm) ((∀ (tv:List ((List Int × Int) × V)) (H':Hp),A9 H H' -> Dj ws cm tv -> (tv.map (·.1)).Nodup -> Ae tv (ws,0) = none -> Q .aL H')) (∀ (p:Addr) (us:List V) (ps tv:List ((List Int × Int) × V)) (H':Hp),A9 H H' -> H p = none -> H' p = some (.lst us) -> Dj ws cm tv -> (tv.map (·.1)).Nodup -> (Ae tv (ws,0)).isSome = true -> Xh ws cm tv ps -> Ad (K2 tv ws cm H') ps us -> Q (.ref p) H')
theorem mj {fd fT cB pN vQ:FuncData} (T:Txt K mg ad) (F:Fy K "broken_paper" "broken_paper" Tz ad.gG fd) (gW:Aj P w K mg base Bm 7 ad.bT fT ["hall"] (Ow K)) (gX:Az K fT ["hall"] []) (cC:Aj P w K mg base Bm 1 ad.bL cB ["hall"] (Le K)) (cD:Az K cB ["hall"] []) (pO:Aj P w K mg base Bm 6 ad.cQ pN ["hall","table","standing"] (Tm K)) (pP:Az K pN ["hall","table","standing"] []) (yv:Aj P w K mg base Bm 5 ad.gF vQ ["hall","standing","answers"] (Xr K)) (yw:Az K vQ ["hall","standing","answers"] []):Aj P w K mg base Bm 8 ad.gG fd ["hall"] (Z1 K):=by
 refine F.ok Rf (fun vs H Q E h=>?_) (fun aM A outer s H vs Q E hr h=>?_)
 ·rcases h with ⟨a,ws,cm,rfl,ha,aC,q0,q⟩ <;> rfl
 ·obtain ⟨a,ws,cm,rfl,ha,aC,q0,q⟩ := h
  refine ⟨_,(A7 (Ap (i:=1) Rf.nd rfl (Or.inr rfl) (Ag gW (hr.mono (by decide)) rfl T.vv T.jC gX .nil B0 (A0 (pv 0) A6))) (A7 (Cn (Fr (Ec (E8 hr) (Ag cC (hr.mono (by decide)) rfl T.jA T.eS cD .nil B0 (A0 (pv 0) A6)) (pv 1)) rfl) (Ab (Aq D3)) Ax) (A7 (Ap (i:=2) Rf.nd rfl (Or.inl rfl) Fg) (A7 (Ap (i:=3) Rf.nd rfl (Or.inl rfl) (D1 (A0 (Ag cC (hr.mono (by decide)) rfl T.jA T.eS cD .nil B0 (A0 (pv 0) A6)) A6))) (A7 (Ip PassesOwn.never (Kp (pv 3) (by intro _; rfl)) (A7 (Ap (i:=4) Rf.nd rfl (Or.inl rfl) (E4 (u':=Zu K _ _ _) (P9 PySem.F.plainAttrs_list PySem.F.slot_list_pop PySem.F.type_list_pop Ty (pv 3)))) (Ab (Dn (Fr (Ec (E8 hr) (pv 4) (pv 2)) rfl) (A7 (Gw (E8 hr) (pv 2) (pv 4) (Ag pO (hr.mono (by decide)) rfl T.HQ T.lE pP .nil B0 (A0 (pv 0) (A0 (pv 1) (A0 (pv 4) A6)))) rfl) (Ab (Co (E4 (u':=Vb K _ _ _ _) (Fe PySem.F.plainAttrs_list PySem.F.slot_list_extend PySem.F.type_list_extend Gm (pv 3) (A0 (Ag yv (hr.mono (by decide)) rfl T.XE T.tT yw .nil B0 (A0 (pv 0) (A0 (pv 4) (A0 (Fn (E8 hr) (pv 2) (pv 4) (fun _ _=>rfl)) A6)))) A6)))))) Ax)))) (Ab (Aq (B9 (Iy hr) (by rfl) T.fO boot_sorted (A0 (Vk (E6 (Ig (pv 2)) _ rfl Io rfl rfl (fun _ _ _ _=>(Ep K (n:=2) rfl (Bu (Al (i:=0) Em rfl (Or.inl rfl)) (Bu (Al (i:=1) Em rfl (Or.inl rfl)) Ek)))) (fun _ _ _ _=>Cp) (fun _ _ _ _=>(Bz (A0 (pv 0) (A0 (Fn (E8 hr) (pv 2) (pv 0) (fun _ _=>rfl)) (A0 (pv 1) A6))))))) A6))))))))),?_⟩
  obtain ⟨wt,bD,bX⟩ := id ha
  have hq:=aC.qv
  have aN:∀ x ∈ ws,1 <= x:=fun x hx=>(aC.1 x hx).1
  have h8:=aC.2.2.2.1
  have sH:=aC.2.2.1
  refine ⟨_,rfl,a,ws,cm,rfl,ha,(fun w hw=>(aC.1 w hw).1),hq.1,(fun w hw=>Im (by have:=aC.1 w hw; omega) (aC.1 w hw).2),Im (by omega) hq.2,aC.2.2.2.1,(by have:=aC.2.2.2.2; omega),fun TB tv H1 hTB s1 uL mF mE FI=>?_⟩
  have gU:U0 tv:=fun k v hv=>by
   obtain ⟨m,e,_⟩ := mF.1 k v hv
   exact ⟨m,e⟩
  refine ⟨_,rfl,a,ws,cm,rfl,ha.same s1,fun b0 H2 s2 vk=>?_⟩
  have aU:=s1.trans s2
  refine ⟨_,rfl,TB,_,rfl,D4.t (s2 _ _ uL) (show Dt H2 b0 (ws,0) from vk),_,rfl,?_⟩
  refine Ej (fun h=>q0 tv H2 aU mF mE ?_) (fun JO=>?_)
  ·cases e:Ae tv (ws,0) with
   | none=>rfl
   | some v=>rw [e] at h; cases h
  have JP:(Ae tv (ws,0)).isSome = true:=by
   cases e:Ae tv (ws,0) with
   | none=>rw [e] at JO; exact absurd rfl JO
   | some v=>rfl
  have yi:Uf ws cm tv (ws,0):=by
   refine ⟨Iz rfl (fun i hi=>⟨aN _ (by rw [List.getD_eq_getElem?_getD,List.getElem?_eq_getElem hi]; exact List.getElem_mem hi),Int.le_refl _⟩) (Int.le_refl _) (by have:=hq.1; show (0:Int) < qv cm; omega),?_,.base⟩
   obtain ⟨v,hv⟩ := Option.isSome_iff_exists.mp JP
   obtain ⟨m,e⟩ := gU _ v hv
   exact ⟨m,by rw [hv,e]⟩
  refine fun C hC=>?_
  have s3:A9 H2 (upd H2 C (.dT [])):=A9.upd hC
  have e3:(upd H2 C (.dT [])) C = some (.dT []):=A5
  generalize upd H2 C (.dT []) = H3 at s3 e3 ⊢
  refine ⟨_,rfl,a,ws,cm,rfl,(ha.same aU).same s3,fun b1 H4 s4 eU=>?_⟩
  refine ⟨Bo,fun L hL=>?_⟩
  have s5:A9 H4 (upd H4 L (.lst [.ref b1])):=A9.upd hL
  have e5:(upd H4 L (.lst [.ref b1])) L = some (.lst [.ref b1]):=A5
  generalize upd H4 L (.lst [.ref b1]) = H5 at s5 e5 ⊢
  have UA:H2 C = none:=hC
  have kH:H2 L = none:=by
   cases e:H2 L with
   | none=>rfl
   | some o=>rw [s4 _ _ (s3 _ _ e)] at hL; cases hL
  have s25:A9 H2 H5:=(s3.trans s4).trans s5
  obtain ⟨bu,yj,yk⟩ := eU.same s5
  dsimp only
  refine eh ?_
  refine g7 ?_
  refine Id (fun σ' H'=>Uy fun (es:List V) (E:List (List Int × Int)) (cv:List ((List Int × Int) × V)) (v4:Option V)=>Tx (σ' = [some (.ref a),some (.ref TB),some (.ref C),some (.ref L),v4]) (A9 H2 H') (H' L = some (.lst es)) (Ad (E3 H') E es) (H' C = some (.dT cv)) (Q8 ws cm tv cv E) (E.length <= 8 * cv.length + 1) ((∀ kv ∈ cv,∃ t,kv.2 = .ref t /\ H' t = some (.tup ((Gz tv ws kv.1.1 cm kv.1.2).map V.bl)))))
   (fun _ H'=>9 * (301 - Fa (H' C)) + Je (H' L)) ⟨[.ref b1],[(ws,0)],[],none,rfl,s25,e5,Ad.one ⟨b1,bu,rfl,yj,yk⟩,s5 _ _ (s4 _ _ e3),Q8.start yi,by simp,fun kv aG=>by cases aG⟩ ?_ ?_
  ·rintro σ' H' ⟨es,E,cv,v4,rfl,s',mO,mW,gH,eQ,hEl,JV⟩
   have mT:=eQ.len aC
   refine ⟨_,rfl,_,.inl ⟨_,Ba.of mO,rfl⟩,?_⟩
   refine Ej (fun cY=>?_) (fun fP=>?_)
   ·have yl : 0 < es.length := by
     cases es with
     | nil=>exact absurd cY (by decide)
     | cons x xs=>simp
    have VR:=mW.1
    obtain ⟨y,hy⟩ := Oy yl
    refine ⟨_,rfl,.inl ⟨rfl,_,Ba.of mO⟩,L,es,y,rfl,rfl,mO,hy,?_⟩
    obtain ⟨k,JI,b,b2,rfl,ym,yn⟩ := mW.get hy
    have eE:E = E.take (es.length - 1) ++ [k]:=by
     have h1:=List.take_append_drop (es.length - 1) E
     have h2:E.drop (es.length - 1) = [k]:=by
      rw [List.drop_eq_getElem_cons (by omega),(List.getElem?_eq_some_iff.mp JI).2,List.drop_of_length_le (by omega)]
     rw [h2] at h1
     exact h1.symm
    have yo:C ≠ L:=Bp gH mO (by intro z; cases z)
    have t4:Af H' (upd H' L (.lst es.dropLast)):=Af.lst mO
    have uM:(upd H' L (.lst es.dropLast)) L = some (.lst es.dropLast):=A5
    have iL:(upd H' L (.lst es.dropLast)) C = some (.dT cv):=(Ac yo).trans gH
    have pJ:A9 H2 (upd H' L (.lst es.dropLast)):=s'.new kH
    generalize upd H' L (.lst es.dropLast) = H6 at t4 uM iL pJ ⊢
    have vR:(∀ kv ∈ cv,∃ t,kv.2 = .ref t /\ H6 t = some (.tup ((Gz tv ws kv.1.1 cm kv.1.2).map V.bl))):=fun kv aG=>by
     obtain ⟨t,e1,e2⟩ := JV kv aG
     exact ⟨t,e1,t4 _ _ e2⟩
    have fE:D8 H6 b k.1 k.2:=⟨b2,t4 _ _ ym,t4 _ _ yn⟩
    have iB:Ad (E3 H6) (E.take (es.length - 1)) es.dropLast:=by
     rw [List.dropLast_eq_take]
     exact (mW.imp (fun _ _ y=>E3.up t4 y)).take _
    have JQ:(E.take (es.length - 1)).length = E.length - 1:=by rw [List.length_take]; omega
    rw [eE] at eQ
    generalize E.take (es.length - 1) = E0 at eQ iB JQ eE
    have yp:Je (H' L) = es.length:=by rw [mO]; rfl
    have iY:Fa (H' C) = cv.length:=by rw [gH]; rfl
    refine ⟨_,rfl,_,rfl,C,_,rfl,D4.t iL (show Dt H6 b k from fE),_,rfl,(fun JR H7=>Uy fun (es:List V) (E:List (List Int × Int)) (vN:List ((List Int × Int) × V)) (v4:Option V)=>Mm (JR = [some (.ref a),some (.ref TB),some (.ref C),some (.ref L),v4]) (A9 H2 H7) (H7 L = some (.lst es)) (Ad (E3 H7) E es) (H7 C = some (.dT vN)) (Q8 ws cm tv vN E) (E.length <= 8 * vN.length + 1) ((∀ kv ∈ vN,∃ t,kv.2 = .ref t /\ H7 t = some (.tup ((Gz tv ws kv.1.1 cm kv.1.2).map V.bl)))) (9 * (301 - Fa (H7 C)) + Je (H7 L) < 9 * (301 - Fa (H' C)) + Je (H' L))),fun h=>?_,fun h=>?_,?_⟩
    ·have FJ : Ae cv k = none := by
      cases e:Ae cv k with
      | none=>rfl
      | some v=>rw [e] at h; cases h
     have pK:Uf ws cm tv k:=eQ.sf k (by simp)
     have gR:k.1.length = ws.length:=(Ea pK.1).1
     refine ⟨_,rfl,_,rfl,_,rfl,a,TB,b,ws,k.1,cm,k.2,tv,rfl,(ha.same aU).same pJ,fE,pJ _ _ (s2 _ _ uL),gU,gR,h8,fun A H7 s7 eA=>?_⟩
     have yq:=s7 _ _ iL
     have hL7:=s7 _ _ uM
     refine ⟨_,rfl,_,rfl,C,_,rfl,K0.t yq (show Dt H7 b k from fE.same s7) (Bt (by omega)),?_⟩
     have GG:L ≠ C:=fun z=>yo z.symm
     have k8:∀ b o,b ≠ C -> H7 b = some o -> (upd H7 C (.dT (B8 cv k (.ref A)))) b = some o:=fun b o n e=>(Ac n).trans e
     have mP:(upd H7 C (.dT (B8 cv k (.ref A)))) C = some (.dT (B8 cv k (.ref A))):=A5
     generalize upd H7 C (.dT (B8 cv k (.ref A))) = H8 at k8 mP ⊢
     have t8:Af H7 H8:=fun b xs e=>k8 b _ (Bp e yq (by intro z; cases z)) e
     have s8:A9 H2 H8:=fun b o e=>k8 b o (Ah e UA) (s7 _ _ (pJ _ _ e))
     have uN:=k8 _ _ GG hL7
     have pL:D8 H8 b k.1 k.2:=(fE.same s7).up t8
     have ev:Ae (B8 cv k (.ref A)) k = some (.ref A):=by rw [Ez,if_pos rfl]
     refine ⟨_,rfl,.inl ⟨rfl,_,Ba.of uN⟩,_,rfl,_,rfl,_,rfl,_,rfl,C,.ref A,rfl,(by rw [<- ev]; exact D4.t mP (show Dt H8 b k from pL)),a,b,A,ws,cm,k,tv,rfl,(ha.same aU).same s8,pL,t8 _ _ eA,gR,h8,fun l us H9 ZN s9 el9 iV=>?_⟩
     have huf:=i4 mF aC pK
     have JS:=s9 _ _ uN
     have hel6:=iB.1
     have II:=iV.1
     have hfl:((List.range ws.length).filterMap (N6 tv ws cm k)).length <= ws.length:=Nat.le_trans (List.length_filterMap_le _ _) (by rw [List.length_range]; exact Nat.le_refl _)
     refine ⟨L,l,es.dropLast,us,rfl,rfl,JS,el9,Nat.le_of_lt (Bt (by omega)),?_⟩
     have oX:Af H9 (upd H9 L (.lst (es.dropLast ++ us))):=Af.lst JS
     have jJ:(upd H9 L (.lst (es.dropLast ++ us))) C = some (.dT (B8 cv k (.ref A))):=(Ac yo).trans (s9 _ _ mP)
     have jU:(B8 cv k (.ref A)).length = cv.length + 1:=by rw [Cj _ FJ,List.length_append,List.length_singleton]
     have yx:Af H7 (upd H9 L (.lst (es.dropLast ++ us))):=t8.trans ((Af.of s9).trans oX)
     refine ⟨es.dropLast ++ us,E0 ++ (List.range ws.length).filterMap (N6 tv ws cm k),B8 cv k (.ref A),_,rfl,(s8.trans s9).new kH,A5,((iB.imp fun _ _ y=>E3.up ((Af.of s7).trans yx) y).append (iV.imp fun _ _ y=>E3.up oX y)),jJ,eQ.put FJ huf,?_,(fun kv aG=>?_),?_⟩
     ·rw [List.length_append,jU,JQ]
      omega
     ·rw [Cj _ FJ] at aG
      rcases List.mem_append.mp aG with z | z
      ·obtain ⟨t,e1,e2⟩ := vR kv z
       exact ⟨t,e1,yx _ _ (s7 _ _ e2)⟩
      ·rw [List.mem_singleton.mp z]
       exact ⟨A,rfl,yx _ _ eA⟩
     ·have m1:Je ((upd H9 L (.lst (es.dropLast ++ us))) L) = (es.dropLast ++ us).length:=by rw [A5]; rfl
      have m2:Fa ((upd H9 L (.lst (es.dropLast ++ us))) C) = cv.length + 1:=by rw [jJ]; exact jU
      rw [m1,m2,yp,iY,List.length_append,List.length_dropLast]
      omega
    ·have jN : k ∈ cv.map (·.1) := by
      cases e:Ae cv k with
      | none=>rw [e] at h; cases h
      | some v=>exact Vl e
     refine ⟨es.dropLast,E0,cv,_,rfl,pJ,uM,iB,iL,eQ.skip jN,by omega,vR,?_⟩
     have m1:Je (H6 L) = es.dropLast.length:=by rw [uM]; rfl
     have m2:Fa (H6 C) = cv.length:=by rw [iL]; rfl
     rw [m1,m2,yp,iY,List.length_dropLast]
     omega
    ·rintro JR H7 ⟨es7,E7,cv7,v47,rfl,a1,a2,a3,a4,a5,a6,a7,a8⟩
     exact ⟨⟨es7,E7,cv7,v47,rfl,a1,a2,a3,a4,a5,a6,a7⟩,a8⟩
   ·have yr : es = [] := by
     cases es with
     | nil=>rfl
     | cons x xs=>exact absurd rfl fP
    have hE1:E = []:=by
     have h1:=mW.1
     rw [yr] at h1
     exact List.length_eq_zero_iff.mp h1.symm
    subst hE1
    refine ⟨C,.dT cv,trivial,gH,_,rfl,C,.dT cv,rfl,trivial,gH,fun o=>?_⟩
    have bF:∀ b ob,b ≠ C -> H' b = some ob -> (upd H' C (.aP o (.dT cv))) b = some ob:=fun b ob n e=>(Ac n).trans e
    have dF:(upd H' C (.aP o (.dT cv))) C = some (.aP o (.dT cv)):=A5
    have fF:∀ b,(upd H' C (.aP o (.dT cv))) b = none -> H' b = none:=fun b hb=>by
     by_cases z:b = C
     ·rw [z,dF] at hb; cases hb
     ·rw [Ac z] at hb; exact hb
    generalize upd H' C (.aP o (.dT cv)) = HF at bF dF fF ⊢
    have tF:Af H' HF:=fun b xs e=>bF b _ (Bp e gH (by intro z; cases z)) e
    have hTBC:TB ≠ C:=Ah (s2 _ _ uL) UA
    have hTBF:HF TB = some (.dT tv):=bF _ _ hTBC (s' _ _ (s2 _ _ uL))
    refine fun R hR=>?_
    refine Kn (K:=K) (d:=C) (o:=o) (u := .dT cv) (fun i zs H5=>Ad (K2 tv ws cm H5) (cv.take i) zs /\ zs.Nodup /\ H5 R = some (.lst zs) /\ A9 HF H5) ⟨Ad.nil,List.nodup_nil,A5,A9.upd hR⟩ (by rintro i zs H5 _ ⟨_,_,_,s⟩; exact s _ _ dF) ?_ ?_ ?_ ?_
    ·rintro i x y T2 zs H5 hi hit ⟨dC,hzn,hR5,s5'⟩ IQ
     have YB:i < cv.length:=hi
     obtain ⟨kk,bb,aG,rfl,mV⟩ := hit
     obtain ⟨t,et,ht⟩ := JV _ (List.mem_of_getElem? aG)
     have ey:y = .ref t:=et
     subst ey
     obtain ⟨⟨jN,⟨m,hm⟩,_⟩,_⟩ := eQ.ent _ (List.mem_of_getElem? aG)
     have lM:=dC.1
     rw [List.length_take] at lM
     have s6:A9 H5 (upd H5 T2 (.tup [.ref bb,.ref t])):=A9.upd IQ
     have e6:(upd H5 T2 (.tup [.ref bb,.ref t])) T2 = some (.tup [.ref bb,.ref t]):=A5
     generalize upd H5 T2 (.tup [.ref bb,.ref t]) = H6 at s6 e6 ⊢
     have FK:=s5'.trans s6
     have JW:=s6 _ _ hR5
     simp only [L6,↓reduceIte]
     refine ⟨_,rfl,_,rfl,_,rfl,TB,.int m,rfl,(by rw [<- hm]; exact D4.t (FK _ _ hTBF) (show Dt H6 bb kk from mV.up (Af.of s6))),_,rfl,Bo,fun p hp=>?_⟩
     have s7:A9 H6 (upd H6 p (.tup [.ref bb,.int m,.ref t])):=A9.upd hp
     have e7:(upd H6 p (.tup [.ref bb,.int m,.ref t])) p = some (.tup [.ref bb,.int m,.ref t]):=A5
     generalize upd H6 p (.tup [.ref bb,.int m,.ref t]) = H7 at s7 e7 ⊢
     have UB:=s7 _ _ JW
     have tt:Af H7 (upd H7 R (.lst (zs ++ [.ref p]))):=Af.lst UB
     refine ⟨UB,Bt (by omega),?_,?_,A5,(FK.trans s7).new hR⟩
     ·rw [List.take_add_one,aG]
      exact (dC.imp fun _ _ y=>K2.up (((Af.of s6).trans (Af.of s7)).trans tt) y).append (Ad.one ⟨p,bb,t,m,rfl,tt _ _ e7,((mV.up (Af.of s6)).up (Af.of s7)).up tt,hm,rfl,tt _ _ (s7 _ _ (FK _ _ (tF _ _ ht)))⟩)
     ·refine List.nodup_append.mpr ⟨hzn,by simp,fun u hu v hv z=>?_⟩
      cases List.mem_singleton.mp hv
      subst z
      obtain ⟨i',rX⟩ := List.mem_iff_getElem?.mp hu
      obtain ⟨_,_,p',_,_,_,e1,e2,_⟩ := dC.get rX
      cases e1
      rw [s6 _ _ e2] at hp
      cases hp
    ·rintro σ H1 Q1 Q2 hQ z
     exact hQ _ _ z
    ·rintro σ H1 Q1 Q2 hQ ⟨v,e1,v2,e2,v3,e3,a',w',e4,g,v5,e5,l,f⟩
     exact ⟨v,e1,v2,e2,v3,e3,a',w',e4,g,v5,e5,l,fun p hp=>hQ _ _ (f p hp)⟩
    rintro zs HG ⟨dC,hzn,JF,sG⟩
    rw [show cv.take (Cd (.dT cv)) = cv from List.take_length] at dC
    have uJ:=sG _ _ dF
    refine ⟨o,uJ,?_⟩
    have hRC:R ≠ C:=Bp JF uJ (by intro z; cases z)
    have jI:A9 H' (upd HG C (.dT cv)):=fun b ob e=>by
     by_cases z:b = C
     ·subst z
      rw [gH] at e
      cases e
      exact A5
     ·exact (Ac z).trans (sG _ _ (bF b ob z e))
    have tG:Af HG (upd HG C (.dT cv)):=fun b xs e=>by rw [Ac (Bp e uJ (by intro z; cases z))]; exact e
    have mM:Ad (K2 tv ws cm (upd HG C (.dT cv))) cv zs:=dC.imp fun _ _ y=>K2.up tG y
    have kG:(upd HG C (.dT cv)) R = some (.lst zs):=(Ac hRC).trans JF
    generalize upd HG C (.dT cv) = HI at jI mM kG ⊢
    have lM:=mM.1
    let kO:V -> (List Int × Int) × V:=fun u=>cv.getD (zs.idxOf u) (([],0),.aL)
    have kAt:∀ (i:Nat) (u:V),zs[i]? = some u -> cv[i]? = some (kO u):=fun i u hu=>by
     obtain ⟨h1,e1⟩ := List.getElem?_eq_some_iff.mp hu
     have e2:zs.idxOf u = i:=by rw [<- e1]; exact List.Nodup.idxOf_getElem hzn i h1
     show _ = some (cv.getD (zs.idxOf u) _)
     rw [e2,List.getD_eq_getElem?_getD,List.getElem?_eq_getElem (by omega)]
     rfl
    have pQ:∀ u ∈ zs,kO u ∈ cv /\ K2 tv ws cm HI (kO u) u:=fun u hu=>by
     obtain ⟨i,hi⟩ := List.mem_iff_getElem?.mp hu
     have h1:=kAt i u hi
     exact ⟨List.mem_of_getElem? h1,mM.2 i _ _ h1 hi⟩
    have kMap:zs.map kO = cv:=by
     apply List.ext_getElem?
     intro i
     rw [List.getElem?_map]
     cases hi:zs[i]? with
     | none =>
      have:=List.getElem?_eq_none_iff.mp hi
      rw [List.getElem?_eq_none (by omega)]
      rfl
     | some u=>rw [kAt i u hi]; rfl
    refine ⟨R,zs,false,(fun u=>Jl tv ws cm (kO u)),(fun u=>(Ao ws (qv cm)).idxOf (kO u).1),rfl,Ba.of kG,by omega,⟨fun u hu=>⟨(pQ u hu).2.rp,⟨dS (kO u).1,_,rfl,by rw [if_neg (by decide)]; exact ⟨_,rfl⟩⟩,S8 _ _ _ _⟩,fun u hu v hv=>Wn (pQ u hu).2.rp (eQ.ent _ (pQ u hu).1).1.1 (eQ.ent _ (pQ v hv).1).1.1⟩,fun p cF hp bH gL=>?_⟩
    have sP:A9 HI (upd HI p (.lst cF)):=A9.upd hp
    have hpH:H p = none:=by
     cases e:H p with
     | none=>rfl
     | some o=>rw [jI _ _ (s' _ _ (aU _ _ e))] at hp; cases hp
    have hcp:(cF.map kO).Perm cv:=by
     have:=bH.map kO
     rw [kMap] at this
     exact this
    refine q p cF (cF.map kO) tv _ (((aU.trans s').trans jI).trans sP) hpH A5 mF mE JP (Xb eQ hcp (by rw [List.pairwise_map]; exact gL)) ⟨by rw [List.length_map],fun i r v e1 e2=>?_⟩
    rw [List.getElem?_map,e2] at e1
    cases e1
    exact K2.up (Af.of sP) (pQ v (bH.mem_iff.mp (List.mem_of_getElem? e2))).2
  ·intro σ H0 Q1 Q2 z h1
   obtain ⟨_,e,k,t,h2⟩ := h1
   exact ⟨_,e,k,t,z _ _ h2⟩
def Q0 (K:PySem.W.Frag):Sp:=fun vs H Q _=>Vn fun (a:Addr) (ns:List Int) (k:Int)=>L3 (vs = [.ref a,.int k]) (Ba K H a (ns.map V.int)) (0 <= k) (Q (.int (Dz ns k)) H)
theorem ji {fd  : FuncData} (T:Txt K mg ad) (F:Fy K "_law_cell" "_law_cell" N5 ad.bV fd):Aj P w K mg base Bm 1 ad.bV fd ["script","k"] (Q0 K):=by
 refine F.ok g9 (fun vs H Q E h=>?_) (fun aM A outer s H vs Q E hr h=>?_)
 ·rcases h with ⟨a,ns,k,rfl,hS,hk,q⟩ <;> rfl
 ·obtain ⟨a,ns,k,rfl,hS,hk,q⟩ := h
  refine ⟨_,(A7 (Cn (Bc Rq (pv 1) (B9 (Cz K) (by rfl) T.bW PySem.boot_len (A0 (pv 0) A6)) (Be _)) (Ab (Aq (Bg (Bf K) (pv 0) (pv 1) (fun _ _=>rfl)))) Ax) (Ab (Aq Aa))),?_⟩
  refine ⟨_,rfl,_,rfl,a,_,rfl,.inl hS,_,_,rfl,rfl,_,rfl,?_⟩
  refine Ej (fun aI=>?_) (fun aI=>?_)
  ·have yy:k < ns.length:=by simpa using aI
   exact ⟨_,rfl,_,rfl,a,_,_,_,rfl,rfl,.inl hS,bv hk yy,q⟩
  ·have yy:¬ k < ns.length:=by simpa using aI
   rw [W8 hk yy] at q
   exact q
def Su (K:PySem.W.Frag):Sp:=fun vs H Q _=>Yx fun (c:Addr) (xs:List Int)=>L3 (vs = [.ref c]) (H c = some (.lst (xs.map V.int))) (xs.length = 7) (∀ (p:Addr) (ws:List Int) (cm:Option Int) (H':Hp),A9 H H' -> Bl H' p ws cm -> Cm ws cm -> Q (.ref p) H')
theorem ff {fd  : FuncData} (T:Txt K mg ad) (F:Fy K "_law_wide" "_law_wide" Ny ad.cR fd):Aj P w K mg base Bm 1 ad.cR fd ["cells"] (Su K):=by
 refine F.ok Li (fun vs H Q E h=>?_) (fun aM A outer s H vs Q E hr h=>?_)
 ·rcases h with ⟨c,xs,rfl,hc,hx7,q⟩ <;> rfl
 ·obtain ⟨c,xs,rfl,hc,hx7,q⟩ := h
  refine ⟨_,(A7 (Ap (i:=1) Li.nd rfl (Or.inl rfl) Aa) (A7 (Ap (i:=2) Li.nd rfl (Or.inl rfl) (D1 A6)) (A7 (Ck PassesOwn.never rfl (Dk (w':=Nq K _) (Df (Iu (Hx K) (pv 0) Kg (K6 (B6 D2 Aa (B6 Cb (Bg (Bf K) (pv 0) Aa (fun _ _=>rfl)) Aa)))))) (Al (i:=3) Li.nd rfl (Or.inl rfl)) (A7 (Co (E4 (u':=Vb K _ _ _ _) (Fe PySem.F.plainAttrs_list PySem.F.slot_list_append PySem.F.type_list_append Cy (pv 2) (A0 (B6 D2 Aa (B6 Cb (pv 3) (B9 (W3 rfl) (by rfl) T.vy boot_min (A0 (pv 1) (A0 Aa A6))))) A6)))) (Ab (Ap (i:=1) Li.nd rfl (Or.inl rfl) (B6 Fl (pv 1) (Bg (Bf K) (pv 2) (l0 gh Aa) (fun _ _=>rfl))))))) (A7 (Cn (PW.pt (fh (Bc Rq (pv 1) Aa (Be _)) (P2 (Bc Gf (B6 Cb (B6 Fl (Bg (Bf K) (pv 0) Aa (fun _ _=>rfl)) Aa) Aa) Aa (Be _))))) (Ab (Aq (Bz (A0 (C8 (Cw K) (by rfl) T.aW boot_tuple (A0 (pv 2) A6)) (A0 D3 A6))))) Ax) (Ab (Aq (Bz (A0 (C8 (Cw K) (by rfl) T.aW boot_tuple (A0 (pv 2) A6)) (A0 (B6 D2 Aa (B6 Cb (B6 Fl (Bg (Bf K) (pv 0) Aa (fun _ _=>rfl)) Aa) (B6 Hu (pv 1) Aa))) A6))))))))),?_⟩
  refine ⟨Bo,fun W hW=>?_⟩
  have s1:A9 H (upd H W (.lst [])):=A9.upd hW
  have e1:(upd H W (.lst [])) W = some (.lst []):=A5
  generalize upd H W (.lst []) = H1 at s1 e1 ⊢
  have hc1:=s1 _ _ hc
  have JX:=Hh (xs:=xs) (k:=6) (i:=6) (by omega) rfl
  have hm3:=Bh (xs.getD 6 0) (show (0:Int) < 3 by decide)
  refine ⟨_,rfl,_,rfl,c,_,_,_,rfl,rfl,.inl (Ba.of hc1),JX,_,_,rfl,rfl,(by first | (show (0:Int) < _; decide) | simp),_,_,rfl,rfl,_,rfl,c,_,rfl,Ba.of hc1,fun sl UC=>?_⟩
  rw [Ke (by omega) (by rw [List.length_map]; omega),<- List.map_take]
  have FI:(xs.take (2 + xs.getD 6 0 % 3).toNat).length = (2 + xs.getD 6 0 % 3).toNat:=by
   rw [List.length_take]
   omega
  generalize xs.take (2 + xs.getD 6 0 % 3).toNat = ys at FI ⊢
  have s2:A9 H1 (upd H1 sl (.lst (ys.map V.int))):=A9.upd UC
  have e2:(upd H1 sl (.lst (ys.map V.int))) sl = some (.lst (ys.map V.int)):=A5
  generalize upd H1 sl (.lst (ys.map V.int)) = H2 at s2 e2 ⊢
  have hWs:W ≠ sl:=Ah e1 UC
  have aU:=s1.trans s2
  refine ⟨sl,rfl,.inl ⟨⟨_,Ba.of e2⟩,?_⟩⟩
  refine Cq (K:=K) (a:=sl) (xs:=ys.map V.int) (fun i σ H'=>Vn fun (ws:List Int) (room:Int) (v3:Option V)=>Tx (σ = [some (.ref c),some (.int room),some (.ref W),v3]) (ws.length = i) ((∀ w ∈ ws,1 <= w /\ w <= 40)) (1 <= room) (Ak 1 ws * room <= 150) (H' W = some (.lst (ws.map V.int))) (H' sl = some (.lst (ys.map V.int))) (A9 H H'))
   ⟨[],150,none,rfl,rfl,(fun w hw=>by cases hw),by decide,by decide,s2 _ _ e1,e2,aU⟩ (by rintro i σ H' _ ⟨_,_,_,_,_,_,_,_,_,e,_⟩; exact Ba.of e) ?_ ?_
  ·rintro i y σ H3 hy ⟨ws,room,v3,rfl,fW,aN,hro,UD,tY,JY,s3⟩
   have hi:=(List.getElem?_eq_some_iff.mp hy).1
   rw [List.length_map] at hi
   rw [List.getElem?_map] at hy
   obtain ⟨x,hx,rfl⟩ := Option.map_eq_some_iff.mp hy
   have WQ:(0:Int) < (if 40 < room then 40 else room) /\ (if (40:Int) < room then (40:Int) else room) <= 40 /\ (if (40:Int) < room then (40:Int) else room) <= room:=by split <;> omega
   have hxm:=Bh x WQ.1
   refine ⟨_,rfl,.inl ⟨rfl,_,Ba.of tY⟩,_,rfl,_,rfl,_,_,rfl,_,_,rfl,rfl,WQ.1,_,_,rfl,rfl,W,_,_,rfl,rfl,tY,B7 (by rw [List.length_map]; omega),?_⟩
   have hw:1 <= 1 + x % (if (40:Int) < room then (40:Int) else room) /\ 1 + x % (if (40:Int) < room then (40:Int) else room) <= 40 /\ 1 + x % (if (40:Int) < room then (40:Int) else room) <= room:=by omega
   generalize hwd:1 + x % (if (40:Int) < room then (40:Int) else room) = w at hw
   have h4:(upd H3 W (.lst (ws.map V.int ++ [V.int (1 + x % (if (40:Int) < room then (40:Int) else room))]))) W = some (.lst (ws.map V.int ++ [V.int w])):=by rw [A5,hwd]
   have hq:1 <= room / w:=by
    rw [Int.le_ediv_iff_mul_le (by omega)]
    omega
   refine ⟨_,rfl,_,rfl,_,rfl,W,_,_,_,rfl,rfl,.inl (Ba.of h4),Xo _ _,_,_,rfl,rfl,⟨by omega,by omega⟩,?_⟩
   refine ⟨ws ++ [w],room / w,_,rfl,Fc fW,?_,hq,?_,by rw [h4,Ge],(Ac hWs.symm).trans JY,s3.new hW⟩
   ·intro z hz
    rcases List.mem_append.mp hz with y | y
    ·exact aN z y
    ·cases List.mem_singleton.mp y
     exact ⟨hw.1,hw.2.1⟩
   ·rw [Vs]
    have xB:0 <= Ak 1 ws:=Int.le_trans (by decide) (E9 ws 1 (by decide) fun w hw=>(aN w hw).1)
    have h5:w * (room / w) <= room:=Int.mul_ediv_self_le (by omega)
    have h6:Ak 1 ws * (w * (room / w)) <= Ak 1 ws * room:=Int.mul_le_mul_of_nonneg_left h5 xB
    rw [Int.mul_assoc]
    omega
  rintro σ H3 ⟨ws,room,v3,rfl,fW,aN,hro,UD,tY,JY,s3⟩
  rw [List.length_map] at fW
  have vG:=s3 _ _ hc
  have xS:1 <= Ak 1 ws:=E9 ws 1 (by decide) fun w hw=>(aN w hw).1
  have hpb:Ak 1 ws <= 150:=by
   have:Ak 1 ws * 1 <= Ak 1 ws * room:=Int.mul_le_mul_of_nonneg_left hro (by omega)
   omega
  have EY:∀ w ∈ ws,1 <= w /\ w <= 3000:=fun w hw=>by have:=aN w hw; omega
  refine ⟨_,rfl,_,_,rfl,rfl,_,rfl,_,fun _ Q' z=>⟨_,rfl,c,_,_,_,rfl,rfl,.inl (Ba.of vG),JX,_,_,rfl,rfl,⟨by decide,by decide⟩,_,_,rfl,rfl,(by first | (show (0:Int) < _; decide) | simp),rfl,_,rfl,z⟩,?_⟩
  refine Ej (fun h0=>?_) (fun h0=>?_)
  ·refine ⟨_,rfl,W,_,rfl,.inl ⟨Ba.of tY,fun t ht=>?_⟩⟩
   have s4:A9 H3 (upd H3 t (.tup (ws.map V.int))):=A9.upd ht
   have e4:(upd H3 t (.tup (ws.map V.int))) t = some (.tup (ws.map V.int)):=A5
   generalize upd H3 t (.tup (ws.map V.int)) = H4 at s4 e4 ⊢
   refine ⟨Bo,fun p hp=>?_⟩
   exact q p ws none _ ((s3.trans s4).trans (A9.upd hp)) ⟨t,A5,(A9.upd hp) _ _ e4⟩ ⟨EY,(fun c z=>nomatch z),by omega,by omega,by show Ak 1 ws <= 300; omega⟩
  have hr2:2 <= room:=by
   have:¬ (room < 2):=fun z=>by
    apply h0
    rw [decide_eq_true z]
    rfl
   omega
  refine ⟨_,rfl,W,_,rfl,.inl ⟨Ba.of tY,fun t ht=>?_⟩⟩
  have s4:A9 H3 (upd H3 t (.tup (ws.map V.int))):=A9.upd ht
  have e4:(upd H3 t (.tup (ws.map V.int))) t = some (.tup (ws.map V.int)):=A5
  generalize upd H3 t (.tup (ws.map V.int)) = H4 at s4 e4 ⊢
  have hrm:(0:Int) < room - 1:=by omega
  have mB:=Bh (xs.getD 6 0 / 6) hrm
  refine ⟨_,rfl,c,_,_,_,rfl,rfl,.inl (Ba.of (s4 _ _ vG)),JX,_,_,rfl,rfl,⟨by decide,by decide⟩,_,rfl,_,_,rfl,rfl,_,_,rfl,rfl,hrm,_,_,rfl,rfl,Bo,fun p hp=>?_⟩
  have hr150:room <= 150:=by
   have:1 * room <= Ak 1 ws * room:=Int.mul_le_mul_of_nonneg_right xS (by omega)
   omega
  refine q p ws (some (1 + xs.getD 6 0 / 6 % (room - 1))) _ ((s3.trans s4).trans (A9.upd hp)) ⟨t,A5,(A9.upd hp) _ _ e4⟩ ⟨EY,(fun c z=>by cases z; omega),by omega,by omega,?_⟩
  show Ak (1 + xs.getD 6 0 / 6 % (room - 1) + 1) ws <= 300
  have e:Ak (1 + xs.getD 6 0 / 6 % (room - 1) + 1) ws = (1 + xs.getD 6 0 / 6 % (room - 1) + 1) * Ak 1 ws:=by
   rw [<- J2,Int.mul_one]
  rw [e,Int.mul_comm]
  have h7:Ak 1 ws * (1 + xs.getD 6 0 / 6 % (room - 1) + 1) <= Ak 1 ws * room:=Int.mul_le_mul_of_nonneg_left (by omega) (by omega)
  omega
def Sh (K:PySem.W.Frag):Sp:=fun vs H Q _=>Yx fun (a:Addr) (ns:List Int)=>Sk (vs = [.ref a]) (Ba K H a (ns.map V.int)) (∀ (p:Addr) (ws:List Int) (cm:Option Int) (H':Hp),A9 H H' -> Bl H' p ws cm -> Cm ws cm -> Q (.ref p) H')
theorem ii {fd fU pR:FuncData} (T:Txt K mg ad) (F:Fy K "_law_hall" "_law_hall" He ad.cS fd) (eY:Aj P w K mg base Bm 1 ad.bV fU ["script","k"] (Q0 K)) (eZ:Az K fU ["script","k"] []) (pS:Aj P w K mg base Bm 1 ad.cR pR ["cells"] (Su K)) (pT:Az K pR ["cells"] []):Aj P w K mg base Bm 2 ad.cS fd ["script"] (Sh K):=by
 refine F.ok Dm (fun vs H Q E h=>?_) (fun aM A outer s H vs Q E hr h=>?_)
 ·rcases h with ⟨a,ns,rfl,hS,q⟩ <;> rfl
 ·obtain ⟨a,ns,rfl,hS,q⟩ := h
  refine ⟨_,(A7 (Ap (i:=1) Dm.nd rfl (Or.inl rfl) (B6 Cb (Ag eY (hr.mono (by decide)) rfl T.lF T.fN eZ .nil B0 (A0 (pv 0) (A0 Aa A6))) Aa)) (A7 (Ap (i:=2) Dm.nd rfl (Or.inl rfl) (Ag eY (hr.mono (by decide)) rfl T.lF T.fN eZ .nil B0 (A0 (pv 0) (A0 Aa A6)))) (A7 (D6 (i:=3) Dm.nd rfl (Db (by rfl) T.aX (A0 Aa A6)) _ rfl Mt rfl rfl (fun _ _ _ _=>(Al (i:=0) N0 rfl (Or.inl rfl))) (fun _ _ _ _=>Cp) (fun _ _ _ _=>(Ag eY (hr.mono (by decide)) rfl T.lF T.fN eZ .nil B0 (A0 (pv 1) (A0 (B6 D2 Aa (pv 0)) A6)))) rfl rfl) (A7 (Cn (PW.pt (K7 (Bc R7 (pv 1) Aa (Be _)) (Ka (Bc Rq (pv 1) Aa (Be _))))) (Ab (Aq (Ag pS (hr.mono (by decide)) rfl T.HR T.lG pT .nil B0 (A0 (pv 3) A6)))) Ax) (A7 (D6 (i:=4) Dm.nd rfl (Dk (w':=Nq K _) (Df (Iu (Hx K) (pv 3) Kg (K6 Aa)))) _ rfl Ml rfl rfl (fun _ _ _ _=>(Al (i:=0) Mn rfl (Or.inl rfl))) (fun _ _ _ _=>Cp) (fun _ _ _ _=>(B6 D2 Aa (B9 (F8 rfl) (by rfl) T.gO boot_max (A0 (B6 Cb (pv 0) Aa) (A0 (B6 Cb (B6 Fl (pv 0) Aa) Aa) A6))))) rfl rfl) (A7 (Ap (i:=5) Dm.nd rfl (Or.inl rfl) Aa) (A7 (Dn (Bc R7 (pv 1) Aa (Be _)) (A7 (D6 (i:=4) Dm.nd rfl (Dk (w':=Nq K _) (Df (Iu (Hx K) (pv 3) Kg (K6 Aa)))) _ rfl Mr rfl rfl (fun _ _ _ _=>(Al (i:=0) Mk rfl (Or.inl rfl))) (fun _ _ _ _=>Cp) (fun _ _ _ _=>(B6 D2 Aa (B9 (F8 rfl) (by rfl) T.gO boot_max (A0 (B6 Cb (pv 0) Aa) (A0 (B6 Cb (B6 Fl (pv 0) Aa) Aa) A6))))) rfl rfl) (Ab (Ap (i:=5) Dm.nd rfl (Or.inl rfl) Aa))) Ax) (A7 (Dn (Bc R7 (pv 1) Aa (Be _)) (A7 (Ap (i:=4) Dm.nd rfl (Or.inl rfl) (D1 (A0 (B6 D2 Aa (B6 Cb (Bg (Bf K) (pv 3) Aa (fun _ _=>rfl)) Aa)) A6))) (Ab (Ap (i:=5) Dm.nd rfl (Or.inl rfl) Aa))) Ax) (A7 (Cn (Bc Gf (pv 1) Aa (Be _)) (Ab (Aq (Bz (A0 (Bz (A0 Aa A6)) (A0 (B6 D2 Aa (B6 Cb (pv 2) Aa)) A6))))) Ax) (A7 (Cn (Bc Gf (pv 1) Aa (Be _)) (Ab (Aq (Bz (A0 (C8 (Cw K) (by rfl) T.aW boot_tuple (A0 (E6 (Dk (w':=Nq K _) (Df (Iu (Hx K) (pv 3) Kg (K6 Aa)))) _ rfl Mp rfl rfl (fun _ _ _ _=>(Al (i:=0) Mv rfl (Or.inl rfl))) (fun _ _ _ _=>Cp) (fun _ _ _ _=>(B6 Hu Aa (B9 (F8 rfl) (by rfl) T.gO boot_max (A0 Aa (A0 (B6 Hu (B6 Cb (pv 0) Aa) Aa) A6)))))) A6)) (A0 D3 A6))))) Ax) (A7 (Dn (Bc R7 (pv 1) Aa (Be _)) (A7 (Ap (i:=4) Dm.nd rfl (Or.inl rfl) (B6 jh (D1 (A0 Aa A6)) (B6 D2 Aa (B6 Cb (Bg (Bf K) (pv 3) Aa (fun _ _=>rfl)) Aa)))) (A7 (Ck PassesOwn.never rfl (Db (by rfl) T.aX (A0 Aa A6)) (Al (i:=6) Dm.nd rfl (Or.inl rfl)) (Ab (U3 (B6 D2 Aa (B6 Cb (Bg (Bf K) (pv 3) (B6 D2 Aa (pv 6)) (fun _ _=>rfl)) Aa)) (Yl (pv 4) (B6 Cb (Bg (Bf K) (pv 3) (pv 6) (fun _ _=>rfl)) (B9 (Cz K) (by rfl) T.bW PySem.boot_len (A0 (pv 4) A6))) Rz)))) (Ab (Ap (i:=5) Dm.nd rfl (Or.inl rfl) Aa)))) Ax) (A7 (Cn (Bc Gf (B6 Cb (pv 2) Aa) Aa (Be _)) (Ab (Aq (Bz (A0 (C8 (Cw K) (by rfl) T.aW boot_tuple (A0 (pv 4) A6)) (A0 D3 A6))))) Ax) (Ab (Aq (Bz (A0 (C8 (Cw K) (by rfl) T.aW boot_tuple (A0 (pv 4) A6)) (A0 (B6 D2 Aa (B6 Cb (B6 Fl (pv 2) Aa) (pv 5))) A6))))))))))))))))),?_⟩
  refine ⟨_,rfl,a,ns,0,rfl,hS,by decide,_,_,rfl,rfl,(by first | (show (0:Int) < _; decide) | simp),?_⟩
  refine ⟨_,rfl,a,ns,1,rfl,hS,by decide,?_⟩
  refine ⟨7,rfl,by decide,by decide,fun C hC=>?_⟩
  refine Dp (fun i ys H'=>∃ (xs:List Int),L3 (ys = xs.map V.int) (xs.length = i) (H' C = some (.lst ys)) (A9 H H')) ⟨[],rfl,rfl,A5,A9.upd hC⟩ ?_ ?_
  ·rintro i ys H' hi ⟨xs,rfl,hxl,gH,s'⟩ Qe hQ
   have hi7:i < 7:=hi
   refine ⟨_,rfl,_,rfl,_,_,rfl,rfl,a,ns,_,rfl,s'.seq hS,by omega,?_⟩
   exact hQ _ _ gH (B7 (by rw [List.length_map]; omega)) ⟨xs ++ [_],Ge _ _,Fc hxl,A5,s'.new hC⟩
  rintro ys H1 ⟨xs,rfl,hx7',eC,s1⟩
  have hx7:xs.length = 7:=hx7'
  refine ⟨_,rfl,_,_,rfl,rfl,_,rfl,_,fun _ Q' z=>⟨_,rfl,_,_,rfl,rfl,_,rfl,z⟩,?_⟩
  refine Ej (fun _=>?_) (fun _=>?_)
  ·exact ⟨_,rfl,C,xs,rfl,eC,hx7,fun p ws cm H2 s2 h1 h2=>q p ws cm H2 (s1.trans s2) h1 h2⟩
  refine ⟨_,rfl,_,rfl,C,_,rfl,Ba.of eC,fun sa hsa=>?_⟩
  rw [Ke (by decide) (by rw [List.length_map]; omega),<- List.map_take]
  have vS:(xs.take (2:Int).toNat).length = 2:=by
   rw [List.length_take]
   omega
  generalize xs.take (2:Int).toNat = pU at vS ⊢
  have sA:A9 H1 (upd H1 sa (.lst (pU.map V.int))):=A9.upd hsa
  have esa:(upd H1 sa (.lst (pU.map V.int))) sa = some (.lst (pU.map V.int)):=A5
  generalize upd H1 sa (.lst (pU.map V.int)) = H2 at sA esa ⊢
  refine ⟨sa,rfl,.inl ⟨⟨_,Ba.of esa⟩,fun Wa hWa=>?_⟩⟩
  refine Gx (K:=K) (a:=sa) (xs:=pU.map V.int) (fun i zs H'=>∃ (ws:List Int),Ij (zs = ws.map V.int) (ws.length = i) ((∀ w ∈ ws,1 <= w /\ w <= 6)) (H' Wa = some (.lst zs)) (A9 H2 H')) ⟨[],rfl,rfl,(fun w hw=>by cases hw),A5,A9.upd hWa⟩ (by rintro i zs H' _ ⟨_,_,_,_,_,s⟩; exact Ba.of (s _ _ esa)) ?_ ?_
  ·rintro i y zs H' hy ⟨ws,rfl,fW,aN,lN,s'⟩ Qe hQ
   have hi:=(List.getElem?_eq_some_iff.mp hy).1
   rw [List.length_map] at hi
   rw [List.getElem?_map] at hy
   obtain ⟨x,hx,rfl⟩ := Option.map_eq_some_iff.mp hy
   refine ⟨_,rfl,_,_,rfl,rfl,(by first | (show (0:Int) < _; decide) | simp),_,rfl,_,_,rfl,rfl,⟨by decide,by decide⟩,_,_,rfl,rfl,(by first | (show (0:Int) < _; decide) | simp),_,_,rfl,_,_,rfl,rfl,?_⟩
   have mX:=Bh x (show (0:Int) < 6 by decide)
   have ZK:=Bh (x / 6) (show (0:Int) < 6 by decide)
   refine hQ _ _ lN (B7 (by rw [List.length_map]; omega)) ⟨ws ++ [_],Ge _ _,Fc fW,?_,A5,s'.new hWa⟩
   intro w hw
   rcases List.mem_append.mp hw with z | z
   ·exact aN w z
   ·rw [List.mem_singleton.mp z]
    show 1 <= 1 + (if x / 6 % 6 > x % 6 then x / 6 % 6 else x % 6) /\ 1 + (if x / 6 % 6 > x % 6 then x / 6 % 6 else x % 6) <= 6
    split <;> omega
  rintro zs H3 ⟨wsWa,rfl,vT,JZ,eWa,s13'⟩
  rw [List.length_map,vS] at vT
  have uG:=sA.trans s13'
  have eC3:=uG _ _ eC
  refine ⟨_,rfl,_,_,rfl,rfl,_,rfl,(fun σ' H'=>Uy fun (W:Addr) (ws:List Int) (most:Int) (v6:Option V)=>L3 (σ' = [some (.ref a),some (.int (Dz ns 0 % 24)),some (.int (Dz ns 1)),some (.ref C),some (.ref W),some (.int most),v6]) (H' W = some (.lst (ws.map V.int))) (Zi ws most) (A9 H3 H')),fun _=>?_,fun _=>⟨Wa,wsWa,2,_,rfl,eWa,Zi.of JZ vT (by decide) (by decide) (by decide) ⟨by decide,by decide⟩ (by decide),A9.refl _⟩,?_⟩
  ·refine ⟨_,rfl,_,rfl,C,_,rfl,Ba.of eC3,fun sb VM=>?_⟩
   rw [Ke (by decide) (by rw [List.length_map]; omega),<- List.map_take]
   have vU:(xs.take (3:Int).toNat).length = 3:=by
    rw [List.length_take]
    omega
   generalize xs.take (3:Int).toNat = pV at vU ⊢
   have sB:A9 H3 (upd H3 sb (.lst (pV.map V.int))):=A9.upd VM
   have esb:(upd H3 sb (.lst (pV.map V.int))) sb = some (.lst (pV.map V.int)):=A5
   generalize upd H3 sb (.lst (pV.map V.int)) = H4 at sB esb ⊢
   refine ⟨sb,rfl,.inl ⟨⟨_,Ba.of esb⟩,fun Wb hWb=>?_⟩⟩
   refine Gx (K:=K) (a:=sb) (xs:=pV.map V.int) (fun i zs H'=>∃ (ws:List Int),Ij (zs = ws.map V.int) (ws.length = i) ((∀ w ∈ ws,1 <= w /\ w <= 4)) (H' Wb = some (.lst zs)) (A9 H4 H')) ⟨[],rfl,rfl,(fun w hw=>by cases hw),A5,A9.upd hWb⟩ (by rintro i zs H' _ ⟨_,_,_,_,_,s⟩; exact Ba.of (s _ _ esb)) ?_ ?_
   ·rintro i y zs H' hy ⟨ws,rfl,fW,aN,lN,s'⟩ Qe hQ
    have hi:=(List.getElem?_eq_some_iff.mp hy).1
    rw [List.length_map] at hi
    rw [List.getElem?_map] at hy
    obtain ⟨x,hx,rfl⟩ := Option.map_eq_some_iff.mp hy
    refine ⟨_,rfl,_,_,rfl,rfl,(by first | (show (0:Int) < _; decide) | simp),_,rfl,_,_,rfl,rfl,⟨by decide,by decide⟩,_,_,rfl,rfl,(by first | (show (0:Int) < _; decide) | simp),_,_,rfl,_,_,rfl,rfl,?_⟩
    have mX:=Bh x (show (0:Int) < 4 by decide)
    have ZK:=Bh (x / 4) (show (0:Int) < 4 by decide)
    refine hQ _ _ lN (B7 (by rw [List.length_map]; omega)) ⟨ws ++ [_],Ge _ _,Fc fW,?_,A5,s'.new hWb⟩
    intro w hw
    rcases List.mem_append.mp hw with z | z
    ·exact aN w z
    ·rw [List.mem_singleton.mp z]
     show 1 <= 1 + (if x / 4 % 4 > x % 4 then x / 4 % 4 else x % 4) /\ 1 + (if x / 4 % 4 > x % 4 then x / 4 % 4 else x % 4) <= 4
     split <;> omega
   rintro zs H5 ⟨wsWb,rfl,vV,KA,eWb,s35'⟩
   rw [List.length_map,vU] at vV
   have UE:=sB.trans s35'
   exact ⟨Wb,wsWb,1,_,rfl,eWb,Zi.of KA vV (by decide) (by decide) (by decide) ⟨by decide,by decide⟩ (by decide),UE⟩
  rintro σ H5 ⟨W5,ws5,KC,v65,rfl,eW5,xb,UE⟩
  have eC5:=UE _ _ eC3
  have at0:=Hh (xs:=xs) (k:=0) (i:=0) (by omega) rfl
  have JX:=Hh (xs:=xs) (k:=6) (i:=6) (by omega) rfl
  refine ⟨_,rfl,_,_,rfl,rfl,_,rfl,(fun σ' H'=>Uy fun (W:Addr) (ws:List Int) (most:Int) (v6:Option V)=>L3 (σ' = [some (.ref a),some (.int (Dz ns 0 % 24)),some (.int (Dz ns 1)),some (.ref C),some (.ref W),some (.int most),v6]) (H' W = some (.lst (ws.map V.int))) (Zi ws most) (A9 H5 H')),fun _=>?_,fun _=>⟨W5,ws5,KC,_,rfl,eW5,xb,A9.refl _⟩,?_⟩
  ·refine ⟨_,rfl,C,_,_,_,rfl,rfl,.inl (Ba.of eC5),at0,_,_,rfl,rfl,(by first | (show (0:Int) < _; decide) | simp),_,_,rfl,rfl,Bo,fun W6 IW=>?_⟩
   have hm:=Bh (xs.getD 0 0) (show (0:Int) < 12 by decide)
   refine ⟨W6,[1 + xs.getD 0 0 % 12],4,_,rfl,A5,Zi.of (b:=12) (n:=1) (fun w hw=>?_) rfl (by decide) (by decide) (by decide) ⟨by decide,by decide⟩ (by decide),A9.upd IW⟩
   rw [List.mem_singleton.mp hw]
   omega
  rintro σ H6 ⟨W6,ws6,vW,v66,rfl,eW6,st6,FK⟩
  have s06:=((s1.trans uG).trans UE).trans FK
  have UG:=FK _ _ eC5
  refine ⟨_,rfl,rfl,_,rfl,?_⟩
  refine Ej (fun _=>?_) (fun _=>?_)
  ·refine ⟨Bo,fun t ht=>?_⟩
   have hm:=Bh (Dz ns 1) (show (0:Int) < 60 by decide)
   have s7:A9 H6 (upd H6 t (.tup [.int 1])):=A9.upd ht
   have e7:(upd H6 t (.tup [.int 1])) t = some (.tup [.int 1]):=A5
   generalize upd H6 t (.tup [.int 1]) = H7 at s7 e7 ⊢
   refine ⟨_,rfl,_,_,rfl,rfl,(by first | (show (0:Int) < _; decide) | simp),_,_,rfl,rfl,Bo,fun p hp=>?_⟩
   refine q p [1] (some (1 + Dz ns 1 % 60)) _ ((s06.trans s7).trans (A9.upd hp)) ⟨t,A5,(A9.upd hp) _ _ e7⟩ ⟨fun w hw=>?_,(fun c z=>by cases z; omega),by decide,by show 1 <= 8; decide,?_⟩
   ·rw [List.mem_singleton.mp hw]
    decide
   ·show (1 + Dz ns 1 % 60 + 1) * 1 <= 300
    omega
  refine ⟨_,rfl,rfl,_,rfl,?_⟩
  refine Ej (fun _=>?_) (fun _=>?_)
  ·refine ⟨_,rfl,_,rfl,C,_,rfl,Ba.of UG,fun sl UC=>?_⟩
   rw [Ke (by decide) (by rw [List.length_map]; omega),<- List.map_take]
   have FI:(xs.take (4:Int).toNat).length = 4:=by
    rw [List.length_take]
    omega
   generalize xs.take (4:Int).toNat = ys at FI ⊢
   have s7:A9 H6 (upd H6 sl (.lst (ys.map V.int))):=A9.upd UC
   have e7:(upd H6 sl (.lst (ys.map V.int))) sl = some (.lst (ys.map V.int)):=A5
   generalize upd H6 sl (.lst (ys.map V.int)) = H7 at s7 e7 ⊢
   refine ⟨sl,rfl,.inl ⟨⟨_,Ba.of e7⟩,fun W hW=>?_⟩⟩
   refine Gx (K:=K) (a:=sl) (xs:=ys.map V.int) (fun i zs H'=>∃ (ws:List Int),Ij (zs = ws.map V.int) (ws.length = i) ((∀ w ∈ ws,1 <= w /\ w <= 4)) (H' W = some (.lst zs)) (A9 H7 H')) ⟨[],rfl,rfl,(fun w hw=>by cases hw),A5,A9.upd hW⟩ (by rintro i zs H' _ ⟨_,_,_,_,_,s⟩; exact Ba.of (s _ _ e7)) ?_ ?_
   ·rintro i y zs H' hy ⟨ws,rfl,fW,aN,lN,s'⟩ Qe hQ
    have hi:=(List.getElem?_eq_some_iff.mp hy).1
    rw [List.length_map] at hi
    rw [List.getElem?_map] at hy
    obtain ⟨x,hx,rfl⟩ := Option.map_eq_some_iff.mp hy
    refine ⟨_,rfl,_,_,rfl,rfl,(by first | (show (0:Int) < _; decide) | simp),_,_,rfl,rfl,_,_,rfl,_,_,rfl,rfl,?_⟩
    have mX:=Bh x (show (0:Int) < 5 by decide)
    refine hQ _ _ lN (B7 (by rw [List.length_map]; omega)) ⟨ws ++ [_],Ge _ _,Fc fW,?_,A5,s'.new hW⟩
    intro w hw
    rcases List.mem_append.mp hw with z | z
    ·exact aN w z
    ·rw [List.mem_singleton.mp z]
     show 1 <= 4 - (if x % 5 - 2 > 0 then x % 5 - 2 else 0) /\ 4 - (if x % 5 - 2 > 0 then x % 5 - 2 else 0) <= 4
     split <;> omega
   rintro zs H8 ⟨ws,rfl,fW,aN,eW,s8⟩
   rw [List.length_map,FI] at fW
   refine ⟨W,_,rfl,.inl ⟨Ba.of eW,fun t ht=>?_⟩⟩
   have s9:A9 H8 (upd H8 t (.tup (ws.map V.int))):=A9.upd ht
   have e9:(upd H8 t (.tup (ws.map V.int))) t = some (.tup (ws.map V.int)):=A5
   generalize upd H8 t (.tup (ws.map V.int)) = H9 at s9 e9 ⊢
   refine ⟨Bo,fun p hp=>?_⟩
   have hpw:=Lk ws 1 (by decide) aN
   rw [fW] at hpw
   refine q p ws none _ (((s06.trans (s7.trans s8)).trans s9).trans (A9.upd hp)) ⟨t,A5,(A9.upd hp) _ _ e9⟩ ⟨fun w hw=>?_,(fun c z=>nomatch z),by omega,by omega,?_⟩
   ·have:=aN w hw
    omega
   ·show Ak 1 ws <= 300
    exact Int.le_trans hpw (by decide)
  refine ⟨_,rfl,_,_,rfl,rfl,_,rfl,(fun σ' H'=>Uy fun (W:Addr) (ws:List Int) (most:Int) (v6:Option V)=>L3 (σ' = [some (.ref a),some (.int (Dz ns 0 % 24)),some (.int (Dz ns 1)),some (.ref C),some (.ref W),some (.int most),v6]) (H' W = some (.lst (ws.map V.int))) (Zi ws most) (A9 H6 H')),fun _=>?_,fun _=>⟨W6,ws6,vW,_,rfl,eW6,st6,A9.refl _⟩,?_⟩
  ·refine ⟨Bo,fun L1 hL1=>?_⟩
   have s7:A9 H6 (upd H6 L1 (.lst [.int 1])):=A9.upd hL1
   have e7:(upd H6 L1 (.lst [.int 1])) L1 = some (.lst [.int 1]):=A5
   generalize upd H6 L1 (.lst [.int 1]) = H7 at s7 e7 ⊢
   have hm5:=Bh (xs.getD 6 0) (show (0:Int) < 5 by decide)
   refine ⟨_,rfl,C,_,_,_,rfl,rfl,.inl (Ba.of (s7 _ _ UG)),JX,_,_,rfl,rfl,(by first | (show (0:Int) < _; decide) | simp),_,_,rfl,rfl,L1,_,_,rfl,rfl,e7,by omega,by omega,Kc (by simp; omega),fun W7 IY=>?_⟩
   rw [Qy]
   have s8:A9 H7 (upd H7 W7 (.lst ((List.replicate (4 + xs.getD 6 0 % 5).toNat (1:Int)).map V.int))):=A9.upd IY
   have e8:(upd H7 W7 (.lst ((List.replicate (4 + xs.getD 6 0 % 5).toNat (1:Int)).map V.int))) W7 = some (.lst ((List.replicate (4 + xs.getD 6 0 % 5).toNat (1:Int)).map V.int)):=A5
   generalize upd H7 W7 (.lst ((List.replicate (4 + xs.getD 6 0 % 5).toNat (1:Int)).map V.int)) = H8 at s8 e8 ⊢
   have s68:=s7.trans s8
   have eC8:=s68 _ _ UG
   have nW7:H6 W7 = none:=s7.free IY
   refine ⟨3,rfl,by decide,by decide,?_⟩
   refine Jn (n:=(3:Int).toNat) (fun i σ H'=>Yx fun (ws:List Int) (v6:Option V)=>Q4 (σ = [some (.ref a),some (.int (Dz ns 0 % 24)),some (.int (Dz ns 1)),some (.ref C),some (.ref W7),some (.int vW),v6]) (H' W7 = some (.lst (ws.map V.int))) (ws.length = (4 + xs.getD 6 0 % 5).toNat) ((∀ w ∈ ws,1 <= w /\ w <= 3)) (Ak 1 ws <= 3 ^ i) (A9 H6 H'))
    ⟨_,_,rfl,e8,List.length_replicate,(fun w hw=>by rw [(List.mem_replicate.mp hw).2]; decide),by rw [Oc]; decide,s68⟩ ?_ ?_
   ·rintro i σ H9 hi ⟨ws,v6,rfl,UH,fW,aN,UD,s9⟩
    have YB:i < 3:=hi
    have eC9:=s9 _ _ UG
    have a1:=Hh (xs:=xs) (k:=3 + i) (i:=3 + (0 + (i:Int))) (by omega) (by omega)
    have a2:=Hh (xs:=xs) (k:=i) (i:=0 + (i:Int)) (by omega) (by omega)
    have SG:(0:Int) < ((ws.map V.int).length:Nat):=by rw [List.length_map]; omega
    have hix:=Bh (xs.getD i 0) SG
    have hm3:=Bh (xs.getD (3 + i) 0) (show (0:Int) < 3 by decide)
    obtain ⟨j,hj⟩ : ∃ j:Nat,xs.getD i 0 % ((ws.map V.int).length:Nat) = j:=⟨(xs.getD i 0 % ((ws.map V.int).length:Nat)).toNat,by omega⟩
    have ej:Vr (ws.map V.int).length (xs.getD i 0 % ((ws.map V.int).length:Nat)) = some j:=by
     rw [hj]
     exact Ux (by omega)
    refine ⟨_,rfl,_,rfl,_,_,rfl,rfl,C,_,_,_,rfl,rfl,.inl (Ba.of eC9),a1,_,_,rfl,rfl,(by first | (show (0:Int) < _; decide) | simp),_,_,rfl,rfl,?_⟩
    refine ⟨_,rfl,_,rfl,_,rfl,C,_,_,_,rfl,rfl,.inl (Ba.of eC9),a2,_,rfl,W7,_,rfl,.inl (Ba.of UH),_,_,rfl,rfl,SG,W7,_,_,_,rfl,rfl,UH,ej,?_⟩
    have mX:1 <= 1 + xs.getD (3 + i) 0 % 3:=by omega
    refine ⟨ws.set j (1 + xs.getD (3 + i) 0 % 3),_,rfl,by rw [A5,List.map_set],by rw [List.length_set]; exact fW,cc (P:=fun w=>1 <= w /\ w <= 3) aN (by omega),?_,s9.new nW7⟩
    have h1:=Rt mX ws 1 j (by decide) fun w hw=>(aN w hw).1
    have xB:0 <= Ak 1 ws:=Int.le_trans (by decide) (E9 ws 1 (by decide) fun w hw=>(aN w hw).1)
    have h2:Ak 1 ws * (1 + xs.getD (3 + i) 0 % 3) <= Ak 1 ws * 3:=Int.mul_le_mul_of_nonneg_left (by omega) xB
    have h3:(3:Int) ^ (i + 1) = 3 ^ i * 3:=Int.pow_succ 3 i
    rw [h3]
    omega
   rintro σ H9 ⟨ws,v6,rfl,UH,fW,aN,UD,s9⟩
   refine ⟨W7,ws,1,_,rfl,UH,⟨fun w hw=>by have:=aN w hw; omega,by omega,by omega,by decide,by decide,?_⟩,s9⟩
   have:Ak 1 ws <= 27:=UD
   omega
  rintro σ H7 ⟨W7,sO,vX,v67,rfl,eW7,EU,s67⟩
  have s07:=s06.trans s67
  obtain ⟨ok1,ok2⟩ := EU.hall
  refine ⟨_,rfl,_,_,rfl,rfl,(by first | (show (0:Int) < _; decide) | simp),rfl,_,rfl,?_⟩
  refine Ej (fun _=>?_) (fun _=>?_)
  ·refine ⟨_,rfl,W7,_,rfl,.inl ⟨Ba.of eW7,fun t ht=>?_⟩⟩
   have s8:A9 H7 (upd H7 t (.tup (sO.map V.int))):=A9.upd ht
   have e8:(upd H7 t (.tup (sO.map V.int))) t = some (.tup (sO.map V.int)):=A5
   generalize upd H7 t (.tup (sO.map V.int)) = H8 at s8 e8 ⊢
   refine ⟨Bo,fun p hp=>?_⟩
   exact q p sO none _ ((s07.trans s8).trans (A9.upd hp)) ⟨t,A5,(A9.upd hp) _ _ e8⟩ ok1
  refine ⟨_,rfl,W7,_,rfl,.inl ⟨Ba.of eW7,fun t ht=>?_⟩⟩
  have s8:A9 H7 (upd H7 t (.tup (sO.map V.int))):=A9.upd ht
  have e8:(upd H7 t (.tup (sO.map V.int))) t = some (.tup (sO.map V.int)):=A5
  generalize upd H7 t (.tup (sO.map V.int)) = H8 at s8 e8 ⊢
  refine ⟨_,rfl,_,_,rfl,rfl,⟨by decide,by decide⟩,_,rfl,_,_,rfl,rfl,(by show 0 < vX; have:=EU.2.2.2.1; omega),_,_,rfl,rfl,Bo,fun p hp=>?_⟩
  exact q p sO (some (1 + Dz ns 1 / 3 % vX)) _ ((s07.trans s8).trans (A9.upd hp)) ⟨t,A5,(A9.upd hp) _ _ e8⟩ (ok2 _)
def So (K:PySem.W.Frag):Sp:=fun vs H Q _=>sv fun (a b:Addr) (ws ls:List Int) (cm:Option Int) (q w:Int) (who:Nat) (lost:Bool)=>Kj (vs = [.ref a,.ref b,.int w,.bl lost]) (w = (who:Int)) (Bl H a ws cm) (D8 H b ls q) (who < ws.length) (ls.length = ws.length) (ws.length <= 8) ((∀ x ∈ ws,1 <= x)) ((lost = true -> cm ≠ none)) (∀ (v:V) (H':Hp),A9 H H' -> E5 H' (D0 ws ls cm q who lost) v -> Q v H')
theorem fz {fd  : FuncData} (T:Txt K mg ad) (F:Fy K "_law_behind" "_law_behind" Ng ad.cT fd):Aj P w K mg base Bm 1 ad.cT fd ["hall","standing","who","lost"] (So K):=by
 refine F.ok Tv (fun vs H Q E h=>?_) (fun aM A outer s H vs Q E hr h=>?_)
 ·rcases h with ⟨a,b,ws,ls,cm,n,w0,who,lost,rfl,rfl,ha,hb,hw,hl,h8,aN,IU,q⟩ <;> rfl
 ·obtain ⟨a,b,ws,ls,cm,n,w0,who,lost,rfl,rfl,ha,hb,hw,hl,h8,aN,IU,q⟩ := h
  refine ⟨_,(A7 (Ap (i:=4) Tv.nd rfl (Or.inl rfl) (D1 A6)) (A7 (Ck PassesOwn.never rfl (Db (by rfl) T.aX (A0 (B9 (Cz K) (by rfl) T.bW PySem.boot_len (A0 (Bg (Bf K) (pv 0) Aa (fun _ _=>rfl)) A6)) A6)) (Al (i:=5) Tv.nd rfl (Or.inl rfl)) (Ab (Cn (PW.pt (K7 (Bc Gf (pv 5) (pv 2) (Be _)) (Ka (Fm (Ee (pv 3)))))) (Ab (Co (E4 (u':=Vb K _ _ _ _) (Fe PySem.F.plainAttrs_list PySem.F.slot_list_append PySem.F.type_list_append Cy (pv 4) (A0 (Bg (Bf K) (Bg (Bf K) (pv 0) Aa (fun _ _=>rfl)) (pv 5) (fun _ _=>rfl)) A6))))) (Ab (Cn (Bc Gf (Bg (Bf K) (Bg (Bf K) (pv 1) Aa (fun _ _=>rfl)) (pv 5) (fun _ _=>rfl)) Aa (Be _)) (Ab (Aq D3)) (Ab (Co (E4 (u':=Vb K _ _ _ _) (Fe PySem.F.plainAttrs_list PySem.F.slot_list_append PySem.F.type_list_append Cy (pv 4) (A0 (B6 Hu (Bg (Bf K) (Bg (Bf K) (pv 1) Aa (fun _ _=>rfl)) (pv 5) (fun _ _=>rfl)) Aa) A6)))))))))) (A7 (Cn (Ee (pv 3)) (Ab (Aq (Bz (A0 (C8 (Cw K) (by rfl) T.aW boot_tuple (A0 (pv 4) A6)) (A0 (Bg (Bf K) (pv 0) Aa (fun _ _=>rfl)) A6))))) Ax) (Ab (Aq (Bz (A0 (C8 (Cw K) (by rfl) T.aW boot_tuple (A0 (pv 4) A6)) (A0 (B9 (F8 rfl) (by rfl) T.gO boot_max (A0 Aa (A0 (B6 Hu (Bg (Bf K) (pv 1) Aa (fun _ _=>rfl)) Aa) A6))) A6)))))))),?_⟩
  obtain ⟨wt,bD,bX⟩ := id ha
  obtain ⟨ut,eU,gQ⟩ := id hb
  refine ⟨Bo,fun L hL=>?_⟩
  have s1:A9 H (upd H L (.lst [])):=A9.upd hL
  have e1:(upd H L (.lst [])) L = some (.lst []):=A5
  generalize upd H L (.lst []) = H1 at s1 e1 ⊢
  refine ⟨_,rfl,a,_,_,_,rfl,rfl,.inr (C7.of (s1 _ _ bD)),rfl,wt,_,rfl,.inr (C7.of (s1 _ _ bX)),_,rfl,by omega,by rw [List.length_map]; omega,?_⟩
  refine Jn (n:=(ws.map V.int).length) (fun i σ H'=>∃ (v5:Option V),L3 (σ = [some (.ref a),some (.ref b),some (.int (who:Nat)),some (.bl lost),some (.ref L),v5]) (H' L = some (.lst (((Bi ws ls who lost).take i).map V.int))) ((0:Int) ∉ (Bi ws ls who lost).take i) (A9 H H'))
   ⟨_,rfl,e1,(fun z=>by rw [List.take_zero] at z; cases z),s1⟩ ?_ ?_
  ·rintro i σ H2 hi ⟨v5,rfl,kH,hz,s2⟩
   rw [List.length_map] at hi
   have mQ:=Na (ws:=ws) (ls:=ls) (who:=who) (i:=i) (lost:=lost) (by omega)
   have jH:(((Bi ws ls who lost).take i).map V.int).length <= 100:=by
    rw [List.length_map,List.length_take]
    omega
   have atw:Ra (ws.map V.int) (0 + (i:Int)) = some (.int (ws.getD i 0)):=Hh hi (Int.zero_add _)
   have atl:Ra (ls.map V.int) (0 + (i:Int)) = some (.int (ls.getD i 0)):=Hh (by omega) (Int.zero_add _)
   have eqi:decide (V.int (0 + (i:Int)) = V.int (who:Int)) = decide (i = who):=by
    rw [Bool.eq_iff_iff]
    simp
    omega
   refine ⟨_,rfl,_,rfl,rfl,_,rfl,_,fun _ Q' z=>⟨_,rfl,_,rfl,z⟩,?_⟩
   rw [eqi]
   have next:∀ (x:Int) (H3:Hp),(Bi ws ls who lost)[i]? = some x -> x ≠ 0 -> A9 H H3 -> (upd H3 L (.lst (((Bi ws ls who lost).take i).map V.int ++ [V.int x]))) L = some (.lst (((Bi ws ls who lost).take (i + 1)).map V.int)) /\ (0:Int) ∉ (Bi ws ls who lost).take (i + 1) /\ A9 H (upd H3 L (.lst (((Bi ws ls who lost).take i).map V.int ++ [V.int x]))):=fun x H3 e hx s=>by
    refine ⟨?_,?_,s.new hL⟩
    ·rw [A5,List.take_add_one,e,List.map_append]
     rfl
    ·rw [List.take_add_one,e]
     intro y
     rcases List.mem_append.mp y with z | z
     ·exact hz z
     ·have:(0:Int) = x:=by simpa using z
      omega
   refine Ej (fun h0=>?_) (fun h0=>?_)
   ·have UI : i = who /\ lost = false := by
     simp only [Bool.and_eq_true,decide_eq_true_eq,Bool.not_eq_true'] at h0
     exact h0
    rw [if_pos UI] at mQ
    have EX:ws.getD who 0 ≠ 0:=by
     have:=aN _ (Oh hw)
     omega
    obtain ⟨n1,n2,n3⟩ := next _ H2 mQ EX s2
    have ew:ws.getD i 0 = ws.getD who 0:=by rw [UI.1]
    rw [ew] at atw
    exact ⟨_,rfl,.inl ⟨rfl,_,Ba.of kH⟩,_,rfl,a,_,_,_,rfl,rfl,.inr (C7.of (s2 _ _ bD)),rfl,_,rfl,wt,_,_,_,rfl,rfl,.inr (C7.of (s2 _ _ bX)),atw,L,_,_,rfl,rfl,kH,B7 (by omega),_,rfl,n1,n2,n3⟩
   ·have UI:¬ (i = who /\ lost = false):=fun z=>h0 (by simp [z.1,z.2])
    rw [if_neg UI] at mQ
    refine ⟨_,rfl,b,_,_,_,rfl,rfl,.inr (C7.of (s2 _ _ eU)),rfl,_,rfl,ut,_,_,_,rfl,rfl,.inr (C7.of (s2 _ _ gQ)),atl,rfl,_,rfl,?_⟩
    refine Ej (fun h1=>?_) (fun h1=>?_)
    ·have eG:ls.getD i 0 = 1:=by simpa using h1
     refine q .aL H2 s2 ?_
     unfold D0
     rw [if_pos ?_]
     ·rfl
     ·rw [eG] at mQ
      exact List.mem_of_getElem? mQ
    ·have eG:ls.getD i 0 ≠ 1:=by simpa using h1
     obtain ⟨n1,n2,n3⟩ := next _ H2 mQ (by omega) s2
     exact ⟨_,rfl,.inl ⟨rfl,_,Ba.of kH⟩,_,rfl,b,_,_,_,rfl,rfl,.inr (C7.of (s2 _ _ eU)),rfl,_,rfl,ut,_,_,_,rfl,rfl,.inr (C7.of (s2 _ _ gQ)),atl,_,_,rfl,rfl,L,_,_,rfl,rfl,kH,B7 (by omega),_,rfl,n1,n2,n3⟩
  rintro σ H2 ⟨v5,rfl,kH,hz,s2⟩
  have hll:(Bi ws ls who lost).length = (ws.map V.int).length:=by
   rw [Ia,List.length_map]
   exact hl
  rw [<- hll,List.take_length] at kH hz
  have KD:D0 ws ls cm n who lost = some (Bi ws ls who lost,Dh cm n lost):=by
   unfold D0
   rw [if_neg hz]
  refine ⟨_,rfl,_,rfl,?_⟩
  cases lost with
  | true =>
   refine N7 rfl ?_
   refine ⟨_,rfl,L,_,rfl,.inl ⟨Ba.of kH,fun t ht=>?_⟩⟩
   have s3:A9 H2 (upd H2 t (.tup ((Bi ws ls who true).map V.int))):=A9.upd ht
   have e3:(upd H2 t (.tup ((Bi ws ls who true).map V.int))) t = some (.tup ((Bi ws ls who true).map V.int)):=A5
   generalize upd H2 t (.tup ((Bi ws ls who true).map V.int)) = H3 at s3 e3 ⊢
   cases cm with
   | none=>exact absurd rfl (IU rfl)
   | some c =>
    refine ⟨_,rfl,a,_,_,_,rfl,rfl,.inr (C7.of (s3 _ _ (s2 _ _ bD))),rfl,Bo,fun p hp=>?_⟩
    refine q (.ref p) _ ((s2.trans s3).trans (A9.upd hp)) ?_
    rw [KD]
    exact ⟨p,rfl,t,A5,(A9.upd hp) _ _ e3⟩
  | false =>
   refine Ix rfl ?_
   refine ⟨_,rfl,L,_,rfl,.inl ⟨Ba.of kH,fun t ht=>?_⟩⟩
   have s3:A9 H2 (upd H2 t (.tup ((Bi ws ls who false).map V.int))):=A9.upd ht
   have e3:(upd H2 t (.tup ((Bi ws ls who false).map V.int))) t = some (.tup ((Bi ws ls who false).map V.int)):=A5
   generalize upd H2 t (.tup ((Bi ws ls who false).map V.int)) = H3 at s3 e3 ⊢
   refine ⟨_,rfl,b,_,_,_,rfl,rfl,.inr (C7.of (s3 _ _ (s2 _ _ eU))),rfl,_,_,rfl,rfl,_,_,rfl,Bo,fun p hp=>?_⟩
   refine q (.ref p) _ ((s2.trans s3).trans (A9.upd hp)) ?_
   rw [KD]
   have e:(if n - 1 > 0 then n - 1 else (0:Int)) = Dh cm n false:=by
    unfold Dh
    rw [if_neg Bool.false_ne_true]
    omega
   refine ⟨p,rfl,t,?_,(A9.upd hp) _ _ e3⟩
   rw [<- e]
   exact A5
def To (K:PySem.W.Frag):Sp:=fun vs H Q _=>cw fun (a b:Addr) (ws ls:List Int) (cm:Option Int) (q w:Int) (who:Nat)=>Mm (vs = [.ref a,.ref b,.int w]) (w = (who:Int)) (Bl H a ws cm) (D8 H b ls q) (who < ws.length) (ls.length = ws.length) (ws.length <= 8) ((∀ x ∈ ws,1 <= x)) (∀ (l:Addr) (us:List V) (H':Hp),H l = none -> A9 H H' -> H' l = some (.lst us) -> Ad (E5 H') (Au ws ls cm q who) us -> Q (.ref l) H')
theorem gi {fd pW:FuncData} (T:Txt K mg ad) (F:Fy K "_law_next" "_law_next" O4 ad.cU fd) (lO:Aj P w K mg base Bm 1 ad.cT pW ["hall","standing","who","lost"] (So K)) (lP:Az K pW ["hall","standing","who","lost"] []):Aj P w K mg base Bm 2 ad.cU fd ["hall","standing","who"] (To K):=by
 refine F.ok Xk (fun vs H Q E h=>?_) (fun aM A outer s H vs Q E hr h=>?_)
 ·rcases h with ⟨a,b,ws,ls,cm,n,w0,who,rfl,rfl,ha,hb,hw,hl,h8,aN,q⟩ <;> rfl
 ·obtain ⟨a,b,ws,ls,cm,n,w0,who,rfl,rfl,ha,hb,hw,hl,h8,aN,q⟩ := h
  refine ⟨_,(A7 (Ap (i:=3) Xk.nd rfl (Or.inl rfl) (D1 (A0 (Ag lO (hr.mono (by decide)) rfl T.vx T.jD lP .nil B0 (A0 (pv 0) (A0 (pv 1) (A0 (pv 2) (A0 Ft A6))))) A6))) (A7 (Dn (PW.pt (K7 (Bc P0 (Bg (Bf K) (pv 0) Aa (fun _ _=>rfl)) D3 (Be _)) (Ka (Bc Gf (Bg (Bf K) (pv 1) Aa (fun _ _=>rfl)) Aa (Be _))))) (Ab (Co (E4 (u':=Vb K _ _ _ _) (Fe PySem.F.plainAttrs_list PySem.F.slot_list_append PySem.F.type_list_append Cy (pv 3) (A0 (Ag lO (hr.mono (by decide)) rfl T.vx T.jD lP .nil B0 (A0 (pv 0) (A0 (pv 1) (A0 (pv 2) (A0 Ft A6))))) A6))))) Ax) (Ab (Aq (pv 3))))),?_⟩
  refine ⟨_,rfl,_,rfl,_,rfl,a,b,ws,ls,cm,n,_,who,false,rfl,rfl,ha,hb,hw,hl,h8,aN,(fun z=>nomatch z),fun v H1 s1 hv=>?_⟩
  refine ⟨Bo,fun L hL=>?_⟩
  have s2:A9 H1 (upd H1 L (.lst [v])):=A9.upd hL
  have e2:(upd H1 L (.lst [v])) L = some (.lst [v]):=A5
  generalize upd H1 L (.lst [v]) = H2 at s2 e2 ⊢
  have aU:=s1.trans s2
  obtain ⟨wt,bD,bX⟩ := id (ha.same aU)
  obtain ⟨ut,eU,gQ⟩ := id (hb.same aU)
  have eb:(!decide (vO cm = V.aL) && decide (V.int n = V.int 0)) = Dq cm n:=by
   rw [Y9]
   simp [Dq]
  refine ⟨_,rfl,a,_,_,_,rfl,rfl,.inr (C7.of bD),rfl,rfl,_,rfl,_,fun _ Q' z=>⟨_,rfl,b,_,_,_,rfl,rfl,.inr (C7.of eU),rfl,rfl,_,rfl,z⟩,(fun σ' H'=>∃ (us:List V),L3 (σ' = [some (.ref a),some (.ref b),some (.int who),some (.ref L)]) (H' L = some (.lst us)) (Ad (E5 H') (Au ws ls cm n who) us) (A9 H H')),fun hm=>?_,fun hm=>?_,?_⟩
  ·have dB:Dq cm n = true:=eb.symm.trans hm
   have mB:cm ≠ none:=by
    unfold Dq at dB
    simp only [Bool.and_eq_true,Bool.not_eq_true',decide_eq_false_iff_not] at dB
    exact dB.1
   refine ⟨_,rfl,.inl ⟨rfl,_,Ba.of e2⟩,_,rfl,_,rfl,_,rfl,a,b,ws,ls,cm,n,_,who,true,rfl,rfl,ha.same aU,hb.same aU,hw,hl,h8,aN,(fun _=>mB),fun v2 H3 s3 xG=>?_⟩
   have e3:=s3 _ _ e2
   have tt:Af H3 (upd H3 L (.lst ([v] ++ [v2]))):=Af.lst e3
   refine ⟨L,_,_,rfl,rfl,e3,B7 (by simp),[v] ++ [v2],rfl,A5,?_,(aU.trans s3).new (s1.free hL)⟩
   unfold Au
   rw [if_pos dB]
   exact Ad.cons (hv.up (((Af.of s2).trans (Af.of s3)).trans tt)) (Ad.one (xG.up tt))
  ·have dB : ¬ Dq cm n = true := by
    rw [show Dq cm n = false from eb.symm.trans hm]
    exact Bool.false_ne_true
   refine ⟨[v],rfl,e2,?_,aU⟩
   unfold Au
   rw [if_neg dB]
   exact Ad.one (hv.up (Af.of s2))
  rintro σ' H' ⟨us,rfl,eL,hall,s'⟩
  exact ⟨_,rfl,q L us H' (s1.free hL) s' eL hall⟩
def Sm (K:PySem.W.Frag):Sp:=fun vs H Q _=>Uy fun (b:Addr) (ls:List Int) (qq c:Int)=>Q4 (vs = [.ref b,.int c]) (D8 H b ls qq) (0 < ls.length) (ls.length <= 8) ((∀ x ∈ ls,0 <= x)) (∀ (who:Int) (H':Hp),A9 H H' -> 0 <= who -> who < (ls.length:Int) -> Q (.int who) H')
theorem j7 {fd  : FuncData} (T:Txt K mg ad) (F:Fy K "_law_who" "_law_who" L9 ad.cV fd):Aj P w K mg base Bm 1 ad.cV fd ["standing","cell"] (Sm K):=by
 refine F.ok Uh (fun vs H Q E h=>?_) (fun aM A outer s H vs Q E hr h=>?_)
 ·rcases h with ⟨b,ls,qq,c,rfl,hb,h0,h8,hx,q⟩ <;> rfl
 ·obtain ⟨b,ls,qq,c,rfl,hb,h0,h8,hx,q⟩ := h
  refine ⟨_,(A7 (Ap (i:=2) Uh.nd rfl (Or.inl rfl) (B9 (Cz K) (by rfl) T.bW PySem.boot_len (A0 (Bg (Bf K) (pv 0) Aa (fun _ _=>rfl)) A6))) (A7 (Cn (Bc Gf (B6 Cb (pv 1) Aa) Aa (Be _)) (Ab (Aq (B6 Cb (B6 Fl (pv 1) Aa) (pv 2)))) Ax) (A7 (Ap (i:=3) Uh.nd rfl (Or.inl rfl) (B9 (Iy hr) (by rfl) T.fO boot_sorted (A0 (E6 (Db (by rfl) T.aX (A0 (pv 2) A6)) _ rfl P5 rfl rfl (fun _ _ _ _=>(Al (i:=0) Pa rfl (Or.inl rfl))) (fun _ _ _ _=>Cp) (fun _ _ _ _=>(Bz (A0 (Bg (Bf K) (Bg (Bf K) (pv 1) Aa (fun _ _=>rfl)) (pv 0) (fun _ _=>rfl)) (A0 (pv 0) A6))))) A6))) (Ab (Aq (Bg (Bf K) (Bg (Bf K) (pv 3) (B6 Cb (C8 X1 (by rfl) T.HY boot_int (A0 (Fo Gf (B6 Cb (pv 1) Aa) Aa (Be _)) A6)) (pv 2)) (fun _ _=>rfl)) Aa (fun _ _=>rfl))))))),?_⟩
  obtain ⟨bu,eU,gQ⟩ := id hb
  refine ⟨_,rfl,b,_,_,_,rfl,rfl,.inr (C7.of eU),rfl,bu,_,rfl,.inr (C7.of gQ),?_⟩
  rw [List.length_map]
  refine ⟨_,rfl,_,_,rfl,rfl,by show (0:Int) < 5; decide,rfl,_,rfl,Ej (fun _=>?_) (fun _=>?_)⟩
  ·exact ⟨_,rfl,_,_,rfl,rfl,⟨by decide,by decide⟩,_,rfl,_,_,rfl,rfl,by show (0:Int) < _; omega,q _ _ (A9.refl _) (Int.emod_nonneg _ (by omega)) (Int.emod_lt_of_pos _ (by omega))⟩
  refine ⟨_,rfl,_,rfl,by omega,by omega,fun D hD=>?_⟩
  refine Dp (cnt:=((ls.length:Int)).toNat) (fun j ys H'=>ys.length = j /\ (∀ u ∈ ys,∃ (t:Addr) (x k:Int),u = .ref t /\ H' t = some (.tup [.int x,.int k]) /\ 0 <= x /\ 0 <= k /\ k < (ls.length:Int)) /\ H' D = some (.lst ys) /\ A9 H H') ⟨rfl,(fun u hu=>by cases hu),A5,A9.upd hD⟩ ?_ ?_
  ·rintro j ys H5 hj ⟨hlen,eV,gS,s5⟩ Qe hQ
   have mY:j < ls.length:=by omega
   have atf:Ra (ls.map V.int) (0 + (j:Int)) = some (.int (ls.getD j 0)):=by rw [Int.zero_add]; exact Pp mY
   refine ⟨_,rfl,b,_,_,_,rfl,rfl,.inr (C7.of (s5 _ _ eU)),rfl,_,rfl,bu,_,_,_,rfl,rfl,.inr (C7.of (s5 _ _ gQ)),atf,_,rfl,Bo,fun t ht=>?_⟩
   have s6:A9 H5 (upd H5 t (.tup [.int (ls.getD j 0),.int (0 + (j:Int))])):=A9.upd ht
   have e6:(upd H5 t (.tup [.int (ls.getD j 0),.int (0 + (j:Int))])) t = some (.tup [.int (ls.getD j 0),.int (0 + (j:Int))]):=A5
   generalize upd H5 t (.tup [.int (ls.getD j 0),.int (0 + (j:Int))]) = H6 at s6 e6 ⊢
   have yh:=s6 _ _ gS
   have t7:Af H6 (upd H6 D (.lst (ys ++ [.ref t]))):=Af.lst yh
   refine hQ _ _ yh (B7 (by omega)) ⟨Fc hlen,fun u hu=>?_,A5,(s5.trans s6).new hD⟩
   rcases List.mem_append.mp hu with z | z
   ·obtain ⟨t',x,k,e,h1,h2⟩ := eV u z
    exact ⟨t',x,k,e,t7 _ _ (s6 _ _ h1),h2⟩
   ·rw [List.mem_singleton.mp z]
    refine ⟨t,_,_,rfl,t7 _ _ e6,hx _ ?_,by omega,by omega⟩
    rw [List.getD_eq_getElem?_getD,List.getElem?_eq_getElem mY]
    exact List.getElem_mem mY
  rintro ys H5 ⟨hlen,eV,gS,s5⟩
  have sM:ys.length = ls.length:=by omega
  refine ⟨D,ys,true,(fun u=>dP (d2 H5 u)),(fun u=>((d2 H5 u).1 * 8 + (d2 H5 u).2).toNat),rfl,Ba.of gS,by omega,⟨fun u hu=>?_,fun u hu v hv=>?_⟩,fun p cF hp bH gL=>?_⟩
  ·obtain ⟨t,x,k,rfl,h1,h2,h3,h4⟩ := eV u hu
   obtain ⟨e,hrp⟩ := Xm h1
   show Rp H5 (dP (d2 H5 (.ref t))) (.ref t) /\ Hi true (dP (d2 H5 (.ref t))) /\ (dP (d2 H5 (.ref t))).depth <= 50
   rw [e]
   exact ⟨hrp,⟨_,_,rfl,by rw [if_pos rfl]; exact ⟨_,rfl⟩⟩,by unfold dP; simp only [PyData.depth,PyData.depthAll]; omega⟩
  ·obtain ⟨t,x,k,rfl,h1,h2,h3,h4⟩ := eV u hu
   obtain ⟨t',x',k',rfl,g1,g2,g3,g4⟩ := eV v hv
   show Tt (dP (d2 H5 (.ref t))) (dP (d2 H5 (.ref t'))) /\ Gy (dP (d2 H5 (.ref t))) (dP (d2 H5 (.ref t'))) = decide (((d2 H5 (.ref t)).1 * 8 + (d2 H5 (.ref t)).2).toNat < ((d2 H5 (.ref t')).1 * 8 + (d2 H5 (.ref t')).2).toNat)
   rw [(Xm h1).1,(Xm g1).1]
   exact Z9 h2 g2 ⟨h3,by omega⟩ ⟨g3,by omega⟩
  have s6:A9 H5 (upd H5 p (.lst cF)):=A9.upd hp
  have e6:(upd H5 p (.lst cF)) p = some (.lst cF):=A5
  generalize upd H5 p (.lst cF) = H6 at s6 e6 ⊢
  have II:cF.length = ls.length:=by rw [bH.length_eq,sM]
  generalize hI:(if decide (V.int (c % 5) = V.int 3) then (1:Int) else 0) = I0
  have yp:0 <= I0 % (ls.length:Int):=Int.emod_nonneg _ (by omega)
  have iY:I0 % (ls.length:Int) < (cF.length:Int):=by rw [II]; exact Int.emod_lt_of_pos _ (by omega)
  obtain ⟨u,eu,hu⟩ := k9 yp iY
  obtain ⟨t,x,k,rfl,h1,h2,h3,h4⟩ := eV u (bH.mem_iff.mp hu)
  refine ⟨_,rfl,_,rfl,_,_,rfl,rfl,by show (0:Int) < 5; decide,rfl,.inr ⟨_,rfl,_,rfl,_,_,rfl,rfl,by show (0:Int) < _; omega,p,_,_,_,rfl,rfl,.inl (Ba.of e6),(by subst hI; exact eu),t,_,_,_,rfl,rfl,.inr (C7.of (s6 _ _ h1)),rfl,q _ _ (s5.trans s6) h3 h4⟩⟩
def Tl (K:PySem.W.Frag):Sp:=fun vs H Q _=>ll fun (a sc:Addr) (ws:List Int) (cm:Option Int) (ns:List Int)=>Ij (vs = [.ref a,.ref sc]) (Bl H a ws cm) (Cm ws cm) (Ba K H sc (ns.map V.int)) (∀ (t l:Addr) (br:Bool) (us:List V) (ps:List Kq) (H':Hp),A9 H H' -> H' t = some (.tup [.ref l,.bl br]) -> H' l = some (.lst us) -> Ad (PQ H') ps us -> Hf ws cm ps -> F4 ws cm ps [] br -> Q (.ref t) H')
theorem fj {fd pX pY fU:FuncData} (T:Txt K mg ad) (F:Fy K "_law_plan" "_law_plan" Kx ad.cW fd) (pZ:Aj P w K mg base Bm 1 ad.cV pX ["standing","cell"] (Sm K)) (qA:Az K pX ["standing","cell"] []) (qB:Aj P w K mg base Bm 2 ad.cU pY ["hall","standing","who"] (To K)) (qC:Az K pY ["hall","standing","who"] []) (eY:Aj P w K mg base Bm 1 ad.bV fU ["script","k"] (Q0 K)) (eZ:Az K fU ["script","k"] []):Aj P w K mg base Bm 3 ad.cW fd ["hall","script"] (Tl K):=by
 refine F.ok Ht (fun vs H Q E h=>?_) (fun aM A outer s H vs Q E hr h=>?_)
 ·rcases h with ⟨a,sc,ws,cm,ns,rfl,ha,aC,sY,q⟩ <;> rfl
 ·obtain ⟨a,sc,ws,cm,ns,rfl,ha,aC,sY,q⟩ := h
  refine ⟨_,(A7 (Ap (i:=2) Ht.nd rfl (Or.inr rfl) Fg) (A7 (Ap (i:=3) Ht.nd rfl (Or.inl rfl) Ft) (A7 (Ap (i:=4) Ht.nd rfl (Or.inl rfl) (D1 (A0 (Bz (A0 (Bg (Bf K) (pv 0) Aa (fun _ _=>rfl)) (A0 Aa A6))) A6))) (A7 (Ip PassesOwn.never (Bc (ja hr) (pv 4) (D1 A6) (Be _)) (A7 (Ap (i:=5) Ht.nd rfl (Or.inl rfl) (E4 (u':=Zu K _ _ _) (P9 PySem.F.plainAttrs_list PySem.F.slot_list_pop PySem.F.type_list_pop Ty (pv 4)))) (Ab (Dn (Fr (Ec (E8 hr) (pv 5) (pv 2)) rfl) (A7 (Gw (E8 hr) (pv 2) (pv 5) (Ag pZ (hr.mono (by decide)) rfl T.HV T.lJ qA .nil B0 (A0 (pv 5) (A0 (Ag eY (hr.mono (by decide)) rfl T.lF T.fN eZ .nil B0 (A0 (pv 1) (A0 (B6 D2 Aa (B9 On (by rfl) T.bW PySem.boot_len (A0 (pv 2) A6))) A6))) A6))) rfl) (Ab (Ck PassesOwn.never rfl (Dk (w':=Nq K _) (Df (Ag qB (hr.mono (by decide)) rfl T.HU T.lI qC .nil B0 (A0 (pv 0) (A0 (pv 5) (A0 (Fn (E8 hr) (pv 2) (pv 5) (fun _ _=>rfl)) A6)))))) (Al (i:=6) Ht.nd rfl (Or.inl rfl)) (Ab (Dn (Bc L8 (pv 6) D3 (Be _)) (Ab (Ap (i:=3) Ht.nd rfl (Or.inl rfl) Ft)) (Ab (Co (E4 (u':=Vb K _ _ _ _) (Fe PySem.F.plainAttrs_list PySem.F.slot_list_append PySem.F.type_list_append Cy (pv 4) (A0 (pv 6) A6)))))))))) Ax)))) (Ab (Aq (Bz (A0 (Vk (E6 (ci (pv 2)) _ rfl Mh rfl rfl (fun _ _ _ _=>(Al (i:=0) Mg rfl (Or.inl rfl))) (fun _ _ _ _=>Cp) (fun _ _ _ _=>(Bz (A0 (pv 0) (A0 (Fn (E8 hr) (pv 1) (pv 0) (fun _ _=>rfl)) A6)))))) (A0 (pv 3) A6))))))))),?_⟩
  have h8:=aC.2.2.2.1
  have h1:=aC.2.2.1
  have aN:∀ x ∈ ws,1 <= x:=fun x hx=>(aC.1 x hx).1
  refine fun C hC=>?_
  have s0:A9 H (upd H C (.dT [])):=A9.upd hC
  have e0:(upd H C (.dT [])) C = some (.dT []):=A5
  generalize upd H C (.dT []) = H0 at s0 e0 ⊢
  obtain ⟨wt,bD,bX⟩ := id (ha.same s0)
  refine ⟨_,rfl,a,_,_,_,rfl,rfl,.inr (C7.of bD),rfl,Bo,fun b0 vk=>?_⟩
  have s1:A9 H0 (upd H0 b0 (.tup [.ref wt,.int 0])):=A9.upd vk
  have e1:(upd H0 b0 (.tup [.ref wt,.int 0])) b0 = some (.tup [.ref wt,.int 0]):=A5
  generalize upd H0 b0 (.tup [.ref wt,.int 0]) = H1 at s1 e1 ⊢
  refine ⟨Bo,fun R hR=>?_⟩
  have s2:A9 H1 (upd H1 R (.lst [.ref b0])):=A9.upd hR
  have e2:(upd H1 R (.lst [.ref b0])) R = some (.lst [.ref b0]):=A5
  generalize upd H1 R (.lst [.ref b0]) = H2 at s2 e2 ⊢
  have aU:=(s0.trans s1).trans s2
  have hRH:H R = none:=(s0.trans s1).free hR
  have hCR:C ≠ R:=Ah (s1 _ _ e0) hR
  dsimp only
  refine eh ?_
  refine g7 ?_
  refine Id (fun σ' H'=>df fun (ps:List Kq) (rs:List (List Int × Int)) (vs:List V) (br:Bool) (v5 v6:Option V)=>Mm (σ' = [some (.ref a),some (.ref sc),some (.ref C),some (.bl br),some (.ref R),v5,v6]) (A9 H H') (H' C = some (.dT (Dd ps))) (Hf ws cm ps) (H' R = some (.lst vs)) (Ad (E3 H') rs vs) ((∀ z ∈ rs,z ∈ Ao ws (qv cm))) (rs.length <= 2 * ps.length + 1) (F4 ws cm ps rs br))
   (fun _ H'=>3 * (301 - Fa (H' C)) + Je (H' R)) ⟨[],[(ws,0)],[.ref b0],_,_,_,rfl,aU,s2 _ _ (s1 _ _ e0),⟨List.Pairwise.nil,fun p hp=>by cases hp⟩,e2,Ad.one ⟨b0,wt,rfl,s2 _ _ e1,s2 _ _ (s1 _ _ bX)⟩,(fun z hz=>by rw [List.mem_singleton.mp hz]; exact X0 aC),by simp,⟨.inr (by simp),(fun p hp=>by cases hp),⟨(fun z=>nomatch z),fun ⟨p,hp,_⟩=>by cases hp⟩⟩⟩ ?_ ?_
  ·rintro σ' H' ⟨ps,rs,vs,br,v5,v6,rfl,s',gH,fX,jY,oS,jP,XR,uO⟩
   have hp30:=fX.vc aC
   refine ⟨_,rfl,Bo,fun e0 WJ=>?_⟩
   have s3:A9 H' (upd H' e0 (.lst [])):=A9.upd WJ
   have e3:(upd H' e0 (.lst [])) e0 = some (.lst []):=A5
   generalize upd H' e0 (.lst []) = H3 at s3 e3 ⊢
   have yz:Ad (E3 H3) rs vs:=oS.imp (fun _ _ y=>E3.up (Af.of s3) y)
   refine ⟨_,_,ao (s3 _ _ jY) yz,c9 e3,Zd rs,_,rfl,?_⟩
   rw [if_pos rfl,Y3]
   have SR:=oS.1
   refine Ej (fun cY=>?_) (fun fP=>?_)
   ·have FE:0 < rs.length:=of_decide_eq_true cY
    obtain ⟨y,hy⟩ := Oy (show 0 < vs.length by omega)
    have TV:=s3 _ _ jY
    have pM:=s3 _ _ gH
    refine ⟨_,rfl,.inl ⟨rfl,_,Ba.of TV⟩,R,vs,y,rfl,rfl,TV,hy,?_⟩
    obtain ⟨z,hz,b,bu,rfl,eU,gQ⟩ := yz.get hy
    have UJ:=jP z (List.mem_of_getElem? hz)
    have lM:z.1.length = ws.length:=(Ea UJ).1
    have s4:A9 H (upd H3 R (.lst vs.dropLast)):=(s'.trans s3).new hRH
    have t4:Af H3 (upd H3 R (.lst vs.dropLast)):=Af.lst TV
    have kG:(upd H3 R (.lst vs.dropLast)) R = some (.lst vs.dropLast):=A5
    have iL:(upd H3 R (.lst vs.dropLast)) C = some (.dT (Dd ps)):=(Ac hCR).trans pM
    generalize upd H3 R (.lst vs.dropLast) = H4 at s4 t4 kG iL ⊢
    have mN:D8 H4 b z.1 z.2:=⟨bu,t4 _ _ eU,t4 _ _ gQ⟩
    have GN:vs.dropLast = vs.take (vs.length - 1):=List.dropLast_eq_take
    have qD:Ad (E3 H4) (rs.take (vs.length - 1)) vs.dropLast:=by
     rw [GN]
     exact (yz.imp (fun _ _ y=>E3.up t4 y)).take _
    have yA:∀ z ∈ rs.take (vs.length - 1),z ∈ Ao ws (qv cm):=fun z hz=>jP z (List.mem_of_mem_take hz)
    have hl4:(rs.take (vs.length - 1)).length = rs.length - 1:=by
     rw [List.length_take]
     omega
    have KG:=qD.1
    have ers:rs = rs.take (vs.length - 1) ++ [z]:=by
     have h1:=List.take_append_drop (vs.length - 1) rs
     have h2:rs.drop (vs.length - 1) = [z]:=by
      rw [List.drop_eq_getElem_cons (by omega),List.drop_of_length_le (by omega)]
      have:=(List.getElem?_eq_some_iff.mp hz).2
      rw [this]
     rw [h2] at h1
     exact h1.symm
    rw [ers] at uO
    generalize rs.take (vs.length - 1) = UK at qD yA hl4 KG uO
    generalize vs.dropLast = UL at kG qD KG
    refine ⟨_,rfl,_,rfl,C,_,rfl,D4.t iL (show Dt H4 b z from mN),_,rfl,_,fun hb=>?_,fun hb=>?_,fun _ _ z=>z⟩
    ·have dE : z ∉ ps.map (·.1) := fun y => by
      rw [<- Dy,<- Hk] at y
      rw [y] at hb
      cases hb
     refine ⟨_,rfl,_,rfl,_,rfl,C,_,rfl,iL,_,_,rfl,rfl,sc,ns,_,rfl,s4.seq sY,by omega,b,z.1,z.2,_,rfl,mN,by omega,by omega,(fun x hx=>?_),fun who H5 s5 XI hw1'=>?_⟩
     ·obtain ⟨i,hi⟩ := List.mem_iff_getElem?.mp hx
      have hil:=(List.getElem?_eq_some_iff.mp hi).1
      have:=((Ea UJ).2.1 i (by omega)).1
      rw [List.getD_eq_getElem?_getD,hi] at this
      have h1:1 <= x:=this
      omega
     have hw:0 <= who /\ who < (ws.length:Int):=⟨XI,by omega⟩
     have hC5:=s5 _ _ iL
     have gR:(Dd ps).length = ps.length:=K9 ps
     have oW:Ae (Dd ps) z = none:=by
      cases e:Ae (Dd ps) z with
      | none=>rfl
      | some v =>
       have:=Ki e
       rw [Dy] at this
       exact absurd this dE
     refine ⟨_,rfl,_,rfl,C,_,rfl,K0.t hC5 (show Dt H5 b z from mN.same s5) (Bt (by omega)),?_⟩
     rw [Cj _ oW,show Dd ps ++ [(z,V.int who)] = Dd (ps ++ [(z,who)]) from (Mc ps (z,who)).symm]
     have yB:=fX.snoc dE UJ hw
     have KH:=yB.vc aC
     rw [List.length_append,List.length_singleton] at KH
     have yC:Ae (Dd (ps ++ [(z,who)])) z = some (.int who):=by
      refine Cc ?_ ?_
      ·rw [Dy]
       exact yB.1
      ·rw [Mc]
       simp
     have s6:A9 H (upd H5 C (.dT (Dd (ps ++ [(z,who)])))):=(s4.trans s5).new hC
     have t6:Af H5 (upd H5 C (.dT (Dd (ps ++ [(z,who)])))):=Md hC5 (fun _ e=>nomatch e)
     have hC6:(upd H5 C (.dT (Dd (ps ++ [(z,who)])))) C = some (.dT (Dd (ps ++ [(z,who)]))):=A5
     have JW:(upd H5 C (.dT (Dd (ps ++ [(z,who)])))) R = some (.lst UL):=(Ac hCR.symm).trans (s5 _ _ kG)
     generalize upd H5 C (.dT (Dd (ps ++ [(z,who)]))) = H6 at s6 t6 hC6 JW ⊢
     have t46:Af H4 H6:=(Af.of s5).trans t6
     have fE:D8 H6 b z.1 z.2:=mN.up t46
     obtain ⟨wn,IK⟩ : ∃ wn:Nat,who = (wn:Int):=⟨who.toNat,by omega⟩
     have hwn:wn < ws.length:=by omega
     refine ⟨_,rfl,_,rfl,_,rfl,_,rfl,C,_,rfl,(by rw [<- yC]; exact D4.t hC6 (show Dt H6 b z from fE)),a,b,ws,z.1,cm,z.2,_,wn,rfl,IK,ha.same s6,fE,hwn,lM,h8,aN,fun L ys H7 hL s7 eL eV=>⟨L,rfl,.inl ⟨⟨_,Ba.of eL⟩,?_⟩⟩⟩
     have UB:=s7 _ _ JW
     have yq:=s7 _ _ hC6
     have hLR:L ≠ R:=fun e=>by
      rw [e,JW] at hL
      cases hL
     have s67:=s6.trans s7
     refine Cq (K:=K) (a:=L) (xs:=ys) (fun j σ H8=>Uy fun (sQ:List (List Int × Int)) (uP:List V) (FL:Bool) (v4:Option V)=>cu (σ = [some (.ref a),some (.ref sc),some (.ref C),some (.bl FL),some (.ref R),some (.ref b),v4]) ((∀ x ∈ UK,x ∈ sQ)) ((∀ k,some k ∈ (Au ws z.1 cm z.2 wn).take j -> k ∈ sQ)) ((FL = true ↔ br = true \/ none ∈ (Au ws z.1 cm z.2 wn).take j)) (A9 H H8) (Af H7 H8) (H8 C = some (.dT (Dd (ps ++ [(z,who)])))) (H8 L = some (.lst ys)) (H8 R = some (.lst uP)) (Ad (E3 H8) sQ uP) ((∀ z ∈ sQ,z ∈ Ao ws (qv cm))) (sQ.length <= UK.length + j))
      ⟨UK,UL,br,_,rfl,(fun _ h=>h),(fun k hk=>by rw [List.take_zero] at hk; cases hk),(by rw [List.take_zero]; simp),s67,(fun _ _ e=>e),yq,eL,UB,qD.imp (fun _ _ y=>E3.up (t46.trans (Af.of s7)) y),yA,Nat.le_refl _⟩ (by rintro j σ H8 _ ⟨_,_,_,_,_,_,_,_,_,_,_,e,_⟩; exact Ba.of e) ?_ ?_
     ·rintro j u σ H8 hu ⟨sQ,uP,FL,v4,rfl,hJ,qE,uQ,s8,t8,mP,uN,yD,mR,uR,kA⟩
      have hj:=(List.getElem?_eq_some_iff.mp hu).1
      have hy2:=eV.1
      have hb2':=V8 ws z.1 cm z.2 wn
      have hl8':=mR.1
      obtain ⟨x,hx,IL⟩ := eV.get hu
      cases x with
      | none =>
       obtain rfl:u = V.aL:=IL
       refine ⟨_,rfl,rfl,_,rfl,_,(fun _=>?_),(fun h=>by simp at h),fun _ _ z=>z⟩
       refine ⟨sQ,uP,true,_,rfl,hJ,fun k hk=>?_,⟨fun _=>?_,fun _=>rfl⟩,s8,t8,mP,uN,yD,mR,uR,by omega⟩
       ·rw [List.take_add_one,hx] at hk
        rcases List.mem_append.mp hk with y | y
        ·exact qE k y
        ·simp at y
       ·right
        rw [List.take_add_one,hx]
        simp
      | some k =>
       obtain ⟨bb,rfl,sF⟩ := IL
       obtain ⟨ku,nM,hk3⟩ := sF
       refine ⟨_,rfl,rfl,_,rfl,_,(fun h=>by simp at h),(fun _=>?_),fun _ _ z=>z⟩
       refine ⟨_,rfl,.inl ⟨rfl,_,Ba.of yD⟩,_,rfl,R,_,_,rfl,rfl,yD,B7 (by omega),?_⟩
       have t9:Af H8 (upd H8 R (.lst (uP ++ [.ref bb]))):=Af.lst yD
       refine ⟨sQ ++ [k],uP ++ [.ref bb],FL,_,rfl,(fun x iW=>List.mem_append_left _ (hJ x iW)),(fun k' bP=>?_),?_,s8.new hRH,t8.trans t9,(Ac hCR).trans mP,(Ac hLR).trans uN,A5,?_,?_,?_⟩
       ·rw [List.take_add_one,hx] at bP
        rcases List.mem_append.mp bP with y | y
        ·exact List.mem_append_left _ (qE k' y)
        ·have e:k' = k:=by simpa using y
         rw [e]
         simp
       ·rw [uQ,List.take_add_one,hx]
        simp
       ·exact (mR.imp (fun _ _ y=>E3.up t9 y)).append (Ad.one ⟨bb,ku,rfl,t9 _ _ (t8 _ _ nM),t9 _ _ (t8 _ _ hk3)⟩)
       ·intro z' WK
        rcases List.mem_append.mp WK with y | y
        ·exact uR z' y
        ·rw [List.mem_singleton.mp y]
         exact Vu aC UJ hwn (List.mem_of_getElem? hx)
       ·rw [List.length_append,List.length_singleton]
        omega
     rintro σ H8 ⟨sQ,uP,FL,v4,rfl,hJ,qE,uQ,s8,t8,mP,uN,yD,mR,uR,kA⟩
     have hy2:=eV.1
     have hb2':=V8 ws z.1 cm z.2 wn
     have hl8':=mR.1
     rw [hy2,List.take_length] at qE uQ
     have ewt:who.toNat = wn:=by omega
     refine ⟨⟨ps ++ [(z,who)],sQ,uP,FL,_,_,rfl,s8,mP,yB,yD,mR,uR,?_,uO.put hJ (by rw [ewt]; exact qE) (by rw [ewt]; exact uQ)⟩,?_⟩
     ·rw [List.length_append,List.length_singleton]
      omega
     ·rw [mP,yD,gH,jY]
      show 3 * (301 - (Dd (ps ++ [(z,who)])).length) + uP.length < 3 * (301 - (Dd ps).length) + vs.length
      rw [gR,Mc,List.length_append,List.length_singleton,gR]
      omega
    ·have hzin : z ∈ ps.map (·.1) := by
      rw [<- Dy,<- Hk]
      cases hv:(Ae (Dd ps) z).isSome with
      | true=>rfl
      | false=>rw [hv] at hb; exact nomatch (show true = false from hb)
     refine ⟨⟨ps,UK,UL,br,_,_,rfl,s4,iL,fX,kG,qD,yA,by omega,uO.skip hzin⟩,?_⟩
     rw [iL,kG,gH,jY]
     show 3 * (301 - (Dd ps).length) + UL.length < 3 * (301 - (Dd ps).length) + vs.length
     omega
   ·have FE : rs.length = 0 := by
     have:¬ 0 < rs.length:=fun h=>fP (decide_eq_true h)
     omega
    have pM:=s3 _ _ gH
    refine ⟨C,.dT (Dd ps),trivial,pM,_,rfl,C,.dT (Dd ps),rfl,trivial,pM,fun o D hD=>?_⟩
    have t9:Af H3 (upd H3 C (.aP o (.dT (Dd ps)))):=Md pM (fun _ e=>nomatch e)
    have s9:A9 H (upd H3 C (.aP o (.dT (Dd ps)))):=(s'.trans s3).new hC
    have KI:(upd H3 C (.aP o (.dT (Dd ps)))) C = some (.aP o (.dT (Dd ps))):=A5
    generalize upd H3 C (.aP o (.dT (Dd ps))) = H9 at t9 s9 KI hD ⊢
    have gR:(Dd ps).length = ps.length:=K9 ps
    have mE:((Dd ps).map (·.1)).Nodup:=by
     rw [Dy]
     exact fX.1
    have RV:D ≠ C:=fun e=>by
     rw [e,KI] at hD
     cases hD
    refine X8 (fun i zs H'=>H' D = some (.lst zs) /\ A9 H9 H' /\ Ad (PQ H') (ps.take i) zs) ⟨A5,A9.upd hD,Ad.nil⟩ (by rintro i zs H' _ ⟨_,s,_⟩; exact s _ _ KI) ?_ ?_
    ·rintro i x y zs lW hi ⟨k,kb,aG,rfl,TQ⟩ ⟨yE,xn,dC⟩ Qe hQ
     unfold Dd at aG
     rw [List.getElem?_map] at aG
     obtain ⟨p,hp,e⟩ := Option.map_eq_some_iff.mp aG
     obtain ⟨rfl,rfl⟩ := Prod.mk.inj e
     have yC:Ae (Dd ps) p.1 = some (.int p.2):=Cc mE (by unfold Dd; exact List.mem_map_of_mem (List.mem_of_getElem? hp))
     refine ⟨_,rfl,_,rfl,_,rfl,C,_,rfl,(by rw [<- yC]; exact .inr ⟨Dd ps,p.1,kb,.inr ⟨o,xn _ _ KI⟩,rfl,TQ,rfl⟩),Bo,fun t ht=>?_⟩
     have tE:A9 lW (upd lW t (.tup [.ref kb,.int p.2])):=A9.upd ht
     have RZ:(upd lW t (.tup [.ref kb,.int p.2])) t = some (.tup [.ref kb,.int p.2]):=A5
     generalize upd lW t (.tup [.ref kb,.int p.2]) = uY at tE RZ ⊢
     have qF:=tE _ _ yE
     have lM:=dC.1
     have jU:=(List.getElem?_eq_some_iff.mp hp).1
     rw [List.length_take] at lM
     have FN:Af uY (upd uY D (.lst (zs ++ [.ref t]))):=Af.lst qF
     refine hQ _ _ qF (B7 (by omega)) ⟨A5,(xn.trans tE).new hD,?_⟩
     rw [List.take_add_one,hp]
     exact (dC.imp fun _ _ z=>PQ.up ((Af.of tE).trans FN) z).append (Ad.one ⟨t,kb,rfl,FN _ _ RZ,(TQ.up (Af.of tE)).up FN⟩)
    rintro zs lW ⟨yE,xn,dC⟩
    have jJ:=xn _ _ KI
    have hle:Cd (.dT (Dd ps)) = ps.length:=gR
    rw [hle,List.take_length] at dC
    have FN:Af lW (upd lW C (.dT (Dd ps))):=Md jJ (fun _ e=>nomatch e)
    refine ⟨o,jJ,_,rfl,Bo,fun t ht=>?_⟩
    have tE:A9 H (upd lW C (.dT (Dd ps))):=(s9.trans xn).new hC
    have qF:(upd lW C (.dT (Dd ps))) D = some (.lst zs):=(Ac RV).trans yE
    generalize upd lW C (.dT (Dd ps)) = uY at FN tE qF ht ⊢
    have aU:A9 uY (upd uY t (.tup [.ref D,.bl br])):=A9.upd ht
    have ers:rs = []:=List.length_eq_zero_iff.mp FE
    rw [ers] at uO
    exact q t D br zs ps _ (tE.trans aU) A5 (aU _ _ qF) (dC.imp fun _ _ z=>PQ.up (FN.trans (Af.of aU)) z) fX uO
  ·rintro σ H5 Q1 Q2 hQ z
   obtain ⟨v,e1,n1,z⟩ := z
   refine ⟨v,e1,n1,fun p hp=>?_⟩
   obtain ⟨d1,d2,r1,r2,r3,v2,e2,z⟩ := z p hp
   exact ⟨d1,d2,r1,r2,r3,v2,e2,hQ _ _ z⟩
def Pq (K:PySem.W.Frag):Sp:=fun vs H Q _=>Yx fun (a:Addr) (ns:List Int)=>Ij (vs = [.ref a]) (Ba K H a (ns.map V.int)) (ns.length <= 63) ((∀ z ∈ ns,intBits z <= 2 ^ 20)) (∀ H',Q (.bl true) H')
theorem fi {fd qG qH qI qJ vY:FuncData} (T:Txt K mg ad) (F:Fy K "law" "law" I8 ad.eR fd) (qK:Aj P w K mg base Bm 2 ad.cS qG ["script"] (Sh K)) (qL:Az K qG ["script"] []) (qM:Aj P w K mg base Bm 3 ad.cW qH ["hall","script"] (Tl K)) (qN:Az K qH ["hall","script"] []) (qO:Aj P w K mg base Bm 6 ad.cL qI ["hall","paper"] (Ss K)) (qP:Az K qI ["hall","paper"] []) (qQ:Aj P w K mg base Bm 8 ad.cP qJ ["hall"] (Sg K)) (qR:Az K qJ ["hall"] []) (yF:Aj P w K mg base Bm 8 ad.gG vY ["hall"] (Z1 K)) (yG:Az K vY ["hall"] []):Aj P w K mg base Bm 9 ad.eR fd ["script"] (Pq K):=by
 refine F.ok Lb (fun vs H Q E h=>?_) (fun aM A outer s H vs Q E hr h=>?_)
 ·rcases h with ⟨a,ns,rfl,hS,hlen,hbig,q⟩ <;> rfl
 ·obtain ⟨a,ns,rfl,hS,hlen,hbig,q⟩ := h
  refine ⟨_,(A7 (Ap (i:=1) Lb.nd rfl (Or.inl rfl) (Ag qK (hr.mono (by decide)) rfl T.HS T.lH qL .nil B0 (A0 (pv 0) A6))) (A7 (U3 (Ag qM (hr.mono (by decide)) rfl T.HW T.lK qN .nil B0 (A0 (pv 1) (A0 (pv 0) A6))) (Ep K (n:=2) rfl (Bu (Al (i:=2) Lb.nd rfl (Or.inl rfl)) (Bu (Al (i:=3) Lb.nd rfl (Or.inl rfl)) Ek)))) (A7 (Ap (i:=4) Lb.nd rfl (Or.inl rfl) (Ag qO (hr.mono (by decide)) rfl T.HK T.kZ qP .nil B0 (A0 (pv 1) (A0 (C8 Ph (by rfl) T.oB boot_list (A0 (pv 2) A6)) A6)))) (A7 (Cn (PW.pt (U2 (Fm (Ee (B9 (Ob K) (by rfl) T.dJ boot_isinstance (A0 (pv 4) (A0 (cr (by rfl) T.xF boot_bool) A6))))) (P2 (Bc Gf (pv 4) (pv 3) (Be _))))) (Ab (Aq Ft)) Ax) (Ab (Aq (gw (pv 3) (P1 (c0 (B9 (Ob K) (by rfl) T.dJ boot_isinstance (A0 (Q9 (Ag qQ (hr.mono (by decide)) rfl T.HP T.lD qR .nil B0 (A0 (pv 1) A6))) (A0 (cr (by rfl) T.oB boot_list) A6))) (P1 (Fo L8 (Q9 (Ag yF (hr.mono (by decide)) rfl T.XF T.tU yG .nil B0 (A0 (pv 1) A6))) D3 (Be _)))))))))))),?_⟩
  refine ⟨_,rfl,a,ns,rfl,hS,fun hp ws cm H1 s1 ha aC=>?_⟩
  have sH:=aC.2.2.1
  have h8:=aC.2.2.2.1
  have aN:∀ x ∈ ws,1 <= x:=fun x hx=>(aC.1 x hx).1
  refine ⟨_,rfl,_,rfl,hp,a,ws,cm,ns,rfl,ha,aC,s1.seq hS,fun t l br us ps H2 s2 et el eF hpq uO=>?_⟩
  refine ⟨t,_,rfl,C7.of et,rfl,_,_,rfl,_,_,rfl,rfl,?_⟩
  refine ⟨_,rfl,_,rfl,l,_,rfl,.inl (Ba.of el),fun p1 xS=>?_⟩
  have s3:A9 H2 (upd H2 p1 (.lst us)):=A9.upd xS
  have e3:(upd H2 p1 (.lst us)) p1 = some (.lst us):=A5
  generalize upd H2 p1 (.lst us) = H3 at s3 e3 ⊢
  have ha3:=(ha.same s2).same s3
  refine ⟨hp,p1,ws,cm,us,ps,rfl,ha3,sH,h8,aN,e3,eF.imp (fun _ _ y=>PQ.up (Af.of s3) y),hpq.good aC,fun r H4 s4 iK=>?_⟩
  have hrb:r = !br:=by
   rw [uO.lets hpq] at iK
   cases r <;> cases br
   ·exact absurd (iK.mpr rfl) (by decide)
   ·rfl
   ·rfl
   ·exact absurd (iK.mp rfl) (by decide)
  have ha4:=ha3.same s4
  refine ⟨_,rfl,_,"bool","bool",true,rfl,.bl _,P3,_,rfl,(fun d H'=>d = false /\ H' = H4),(fun h=>by simp at h),(fun _=>⟨_,rfl,_,rfl,rfl,_,rfl,?_,rfl⟩),fun d H5 hd=>?_⟩
  ·rw [hrb]
   cases br <;> rfl
  obtain ⟨rfl,rfl⟩ := hd
  refine Ix rfl ?_
  cases br with
  | true=>exact ⟨_,rfl,_,(fun d H'=>d = true),rfl,(fun _=>rfl),(fun h=>by simp at h),fun d H' hd=>by subst hd; exact q _⟩
  | false =>
   have vZ:Uj ws cm ps:=(uO.lets hpq).mpr rfl
   refine ⟨_,rfl,_,(fun d H'=>d = true),rfl,(fun h=>by simp at h),(fun _=>?_),fun d H' hd=>by subst hd; exact q _⟩
   refine ⟨(fun v H6=>A9 H5 H6 /\ ∃ (p:Addr) (us:List V),v = .ref p /\ H6 p = some (.lst us)),⟨_,rfl,hp,ws,cm,rfl,ha4,aC,(fun tv H6 s6 hr _ hv=>?_),fun p us ps tv H6 s6 hpn ep hr _ hv hk hall=>⟨s6,p,us,rfl,ep⟩⟩,fun v6 H6 hv6=>?_⟩
   ·rw [F4.safe vZ hr] at hv
    cases hv
   obtain ⟨s6,p,us6,rfl,ep⟩ := hv6
   refine ⟨_,"list","list",true,rfl,.lst ep,Pd,_,(fun d H'=>d = true),rfl,(fun h=>by simp at h),(fun _=>?_),fun d H' hd=>⟨_,rfl,hd⟩⟩
   refine ⟨(fun v H7=>v = .aL),⟨_,rfl,hp,ws,cm,rfl,ha4.same s6,aC,(fun tv H7 s7 hr _ hv=>rfl),fun p us ps tv H7 s7 hpn ep hr _ hv hb hall=>?_⟩,fun v7 H7 TH=>?_⟩
   ·rw [F4.safe vZ hr] at hv
    cases hv
   subst TH
   exact ⟨rfl,_,rfl,rfl⟩
end
theorem all_mk {l : PySem.W.OpenLaw} {w : World} {K : PySem.W.Frag} {h : Heap} {mg : Str -> Option Value} {fa : Addr} (X : K.In h) (G : h.Ns mainGlobals mg) (hfa : mg "law" = some (.ref fa)) {bL bM fJ fZ gA gB bI bJ fK cH cJ cK cL gC cM gD bT bU cN cO gE cP cQ gF gG bV cR cS cT cU cV cW eR : Addr} {yH yI yJ yK KJ KL KN KO KP KQ KR KS yL kI yM yN KU KW yO yP yQ yR yS yT yU yV KY KZ yW yX LA LB yY yZ z5 z6 z7 z8 z9 za LC LD zb zc zd ze LF LG LH LI zf zg zh zi zj zk zl zm zo zp zq zr zt zu zv qS : Option Addr} {zw zx LJ LK LL LM zy zz LN zA zB zC zD LO zE LP zF zG zH zI LQ zJ zK LR LS zL zM zN zO zP zQ zR zS : Array (Option Value)} {zT zU zV zW qT zX zY zZ AA AB qU AD LU LV LW LX w4 LY LZ MA MB MC w5 MD ME MF MG MJ w6 MK ML MM MN MO w8 MP AE kJ kK kL iC kM AF AG AH AI qV AJ MQ MR MS MT wc MU AK AL AM AN qW AO AQ AR AS AU qX AV AW AX AY AZ qY BA BB BC BD BE qZ BF MV MW MX MY we MZ BG BH BI BJ rA BK NA NB NC ND wg NF BL BM BN BO rB BP BQ BR BS BU rC BV BW BX BZ CA rD CB CC CD CF CG rE CH NG NH NI NJ wj NK CI CJ CK CL rF CM CN CO CP CQ rG CS NL NM NN NO wk NP NQ NR NS NT wm NU CT CU CV CW rH CY CZ DA DB DC rJ DD DE DF DG DH rK DI DJ DK DL DM rL DN DP DQ DR DS rM DT DU DV DW DX rN DY DZ EA EB EC rO ED EE rP rQ rR kN rS : Value} {iD : Addr} {EF : Value} {EG : Option Addr} {EH : Nat} {EI : Array (Option Value)}
  (NV:PySem.W.nsIn K mainGlobals "beginning" = some (some (.ref bL))) (NW:K.lookup bL = some ⟨zT,yH,.func (PySem.W.fnOf "beginning" "beginning" (Ar O2) (Am O2) (A8 O2) .none zU zV zW yI qT zX),zw⟩) (NX:PySem.W.codeIn K qT "beginning" = true) (eS:PySem.W.keepIn K (.ref bL) = true)
  (NY:PySem.W.nsIn K mainGlobals "may_lose" = some (some (.ref bM))) (NZ:K.lookup bM = some ⟨zY,yJ,.func (PySem.W.fnOf "may_lose" "may_lose" (Ar Nh) (Am Nh) (A8 Nh) .none zZ AA AB yK qU AD),zx⟩) (OA:PySem.W.codeIn K qU "may_lose" = true) (gM:PySem.W.keepIn K (.ref bM) = true)
  (a_x8:PySem.W.nsIn K mainGlobals "is_listener" = some (some (.ref fJ))) (l_x8:K.lookup fJ = some ⟨LU,KJ,.func (PySem.W.fnOf "is_listener" "is_listener" (Ar Ww) (Am Ww) (A8 Ww) .none LV LW LX KL w4 LY),LJ⟩) (c_x8:PySem.W.codeIn K w4 "is_listener" = true) (nX:PySem.W.keepIn K (.ref fJ) = true)
  (a_x1:PySem.W.nsIn K mainGlobals "refuse_wrong_turn" = some (some (.ref fZ))) (l_x1:K.lookup fZ = some ⟨LZ,KN,.func (PySem.W.fnOf "refuse_wrong_turn" "refuse_wrong_turn" (Ar Wl) (Am Wl) (A8 Wl) .none MA MB MC KO w5 MD),LK⟩) (c_x1:PySem.W.codeIn K w5 "refuse_wrong_turn" = true) (tM:PySem.W.keepIn K (.ref fZ) = true)
  (a_x9:PySem.W.nsIn K mainGlobals "left_behind" = some (some (.ref gA))) (l_x9:K.lookup gA = some ⟨ME,KP,.func (PySem.W.fnOf "left_behind" "left_behind" (Ar Te) (Am Te) (A8 Te) .none MF MG MJ KQ w6 MK),LL⟩) (c_x9:PySem.W.codeIn K w6 "left_behind" = true) (tO:PySem.W.keepIn K (.ref gA) = true)
  (a_x4:PySem.W.nsIn K mainGlobals "quiet_behind" = some (some (.ref gB))) (l_x4:K.lookup gB = some ⟨ML,KR,.func (PySem.W.fnOf "quiet_behind" "quiet_behind" (Ar Xd) (Am Xd) (A8 Xd) .none MM MN MO KS w8 MP),LM⟩) (c_x4:PySem.W.codeIn K w8 "quiet_behind" = true) (tP:PySem.W.keepIn K (.ref gB) = true)
  (OB:PySem.W.nsIn K mainGlobals "after" = some (some (.ref bI))) (OC:K.lookup bI = some ⟨AE,yL,.func (PySem.W.fnOf "after" "after" (Ar Fu) (Am Fu) (A8 Fu) (.ref iD) kJ kK kL kI iC kM),zy⟩) (OD:PySem.W.codeIn K iC "after" = true) (fL:PySem.W.keepIn K (.ref bI) = true) (wq:K.lookup iD = some ⟨EF,EG,.seq #[Value.bool false] EH,EI⟩)
  (OE:PySem.W.nsIn K mainGlobals "all_behind" = some (some (.ref bJ))) (OF:K.lookup bJ = some ⟨AF,yM,.func (PySem.W.fnOf "all_behind" "all_behind" (Ar Ni) (Am Ni) (A8 Ni) .none AG AH AI yN qV AJ),zz⟩) (OG:PySem.W.codeIn K qV "all_behind" = true) (fM:PySem.W.keepIn K (.ref bJ) = true)
  (a_x5:PySem.W.nsIn K mainGlobals "quiet_values" = some (some (.ref fK))) (l_x5:K.lookup fK = some ⟨MQ,KU,.func (PySem.W.fnOf "quiet_values" "quiet_values" (Ar Xa) (Am Xa) (A8 Xa) .none MR MS MT KW wc MU),LN⟩) (c_x5:PySem.W.codeIn K wc "quiet_values" = true) (nY:PySem.W.keepIn K (.ref fK) = true)
  (OH:PySem.W.nsIn K mainGlobals "how_many" = some (some (.ref cH))) (OI:K.lookup cH = some ⟨AK,yO,.func (PySem.W.fnOf "how_many" "how_many" (Ar O7) (Am O7) (A8 O7) .none AL AM AN yP qW AO),zA⟩) (OJ:PySem.W.codeIn K qW "how_many" = true) (kW:PySem.W.keepIn K (.ref cH) = true)
  (OK:PySem.W.nsIn K mainGlobals "all_left" = some (some (.ref cJ))) (OL:K.lookup cJ = some ⟨AQ,yQ,.func (PySem.W.fnOf "all_left" "all_left" (Ar Lm) (Am Lm) (A8 Lm) .none AR AS AU yR qX AV),zB⟩) (OM:PySem.W.codeIn K qX "all_left" = true) (kX:PySem.W.keepIn K (.ref cJ) = true)
  (ON:PySem.W.nsIn K mainGlobals "standings" = some (some (.ref cK))) (OO:K.lookup cK = some ⟨AW,yS,.func (PySem.W.fnOf "standings" "standings" (Ar Lh) (Am Lh) (A8 Lh) .none AX AY AZ yT qY BA),zC⟩) (OP:PySem.W.codeIn K qY "standings" = true) (kY:PySem.W.keepIn K (.ref cK) = true)
  (OQ:PySem.W.nsIn K mainGlobals "lets_kept" = some (some (.ref cL))) (OS:K.lookup cL = some ⟨BB,yU,.func (PySem.W.fnOf "lets_kept" "lets_kept" (Ar Nw) (Am Nw) (A8 Nw) .none BC BD BE yV qZ BF),zD⟩) (OT:PySem.W.codeIn K qZ "lets_kept" = true) (kZ:PySem.W.keepIn K (.ref cL) = true)
  (a_x2:PySem.W.nsIn K mainGlobals "calls_by_standing" = some (some (.ref gC))) (l_x2:K.lookup gC = some ⟨MV,KY,.func (PySem.W.fnOf "calls_by_standing" "calls_by_standing" (Ar Wc) (Am Wc) (A8 Wc) .none MW MX MY KZ we MZ),LO⟩) (c_x2:PySem.W.codeIn K we "calls_by_standing" = true) (tQ:PySem.W.keepIn K (.ref gC) = true)
  (OU:PySem.W.nsIn K mainGlobals "ways_to" = some (some (.ref cM))) (OV:K.lookup cM = some ⟨BG,yW,.func (PySem.W.fnOf "ways_to" "ways_to" (Ar N4) (Am N4) (A8 N4) .none BH BI BJ yX rA BK),zE⟩) (OW:PySem.W.codeIn K rA "ways_to" = true) (lA:PySem.W.keepIn K (.ref cM) = true)
  (a_x0:PySem.W.nsIn K mainGlobals "without_calls_left" = some (some (.ref gD))) (l_x0:K.lookup gD = some ⟨NA,LA,.func (PySem.W.fnOf "without_calls_left" "without_calls_left" (Ar Wk) (Am Wk) (A8 Wk) .none NB NC ND LB wg NF),LP⟩) (c_x0:PySem.W.codeIn K wg "without_calls_left" = true) (tR:PySem.W.keepIn K (.ref gD) = true)
  (OX:PySem.W.nsIn K mainGlobals "ranks" = some (some (.ref bT))) (OY:K.lookup bT = some ⟨BL,yY,.func (PySem.W.fnOf "ranks" "ranks" (Ar Ku) (Am Ku) (A8 Ku) .none BM BN BO yZ rB BP),zF⟩) (OZ:PySem.W.codeIn K rB "ranks" = true) (jC:PySem.W.keepIn K (.ref bT) = true)
  (PB:PySem.W.nsIn K mainGlobals "worth" = some (some (.ref bU))) (PD:K.lookup bU = some ⟨BQ,z5,.func (PySem.W.fnOf "worth" "worth" (Ar Oe) (Am Oe) (A8 Oe) .none BR BS BU z6 rC BV),zG⟩) (PF:PySem.W.codeIn K rC "worth" = true) (gN:PySem.W.keepIn K (.ref bU) = true)
  (PH:PySem.W.nsIn K mainGlobals "call_worth" = some (some (.ref cN))) (PJ:K.lookup cN = some ⟨BW,z7,.func (PySem.W.fnOf "call_worth" "call_worth" (Ar Lx) (Am Lx) (A8 Lx) .none BX BZ CA z8 rD CB),zH⟩) (PK:PySem.W.codeIn K rD "call_worth" = true) (lB:PySem.W.keepIn K (.ref cN) = true)
  (PL:PySem.W.nsIn K mainGlobals "best_call" = some (some (.ref cO))) (PM:K.lookup cO = some ⟨CC,z9,.func (PySem.W.fnOf "best_call" "best_call" (Ar M8) (Am M8) (A8 M8) .none CD CF CG za rE CH),zI⟩) (PN:PySem.W.codeIn K rE "best_call" = true) (lC:PySem.W.keepIn K (.ref cO) = true)
  (a_x6:PySem.W.nsIn K mainGlobals "worst_answer" = some (some (.ref gE))) (l_x6:K.lookup gE = some ⟨NG,LC,.func (PySem.W.fnOf "worst_answer" "worst_answer" (Ar Wd) (Am Wd) (A8 Wd) .none NH NI NJ LD wj NK),LQ⟩) (c_x6:PySem.W.codeIn K wj "worst_answer" = true) (tS:PySem.W.keepIn K (.ref gE) = true)
  (PR:PySem.W.nsIn K mainGlobals "kept_paper" = some (some (.ref cP))) (PU:K.lookup cP = some ⟨CI,zb,.func (PySem.W.fnOf "kept_paper" "kept_paper" (Ar Of) (Am Of) (A8 Of) .none CJ CK CL zc rF CM),zJ⟩) (PV:PySem.W.codeIn K rF "kept_paper" = true) (lD:PySem.W.keepIn K (.ref cP) = true)
  (PX:PySem.W.nsIn K mainGlobals "all_answers" = some (some (.ref cQ))) (PY:K.lookup cQ = some ⟨CN,zd,.func (PySem.W.fnOf "all_answers" "all_answers" (Ar Ma) (Am Ma) (A8 Ma) .none CO CP CQ ze rG CS),zK⟩) (PZ:PySem.W.codeIn K rG "all_answers" = true) (lE:PySem.W.keepIn K (.ref cQ) = true)
  (a_x3:PySem.W.nsIn K mainGlobals "unbroken_behind" = some (some (.ref gF))) (l_x3:K.lookup gF = some ⟨NL,LF,.func (PySem.W.fnOf "unbroken_behind" "unbroken_behind" (Ar Qs) (Am Qs) (A8 Qs) .none NM NN NO LG wk NP),LR⟩) (c_x3:PySem.W.codeIn K wk "unbroken_behind" = true) (tT:PySem.W.keepIn K (.ref gF) = true)
  (a_x7:PySem.W.nsIn K mainGlobals "broken_paper" = some (some (.ref gG))) (l_x7:K.lookup gG = some ⟨NQ,LH,.func (PySem.W.fnOf "broken_paper" "broken_paper" (Ar Tz) (Am Tz) (A8 Tz) .none NR NS NT LI wm NU),LS⟩) (c_x7:PySem.W.codeIn K wm "broken_paper" = true) (tU:PySem.W.keepIn K (.ref gG) = true)
  (QA:PySem.W.nsIn K mainGlobals "_law_cell" = some (some (.ref bV))) (QB:K.lookup bV = some ⟨CT,zf,.func (PySem.W.fnOf "_law_cell" "_law_cell" (Ar N5) (Am N5) (A8 N5) .none CU CV CW zg rH CY),zL⟩) (QC:PySem.W.codeIn K rH "_law_cell" = true) (fN:PySem.W.keepIn K (.ref bV) = true)
  (QD:PySem.W.nsIn K mainGlobals "_law_wide" = some (some (.ref cR))) (QE:K.lookup cR = some ⟨CZ,zh,.func (PySem.W.fnOf "_law_wide" "_law_wide" (Ar Ny) (Am Ny) (A8 Ny) .none DA DB DC zi rJ DD),zM⟩) (QF:PySem.W.codeIn K rJ "_law_wide" = true) (lG:PySem.W.keepIn K (.ref cR) = true)
  (QG:PySem.W.nsIn K mainGlobals "_law_hall" = some (some (.ref cS))) (QH:K.lookup cS = some ⟨DE,zj,.func (PySem.W.fnOf "_law_hall" "_law_hall" (Ar He) (Am He) (A8 He) .none DF DG DH zk rK DI),zN⟩) (QI:PySem.W.codeIn K rK "_law_hall" = true) (lH:PySem.W.keepIn K (.ref cS) = true)
  (QJ:PySem.W.nsIn K mainGlobals "_law_behind" = some (some (.ref cT))) (QK:K.lookup cT = some ⟨DJ,zl,.func (PySem.W.fnOf "_law_behind" "_law_behind" (Ar Ng) (Am Ng) (A8 Ng) .none DK DL DM zm rL DN),zO⟩) (QL:PySem.W.codeIn K rL "_law_behind" = true) (jD:PySem.W.keepIn K (.ref cT) = true)
  (QM:PySem.W.nsIn K mainGlobals "_law_next" = some (some (.ref cU))) (QN:K.lookup cU = some ⟨DP,zo,.func (PySem.W.fnOf "_law_next" "_law_next" (Ar O4) (Am O4) (A8 O4) .none DQ DR DS zp rM DT),zP⟩) (QO:PySem.W.codeIn K rM "_law_next" = true) (lI:PySem.W.keepIn K (.ref cU) = true)
  (QP:PySem.W.nsIn K mainGlobals "_law_who" = some (some (.ref cV))) (QQ:K.lookup cV = some ⟨DU,zq,.func (PySem.W.fnOf "_law_who" "_law_who" (Ar L9) (Am L9) (A8 L9) .none DV DW DX zr rN DY),zQ⟩) (QR:PySem.W.codeIn K rN "_law_who" = true) (lJ:PySem.W.keepIn K (.ref cV) = true)
  (QS:PySem.W.nsIn K mainGlobals "_law_plan" = some (some (.ref cW))) (QT:K.lookup cW = some ⟨DZ,zt,.func (PySem.W.fnOf "_law_plan" "_law_plan" (Ar Kx) (Am Kx) (A8 Kx) .none EA EB EC zu rO ED),zR⟩) (QU:PySem.W.codeIn K rO "_law_plan" = true) (lK:PySem.W.keepIn K (.ref cW) = true)
  (wu:PySem.W.nsIn K mainGlobals "law" = some (some (.ref eR))) (QV:K.lookup eR = some ⟨EE,zv,.func (PySem.W.fnOf "law" "law" (Ar I8) (Am I8) (A8 I8) .none rP rQ rR qS kN rS),zS⟩) (QW:PySem.W.codeIn K kN "law" = true) (oA:PySem.W.keepIn K (.ref eR) = true)
  {dR:Nat} (eM:PySem.W.nsIn K mainGlobals "MOST_STANDINGS" = some (some (.int 3000 dR))) (QX:PySem.W.nsIn K mainGlobals "len" = some none) (QY:PySem.W.nsIn K mainGlobals "max" = some none) (uS:PySem.W.nsIn K mainGlobals "tuple" = some none) (uT:PySem.W.nsIn K mainGlobals "range" = some none) (EJ:PySem.W.nsIn K mainGlobals "dict" = some none) (QZ:PySem.W.nsIn K mainGlobals "min" = some none) (rT:PySem.W.nsIn K mainGlobals "sorted" = some none) (jK:PySem.W.nsIn K mainGlobals "enumerate" = some none) (RA:PySem.W.nsIn K mainGlobals "int" = some none) (EK:PySem.W.nsIn K mainGlobals "list" = some none) (iE:PySem.W.nsIn K mainGlobals "isinstance" = some none) (EL:PySem.W.nsIn K mainGlobals "bool" = some none)   :
  ∃ fd:FuncData,(∀ (s:Shared) (v:Value),BindsTo s fd ⟨[v],[]⟩ [("script",v)]) /\ ∀ base:Heap,K.In base -> base.Ns mainGlobals mg -> Aj l.prog w K mg base Bm 9 fa fd ["script"] (Pq K):=by
 have e:=hfa.symm.trans (PySem.W.mg_of X G wu)
 cases e
 have T:Txt K mg ⟨bL,bM,fJ,fZ,gA,gB,bI,bJ,fK,cH,cJ,cK,cL,gC,cM,gD,bT,bU,cN,cO,gE,cP,cQ,gF,gG,bV,cR,cS,cT,cU,cV,cW,fa⟩ := ⟨PySem.W.mg_of X G NV,eS,PySem.W.mg_of X G NY,gM,PySem.W.mg_of X G a_x8,nX,PySem.W.mg_of X G a_x1,tM,PySem.W.mg_of X G a_x9,tO,PySem.W.mg_of X G a_x4,tP,PySem.W.mg_of X G OB,fL,PySem.W.mg_of X G OE,fM,PySem.W.mg_of X G a_x5,nY,PySem.W.mg_of X G OH,kW,PySem.W.mg_of X G OK,kX,PySem.W.mg_of X G ON,kY,PySem.W.mg_of X G OQ,kZ,PySem.W.mg_of X G a_x2,tQ,PySem.W.mg_of X G OU,lA,PySem.W.mg_of X G a_x0,tR,PySem.W.mg_of X G OX,jC,PySem.W.mg_of X G PB,gN,PySem.W.mg_of X G PH,lB,PySem.W.mg_of X G PL,lC,PySem.W.mg_of X G a_x6,tS,PySem.W.mg_of X G PR,lD,PySem.W.mg_of X G PX,lE,PySem.W.mg_of X G a_x3,tT,PySem.W.mg_of X G a_x7,tU,PySem.W.mg_of X G QA,fN,PySem.W.mg_of X G QD,lG,PySem.W.mg_of X G QG,lH,PySem.W.mg_of X G QJ,jD,PySem.W.mg_of X G QM,lI,PySem.W.mg_of X G QP,lJ,PySem.W.mg_of X G QS,lK,PySem.W.mg_of X G wu,oA,PySem.W.mg_none_of X G QX,PySem.W.mg_none_of X G QY,PySem.W.mg_none_of X G uS,PySem.W.mg_none_of X G uT,PySem.W.mg_none_of X G EJ,PySem.W.mg_none_of X G QZ,PySem.W.mg_none_of X G rT,PySem.W.mg_none_of X G jK,PySem.W.mg_none_of X G RA,PySem.W.mg_none_of X G EK,PySem.W.mg_none_of X G iE,PySem.W.mg_none_of X G EL,⟨_,PySem.W.mg_of X G eM⟩⟩
 have wx:=Bd (st:=O2) NW NX eS
 have wy:=Bd (st:=Nh) NZ OA gM
 have RB:=Bd (st:=Ww) l_x8 c_x8 nX
 have RC:=Bd (st:=Wl) l_x1 c_x1 tM
 have RE:=Bd (st:=Te) l_x9 c_x9 tO
 have RF:=Bd (st:=Xd) l_x4 c_x4 tP
 have RG:a9 K "after" "after" Fu bI _:=⟨⟨_,_,_,_,_,_,_,_,_,_,rfl,OC,OD⟩⟩
 have wz:=Bd (st:=Ni) OF OG fM
 have RH:=Bd (st:=Xa) l_x5 c_x5 nY
 have wA:=Bd (st:=O7) OI OJ kW
 have wB:=Bd (st:=Lm) OL OM kX
 have wC:=Bd (st:=Lh) OO OP kY
 have wD:=Bd (st:=Nw) OS OT kZ
 have RI:=Bd (st:=Wc) l_x2 c_x2 tQ
 have wF:=Bd (st:=N4) OV OW lA
 have RJ:=Bd (st:=Wk) l_x0 c_x0 tR
 have wG:=Bd (st:=Ku) OY OZ jC
 have wH:=Bd (st:=Oe) PD PF gN
 have wI:=Bd (st:=Lx) PJ PK lB
 have wJ:=Bd (st:=M8) PM PN lC
 have RK:=Bd (st:=Wd) l_x6 c_x6 tS
 have wK:=Bd (st:=Of) PU PV lD
 have wL:=Bd (st:=Ma) PY PZ lE
 have RL:=Bd (st:=Qs) l_x3 c_x3 tT
 have RM:=Bd (st:=Tz) l_x7 c_x7 tU
 have wM:=Bd (st:=N5) QB QC fN
 have wN:=Bd (st:=Ny) QE QF lG
 have wO:=Bd (st:=He) QH QI lH
 have wQ:=Bd (st:=Ng) QK QL jD
 have wR:=Bd (st:=O4) QN QO lI
 have wU:=Bd (st:=L9) QQ QR lJ
 have wV:=Bd (st:=Kx) QT QU lK
 have RN:=Bd (st:=I8) QV QW oA
 have cD:=wx.binds (ps:=["hall"]) fun _ _ _ _ _ _ us hl=>by obtain ⟨_,rfl⟩ := Ji hl; rfl
 have dN:=wy.binds (ps:=["hall","standing"]) fun _ _ _ _ _ _ us hl=>by obtain ⟨_,_,rfl⟩ := Qr hl; rfl
 have mH:=RB.binds (ps:=["hall","who"]) fun _ _ _ _ _ _ us hl=>by obtain ⟨_,_,rfl⟩ := Qr hl; rfl
 have xK:=RC.binds (ps:=["hall","standing","who","lost"]) fun _ _ _ _ _ _ us hl=>by obtain ⟨_,_,_,_,rfl⟩ := Vq hl; rfl
 have xN:=RE.binds (ps:=["hall","standing","who","lost"]) fun _ _ _ _ _ _ us hl=>by obtain ⟨_,_,_,_,rfl⟩ := Vq hl; rfl
 have xP:=RF.binds (ps:=["hall","standing","lost"]) fun _ _ _ _ _ _ us hl=>by obtain ⟨_,_,_,rfl⟩ := Q3 hl; rfl
 have dQ:Az K (PySem.W.fnOf "after" "after" (Ar Fu) (Am Fu) (A8 Fu) (.ref iD) kJ kK kL kI iC kM) ["hall","standing","who","lost"] []:=fun s us hK hl=>by
  have h4:us.length = 4:=by simpa using hl
  obtain ⟨_,_,_,_,rfl⟩ := Vq h4
  exact BindsTo.of_defaults rfl (hK _ _ wq) rfl rfl rfl
 have aO:Az K (PySem.W.fnOf "after" "after" (Ar Fu) (Am Fu) (A8 Fu) (.ref iD) kJ kK kL kI iC kM) ["hall","standing","who","lost"] [Value.bool false]:=fun s us hK hl=>by
  have h4:us.length = 3:=by simpa using hl
  obtain ⟨_,_,_,rfl⟩ := Q3 h4
  exact BindsTo.of_defaults rfl (hK _ _ wq) rfl rfl rfl
 have bO:=wz.binds (ps:=["hall","standing","who"]) fun _ _ _ _ _ _ us hl=>by obtain ⟨_,_,_,rfl⟩ := Q3 hl; rfl
 have mK:=RH.binds (ps:=["hall"]) fun _ _ _ _ _ _ us hl=>by obtain ⟨_,rfl⟩ := Ji hl; rfl
 have oM:=wA.binds (ps:=["hall"]) fun _ _ _ _ _ _ us hl=>by obtain ⟨_,rfl⟩ := Ji hl; rfl
 have oJ:=wB.binds (ps:=["waits"]) fun _ _ _ _ _ _ us hl=>by obtain ⟨_,rfl⟩ := Ji hl; rfl
 have oP:=wC.binds (ps:=["hall"]) fun _ _ _ _ _ _ us hl=>by obtain ⟨_,rfl⟩ := Ji hl; rfl
 have qP:=wD.binds (ps:=["hall","paper"]) fun _ _ _ _ _ _ us hl=>by obtain ⟨_,_,rfl⟩ := Qr hl; rfl
 have ya:=RI.binds (ps:=["hall"]) fun _ _ _ _ _ _ us hl=>by obtain ⟨_,rfl⟩ := Ji hl; rfl
 have pA:=wF.binds (ps:=["pending"]) fun _ _ _ _ _ _ us hl=>by obtain ⟨_,rfl⟩ := Ji hl; rfl
 have yc:=RJ.binds (ps:=["pending","ways","ranked"]) fun _ _ _ _ _ _ us hl=>by obtain ⟨_,_,_,rfl⟩ := Q3 hl; rfl
 have gX:=wG.binds (ps:=["hall"]) fun _ _ _ _ _ _ us hl=>by obtain ⟨_,rfl⟩ := Ji hl; rfl
 have fS:=wH.binds (ps:=["table","behind"]) fun _ _ _ _ _ _ us hl=>by obtain ⟨_,_,rfl⟩ := Qr hl; rfl
 have pF:=wI.binds (ps:=["hall","table","standing","who"]) fun _ _ _ _ _ _ us hl=>by obtain ⟨_,_,_,_,rfl⟩ := Vq hl; rfl
 have pI:=wJ.binds (ps:=["hall","table","standing"]) fun _ _ _ _ _ _ us hl=>by obtain ⟨_,_,_,rfl⟩ := Q3 hl; rfl
 have yu:=RK.binds (ps:=["hall","table","standing","who"]) fun _ _ _ _ _ _ us hl=>by obtain ⟨_,_,_,_,rfl⟩ := Vq hl; rfl
 have qR:=wK.binds (ps:=["hall"]) fun _ _ _ _ _ _ us hl=>by obtain ⟨_,rfl⟩ := Ji hl; rfl
 have pP:=wL.binds (ps:=["hall","table","standing"]) fun _ _ _ _ _ _ us hl=>by obtain ⟨_,_,_,rfl⟩ := Q3 hl; rfl
 have yw:=RL.binds (ps:=["hall","standing","answers"]) fun _ _ _ _ _ _ us hl=>by obtain ⟨_,_,_,rfl⟩ := Q3 hl; rfl
 have yG:=RM.binds (ps:=["hall"]) fun _ _ _ _ _ _ us hl=>by obtain ⟨_,rfl⟩ := Ji hl; rfl
 have eZ:=wM.binds (ps:=["script","k"]) fun _ _ _ _ _ _ us hl=>by obtain ⟨_,_,rfl⟩ := Qr hl; rfl
 have pT:=wN.binds (ps:=["cells"]) fun _ _ _ _ _ _ us hl=>by obtain ⟨_,rfl⟩ := Ji hl; rfl
 have qL:=wO.binds (ps:=["script"]) fun _ _ _ _ _ _ us hl=>by obtain ⟨_,rfl⟩ := Ji hl; rfl
 have lP:=wQ.binds (ps:=["hall","standing","who","lost"]) fun _ _ _ _ _ _ us hl=>by obtain ⟨_,_,_,_,rfl⟩ := Vq hl; rfl
 have qC:=wR.binds (ps:=["hall","standing","who"]) fun _ _ _ _ _ _ us hl=>by obtain ⟨_,_,_,rfl⟩ := Q3 hl; rfl
 have qA:=wU.binds (ps:=["standing","cell"]) fun _ _ _ _ _ _ us hl=>by obtain ⟨_,_,rfl⟩ := Qr hl; rfl
 have qN:=wV.binds (ps:=["hall","script"]) fun _ _ _ _ _ _ us hl=>by obtain ⟨_,_,rfl⟩ := Qr hl; rfl
 refine ⟨PySem.W.fnOf "law" "law" (Ar I8) (Am I8) (A8 I8) .none rP rQ rR qS kN rS,fun s v=>.of_eq rfl,fun base _ _=>?_⟩
 have cC:Aj l.prog w K mg base Bm 1 _ _ ["hall"] (Le K):=gz T wx
 have dM:Aj l.prog w K mg base Bm 1 _ _ ["hall","standing"] (Ko K):=fc T wy
 have mG:Aj l.prog w K mg base Bm 1 _ _ ["hall","who"] (V9 K):=lh T RB
 have xJ:Aj l.prog w K mg base Bm 2 _ _ ["hall","standing","who","lost"] (Yf K):=jx T RC mG mH dM dN
 have xM:Aj l.prog w K mg base Bm 3 _ _ ["hall","standing","who","lost"] (Y1 K):=kd T RE xJ xK
 have xO:Aj l.prog w K mg base Bm 1 _ _ ["hall","standing","lost"] (Yv K):=kq T RF
 have cA:Aj l.prog w K mg base Bm 4 _ _ ["hall","standing","who","lost"] (Lu K):=ge T RG xM xN xO xP
 have bN:Aj l.prog w K mg base Bm 5 _ _ ["hall","standing","who"] (Jf K):=gj T wz dM dN cA dQ aO
 have mJ:Aj l.prog w K mg base Bm 1 _ _ ["hall"] (Vm K):=kg T RH
 have oK:Aj l.prog w K mg base Bm 2 _ _ ["hall"] (Sw K):=ft T wA mJ mK
 have oH:Aj l.prog w K mg base Bm 1 _ _ ["waits"] (Ti K):=fg T wB
 have oO:Aj l.prog w K mg base Bm 3 _ _ ["hall"] (Ug K):=fq T wC oH oJ oK oM mJ mK
 have qO:Aj l.prog w K mg base Bm 6 _ _ ["hall","paper"] (Ss K):=i6 T wD bN bO cC cD mG mH
 have y9:Aj l.prog w K mg base Bm 6 _ _ ["hall"] (Ya K):=lw T RI oO oP bN bO
 have oZ:Aj l.prog w K mg base Bm 1 _ _ ["pending"] (Tb K):=im T wF
 have yb:Aj l.prog w K mg base Bm 1 _ _ ["pending","ways","ranked"] (Zf K):=lg T RJ
 have gW:Aj l.prog w K mg base Bm 7 _ _ ["hall"] (Ow K):=gr T wG y9 ya oZ pA yb yc
 have fR:Aj l.prog w K mg base Bm 1 _ _ ["table","behind"] (Q6 K):=fu T wH
 have pE:Aj l.prog w K mg base Bm 6 _ _ ["hall","table","standing","who"] (Tf K):=f9 T wI fR fS bN bO
 have pH:Aj l.prog w K mg base Bm 7 _ _ ["hall","table","standing"] (U9 K):=ip T wJ pE pF
 have yt:Aj l.prog w K mg base Bm 5 _ _ ["hall","table","standing","who"] (Z4 K):=mo T RK fR fS cA dQ aO dM dN
 have qQ:Aj l.prog w K mg base Bm 8 _ _ ["hall"] (Sg K):=dm T wK gW gX cC cD pH pI bN bO
 have pO:Aj l.prog w K mg base Bm 6 _ _ ["hall","table","standing"] (Tm K):=j9 T wL yt yu
 have yv:Aj l.prog w K mg base Bm 5 _ _ ["hall","standing","answers"] (Xr K):=l8 T RL cA dQ aO
 have yF:Aj l.prog w K mg base Bm 8 _ _ ["hall"] (Z1 K):=mj T RM gW gX cC cD pO pP yv yw
 have eY:Aj l.prog w K mg base Bm 1 _ _ ["script","k"] (Q0 K):=ji T wM
 have pS:Aj l.prog w K mg base Bm 1 _ _ ["cells"] (Su K):=ff T wN
 have qK:Aj l.prog w K mg base Bm 2 _ _ ["script"] (Sh K):=ii T wO eY eZ pS pT
 have lO:Aj l.prog w K mg base Bm 1 _ _ ["hall","standing","who","lost"] (So K):=fz T wQ
 have qB:Aj l.prog w K mg base Bm 2 _ _ ["hall","standing","who"] (To K):=gi T wR lO lP
 have pZ:Aj l.prog w K mg base Bm 1 _ _ ["standing","cell"] (Sm K):=j7 T wU
 have qM:Aj l.prog w K mg base Bm 3 _ _ ["hall","script"] (Tl K):=fj T wV pZ qA qB qC eY eZ
 exact fi T RN qK qL qM qN qO qP qQ qR yF yG
theorem walk {l : PySem.W.OpenLaw} {q : Program} {loose : List Str} {XP : (Str -> Option Value) -> Heap -> Prop} {YP : World -> Heap -> Prop} {d : DefRec} {K : Params -> PySem.W.Frag} (hn : l.most = some 63) (VN : d.params.defaults = [])
  (hY:∀ (w:World) (h:Heap),YP w h -> (K w.params).In h)
  (F:∀ (w:World) (mg:Str -> Option Value) (fa:Addr) (h:Heap),(K w.params).In h -> h.Ns mainGlobals mg -> mg d.name = some (.ref fa) ->
   ∃ fd:FuncData,(∀ (s:Shared) (u:Value),BindsTo s fd ⟨[u],[]⟩ [("script",u)]) /\ ∀ base:Heap,(K w.params).In base -> base.Ns mainGlobals mg -> Aj l.prog w (K w.params) mg base Bm 9 fa fd ["script"] (Pq (K w.params))) :
  PySem.W.WalkO q loose XP YP l.row.toRowW d [] (fun f vs=>PySem.call f vs) :=
 L2.nJ (n:=63) (k:=9) (x := "script") (CX:=fun _=>Bm) (sp:=fun w=>Pq (K w.params)) hn (by decide) VN ⟨rfl,by decide,by decide⟩ hY F (fun _ _ a ns hl hb _ hS=>⟨a,ns,rfl,hS,hl,hb,fun _=>rfl⟩) fun _ _ _ _ _ z=>z
end Law
namespace PySem.W.Fast
theorem tw7059330783760202713:True:=trivial
theorem tw6747159934937440631:True:=trivial
theorem tw17326842019098670948:True:=trivial
theorem tw2243707121302373938:True:=trivial
theorem tw18101976790714845237:True:=trivial
theorem tw14559249433523650560:True:=trivial
theorem tw5520267865166454871:True:=trivial
theorem tw9315234996718446459:True:=trivial
theorem tw6096777296052585399:True:=trivial
theorem tw18190754250837998115:True:=trivial
theorem tw3290444642802265113:True:=trivial
theorem tw11892705671819857981:True:=trivial
theorem tw11965605324355792637:True:=trivial
theorem tw4806837096632471639:True:=trivial
theorem tw10818342622765677878:True:=trivial
theorem tw17907603117788978558:True:=trivial
theorem tw8982716856824862159:True:=trivial
theorem tw7939015855014499390:True:=trivial
theorem tw12159580924038991339:True:=trivial
theorem tw388501278391679124:True:=trivial
theorem tw11234005860003037309:True:=trivial
theorem tw12407874031397056282:True:=trivial
end PySem.W.Fast
open PySem PySem.W PyProof.Rows
set_option maxRecDepth 100000 in
set_option maxHeartbeats 0 in
theorem PySem.Challenge.cw_roundcall_k37_whole_own_plans_holds : PySem.Challenge.rw_roundcall_k37_whole_own_plans.Holds := by
 w_on; o_law; k_head; (case hw=>w_witness2)
 k_fill
 refine Law.walk (l:=PySem.Challenge.rw_roundcall_k37_whole_own_plans) rfl rfl (fun w h Y=>PySem.W.kIn_of Y) ?F
 case F =>
  intro w mg fa h KX G hmg
  refine' Law.all_mk KX G hmg ?_ ?_ ?_ ?_ ?_ ?_ ?_ ?_ ?_ ?_ ?_ ?_ ?_ ?_ ?_ ?_ ?_ ?_ ?_ ?_ ?_ ?_ ?_ ?_ ?_ ?_ ?_ ?_ ?_ ?_ ?_ ?_ ?_ ?_ ?_ ?_ ?_ ?_ ?_ ?_ ?_ ?_ ?_ ?_ ?_ ?_ ?_ ?_ ?_ ?_ ?_ ?_ ?_ ?_ ?_ ?_ ?_ ?_ ?_ ?_ ?_ ?_ ?_ ?_ ?_ ?_ ?_ ?_ ?_ ?_ ?_ ?_ ?_ ?_ ?_ ?_ ?_ ?_ ?_ ?_ ?_ ?_ ?_ ?_ ?_ ?_ ?_ ?_ ?_ ?_ ?_ ?_ ?_ ?_ ?_ ?_ ?_ ?_ ?_ ?_ ?_ ?_ ?_ ?_ ?_ ?_ ?_ ?_ ?_ ?_ ?_ ?_ ?_ ?_ ?_ ?_ ?_ ?_ ?_ ?_ ?_ ?_ ?_ ?_ ?_ ?_ ?_ ?_ ?_ ?_ ?_ ?_ ?_ ?_ ?_ ?_ ?_ ?_ ?_ ?_ ?_ ?_ ?_ ?_ ?_ ?_
  all_goals (try k_is)
