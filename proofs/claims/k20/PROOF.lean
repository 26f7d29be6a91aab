import PyProof.Rows.All
import Wide.All
import OpenK.AllK
import Wide.FinOn
import Lean
import PyProof.EqAt
import PyProof.EqKinds
import PyProof.TupleCall
import PyProof.NeKinds
import PyProof.ZipIter
import KE.KIntText
import PyProof.StrLawsIn
import PyProof.DictItems
import PyProof.Draws
import PyProof.EnumStmt
import PyProof.Rows.SortShellK
import PyProof.Rows.CallKwBuiltin
import PyProof.Rows.TupIn
import PyProof.NsDelKeeps
import PyProof.StrWalks
import PyProof.StrCalls6
import PyProof.MeetsStr3
import PyProof.DictIter
import PyProof.WalkLemmas
import PyProof.DictWalks
import PyProof.MinMaxWalk
import KE.KDictOf
import PySem.Challenge.RW_ledtowish_k20_tables_looked_at
open PySem renaming wpAny_bind->Aa,wpAny_pure->Ab,Shared->Ad,Program->Ap,wpAny->Ax,model->AC,mainGlobals->AK,Around->AR,World->AT,wpAny_call_entry->AU,sizeLine_eq->AW,wpAny_newObj_type->Bb,starEach->Bk,wpAny_callSpecial?_slot->Bl,Paired->Bm,sysModules->Bx,mem_of_lookup->By,Spec->BC,wpAny_holding->BE,wpAny_mono->BJ,FuncData->BL,bootBuiltins->BR,wpAny_dictEntries->BU,tupleKind->BV,wpAny_field->Cd,wpAny_rule->Cp,codeAny_builtin->Cr,wpAny_setState_of->Ct,wpAny_setField->CF,wpAny_askSetting->CG,foldedSetIterable->CI,entryOfKey->CK,rawInt->CL,cellsFrom->CN,DictEntry->CP,wpAny_standAt->CT,wpAny_setField_rec->Df,tupleKind_room_in1->Dg,SetTable->Dp,wpAny_setEntries_of->Du,wpAny_seqItems->Dw,wpAny_attempt->Dx,wpAny_notOrdered_dict->DC,wpAny_Call_Name_kw->DE,wpAny_isInstance->DG,wpAny_typeNameOfWhole_keyiter->DI,wpAny_typeOf->DN,wpAny_loadPart_at->DQ,letOwnedTupleGo->DU,compareOp->DV,binaryOp->DX,wpAny_newList->Ed,codeAny->Ef,NameKind->Ei,wpAny_truthy_bool->Ej,wpAny_passesOwn->Ek,wpAny_pyIter_list->El,wpAny_pyIter_slot->Eu,wpAny_dictEpoch->Ew,size_of_entries->Ex,codeAny_mono->Ey,firstArgMember->EL,wpAny_fieldsOf->EO,storedH->ES,pyNext->EU,builtinLookup_eq_fast->Fb,wpAny_specialOf->Fd,wpAny_isOneOf_keyiter->Fg,plainId_quiet->Fl,wpAny_isSubtype_exc->FD,wpAny_dictFind_heap->FE,backTo->FJ,intKind->FO,wpAny_execs_nil->FP,wpAny_pyIter_tuple->FQ,pickOrder->FZ,atKey->Gb,wpAny_Assign_Subscript->Gi,assignEach->Gj,getItem->Gk,atKey_none_of_get->Go,swapsWith->Gr,noFill_tuple_add->GB,wpAny_updateSeq_pair->GL,GenState->GP,behindInMarks->GQ,wpAny_load->GW,call_meets->GX,wpAny_of_eq->He,excClassObj->Hi,codeAny_of_tree->Hj,pushCells_keeps->Hk,typeLookup_type->Hn,wpAny_richCompare_same_room->Ho,wpAny_getItem_heap->HH,wpAny_setItem_heap->HI,Model->HL,wpAny_newTuple->HP,isSubtype_stop->HQ,wpAny_runValue->HR,isSubtype_type->HS,wpAny_call->HW,wpAny_sequenceKey->HY,typeLookup->HZ,wpAny_comprehension_free->Ib,arm_evalThenUse_ListComp->Ic,setsByText->Ij,seq_tuple_add->Iy,evalPart_none->Iz,attributeBase->IA,wpAny_handled->IB,wpAny_onRaise->IC,unsupported->IF,putAt->IJ,dictSetHashed->IK,wpAny_forIn_list->IT,pairTrees_length->IU,wpAny_Call_method_late->IZ,codeAny_compStart_list->Ja,wpAny_pyNext_dict_item->Jc,wpAny_updateDictKeysTo->Je,holding->Ji,pyIter->Jj,Keyword->Jk,concat_meets->Jm,IsPart->Jn,noteFrame->Jr,theTreesLotGoes->Js,collect->Ju,exec_Assign_Name_used->Jw,scanBound->JB,wpAny_ite_split->JC,wpAny_pyNext_dict_end->JG,relayAll->JM,codeAny_call_builtin->JS,Result->Ka,standAt->Km,wpAny_Tuple_spliced->Kn,subscripted->Ko,keywordEach->Kp,wpAny_throw->Kr,wpAny_letGo->Ks,storedH_new->Ky,assign->KD,again->KG,IntMulOk->KH,IsPair->KU,getattributeRaised->Lb,wpAny_dictSet_heap->Lc,slot_list_getitem->Lk,callerA->Ll,intKind_is->Ln,wpAny_storeSet_of->Lo,valueAt->Lq,wpAny_pyIter_dict->Lr,typeIs_bool->Lv,wpAny_pyIter_enum->Ly,codeAny_loop->LC,atKey_of_get->LM,wpAny_execs_cons->LN,wpAny_pyIter_zip->LQ,wpAny_Dict_empty->LS,seqSlot_of->LU,entryFor_of_tree->LV,kt_code_dict_new->LZ,compEnvC->Mc,compTurn->Md,entryFor->Me,fieldsOf->Mf,HeapKind->Mh,BindsTo->Ml,wpAny_Slice->Mm,wpAny_noted->Mn,newList->Mr,wpAny_alloc->Ms,putSet_of->Mu,builtinsNs->ML,wpAny_Name->MM,typeIs_int->MN,call->MO,newExc->MQ,isInstance->MS,checkCount->MV,Drawn->MX,backToKw->MY,newTuple->Na,raiseNew->Nb,relabel->Nd,compPost->Nf,Within->Nl,seqIndex?->Nn,seqItems?->No,IsZip->Np,newFields->Nt,pushCells->Nu,argsOk->Nv,drawOrder->Nw,bindL->ND,bindC->NE,field->NF,CellsOk->NH,setNext->NI,Meets->NO
open PySem.Heap renaming get?_push_of_some->Ac,get?_push_size->Ak,lt_size->An,get?_update_self->Ba,get?_update_other->Bv,size_push->BW,SameBut->Ch,get?_push_ne->Fm,size_update->GE,ExtBut->Kq,get?_update_ne->Kw,IsTuple->Nq
open List renaming length_map->Ae,mem_singleton->Af,length_append->Al,getElem?_eq_some_iff->Ao,mem_cons->Aq,mem_append->Ar,getElem?_eq_getElem->Au,mem_of_getElem?->Av,map_cons->Aw,mem_append_right->Ay,size_toArray->AD,mem_cons_of_mem->AI,mem_map->AJ,mem_cons_self->AL,map_append->AN,length_cons->AY,take_length->AZ,range->Bc,length_take->Bd,getElem?_map->Bh,append_nil->BD,getElem?_of_mem->BG,not_mem_nil->BI,append_assoc->BN,mem_flatMap->BP,length_pos_iff->BQ,mem_filter->BS,nodup_cons->BY,mem_range->Cb,length_reverse->Cq,find?_cons->Cs,map_nil->Cu,getElem?_eq_none->CC,replicate->CD,mem_append_left->CJ,take_zero->CQ,all_eq_true->CU,nodup_nil->CZ,length_eraseIdx->Dj,getD_eq_getElem?_getD->Do,filterMap_cons->Dq,eraseIdxIfInBounds_toArray->Ds,flatMap_cons->Dv,getElem?_toArray->DA,map_map->DO,pairwise_iff_getElem->Eg,ext_getElem?->Er,take_add_one->Et,eraseIdx_cons_succ->EF,length_eraseIdx_le->EG,lookup_cons->EH,eq_nil_of_length_eq_zero->EI,take_of_length_le->ER,mem_filterMap->EV,pairwise_cons->EW,length_nil->Fa,eraseIdx_sublist->Fh,nodup_append->Fj,length_range->Fk,length_eraseIdx_of_lt->Fs,any_eq_true->Fy,filter_cons->FA,map_eq_nil_iff->FG,flatMap_append->FH,forIn_cons->FT,pairwise_singleton->Ga,filter_append->Gc,isPerm_iff->Ge,reverse_cons->Gn,mem_iff_getElem?->Gx,length_drop->GC,getElem_mem->GF,range'_succ->GI,cons_append->GJ,pairwise_append->GM,mem_of_mem_take->GO,dropLast_concat_getLast->GS,any_cons->GT,of_mem_zip->Hb,zipIdx_nil->Hf,getElem?_range->Hl,reverse_append->Hm,range_succ->Hq,map_congr_left->Hr,contains_cons->HB,getElem?_take->HD,getElem?_drop->HE,map_replicate->HK,getElem?_take_of_lt->HX,mem_of_mem_eraseIdx->Ik,length->Ix,zipIdx_cons->IN,flatMap_nil->IR,map_reverse->IV,getElem?_set_self->IW,drop_of_length_le->Jb,length_eq_one_iff->Jg,length_replicate->Jl,length_singleton->Jo,perm_append_comm->Jx,take_append_drop->Jy,contains_iff_mem->JF,filter_nil->JK,getElem?_set_ne->JO,getElem?_append->JT,forIn_nil->Kd,drop_zero->Ke,range'->Kz,filterMap_map->KL,zip_cons_cons->Le,take_sublist->Lj,foldl_append->Lp,mapM_toArray->Lx,reverse_perm->Lz,getElem_map->LW,map->Mi,foldl_cons->Mw,mapM_cons->MD,filterMap->MK,map_drop->Nj,map_take->Nk,lookup->NG,map_id->NJ
open PyProof.Rows renaming wpS_bind->Ag,wpS_pure->Aj,arrOf->AF,pendingOf->Bt,slot_tuple_getitem->BB,wpS_forRange->BK,seqObj->BX,callWith_type1->Da,wpS_modify->Di,wpS_reverse->DH,wpS_mono->DL,listItems_at->Ez,wpS_get->EZ,listUpdate_at->Fi,entry_proto_collect'->Ft,setPending->FL,failedOf->FV,IntsAre->Gm,wpS_lift->Gq,kindOf->Gs,sortedHeap->GY,size_push'->GZ,entry_tuple_getitem->Hc,args_tuple_getitem->Hv,slicePart_none->HM,AllBare->Iw,mirror_perm->ID,seqEpoch_at->IH,mirror->IP,entry_list_iadd'->IQ,subscriptTail_builtinR->IY,get?_update_seq->Jv,entry_list_sort->JD,Subscript_->JL,envOfC->Kc,slot_list_sort->Kg,args_list_sort->Kh,sortedHeap_old->Ki,getElem?_mirror_all->Kt,tupleItemsOf_->KM,subscriptTail->KN,gallopOf->KZ,sortedHeap_at->La,plain_sorted->LJ,entry_sorted->LK,args_sorted1->LL,setArr->Mq,kind_sorted->Mv,bubble->MR,DescSt->Nr,IsTup->NK,AscSt->NP,elem'->NQ
open PySem.W renaming Frag->Ah,nsIn->AH,keepIn->AQ,codeIn->Bg,fnOf->Bn,mg_none_of->Bu,mg_of->Bw,findIn->BO,kia_one->CM,tailIn->EM,callWith_K->FR,KeysLit->FS,Looks->FW,kitOne->Gp,methodObj->HV,cellsFrom_some->IX,instObj->Jh,OpenLaw->Jp,looks_findIn->JR,lookIn->JZ,looks_clsIn->Kv,mroIn->KI,kitx_list->Lg,kitx_dict->Lh,plainGet->LO,InstAt->MB,typeIn->ME,WalkO->MZ,clsIn->Nc
open Nat renaming le_refl->Ai,le_trans->At,lt_of_lt_of_le->AB,ne_of_lt->AE,zero_le->AS,lt_irrefl->BM,ne_of_gt->Ci,zero_add->Cj,lt_or_ge->Cv,succ_le_succ->CS,le_succ->Db,lt_succ_of_lt->Dt,le_add_right->Ec,min_eq_left->Eo,not_lt_zero->Ep,add_assoc->ED,lt_succ_self->Fx,le_of_lt->FI,add_sub_cancel->FU,sub_zero->Gu,max_eq_right->GD,le_of_eq->Hz,lt_trans->HC,succ_mul->HG,lt_trichotomy->Ie,le_succ_of_le->Iv,add_sub_cancel_left->IG,le_of_not_lt->IM,pow_le_pow_right->JV,lt_or_eq_of_le->KY,min_self->LD,succ_pos->LG,mod_lt->MU,pow_succ->Nz
open Array renaming getElem?_eq_getElem->Am,size_push->Az,length_toList->AA,size_append->AG,getElem?_toList->Br,toList_append->Cg,getD_eq_getD_getElem?->Cn,getElem?_eq_none->Cw,getElem?_eq_some_iff->Dm,mem_of_getElem?->DB,getElem_mem->DS,toList_push->DT,perm_iff_toList_perm->Fq,size_extract->FY,getElem?_extract->Gg,toList_reverse->GN,size_setIfInBounds->Ih,isEmpty_iff->Ir,getElem_extract->Jz,mem_toList_iff->JP,getElem_toList->JU,size_map->Kf,toList_inj->Mb,toList->Nm
open Bool renaming false_ne_true->As,and_eq_true->Bq,false_eq_true->Bz,eq_iff_iff->EY,not_true->IE,or_eq_true_iff->Ku,or_true->LH,or_eq_true->Mo,and_false->MC
open PyProof.Rows.KeyOrd renaming kle_of_klt->AM,kle_trans->AO,kle_refl->BZ,kle_antisymm->FC,klt_of_klt_of_kle->Ia
open Int renaming emod_lt_of_pos->AV,emod_nonneg->Bo,toNat_natCast->BH,fdiv_eq_ediv_of_nonneg->Fo,mul_le_mul_of_nonneg_left->GG,ediv_nonneg->JE,ediv_le_self->LR,natCast_succ->LX,add_comm->Nx,mul_comm->Ny,zero_add->NA
open PySem.Heap.SameBut renaming update->AX,refl->Ii
open Or renaming inr->Bi,inl->Bj
open Option.some renaming inj->BA
open PySem.Obj renaming data_mapFields->BF,isFreed_of_fields->Co,mapSeq->Dr,data_mapDictKeys->DJ,cls_mapFields->DP,mapFields->EC,isFreed_of_dict->FF,putSet->JN,data_mapDict->Ma
open PySem.PassesOwn renaming never->BT
open PySem.F renaming plainAttrs_list->Ca,slot_list_append->Cz,type_list_append->CA,slot_dict_keyiterator_next->CY,slot_tuple_iterator_next->Eb,args_tuple_add_2->Em,entry_tuple_add->EA,slot_tuple_add->EQ,slot_bool_hash->ET,slot_set_iter->Fe,called_set->Ff,slot_dict_getitem->Fw,slot_tuple_mul->Fz,slot_list_getattribute->FM,slot_dict_keyiterator_iter->FN,args_dict_keyiterator_next_1->GA,entry_dict_keyiterator_next->GH,args_tuple_iterator_next_1->GR,entry_tuple_iterator_next->Hd,slot_zip_next->Hg,args_tuple_mul_2->HJ,plain_extend_loop->HU,entry_tuple_mul->Io,slot_list_remove->Iu,plain_list_iadd->II,slot_dict_iter->IS,sub_dict_dict->JI,slot_dict_pop->JJ,kt_typeCall_dict_1->JW,slot_dict_eq->JX,slot_dict_ne->JY,args_dict_init_2->Ld,args_zip_next_1->Lm,slot_tuple_rmul->Ls,entry_dict_init->Lu,entry_zip_next->LP,kt_called_dict->LY,plain_set_new->Mx,slot_int_rmul->My,args_int_lt_2->Mz,entry_int_lt->MH
open PySem.Builtin.Slice renaming slicePlaces->Cc,sliceAdjust->CO,sliceApplied->Ea,sliceFields->HN
open PySem.Builtin.SmallTypes renaming nextOf->Cf,ownedTupleIsFree->CV,ownedTupleHandOut->Fu
open PySem.Builtin.Tuple renaming tupleExact->Ck,tupleItemsOf->Fp
open PySem.Value renaming none->Cy,type->DD,int->Ha,isStrOf_shape->Kk,isInt->Mj,str->Mk,isStrOf->MW,builtin->Ni,float->NB
open Ne renaming symm->CB
open PySem.SetTable renaming below->CH,insertAt->DR,grown->EN,sizeAbove->HF,has->LI,Probe->MF,slot->Ng,fits->Nh
open PySem.Str renaming ofString->CW
open True renaming intro->Dh
open PySem.Around renaming under_plainId->Dk,under->LA
open PySem.pickOrder renaming go->Dl
open List.Perm renaming refl->Dy,append_right->Gh,append_left->Gw,of_eq->MA,swap->MG
open ForInStep renaming yield->Dz
open PySem.Code renaming quiet_builtin->DF,isFrame->LB,frames->NC
open PySem.Paired renaming length->DK,snoc->Kx
open PySem.Builtin renaming bitAnd->DM
open PySem.Builtin.List renaming listExtendWith->DW,listItems->DY,listLengthHint->Fc,listSameRef->Il
open Option renaming map_eq_some_iff->DZ,isSome_map->Im,isSome_some->KW,map->NM
open PySem.NameKind renaming cell->Ee,free->EB
open PySem.Builtin.Dict renaming dictSlotArgs->Eh,updateFrom->EE,showsAll->Gz,addKeywords->Ip,selfAndRest->Iq,mergeDict->Jd,samePairs->Jf
open List.Pairwise renaming nil->En
open PySem.SetTable.below renaming go->Es
open PySem.Builtin.Frozenset renaming sizeOf->Ev
open False renaming elim->EJ
open Std.Legacy.Range renaming forIn_eq_forIn_range'->Fn,size->JH
open PySem.Calls renaming call_function_entry->Fv,callWith_builtin->Gf,evalArgs_plain->GK,Name_function_global->Ht,spliced_cons->KJ,spliced_nil->Li
open PySem.Builtin.Int renaming intBits->FB,intTooBig->Jq
open PySem.SeqAt renaming EqAt->FK,RcNeAt->LF,RcAt->MP
open PySem.Builtin.ObjectAttr renaming storeInOwnDict->FX,storeInDict->Gv
open PySem.SetTable.sizeAbove renaming go->Gy
open PySem.Shared renaming TypeIs->GU,heap->Mp
open PySem.Builtin.Dict_items renaming ownsTuple->GV
open PySem.EntryCells renaming newEntry->Hh
open PySem.SeqAt.RcNeAt renaming lists_lengths->Hu,lists->KQ
open PySem.Heap.IsSliceOf renaming new->Hw
open PySem.SetTable.probe renaming go->Ig
open List.cons renaming inj->IL
open PySem.SeqAt.EqAt renaming same->Jt,bool_bool->JQ,int_str->KA,str_int->KC,of_refs->KS
open Array.Perm renaming refl->JA
open Lean renaming maxRecDepth->Kj
open Sum.inl renaming inj->Kl
open PyProof.Rows.IsTup renaming new->KO
open LawfulMonad renaming pure_bind->KP
open Sum renaming inr->Lf
open And renaming intro->Mt
open PyProof.Rows.SortSt renaming mk'->MT
open ForIn renaming forIn->NL
open PySem.Draws renaming list->NN
set_option Elab.async false
set_option linter.all false
set_option maxRecDepth 100000
namespace L2
open PySem PySem.Spec PyProof.Rows
noncomputable abbrev Key:=Sum Int Str
noncomputable def aCO:Key->Value->Bool
 | .inl k,v=>Mj k v
 | .inr x,v=>MW x v
noncomputable def keyH (w:AT):Key->Int
 | .inl k=>hashInt k
 | .inr x=>hashStr w x
theorem zp:∀ {k:Key} {v:Value},aCO k v=true->(∃ i t,k=Sum.inl i/\v=Ha i t)\/(∃ x t,k=Lf x/\v=Mk x t)
 | .inl i,v,h=>by
  obtain ⟨t,e⟩:=Value.isInt_shape (k:=i) (v:=v) h
  exact .inl ⟨i,t,rfl,e⟩
 | .inr x,v,h=>by
  obtain ⟨t,e⟩:=Kk (x:=x) (v:=v) h
  exact .inr ⟨x,t,rfl,e⟩
theorem aEO (i:Int) (t:Tok):aCO (.inl i) (.int i t)=true:=by simp [aCO,Mj]
theorem aEP (x:Str) (t:Tok):aCO (.inr x) (.str x t)=true:=by simp [aCO,MW]
theorem aIj (a b:Int):decide ((Sum.inl a:Key)=Sum.inl b)=(a == b):=by
 by_cases e:a=b
 ·subst e; simp
 ·have h:¬ (Sum.inl a:Key)=Sum.inl b:=fun q=>e (Kl q)
  rw [decide_eq_false h]
  exact (beq_eq_false_iff_ne.mpr e).symm
theorem aIk (a b:Str):decide ((Lf a:Key)=Lf b)=decide (a=b):=by
 by_cases e:a=b
 ·subst e; simp
 ·have h:¬ (Lf a:Key)=Lf b:=fun q=>e (Sum.inr.inj q)
  rw [decide_eq_false h,decide_eq_false e]
theorem aIl (a:Int) (b:Str):decide ((Sum.inl a:Key)=Lf b)=false:=decide_eq_false (fun q=>nomatch q)
theorem aIm (a:Str) (b:Int):decide ((Lf a:Key)=Sum.inl b)=false:=decide_eq_false (fun q=>nomatch q)
noncomputable def zt (prog:Ap) (w:AT):PySem.KeyKind prog w Key where
 is:=aCO
 hash:=keyH w
 inj:=fun v a b ha hb=>by
  rcases zp ha with ⟨i,t,rfl,rfl⟩ | ⟨x,t,rfl,rfl⟩
  ·rcases zp hb with ⟨j,u,rfl,e⟩ | ⟨y,u,rfl,e⟩
   ·injection e with e1 _; rw [e1]
   ·exact nomatch e
  ·rcases zp hb with ⟨j,u,rfl,e⟩ | ⟨y,u,rfl,e⟩
   ·exact nomatch e
   ·injection e with e1 _; rw [e1]
 byValue:=fun k v h=>by
  rcases zp h with ⟨i,t,rfl,rfl⟩ | ⟨x,t,rfl,rfl⟩ <;> rfl
 pyHash:=fun hv h=>by
  rcases zp hv with ⟨i,t,rfl,rfl⟩ | ⟨x,t,rfl,rfl⟩
  ·exact wpAny_pyHash_int h
  ·exact wpAny_pyHash_str h
 eqBool:=fun hu hv h=>by
  rcases zp hu with ⟨i,t,rfl,rfl⟩ | ⟨x,t,rfl,rfl⟩
  ·rcases zp hv with ⟨j,u,rfl,rfl⟩ | ⟨y,u,rfl,rfl⟩
   ·rw [aIj] at h; exact wpAny_eqBool_int h
   ·rw [aIl] at h; exact KA i t y u _ _ _ _ h
  ·rcases zp hv with ⟨j,u,rfl,rfl⟩ | ⟨y,u,rfl,rfl⟩
   ·rw [aIm] at h; exact KC x t j u _ _ _ _ h
   ·rw [aIk] at h; exact wpAny_eqBool_str h
 «strs»:=fun k x t v h=>by
  rcases zp h with ⟨i,u,rfl,e⟩ | ⟨y,u,rfl,e⟩
  ·exact nomatch e
  ·injection e with e1 _
   subst e1
   cases v <;> rfl
theorem aCP (prog:Ap) (w:AT) (i:Int) (t:Tok):(zt prog w).is (.inl i) (.int i t)=true:=aEO i t
theorem aCQ (prog:Ap) (w:AT) (x:Str) (t:Tok):(zt prog w).is (.inr x) (.str x t)=true:=aEP x t
inductive V where
 | non | bl (b:Bool) | int (i:Int) | str (x:Str) | byt (b:Array UInt8) | flt (b:UInt64) | ref (a:Addr) | ty (n:String)
 deriving DecidableEq
noncomputable def RelV:V->Value->Prop
 | .non,u=>u=Cy
 | .bl b,u=>u=Value.bool b
 | .int i,u=>∃ t,u=Ha i t
 | .str x,u=>∃ t,u=Mk x t
 | .byt b,u=>∃ t,u=Value.bytes b t
 | .flt b,u=>∃ t,u=NB b t
 | .ref a,u=>u=Value.ref a
 | .ty n,u=>u=DD n
noncomputable abbrev Vals:List V->List Value->Prop:=Bm RelV
theorem Vals.length {xs:List V} {us:List Value} (r:Vals xs us):xs.length=us.length:=DK r
theorem Vals.get:∀ {xs:List V} {us:List Value} {i:Nat} {x:V},Vals xs us->xs[i]?=some x->∃ u,us[i]?=some u/\RelV x u
 | _,_,_,_,.nil,e=>by simp at e
 | _,_,0,_,.cons r _,e=>by simp at e; subst e; exact ⟨_,rfl,r⟩
 | _,_,i + 1,x,.cons _ t,e=>by
  obtain ⟨u,h1,h2⟩:=Vals.get (i:=i) (x:=x) t (by simpa using e)
  exact ⟨u,by simpa using h1,h2⟩
theorem Vals.append:∀ {xs ys:List V} {us ws:List Value},Vals xs us->Vals ys ws->Vals (xs++ys) (us++ws)
 | _,_,_,_,.nil,s=>s
 | _,_,_,_,.cons r t,s=>.cons r (Vals.append t s)
theorem Vals.take:∀ {xs:List V} {us:List Value} (n:Nat),Vals xs us->Vals (xs.take n) (us.take n)
 | _,_,0,_=>.nil
 | _,_,_ + 1,.nil=>.nil
 | _,_,n + 1,.cons r t=>.cons r (Vals.take n t)
theorem Vals.drop:∀ {xs:List V} {us:List Value} (n:Nat),Vals xs us->Vals (xs.drop n) (us.drop n)
 | _,_,0,r=>r
 | _,_,_ + 1,.nil=>.nil
 | _,_,n + 1,.cons _ t=>Vals.drop n t
noncomputable def RelO:Option V->Option Value->Prop
 | some v,some u=>RelV v u
 | none,none=>True
 | _,_=>False
noncomputable def KV {κ:Type}:List (κ×V)->List (κ×Value)->Prop:=Bm fun (p:κ×V) (q:κ×Value)=>p.1=q.1/\RelV p.2 q.2
noncomputable def kV:Key->V
 | .inl i=>.int i
 | .inr x=>.str x
inductive HO where
 | lst (xs:List V)
 | tup (xs:List V)
 | dK (kvs:List (Key×V)) | dT (kvs:List (List Key×V))
 | set (S:Int->Bool) (n:Nat)
 | ins (C dx:Addr) (fs:List (Str×V))
 | own (x:Addr)
 | xd (fs:List (Str×V))
 | met (f x:Addr)
 | rng (lo hi:Int)
 | frz (o:Obj) (u:HO)
 | tbl (ps:Array Value)
 | ext (φ:Heap->Prop)
noncomputable abbrev Hp:=Addr->Option HO
noncomputable def upd (H:Hp) (a:Addr) (o:HO):Hp:=fun b=>if b=a then some o else H b
theorem zB {H:Hp} {a:Addr} {o:HO}:upd H a o a=some o:=by unfold upd; rw [if_pos rfl]
theorem zI {H:Hp} {a b:Addr} {o:HO} (h:b≠a):upd H a o b=H b:=by unfold upd; rw [if_neg h]
theorem aHj {H:Hp} {a:Addr} {o u:HO}:upd (upd H a o) a u=upd H a u:=by
 funext b; unfold upd; split <;> rfl
theorem aKQ {H:Hp} {a b:Addr} {o u:HO} (h:H a=some o) (h':H b=some u) (d:o≠u):a≠b:=by
 intro e; subst e; rw [h] at h'; exact d (BA h')
theorem zE {H:Hp} {a b:Addr} {o:HO} (h:H a=some o) (h':H b=none):a≠b:=by
 intro e; subst e; rw [h] at h'; cases h'
section
variable (P:Ap) (w:AT)
noncomputable def ObjOk (H:Hp) (h:Heap) (a:Addr):HO->Prop
 | .lst xs=>xs.length<=sizeLine/\∃ (its:List Value) (n:Nat),Vals xs its/\h.get? a=some { cls:=.type "list",data:=.seq its.toArray n }
 | .tup xs=>xs.length<=sizeLine/\∃ its:List Value,Vals xs its/\NK h a its.toArray
 | .dK kvs=>kvs.length<=sizeLine/\(a == Bx)=false/\∃ vs,KV kvs vs/\h.DictOf (zt P w) a vs
 | .dT kvs=>kvs.length<=sizeLine/\(a == Bx)=false/\∃ xs:List (List Key×Addr×Value),
   Bm (fun (p:List Key×V) (q:List Key×Addr×Value)=>p.1=q.1/\H q.2.1=some (.tup (p.1.map kV))/\RelV p.2 q.2.2) kvs xs /\
   ∃ o es ep,h.get? a=some o/\o.ExactDict/\o.data=.dict es ep/\es.toList=xs.map (CK (BV (zt P w)))/\(xs.map (·.1)).Nodup
 | .set S n=>h.SetOf (FO P w) a S n
 | .ins C dx fs=>H dx=some (.own a)/\fs.length<=1000/\dx≠a/\h.get? a=some (Jh C dx) /\
   ∃ mA,h.Ns1 dx mA/\(∀ f,RelO (fs.lookup f) (mA f))/\Nl mA (fs.map (·.1))
 | .own _=>∃ o,h.get? a=some o
 | .xd fs=>∃ mA,h.Ns1 a mA/\∀ f,RelO (fs.lookup f) (mA f)
 | .rng lo hi=>∃ t u v,h.get? a=some { cls:=.type "range",data:=.fields #[.int lo t,.int hi u,.int 1 v] }
 | .frz o u=>h.get? a=some o/\ObjOk H h a u
 | .tbl ps=>h.get? a=some { cls:=.none,data:=.fields ps }
 | .met f x=>h.get? a=some (HV (.ref f) (.ref x))
 | .ext φ=>φ h/\(∃ o,h.get? a=some o)/\∀ h1 h2:Heap,φ h1->(∀ o,h1.get? a=some o->h2.get? a=some o)->φ h2
noncomputable def HOk (H:Hp) (h:Heap):Prop:=∀ a o,H a=some o->ObjOk P w H h a o
end
section
variable {P:Ap} {w:AT} {H H':Hp} {h h':Heap} {a:Addr} {o:HO}
theorem ObjOk.lt (x:ObjOk P w H h a o):a < h.objs.size:=by
 cases o with
 | lst xs=>obtain ⟨_,_,_,_,e⟩:=x; exact An e
 | tup xs=>obtain ⟨_,_,_,p⟩:=x; exact p.lt
 | dK kvs=>obtain ⟨_,_,_,_,o,_,_,e,_⟩:=x; exact An e
 | dT kvs=>obtain ⟨_,_,_,_,o,_,_,e,_⟩:=x; exact An e
 | set S n=>obtain ⟨o,_,_,_,e,_⟩:=x; exact An e
 | ins C dx fs=>obtain ⟨_,_,_,e,_⟩:=x; exact An e
 | own y=>obtain ⟨_,e⟩:=x; exact An e
 | xd fs=>obtain ⟨_,⟨_,_,_,e,_⟩,_⟩:=x; exact An e
 | rng lo hi=>obtain ⟨_,_,_,e⟩:=x; exact An e
 | frz ob u=>obtain ⟨e,_⟩:=x; exact An e
 | tbl ps=>exact An (show h.get? a=some _ from x)
 | met f y=>exact An (show h.get? a=some _ from x)
 | ext φ=>obtain ⟨_,⟨_,e⟩,_⟩:=x; exact An e
theorem Paired.mapP {α β:Type} {F G:α->β->Prop}:∀ {l₁:List α} {l₂:List β},Bm F l₁ l₂->(∀ a b,F a b->G a b)->Bm G l₁ l₂
 | _,_,.nil,_=>.nil
 | _,_,.cons r t,f=>.cons (f _ _ r) (Paired.mapP t f)
theorem ObjOk.stay (x:ObjOk P w H h a o) (k:∀ b u,(b=a\/H b=some (.own a))->h.get? b=some u->h'.get? b=some u)
  (ho:∀ b,H b=some (.own a)->H' b=some (.own a)) (ht:∀ b xs,H b=some (.tup xs)->H' b=some (.tup xs)):ObjOk P w H' h' a o:=by
 induction o with
 | lst xs=>obtain ⟨z,its,n,r,e⟩:=x; exact ⟨z,its,n,r,k _ _ (.inl rfl) e⟩
 | tup xs=>obtain ⟨z,its,r,ob,e,c⟩:=x; exact ⟨z,its,r,ob,k _ _ (.inl rfl) e,c⟩
 | dK kvs=>obtain ⟨z,y,vs,r,ob,es,ep,e,c⟩:=x; exact ⟨z,y,vs,r,ob,es,ep,k _ _ (.inl rfl) e,c⟩
 | dT kvs =>
  obtain ⟨z,y,xs,r,ob,es,ep,e,c⟩:=x
  exact ⟨z,y,xs,Paired.mapP r fun p q z=>⟨z.1,ht _ _ z.2.1,z.2.2⟩,ob,es,ep,k _ _ (.inl rfl) e,c⟩
 | set S n=>obtain ⟨ob,es,ep,t,e,c⟩:=x; exact ⟨ob,es,ep,t,k _ _ (.inl rfl) e,c⟩
 | ins C dx fs =>
  obtain ⟨d,z,ne,e,mA,⟨od,es,ep,e2,c⟩,r⟩:=x
  exact ⟨ho _ d,z,ne,k _ _ (.inl rfl) e,mA,⟨od,es,ep,k _ _ (.inr d) e2,c⟩,r⟩
 | own y=>obtain ⟨ob,e⟩:=x; exact ⟨ob,k _ _ (.inl rfl) e⟩
 | xd fs=>obtain ⟨mA,⟨od,es,ep,e,c⟩,r⟩:=x; exact ⟨mA,⟨od,es,ep,k _ _ (.inl rfl) e,c⟩,r⟩
 | rng lo hi=>obtain ⟨t,u,v,e⟩:=x; exact ⟨t,u,v,k _ _ (.inl rfl) e⟩
 | frz ob u ih=>obtain ⟨e,q⟩:=x; exact ⟨k _ _ (.inl rfl) e,ih q⟩
 | tbl ps =>
  have e:h.get? a=some { cls:=.none,data:=.fields ps }:=x
  show h'.get? a=some { cls:=.none,data:=.fields ps }
  exact k a _ (.inl rfl) e
 | met f y =>
  have e:h.get? a=some (HV (.ref f) (.ref y)):=x
  show h'.get? a=some (HV (.ref f) (.ref y))
  exact k a _ (.inl rfl) e
 | ext φ=>obtain ⟨p,⟨o,e⟩,st⟩:=x; exact ⟨st _ _ p fun o q=>k _ _ (.inl rfl) q,⟨o,k _ _ (.inl rfl) e⟩,st⟩
theorem HOk.lt (x:HOk P w H h) (e:H a=some o):a < h.objs.size:=(x a o e).lt
theorem HOk.fresh (x:HOk P w H h) (e:h.objs.size<=a):H a=none:=by
 cases q:H a with
 | none=>rfl
 | some u=>exact absurd (AB (x.lt q) e) (BM _)
theorem HOk.kept (x:HOk P w H h) (k:∀ b u,h.get? b=some u->h'.get? b=some u):HOk P w H h':=fun a o e =>
 (x a o e).stay (fun b u _ q=>k b u q) (fun _ q=>q) fun _ _ q=>q
theorem HOk.laid (x:HOk P w H h) (k:∀ b u,h.get? b=some u->h'.get? b=some u) (hp:h.objs.size<=a) (new:ObjOk P w (upd H a o) h' a o):HOk P w (upd H a o) h':=fun b u e=>by
 have hn:=x.fresh hp
 by_cases hb:b=a
 ·subst hb; rw [zB] at e; cases e; exact new
 ·rw [zI hb] at e
  exact (x b u e).stay (fun c v _ q=>k c v q) (fun c q=>by rw [zI (zE q hn)]; exact q) fun c xs q=>by rw [zI (zE q hn)]; exact q
end
noncomputable def Rd (H:Hp) (a:Addr) (u:HO):Prop:=H a=some u\/∃ o,H a=some (.frz o u)
theorem Rd.ok {P:Ap} {w:AT} {H:Hp} {h:Heap} {a:Addr} {u:HO} (r:Rd H a u) (x:HOk P w H h):ObjOk P w H h a u:=by
 rcases r with r | ⟨o,r⟩
 ·exact x a u r
 ·obtain ⟨_,q⟩:=x a _ r
  exact q
noncomputable def Mut:Option HO->Prop
 | some (.lst _)=>True
 | some (.dK _)=>True
 | some (.dT _)=>True
 | some (.set _ _)=>True
 | some (.ins _ _ _)=>True
 | some (.ext _)=>True
 | _=>False
section
variable {P:Ap} {w:AT} {H:Hp} {h h':Heap} {x e:Addr} {o':HO}
theorem HOk.write (ok:HOk P w H h) (mu:Mut (H x)) (he:e=x\/H e=some (.own x)) (k:∀ b u,b≠e->h.get? b=some u->h'.get? b=some u) (heo:∃ u,h'.get? e=some u)
  (new:ObjOk P w (upd H x o') h' x o'):HOk P w (upd H x o') h':=fun b u q=>by
 have nown:∀ c y,H c=some (.own y)->c≠x:=fun c y r z=>by subst z; rw [r] at mu; exact mu
 have ntup:∀ c xs,H c=some (.tup xs)->c≠x:=fun c xs r z=>by subst z; rw [r] at mu; exact mu
 by_cases hb:b=x
 ·subst hb; rw [zB] at q; cases q; exact new
 ·rw [zI hb] at q
  by_cases hbe:b=e
  ·have q':H b=some (.own x):=by
    rcases he with z | z
    ·exact absurd (hbe.trans z) hb
    ·rw [hbe]; exact z
   rw [q] at q'; cases q'
   obtain ⟨v,hv⟩:=heo
   exact ⟨v,by rw [hbe]; exact hv⟩
  ·refine (ok b u q).stay (fun c v hc r=>k c v ?_ r) (fun c r=>by rw [zI (nown c b r)]; exact r) fun c xs r=>by rw [zI (ntup c xs r)]; exact r
   rcases hc with rfl | hc
   ·exact hbe
   ·rintro rfl
    rcases he with z | z
    ·exact nown c b hc z
    ·rw [hc] at z; cases z; exact hb rfl
end
structure Un (fs ex:List Addr) (H H':Hp) (h h':Heap):Prop where
 keep:∀ b o,h.get? b=some o->H b=none->b ∉ fs->b ∉ ex->h'.get? b=some o
 slot:∀ b o,h.get? b=some o->H b=none->b∈fs->b ∉ ex->∃ sl,h'.get? b=some { o with slots:=sl }
 free:∀ b o,h.get? b=some o->H b=none->b ∉ ex->H' b=none
 there:∀ b o,h.get? b=some o->b ∉ ex->∃ o',h'.get? b=some o'
 tups:∀ b xs,H b=some (.tup xs)->H' b=some (.tup xs)
 frzs:∀ b o u,H b=some (.frz o u)->H' b=some (.frz o u)
 tbls:∀ b ps,H b=some (.tbl ps)->∃ more,H' b=some (.tbl (ps++more))
section
variable {fs fs' ex ex':List Addr} {H H1 H2:Hp} {h h1 h2 h':Heap} {a x e:Addr} {o:HO}
theorem Un.any (u:Un fs ex H H1 h h1) {b:Addr} {ob:Obj} (q:h.get? b=some ob) (n:H b=none) (hx:b ∉ ex):∃ sl,h1.get? b=some { ob with slots:=sl }:=by
 by_cases hb:b∈fs
 ·exact u.slot b ob q n hb hx
 ·exact ⟨ob.slots,u.keep b ob q n hb hx⟩
theorem Un.kept (k:∀ b u,h.get? b=some u->h'.get? b=some u):Un fs ex H H h h' :=
 ⟨fun b ob q _ _ _=>k b ob q,fun b ob q _ _ _=>⟨ob.slots,k b ob q⟩,fun _ _ _ n _=>n,fun b ob q _=>⟨ob,k b ob q⟩,fun _ _ q=>q,fun _ _ _ q=>q,fun _ ps q=>⟨#[],by rw [q]; simp⟩⟩
theorem Un.refl:Un fs ex H H h h:=Un.kept fun _ _ q=>q
theorem Un.laid (k:∀ b u,h.get? b=some u->h'.get? b=some u) (hp:h.objs.size<=a) (hn:H a=none):Un fs ex H (upd H a o) h h' where
 keep:=fun b u q _ _ _=>k b u q
 slot:=fun b u q _ _ _=>⟨u.slots,k b u q⟩
 free:=fun b u q n _=>by rw [zI (AE (AB (An q) hp))]; exact n
 there:=fun b u q _=>⟨u,k b u q⟩
 tups:=fun b xs q=>by rw [zI (zE q hn)]; exact q
 frzs:=fun b u xs q=>by rw [zI (zE q hn)]; exact q
 tbls:=fun b ps q=>⟨#[],by rw [zI (zE q hn),q]; simp⟩
theorem Un.write (mu:Mut (H x)) (he:e=x\/H e=some (.own x)) (k:∀ b u,b≠e->h.get? b=some u->h'.get? b=some u) (heo:∃ u,h'.get? e=some u):Un fs ex H (upd H x o) h h':=by
 have hx:∀ b,H b=none->b≠x:=fun b n z=>by subst z; rw [n] at mu; exact mu
 have hb:∀ b,H b=none->b≠e:=fun b n z=>by
  subst z
  rcases he with r | r
  ·exact hx b n r
  ·rw [n] at r; cases r
 have hm:∀ b u,H b=some u->¬ Mut (some u)->b≠x:=fun b u q nm z=>by subst z; rw [q] at mu; exact nm mu
 refine ⟨fun b u q n _ _=>k b u (hb b n) q,fun b u q n _ _=>⟨u.slots,k b u (hb b n) q⟩,fun b u q n _=>by rw [zI (hx b n)]; exact n,fun b u q _=>?_,
  fun b xs q=>by rw [zI (hm b _ q fun z=>z)]; exact q,fun b u xs q=>by rw [zI (hm b _ q fun z=>z)]; exact q,fun b ps q=>⟨#[],by rw [zI (hm b _ q fun z=>z),q]; simp⟩⟩
 by_cases hbe:b=e
 ·subst hbe; exact heo
 ·exact ⟨u,k b u hbe q⟩
end
noncomputable def trk (h:Heap) (H:Hp):List Addr:=(Bc h.objs.size).filter fun a=>(H a).isSome
noncomputable def hidT (h:Heap) (H:Hp):Heap:=PySem.W.hideAll h (trk h H)
theorem aEQ (h:Heap) (H:Hp):(hidT h H).objs.size=h.objs.size:=PySem.W.hideAll_size _ _
theorem aGS {h:Heap} {H:Hp} {b:Addr} {o:Obj} (e:h.get? b=some o) (n:H b=none):(hidT h H).get? b=some o :=
 PySem.W.hideAll_get _ e fun hm=>by
  have q:(H b).isSome=true:=(BS.mp hm).2
  rw [n] at q; simp at q
theorem aHk {h:Heap} {H:Hp} {b:Addr} {o:Obj} (e:(hidT h H).get? b=some o):h.get? b=some o/\H b=none:=by
 have e':h.get? b=some o:=PySem.W.of_hideAll (trk h H) e
 refine ⟨e',?_⟩
 cases q:H b with
 | none=>rfl
 | some x =>
  have hm:b∈trk h H:=BS.mpr ⟨Cb.mpr (An e'),by simp [q]⟩
  have z:(hidT h H).get? b=none:=PySem.W.hideAll_none (trk h H) hm
  rw [z] at e; cases e
structure Mod (K:Ah) (mg:Str->Option Value) (base:Heap):Prop where
 kin:K.In base
 glob:base.Ns AK mg
 blt:∃ mb,base.Ns ML mb/\∀ x:Str,x≠"__name__"->mb x=BR x
 nolimit:base.NoLimit
structure Cx where
 prog:Ap
 w:AT
 K:Ah
 mg:Str->Option Value
 base:Heap
 A:AR
 N:List Str
 s₀:Ad
 H₀:Hp
 env:Env
 outer:List Env
 stack:List Env
 ex:List Addr
 fn:Str->Bool
 calm:Bool
 pn:List (Addr×Obj)
 xe:Value->Ad->Prop
noncomputable def frs (l:List Env):List Addr:=l.filterMap (·.frame)
noncomputable abbrev Cx.fs (X:Cx):List Addr:=frs X.outer
noncomputable def Vis (sc:Scope) (x:Str):Prop:=sc.names.lookup x=some .local\/sc.names.lookup x=some .cell\/sc.names.lookup x=some .free
noncomputable def Loc (sc:Scope) (x:Str):Prop:=sc.names.lookup x=some .local\/sc.names.lookup x=some .cell
noncomputable def Look (env:Env) (h:Heap) (m:Str->Option Value) (x:Str) (u:Value):Prop :=
 (env.kindOf x=some .local/\m x=some u)\/((env.kindOf x=some .cell\/env.kindOf x=some .free)/\∃ c,env.cells.lookup x=some c/\h.IsCell c (some u))
structure Cx.Ok (X:Cx):Prop where
 mod:Mod X.K X.mg X.base
 kind:X.env.scope.kind=.function
 glob:X.env.globals=AK
 blt:X.env.builtins=ML
 above:X.s₀.heap.objs.size<=X.env.locals
 inj:∀ x y c,X.env.cells.lookup x=some c->X.env.cells.lookup y=some c->x=y
 has:∀ x,(X.env.kindOf x=some .cell\/X.env.kindOf x=some .free)->∃ c,X.env.cells.lookup x=some c
 cab:∀ x c,X.fn x=true->X.env.cells.lookup x=some c->X.s₀.heap.objs.size<=c
 hd:X.calm=true->X.A.handled=none
 frames:X.A.frames=some X.stack
 stk:X.stack=X.outer\/(X.stack=X.env :: X.outer/\X.env.frame=some X.env.locals)
 exf:∀ b∈X.ex,b≠X.env.locals/\∀ x c,X.env.cells.lookup x=some c->c≠b
 bs:∀ b o,X.base.get? b=some o->X.s₀.heap.get? b=some o/\X.H₀ b=none
 bsz:X.base.objs.size<=X.s₀.heap.objs.size
 noex:∀ b o,X.base.get? b=some o->b ∉ X.ex
 exfs:∀ b∈X.ex,b ∉ X.fs
 funs:X.s₀.heap.FunFrames X.base X.outer
 frf:∀ b∈X.fs,X.H₀ b=none
structure Inv (X:Cx) (pins:List (Addr×Obj)) (σ:List (Option V)) (H:Hp) (s:Ad):Prop where
 ok:X.Ok
 os:s.os=X.s₀.os
 bare:Iw s.gens
 base:Un X.fs X.ex X.H₀ H X.s₀.heap s.heap
 loc:∃ m,s.heap.Ns X.env.locals m/\∀ (i:Nat) (x:Str) (v:V),X.N[i]?=some x->σ[i]?=some (some v)->Vis X.env.scope x->∃ u,RelV v u/\Look X.env s.heap m x u
 cell:∀ x c,X.env.cells.lookup x=some c->∃ v,s.heap.IsCell c v
 free:H X.env.locals=none
 freeC:∀ x c,X.env.cells.lookup x=some c->H c=none
 pin:∀ p∈X.pn++pins,s.heap.get? p.1=some p.2/\H p.1=none/\p.1≠X.env.locals/\p.1 ∉ X.fs/\∀ v,p.2.data≠.cell v
 hok:HOk X.prog X.w H s.heap
 len:σ.length=X.N.length
section
variable {X:Cx} {pins:List (Addr×Obj)} {σ:List (Option V)} {H H':Hp} {s:Ad} {h':Heap}
theorem Cx.Ok.nofr (ok:X.Ok) {b:Addr} {o:Obj} (e:X.base.get? b=some o):b ∉ X.fs:=fun hb=>by
 have:=(ok.funs.mem hb).1
 rw [e] at this; cases this
theorem Inv.bs (I:Inv X pins σ H s):∀ b o,X.base.get? b=some o->s.heap.get? b=some o/\H b=none:=fun b o e =>
 ⟨I.base.keep b o (I.ok.bs b o e).1 (I.ok.bs b o e).2 (I.ok.nofr e) (I.ok.noex b o e),I.base.free b o (I.ok.bs b o e).1 (I.ok.bs b o e).2 (I.ok.noex b o e)⟩
theorem Inv.bk (I:Inv X pins σ H s):∀ b o,X.base.get? b=some o->s.heap.get? b=some o:=fun b o e=>(I.bs b o e).1
theorem Inv.mod (I:Inv X pins σ H s):Mod X.K X.mg X.base:=I.ok.mod
theorem Inv.kIn (I:Inv X pins σ H s):X.K.In s.heap:=I.ok.mod.kin.keeps I.bk
theorem Inv.fr (I:Inv X pins σ H s):∃ m,Fr X.base X.env.locals s.heap m :=
 let ⟨m,hn,_⟩:=I.loc
 ⟨m,hn,I.bk,At I.ok.bsz I.ok.above⟩
theorem Inv.lt (I:Inv X pins σ H s):X.env.locals < s.heap.objs.size:=let ⟨_,hn,_⟩:=I.loc; hn.lt
theorem Inv.sz (I:Inv X pins σ H s):X.s₀.heap.objs.size<=s.heap.objs.size:=At I.ok.above (FI I.lt)
theorem Inv.nofs (I:Inv X pins σ H s) {a:Addr} (h:s.heap.objs.size<=a):a ∉ X.fs:=fun hb=>by
 obtain ⟨_,o,ho,_⟩:=I.ok.funs.mem hb
 exact absurd (AB (An ho) (At I.sz h)) (BM _)
theorem Inv.cne (I:Inv X pins σ H s):∀ x c,X.env.cells.lookup x=some c->c≠X.env.locals:=fun x c e z=>by
 obtain ⟨v,o,ho,hd⟩:=I.cell x c e
 obtain ⟨m,⟨o',es,ep,ho',hd',_⟩,_⟩:=I.loc
 rw [z,ho'] at ho; cases ho; rw [hd'] at hd; cases hd
theorem Inv.funs (I:Inv X pins σ H s):s.heap.FunFrames X.base X.outer:=by
 have all:∀ (l:List Env),(∀ b∈frs l,b∈X.fs)->X.s₀.heap.FunFrames X.base l->s.heap.FunFrames X.base l:=by
  intro l
  induction l with
  | nil=>intro _ _; trivial
  | cons env r ih =>
   intro hs hl
   obtain ⟨hk,⟨L,o,hf,hn,ho,hd⟩,hr⟩:=hl
   have hL:L∈X.fs:=hs L (by unfold frs; rw [Dq,hf]; exact AL)
   obtain ⟨sl,e⟩:=I.base.slot L o ho (I.ok.frf L hL) hL fun z=>I.ok.exfs L z hL
   exact ⟨hk,⟨L,_,hf,hn,e,hd⟩,ih (fun b hb=>hs b (by unfold frs; rw [Dq,hf]; exact AI _ hb)) hr⟩
 exact all X.outer (fun _ hb=>hb) I.ok.funs
theorem Inv.stack (I:Inv X pins σ H s):s.heap.FunFrames X.base X.stack:=by
 rcases I.ok.stk with e | ⟨e,hf⟩
 ·rw [e]; exact I.funs
 ·rw [e]
  obtain ⟨m,hn,_⟩:=I.loc
  refine .cons (by rw [I.ok.kind]; decide) hf hn ?_ I.funs
  exact Heap.get?_none_of_le (At I.ok.bsz I.ok.above)
theorem Inv.stkSub (I:Inv X pins σ H s):∀ b∈frs X.stack,b∈X.env.locals :: X.fs:=fun b hb=>by
 rcases I.ok.stk with e | ⟨e,hf⟩
 ·rw [e] at hb; exact AI _ hb
 ·rw [e] at hb
  unfold frs at hb
  rw [Dq,hf] at hb
  exact hb
theorem Inv.stkFree (I:Inv X pins σ H s):∀ b∈frs X.stack,H b=none:=fun b hb=>by
 rcases Aq.mp (I.stkSub b hb) with e | hb
 ·rw [e]; exact I.free
 ·obtain ⟨_,o,ho,_⟩:=I.ok.funs.mem hb
  exact I.base.free b o ho (I.ok.frf b hb) fun z=>I.ok.exfs b z hb
theorem Inv.step {g':Array GP} {t':Nat} {d':MX} {ch:List Addr} (I:Inv X pins σ H s)
  (hch:∀ b∈ch,(b∈X.ex\/X.s₀.heap.objs.size<=b)/\b≠X.env.locals/\(∀ x c,X.env.cells.lookup x=some c->c≠b)/\∀ p∈X.pn++pins,p.1≠b)
  (keep:∀ b o,b≠X.env.locals->b ∉ X.fs->b ∉ ch->s.heap.get? b=some o->H b=none->h'.get? b=some o)
  (slot:∀ b o,b≠X.env.locals->b∈X.fs->b ∉ ch->s.heap.get? b=some o->H b=none->∃ sl,h'.get? b=some { o with slots:=sl }) (free:∀ b o,b ∉ ch->s.heap.get? b=some o->H b=none->H' b=none)
  (there:∀ b o,b ∉ ch->s.heap.get? b=some o->∃ o',h'.get? b=some o')
  (tups:∀ b xs,H b=some (.tup xs)->H' b=some (.tup xs)) (frzs:∀ b o u,H b=some (.frz o u)->H' b=some (.frz o u)) (tbls:∀ b ps,H b=some (.tbl ps)->∃ more,H' b=some (.tbl (ps++more)))
  (ns:∀ m,s.heap.Ns X.env.locals m->h'.Ns X.env.locals m) (hok:HOk X.prog X.w H' h') (hg:Iw g') :
  Inv X pins σ H' { s with heap:=h',gens:=g',drawn:=d',toks:=t' }:=by
 have neL:∀ b o,X.s₀.heap.get? b=some o->b≠X.env.locals:=fun b o e=>AE (AB (An e) I.ok.above)
 have neC:∀ b o,X.s₀.heap.get? b=some o->b ∉ X.ex->b ∉ ch:=fun b o e hx hb=>by
  rcases (hch b hb).1 with z | z
  ·exact hx z
  ·exact absurd (AB (An e) z) (BM _)
 have cellK:∀ x c,X.env.cells.lookup x=some c->∀ v,s.heap.IsCell c v->h'.IsCell c v:=fun x c e v ⟨o,ho,hd⟩=>by
  have nch:c ∉ ch:=fun z=>(hch c z).2.2.1 x c e rfl
  by_cases hc:c∈X.fs
  ·obtain ⟨sl,q⟩:=slot c o (I.cne x c e) hc nch ho (I.freeC x c e)
   exact ⟨_,q,hd⟩
  ·exact ⟨o,keep c o (I.cne x c e) hc nch ho (I.freeC x c e),hd⟩
 refine ⟨I.ok,I.os,hg,⟨fun b o e n hb hx=>?_,fun b o e n hb hx=>?_,fun b o e n hx=>?_,fun b o e hx=>?_,fun b xs e=>tups b xs (I.base.tups b xs e),fun b o xs e=>frzs b o xs (I.base.frzs b o xs e),fun b ps e=>?_⟩,?_,fun x c e=>?_,?_,fun x c e=>?_,fun p hp=>?_,hok,I.len⟩
 ·exact keep b o (neL b o e) hb (neC b o e hx) (I.base.keep b o e n hb hx) (I.base.free b o e n hx)
 ·obtain ⟨sl,e1⟩:=I.base.slot b o e n hb hx
  obtain ⟨sl',e2⟩:=slot b _ (neL b o e) hb (neC b o e hx) e1 (I.base.free b o e n hx)
  exact ⟨sl',e2⟩
 ·obtain ⟨o',e1⟩:=I.base.there b o e hx
  exact free b o' (neC b o e hx) e1 (I.base.free b o e n hx)
 ·obtain ⟨o',e1⟩:=I.base.there b o e hx
  exact there b o' (neC b o e hx) e1
 ·obtain ⟨m1,e1⟩:=I.base.tbls b ps e
  obtain ⟨m2,e2⟩:=tbls b _ e1
  exact ⟨m1++m2,by rw [e2,Array.append_assoc]⟩
 ·obtain ⟨m,hn,hl⟩:=I.loc
  refine ⟨m,ns m hn,fun i x v e1 e2 e3=>?_⟩
  obtain ⟨u,r,l⟩:=hl i x v e1 e2 e3
  refine ⟨u,r,?_⟩
  rcases l with l | ⟨k,c,e,z⟩
  ·exact .inl l
  ·exact .inr ⟨k,c,e,cellK x c e _ z⟩
 ·obtain ⟨v,z⟩:=I.cell x c e
  exact ⟨v,cellK x c e v z⟩
 ·obtain ⟨m,⟨o,_,_,ho,_⟩,_⟩:=I.loc
  exact free _ o (fun z=>(hch _ z).2.1 rfl) ho I.free
 ·obtain ⟨v,o,ho,hd⟩:=I.cell x c e
  exact free c o (fun z=>(hch c z).2.2.1 x c e rfl) ho (I.freeC x c e)
 ·obtain ⟨e,n,ne,nf,d⟩:=I.pin p hp
  have nch:p.1 ∉ ch:=fun z=>(hch p.1 z).2.2.2 p hp rfl
  exact ⟨keep p.1 p.2 ne nf nch e n,free p.1 p.2 nch e n,ne,nf,d⟩
theorem Inv.un {t':Nat} (I:Inv X pins σ H s) (u:Un X.fs [] H H' s.heap h') (hok:HOk X.prog X.w H' h'):Inv X pins σ H' { s with heap:=h',toks:=t' }:=by
 obtain ⟨m,⟨o,es,ep,ho,r⟩,_⟩:=id I.loc
 obtain ⟨sl,hL⟩:=u.any ho I.free (by simp)
 exact I.step (g':=s.gens) (d':=s.drawn) (ch:=[]) (fun _ z=>nomatch z) (fun b o _ hb _ e n=>u.keep b o e n hb (by simp)) (fun b o _ hb _ e n=>u.slot b o e n hb (by simp)) (fun b o _ e n=>u.free b o e n (by simp)) (fun b o _ e=>u.there b o e (by simp)) u.tups u.frzs u.tbls (fun m' hm=>by
  obtain ⟨o',es',ep',ho',r'⟩:=hm
  rw [ho] at ho'; cases ho'
  exact ⟨_,es',ep',hL,r'⟩) hok I.bare
theorem Inv.call {g':Array GP} {t':Nat} {d':MX} {ch:List Addr} (I:Inv X pins σ H s) (u:Un (frs X.stack) ch H H' s.heap h') (hok:HOk X.prog X.w H' h') (hg:Iw g')
  (hch:∀ b∈ch,(b∈X.ex\/X.s₀.heap.objs.size<=b)/\b≠X.env.locals/\(∀ x c,X.env.cells.lookup x=some c->c≠b)/\∀ p∈X.pn++pins,p.1≠b) :
  Inv X pins σ H' { s with heap:=h',gens:=g',drawn:=d',toks:=t' }:=by
 obtain ⟨m,⟨o,es,ep,ho,r⟩,_⟩:=id I.loc
 obtain ⟨sl,hL⟩:=u.any ho I.free fun z=>(hch _ z).2.1 rfl
 exact I.step (ch:=ch) hch (fun b o hL hb hc e n=>u.keep b o e n (fun z=>(Aq.mp (I.stkSub b z)).elim hL hb) hc) (fun b o _ _ hc e n=>u.any e n hc) (fun b o hc e n=>u.free b o e n hc) (fun b o hc e=>u.there b o e hc) u.tups u.frzs u.tbls (fun m' hm=>by
  obtain ⟨o',es',ep',ho',r'⟩:=hm
  rw [ho] at ho'; cases ho'
  exact ⟨_,es',ep',hL,r'⟩) hok hg
theorem Inv.turned {t':Nat} {it:Addr} (I:Inv X pins σ H s) (k:∀ b o,b≠it->s.heap.get? b=some o->h'.get? b=some o) (hn:H it=none) (hL:it≠X.env.locals)
  (h1:it∈X.ex\/X.s₀.heap.objs.size<=it) (h2:∀ x c,X.env.cells.lookup x=some c->c≠it) (h3:∀ p∈X.pn++pins,p.1≠it):Inv X pins σ H { s with heap:=h',toks:=t' }:=by
 have nit:∀ b u,H b=some u->b≠it:=fun b u e z=>by rw [z,hn] at e; cases e
 refine I.step (g':=s.gens) (d':=s.drawn) (ch:=[it]) (fun b hb=>?_) (fun b o _ _ hc e _=>k b o (fun z=>hc (by simp [z])) e) (fun b o _ _ hc e _=>⟨o.slots,k b o (fun z=>hc (by simp [z])) e⟩) (fun _ _ _ _ n=>n)
  (fun b o hc e=>⟨o,k b o (fun z=>hc (by simp [z])) e⟩) (fun _ _ e=>e) (fun _ _ _ e=>e) (fun b ps e=>⟨#[],by rw [e]; simp⟩) (fun m hm=>?_) (fun b u e=>?_) I.bare
 ·have e:b=it:=by simpa using hb
  subst e
  exact ⟨h1,hL,h2,h3⟩
 ·obtain ⟨o,es,ep,ho,r⟩:=hm
  exact ⟨o,es,ep,k _ o (CB hL) ho,r⟩
 ·refine (I.hok b u e).stay (fun c v hc q=>k c v ?_ q) (fun _ q=>q) fun _ _ q=>q
  rcases hc with z | z
  ·rw [z]; exact nit b u e
  ·exact nit c _ z
theorem Inv.tok (I:Inv X pins σ H s) (t:Nat):Inv X pins σ H { s with toks:=t }:=I.un (h':=s.heap) (t':=t) Un.refl I.hok
theorem Inv.kept {t':Nat} (I:Inv X pins σ H s) (k:∀ b u,s.heap.get? b=some u->h'.get? b=some u):Inv X pins σ H { s with heap:=h',toks:=t' }:=I.un (Un.kept k) (I.hok.kept k)
theorem Inv.laid {a:Addr} {o:HO} {t':Nat} (I:Inv X pins σ H s) (k:∀ b u,s.heap.get? b=some u->h'.get? b=some u) (hp:s.heap.objs.size<=a) (new:ObjOk X.prog X.w (upd H a o) h' a o) :
  Inv X pins σ (upd H a o) { s with heap:=h',toks:=t' }:=I.un (Un.laid k hp (I.hok.fresh hp)) (I.hok.laid k hp new)
theorem Inv.write {x e:Addr} {o:HO} {t':Nat} (I:Inv X pins σ H s) (mu:Mut (H x)) (he:e=x\/H e=some (.own x)) (k:∀ b u,b≠e->s.heap.get? b=some u->h'.get? b=some u) (heo:∃ u,h'.get? e=some u)
  (new:ObjOk X.prog X.w (upd H x o) h' x o):Inv X pins σ (upd H x o) { s with heap:=h',toks:=t' }:=I.un (Un.write mu he k heo) (I.hok.write mu he k heo new)
theorem Inv.pins_of {pins':List (Addr×Obj)} (I:Inv X pins σ H s) (h:∀ p∈pins',s.heap.get? p.1=some p.2/\H p.1=none/\p.1≠X.env.locals/\p.1 ∉ X.fs/\∀ v,p.2.data≠.cell v):Inv X pins' σ H s :=
 ⟨I.ok,I.os,I.bare,I.base,I.loc,I.cell,I.free,I.freeC,fun p hp=>(Ar.mp hp).elim (fun z=>I.pin p (CJ _ z)) (h p),I.hok,I.len⟩
theorem aD3 {N:List Str} (hN:N.Nodup) {i j:Nat} {x:Str} (a:N[i]?=some x) (b:N[j]?=some x):i=j:=by
 obtain ⟨h1,e1⟩:=Ao.mp a
 obtain ⟨h2,e2⟩:=Ao.mp b
 exact (List.getElem_inj hN).mp (e1.trans e2.symm)
theorem aER {M:HL} {A:AR} {E:Value->Ad->Prop} {i:Nat} {x:Str} {v:V} {u:Value} {Q:Unit->Ad->Prop} (I:Inv X pins σ H s) (hN:X.N.Nodup) (hi:X.N[i]?=some x) (hx:Loc X.env.scope x) (r:RelV v u)
  (h:∀ s',Inv X pins (σ.set i (some v)) H s'->(∃ a,Ch a s.heap s'.heap/\(a=X.env.locals\/X.env.cells.lookup x=some a))->Q () s') (hf:X.fn x=true\/X.env.scope.names.lookup x=some .local:=by first | exact .inl rfl | exact .inr rfl | assumption):Ax M A (storeName X.env x u) Q E s:=by
 obtain ⟨m,hn,hl⟩:=id I.loc
 have hcls:(X.env.scope.kind == .class || (X.env.scope.kind == .module && X.env.locals != X.env.globals))=false:=by rw [I.ok.kind]; rfl
 have hiσ:i < σ.length:=by rw [I.len]; exact (Ao.mp hi).1
 have cne:=I.cne
 have tracked:∀ {a:Addr} {h':Heap},(∃ o,s.heap.get? a=some o/\H a=none)->Ch a s.heap h'->HOk X.prog X.w H h':=fun {a h'} ha hs b ob e=>by
  obtain ⟨_,_,hfree⟩:=ha
  refine (I.hok b ob e).stay (fun c w' hc q=>(hs.2 c ?_).trans q) (fun _ q=>q) fun _ _ q=>q
  rintro rfl
  rcases hc with rfl | hc
  ·rw [hfree] at e; cases e
  ·rw [hfree] at hc; cases hc
 rcases hx with hk | hk
 ·refine wpAny_storeName_local hk hn (fun h' hn' hs=>?_) hcls
  obtain ⟨oL,_,_,hoL,_⟩:=id hn
  refine h _ ⟨I.ok,I.os,I.bare,⟨fun b o e n hb hx=>?_,fun b o e n hb hx=>?_,I.base.free,fun b o e hx=>?_,I.base.tups,I.base.frzs,I.base.tbls⟩,⟨_,hn',fun j y v' e1 e2 e3=>?_⟩,fun y c e=>?_,I.free,I.freeC,fun p hp=>?_,tracked ⟨oL,hoL,I.free⟩ hs,by simpa using I.len⟩ ⟨_,hs,.inl rfl⟩
  ·exact (hs.2 b (AE (AB (An e) I.ok.above))).trans (I.base.keep b o e n hb hx)
  ·obtain ⟨sl,e1⟩:=I.base.slot b o e n hb hx
   exact ⟨sl,(hs.2 b (AE (AB (An e) I.ok.above))).trans e1⟩
  ·obtain ⟨o',e1⟩:=I.base.there b o e hx
   exact ⟨o',(hs.2 b (AE (AB (An e) I.ok.above))).trans e1⟩
  ·by_cases hj:j=i
   ·subst hj
    rw [hi] at e1; cases e1
    rw [IW hiσ] at e2
    cases e2
    exact ⟨u,r,.inl ⟨hk,by simp⟩⟩
   ·rw [JO (CB hj)] at e2
    obtain ⟨u',r',q⟩:=hl j y v' e1 e2 e3
    refine ⟨u',r',?_⟩
    rcases q with ⟨k,e⟩ | ⟨k,c,e,z⟩
    ·refine .inl ⟨k,?_⟩
     have:y≠x:=fun e=>hj (aD3 hN e1 (e ▸ hi))
     simp [this,e]
    ·exact .inr ⟨k,c,e,z.sameBut hs (cne y c e)⟩
  ·obtain ⟨w',z⟩:=I.cell y c e
   exact ⟨w',z.sameBut hs (cne y c e)⟩
  ·obtain ⟨e,n,ne,nf,d⟩:=I.pin p hp
   exact ⟨(hs.2 p.1 ne).trans e,n,ne,nf,d⟩
 ·have hfn:X.fn x=true:=by
   rcases hf with z | z
   ·exact z
   ·rw [z] at hk; cases hk
  obtain ⟨c,hc⟩:=I.ok.has x (.inl hk)
  obtain ⟨w',z⟩:=I.cell x c hc
  refine wpAny_storeName_cell I.ok.kind hk hc z (fun h' hc' hs=>?_)
  obtain ⟨oc,hoc,hocd⟩:=id z
  refine h { s with heap:=h' } ⟨I.ok,I.os,I.bare,⟨fun b o e n hb hx=>?_,fun b o e n hb hx=>?_,I.base.free,fun b o e hx=>?_,I.base.tups,I.base.frzs,I.base.tbls⟩,⟨m,hn.sameBut hs (CB (cne x c hc)),fun j y v' e1 e2 e3=>?_⟩,fun y c' e=>?_,I.free,I.freeC,fun p hp=>?_,tracked ⟨oc,hoc,I.freeC x c hc⟩ hs,by simpa using I.len⟩ ⟨c,hs,.inr hc⟩
  ·exact (hs.2 b (AE (AB (An e) (I.ok.cab x c hfn hc)))).trans (I.base.keep b o e n hb hx)
  ·obtain ⟨sl,e1⟩:=I.base.slot b o e n hb hx
   exact ⟨sl,(hs.2 b (AE (AB (An e) (I.ok.cab x c hfn hc)))).trans e1⟩
  ·obtain ⟨o',e1⟩:=I.base.there b o e hx
   exact ⟨o',(hs.2 b (AE (AB (An e) (I.ok.cab x c hfn hc)))).trans e1⟩
  ·by_cases hj:j=i
   ·subst hj
    rw [hi] at e1; cases e1
    rw [IW hiσ] at e2
    cases e2
    exact ⟨u,r,.inr ⟨.inl hk,c,hc,hc'⟩⟩
   ·rw [JO (CB hj)] at e2
    obtain ⟨u',r',q⟩:=hl j y v' e1 e2 e3
    refine ⟨u',r',?_⟩
    rcases q with q | ⟨k,c',e,z'⟩
    ·exact .inl q
    ·refine .inr ⟨k,c',e,z'.sameBut hs ?_⟩
     rintro rfl
     exact hj (aD3 hN e1 (I.ok.inj _ _ _ e hc ▸ hi))
  ·by_cases hcc:c'=c
   ·subst hcc; exact ⟨_,hc'⟩
   ·obtain ⟨w2,z2⟩:=I.cell y c' e
    exact ⟨w2,z2.sameBut hs hcc⟩
  ·obtain ⟨e,n,ne,nf,d⟩:=I.pin p hp
   refine ⟨(hs.2 p.1 ?_).trans e,n,ne,nf,d⟩
   intro q
   rw [q,hoc] at e
   have q':oc=p.2:=BA e
   exact d w' (by rw [<- q']; exact hocd)
theorem aAG {M:HL} {A:AR} {E:Value->Ad->Prop} {i:Nat} {x:Str} {v:V} {u:Value} {Q:Unit->Ad->Prop} (I:Inv X pins σ H s) (hN:X.N.Nodup) (hi:X.N[i]?=some x) (hx:Loc X.env.scope x) (r:RelV v u)
  (h:∀ s',Inv X pins (σ.set i (some v)) H s'->Q () s') (hf:X.fn x=true\/X.env.scope.names.lookup x=some .local:=by first | exact .inl rfl | exact .inr rfl | assumption):Ax M A (storeName X.env x u) Q E s :=
 aER I hN hi hx r (fun s' I' _=>h s' I') hf
theorem Inv.call' {s':Ad} {ch:List Addr} (I:Inv X pins σ H s) (ho:s'.os=s.os) (u:Un (frs X.stack) ch H H' s.heap s'.heap) (hok:HOk X.prog X.w H' s'.heap) (hg:Iw s'.gens)
  (hch:∀ b∈ch,(b∈X.ex\/X.s₀.heap.objs.size<=b)/\b≠X.env.locals/\(∀ x c,X.env.cells.lookup x=some c->c≠b)/\∀ p∈X.pn++pins,p.1≠b):Inv X pins σ H' s':=by
 obtain ⟨h',g',d',t',o'⟩:=s'
 have e:o'=s.os:=ho
 subst e
 exact I.call (g':=g') (t':=t') (d':=d') u hok hg hch
end
noncomputable abbrev XK:=Value->Option Addr->Hp->Prop
noncomputable abbrev St:=List (Option V)
noncomputable abbrev VK:=V->Hp->Prop
noncomputable abbrev TE:=St->Hp->VK->Prop
noncomputable abbrev TT:=St->Hp->(Bool->Hp->Prop)->Prop
noncomputable abbrev TA:=St->Hp->(List V->Hp->Prop)->Prop
structure Ends where
 nx:St->Hp->Prop
 rt:VK
 bk:St->Hp->Prop:=fun _ _=>False
 ct:St->Hp->Prop:=fun _ _=>False
noncomputable abbrev TS:=Ends->St->Hp->Prop
noncomputable def EP (X:Cx) (pins:List (Addr×Obj)) (σ:St) (Q:VK) (u:Value) (s':Ad):Prop:=∃ v H',Inv X pins σ H' s'/\RelV v u/\Q v H'
noncomputable def TP (X:Cx) (pins:List (Addr×Obj)) (σ:St) (Q:Bool->Hp->Prop) (b:Bool) (s':Ad):Prop:=∃ H',Inv X pins σ H' s'/\Q b H'
noncomputable def AP (X:Cx) (pins:List (Addr×Obj)) (σ:St) (Q:List V->Hp->Prop) (us:List Value) (s':Ad):Prop:=∃ vs H',Inv X pins σ H' s'/\Vals vs us/\Q vs H'
noncomputable def SP (X:Cx) (pins:List (Addr×Obj)) (D:Ends) (f:Flow) (s':Ad):Prop :=
 match f with
 | .next=>∃ σ' H',Inv X pins σ' H' s'/\D.nx σ' H'
 | .brk=>∃ σ' H',Inv X pins σ' H' s'/\D.bk σ' H'
 | .cont=>∃ σ' H',Inv X pins σ' H' s'/\D.ct σ' H'
 | .ret u=>∃ v σ' H',Inv X pins σ' H' s'/\RelV v u/\D.rt v H'
noncomputable def PE (X:Cx) (e:Expr) (t:TE):Prop :=
 ∀ (pins:List (Addr×Obj)) (s:Ad) (σ:St) (H:Hp) (Q:VK),Inv X pins σ H s->t σ H Q->Ax (AC X.prog X.w) X.A (eval e X.env) (EP X pins σ Q) X.xe s
noncomputable def PT (X:Cx) (e:Expr) (t:TT):Prop :=
 ∀ (pins:List (Addr×Obj)) (s:Ad) (σ:St) (H:Hp) (Q:Bool->Hp->Prop),Inv X pins σ H s->t σ H Q->Ax (AC X.prog X.w) X.A (isTrue e X.env (eval e X.env)) (TP X pins σ Q) X.xe s
noncomputable def PW (X:Cx) (e:Expr) (t:TT):Prop :=
 ∀ (whole:Sem Value) (pins:List (Addr×Obj)) (s:Ad) (σ:St) (H:Hp) (Q:Bool->Hp->Prop),Inv X pins σ H s->t σ H Q->Ax (AC X.prog X.w) X.A (isTrue e X.env whole) (TP X pins σ Q) X.xe s
theorem PW.pt {X:Cx} {e:Expr} {t:TT} (h:PW X e t):PT X e t:=h _
noncomputable def PA (X:Cx) (es:List Expr) (t:TA):Prop :=
 ∀ (pos:Pos) (pins:List (Addr×Obj)) (s:Ad) (σ:St) (H:Hp) (Q:List V->Hp->Prop),Inv X pins σ H s->t σ H Q->Ax (AC X.prog X.w) X.A (spliced (FJ pos (Bk es X.env))) (AP X pins σ Q) X.xe s
noncomputable def PS (X:Cx) (st:Stmt) (t:TS):Prop :=
 ∀ (pins:List (Addr×Obj)) (s:Ad) (σ:St) (H:Hp) (D:Ends),Inv X pins σ H s->t D σ H->Ax (AC X.prog X.w) X.A (exec st X.env) (SP X pins D) X.xe s
noncomputable def PSs (X:Cx) (st:List Stmt) (t:TS):Prop :=
 ∀ (pins:List (Addr×Obj)) (s:Ad) (σ:St) (H:Hp) (D:Ends),Inv X pins σ H s->t D σ H->Ax (AC X.prog X.w) X.A (execs st X.env) (SP X pins D) X.xe s
theorem thn {α:Type} {t:Sem α} {Q Q':α->Ad->Prop} {M:HL} {A:AR} {E:Value->Ad->Prop} {s:Ad} (h:Ax M A t Q E s) (hQ:∀ a s,Q a s->Q' a s):Ax M A t Q' E s:=BJ h hQ fun _ _ x=>x
section
variable {X:Cx}
noncomputable def tVar (i:Nat):TE:=fun σ H Q=>∃ v,σ[i]?=some (some v)/\Q v H
noncomputable def tC (v:V):TE:=fun _ H Q=>Q v H
theorem aIn {i:Nat} {x:Str} {pos:Pos} (hN:X.N[i]?=some x) (hv:Vis X.env.scope x) (hd:(x == ("__debug__":Str))=false:=by decide) (hcd:(x == ("__classdict__":Str))=false:=by decide):PE X (.Name x pos) (tVar i):=by
 intro pins s σ H Q I h
 obtain ⟨v,e,h⟩:=h
 obtain ⟨m,hn,hl⟩:=I.loc
 obtain ⟨u,r,l⟩:=hl i x v hN e hv
 have fin:EP X pins σ Q u s:=⟨v,H,I,r,h⟩
 rcases l with ⟨hk,hm⟩ | ⟨hk,c,hc,hcell⟩
 ·exact MM (wpAny_loadName_local I.ok.kind hk hn hm fin) hd
 ·rcases hk with hk | hk
  ·exact MM (wpAny_loadName_cell I.ok.kind hk hc hcell fin) hd
  ·exact MM (wpAny_loadName_free I.ok.kind hk hc hcell fin hcd) hd
theorem zD {i j pos}:PE X (.Constant (.int i) j pos) (tC (.int i)):=fun _ _ _ H _ I h=>wpAny_Constant_int ⟨.int i,H,I.tok _,⟨_,rfl⟩,h⟩
theorem qT {b j pos}:PE X (.Constant (.bool b) j pos) (tC (.bl b)):=fun _ _ _ H _ I h=>Constant_bool ⟨.bl b,H,I,rfl,h⟩
theorem aHH {x j pos}:PE X (.Constant (.str x) j pos) (tC (.str x)):=fun _ _ _ H _ I h=>Calls.Constant_str ⟨.str x,H,I.tok _,⟨_,rfl⟩,h⟩
noncomputable def Gl (X:Cx) (x:Str):Prop:=X.env.kindOf x=some .globalImplicit
theorem aAN {E:Value->Ad->Prop} {pins:List (Addr×Obj)} {s:Ad} {σ:St} {H:Hp} {x:Str} {u:Value} {pos:Pos} {Q:Value->Ad->Prop} (I:Inv X pins σ H s) (hg:Gl X x) (hm:X.mg x=some u) (h:Q u s)
  (hd:(x == ("__debug__":Str))=false:=by decide):Ax (AC X.prog X.w) X.A (eval (.Name x pos) X.env) Q E s :=
 Ht I.ok.kind hg (Calls.loadGlobal_global (by rw [I.ok.glob]; exact I.mod.glob.keeps I.bk) hm h) hd
theorem aA6 {E:Value->Ad->Prop} {pins:List (Addr×Obj)} {s:Ad} {σ:St} {H:Hp} {x:Str} {u:Value} {pos:Pos} {Q:Value->Ad->Prop} (I:Inv X pins σ H s) (hg:Gl X x) (hm:X.mg x=none) (hv:BR x=some u) (h:Q u s)
  (hn:x≠"__name__":=by decide) (hd:(x == ("__debug__":Str))=false:=by decide):Ax (AC X.prog X.w) X.A (eval (.Name x pos) X.env) Q E s:=by
 obtain ⟨mb,h1,h2⟩:=I.mod.blt
 exact Ht I.ok.kind hg (Calls.loadGlobal_builtin (by rw [I.ok.glob]; exact I.mod.glob.keeps I.bk) hm (by rw [I.ok.blt]; exact h1.keeps I.bk) ((h2 x hn).trans hv) h) hd
theorem aES {x:Str} {v:V} {u:Value} {pos:Pos} (hg:Gl X x) (hm:X.mg x=some u) (r:RelV v u) (hd:(x == ("__debug__":Str))=false:=by decide):PE X (.Name x pos) (tC v) :=
 fun _ _ _ H _ I h=>aAN I hg hm ⟨v,H,I,r,h⟩ hd
theorem aHl {x:Str} {v:V} {u:Value} {pos:Pos} (hg:Gl X x) (hm:X.mg x=none) (hv:BR x=some u) (r:RelV v u) (hn:x≠"__name__":=by decide) (hd:(x == ("__debug__":Str))=false:=by decide):PE X (.Name x pos) (tC v) :=
 fun _ _ _ H _ I h=>aA6 I hg hm hv ⟨v,H,I,r,h⟩ hn hd
variable {a b:Expr} {ta tb:TE} {pos:Pos}
noncomputable def tB (t:TE):TT:=fun σ H Q=>t σ H fun x H1=>∃ c,x=.bl c/\Q c H1
theorem aD4 {e:Expr} {t:TE} (h:PE X e t) (he:∀ whole,isTrue e X.env whole=(do let v <- whole; Km e.pos; Ji [v] (truthy v)):=by intro _; rfl):PT X e (tB t):=by
 intro pins s σ H Q I hw
 refine isTrue_plain (thn (h pins s σ H _ I hw) fun v s1 ⟨x,H1,I1,r1,q1⟩=>?_) (he _)
 obtain ⟨d,rfl,q⟩:=q1
 cases r1
 exact Ej ⟨H1,I1,q⟩
variable {tA tB':TT} {rest:List Expr}
noncomputable def tAnd (t u:TT):TT:=fun σ H Q=>t σ H fun c H1=>if c=true then u σ H1 Q else Q false H1
noncomputable def tOr (t u:TT):TT:=fun σ H Q=>t σ H fun c H1=>if c=true then Q true H1 else u σ H1 Q
noncomputable def tNot (t:TT):TT:=fun σ H Q=>t σ H fun c H1=>Q (!c) H1
theorem aB3 (ha:PT X a tA):PW X (.BoolOp .And [a] pos) tA:=by
 intro wh pins s σ H Q I h
 refine isTrue_and (thn (ha pins s σ H Q I h) fun c s1 e=>?_)
 cases c with
 | true=>exact isTrue_and_nil e
 | false=>exact e
theorem aHI (ha:PT X a tA):PW X (.BoolOp .Or [a] pos) tA:=by
 intro wh pins s σ H Q I h
 refine isTrue_or (thn (ha pins s σ H Q I h) fun c s1 e=>?_)
 cases c with
 | false=>exact isTrue_or_nil e
 | true=>exact e
theorem aBd (ha:PT X a tA) (hb:PW X (.BoolOp .And (b :: rest) pos) tB'):PW X (.BoolOp .And (a :: b :: rest) pos) (tAnd tA tB'):=by
 intro wh pins s σ H Q I h
 refine isTrue_and (thn (ha pins s σ H _ I h) fun c s1 ⟨H1,I1,q1⟩=>?_)
 cases c with
 | true=>exact hb wh pins s1 σ H1 Q I1 q1
 | false=>exact ⟨H1,I1,q1⟩
theorem aIo (ha:PT X a tA) (hb:PW X (.BoolOp .Or (b :: rest) pos) tB'):PW X (.BoolOp .Or (a :: b :: rest) pos) (tOr tA tB'):=by
 intro wh pins s σ H Q I h
 refine isTrue_or (thn (ha pins s σ H _ I h) fun c s1 ⟨H1,I1,q1⟩=>?_)
 cases c with
 | true=>exact ⟨H1,I1,q1⟩
 | false=>exact hb wh pins s1 σ H1 Q I1 q1
theorem aIp (ha:PT X a tA):PT X (.UnaryOp .Not a pos) (tNot tA):=by
 intro pins s σ H Q I h
 exact isTrue_not (ha pins s σ H (fun c H1=>Q (!c) H1) I h)
noncomputable def tIf (t:TT) (ta tb:TE):TE:=fun σ H Q=>t σ H fun c H1=>if c=true then ta σ H1 Q else tb σ H1 Q
theorem aD5 {c:Expr} (hc:PT X c tA) (ha:PE X a ta) (hb:PE X b tb):PE X (.IfExp c a b pos) (tIf tA ta tb):=by
 intro pins s σ H Q I h
 refine wpAny_IfExp (thn (hc pins s σ H _ I h) fun d s1 ⟨H1,I1,q1⟩=>?_)
 cases d with
 | true=>exact ha pins s1 σ H1 Q I1 q1
 | false=>exact hb pins s1 σ H1 Q I1 q1
end
noncomputable def SqL (K:Ah) (H:Hp) (a:Addr) (xs:List V):Prop :=
 Rd H a (.lst xs) \/
  ∃ (o:Obj) (its:Array Value) (n:Nat),K.lookup a=some o/\o.cls=.type "list"/\o.dict=none/\o.data=.seq its n/\its.size<=sizeLine/\Vals xs its.toList
noncomputable def SqT (K:Ah) (H:Hp) (a:Addr) (xs:List V):Prop :=
 Rd H a (.tup xs) \/
  ∃ (o:Obj) (its:Array Value) (n:Nat),K.lookup a=some o/\o.cls=.type "tuple"/\o.data=.seq its n/\its.size<=sizeLine/\Vals xs its.toList
noncomputable def absV:Value->Option V
 | .none=>some .non
 | .bool b=>some (.bl b)
 | .int i _=>some (.int i)
 | .str x _=>some (.str x)
 | .bytes b _=>some (.byt b)
 | .float b _=>some (.flt b)
 | .ref a=>some (.ref a)
 | .type n=>some (.ty n)
 | _=>none
theorem RelV.abs {x:V} {u:Value} (r:RelV x u):absV u=some x:=by
 cases x with
 | non=>cases r; rfl
 | bl _=>cases r; rfl
 | int _=>obtain ⟨t,rfl⟩:=r; rfl
 | str _=>obtain ⟨t,rfl⟩:=r; rfl
 | byt _=>obtain ⟨t,rfl⟩:=r; rfl
 | flt _=>obtain ⟨t,rfl⟩:=r; rfl
 | ref _=>cases r; rfl
 | ty _=>cases r; rfl
theorem RelV.inj {x y:V} {u:Value} (r:RelV x u) (q:RelV y u):x=y:=BA (r.abs.symm.trans q.abs)
theorem Vals.inj:∀ {xs ys:List V} {us:List Value},Vals xs us->Vals ys us->xs=ys
 | _,_,_,.nil,.nil=>rfl
 | _,_,_,.cons r t,.cons r' t'=>by rw [r.inj r',Vals.inj t t']
section
variable {X:Cx} {pins:List (Addr×Obj)} {σ:St} {H:Hp} {s:Ad} {a:Addr} {xs ys:List V}
theorem SqL.of {K:Ah} (h:H a=some (.lst xs)):SqL K H a xs:=.inl (.inl h)
theorem SqT.of {K:Ah} (h:H a=some (.tup xs)):SqT K H a xs:=.inl (.inl h)
theorem Inv.list (I:Inv X pins σ H s) (h:SqL X.K H a xs):∃ its:List Value,Vals xs its/\PlainL s.heap a its.toArray/\xs.length<=sizeLine:=by
 rcases h with h | ⟨o,its,n,hk,hc,hd,hs,hz,r⟩
 ·obtain ⟨z,its,n,r,e⟩:=h.ok I.hok
  exact ⟨its,r,⟨_,n,e,rfl,rfl,rfl⟩,z⟩
 ·refine ⟨its.toList,r,⟨o,n,I.kIn a o hk,hc,hd,by simpa using hs⟩,?_⟩
  have e:=r.length
  simp only [AA] at e
  lia
theorem Inv.tuple (I:Inv X pins σ H s) (h:SqT X.K H a xs):∃ its:List Value,Vals xs its/\NK s.heap a its.toArray/\xs.length<=sizeLine:=by
 rcases h with h | ⟨o,its,n,hk,hc,hs,hz,r⟩
 ·obtain ⟨z,its,r,p⟩:=h.ok I.hok
  exact ⟨its,r,p,z⟩
 ·refine ⟨its.toList,r,⟨o,I.kIn a o hk,hc,n,by simpa using hs⟩,?_⟩
  have e:=r.length
  simp only [AA] at e
  lia
theorem Inv.list_inj (I:Inv X pins σ H s) (h:SqL X.K H a xs) (h':SqL X.K H a ys):xs=ys:=by
 obtain ⟨its,r,⟨o,n,e,_,_,d⟩,_⟩:=I.list h
 obtain ⟨its',r',⟨o',n',e',_,_,d'⟩,_⟩:=I.list h'
 rw [e] at e'; cases e'
 rw [d] at d'
 injection d' with d1 _
 have:its=its':=by simpa using congrArg Nm d1
 subst this
 exact r.inj r'
theorem Inv.tuple_inj (I:Inv X pins σ H s) (h:SqT X.K H a xs) (h':SqT X.K H a ys):xs=ys:=by
 obtain ⟨its,r,⟨o,e,_,n,d⟩,_⟩:=I.tuple h
 obtain ⟨its',r',⟨o',e',_,n',d'⟩,_⟩:=I.tuple h'
 rw [e] at e'; cases e'
 rw [d] at d'
 injection d' with d1 _
 have:its=its':=by simpa using congrArg Nm d1
 subst this
 exact r.inj r'
end
noncomputable abbrev Cx.wish (X:Cx) (E:Value->Ad->Prop):Cx:={ X with xe:=E }
noncomputable abbrev Cx.nox (X:Cx):Cx:=X.wish fun _ _=>False
theorem Cx.Ok.wish {X:Cx} (ok:X.Ok) (E:Value->Ad->Prop):(X.wish E).Ok :=
 ⟨ok.mod,ok.kind,ok.glob,ok.blt,ok.above,ok.inj,ok.has,ok.cab,ok.hd,ok.frames,ok.stk,ok.exf,ok.bs,ok.bsz,ok.noex,ok.exfs,ok.funs,ok.frf⟩
theorem Cx.Ok.unwish {X:Cx} {E:Value->Ad->Prop} (ok:(X.wish E).Ok):X.Ok :=
 ⟨ok.mod,ok.kind,ok.glob,ok.blt,ok.above,ok.inj,ok.has,ok.cab,ok.hd,ok.frames,ok.stk,ok.exf,ok.bs,ok.bsz,ok.noex,ok.exfs,ok.funs,ok.frf⟩
section
variable {X:Cx} {pins:List (Addr×Obj)} {σ:St} {H:Hp} {s:Ad} {E:Value->Ad->Prop}
theorem Inv.wish (I:Inv X pins σ H s) (E:Value->Ad->Prop):Inv (X.wish E) pins σ H s:=⟨I.ok.wish E,I.os,I.bare,I.base,I.loc,I.cell,I.free,I.freeC,I.pin,I.hok,I.len⟩
theorem Inv.unwish (I:Inv (X.wish E) pins σ H s):Inv X pins σ H s:=⟨I.ok.unwish,I.os,I.bare,I.base,I.loc,I.cell,I.free,I.freeC,I.pin,I.hok,I.len⟩
theorem SP.unwish {D:Ends} {f:Flow} {s':Ad} (h:SP (X.wish E) pins D f s'):SP X pins D f s':=by
 cases f with
 | next=>obtain ⟨σ',H',I,q⟩:=h; exact ⟨σ',H',I.unwish,q⟩
 | brk=>obtain ⟨σ',H',I,q⟩:=h; exact ⟨σ',H',I.unwish,q⟩
 | cont=>obtain ⟨σ',H',I,q⟩:=h; exact ⟨σ',H',I.unwish,q⟩
 | ret u=>obtain ⟨v,σ',H',I,r,q⟩:=h; exact ⟨v,σ',H',I.unwish,r,q⟩
theorem PSs.nox {st:List Stmt} {t:TS} (h:PSs X.nox st t):PSs X st t:=fun pins s σ H D I hw =>
 BJ (h pins s σ H D (I.wish _) hw) (fun _ _ q=>q.unwish) fun _ _ z=>EJ z
end
section
variable {X:Cx} {st:Stmt} {rest:List Stmt} {t u:TS} {e:Expr} {te:TE} {pos:Pos}
noncomputable def aHm:TS:=fun D σ H=>D.nx σ H
noncomputable def tSeq (t u:TS):TS:=fun D σ H=>t { D with nx:=u D } σ H
theorem zg:PSs X [] aHm:=fun _ _ σ H _ I h=>FP ⟨σ,H,I,h⟩
theorem zH (h1:PS X st t) (h2:PSs X rest u):PSs X (st :: rest) (tSeq t u):=by
 intro pins s σ H D I h
 refine LN (thn (h1 pins s σ H { D with nx:=u D } I h) fun f s1 q=>?_)
 cases f with
 | next =>
  obtain ⟨σ',H',I',q⟩:=q
  exact h2 pins s1 σ' H' D I' q
 | ret v=>exact q
 | brk=>exact q
 | cont=>exact q
theorem zN (h1:PS X st t):PSs X [st] t:=by
 intro pins s σ H D I h
 refine LN (thn (h1 pins s σ H D I h) fun f s1 q=>?_)
 cases f with
 | next=>exact FP q
 | ret v=>exact q
 | brk=>exact q
 | cont=>exact q
noncomputable def aKR:TS:=fun D σ H=>D.ct σ H
theorem aCR:PS X (.Continue pos) aKR:=fun _ _ σ H _ I h=>wpAny_Continue ⟨σ,H,I,h⟩
theorem Inv.quiet {pins:List (Addr×Obj)} {σ:St} {H:Hp} {s:Ad} (I:Inv X pins σ H s):interactive X.env=false:=by simp [interactive,I.ok.kind]
noncomputable def aKS (te:TE):TS:=fun D σ H=>te σ H fun _ H1=>D.nx σ H1
theorem yy (he:PE X e te) (hs:Gr e none pos.line X.env=pure false:=by rfl):PS X (.Expr e pos) (aKS te):=by
 intro pins s σ H D I h
 exact wpAny_Expr_any (thn (he pins s σ H _ I h) fun v s1 ⟨x,H1,I1,r1,q1⟩=>⟨σ,H1,I1,q1⟩) I.quiet hs
noncomputable def tRet (te:TE):TS:=fun D σ H=>te σ H D.rt
theorem zh (he:PE X e te):PS X (.Return (some e) pos) (tRet te):=by
 intro pins s σ H D I h
 exact wpAny_Return_some (thn (he pins s σ H _ I h) fun v s1 ⟨x,H1,I1,r1,q1⟩=>⟨x,σ,H1,I1,r1,q1⟩)
noncomputable def tIfS (c:TT) (t u:TS):TS:=fun D σ H=>c σ H fun b H1=>if b=true then t D σ H1 else u D σ H1
theorem yd {c:Expr} {a b:List Stmt} {tc:TT} (hc:PT X c tc) (ha:PSs X a t) (hb:PSs X b u):PS X (.If c a b pos) (tIfS tc t u):=by
 intro pins s σ H D I h
 refine wpAny_If (thn (hc pins s σ H _ I h) fun d s1 ⟨H1,I1,q1⟩=>?_)
 cases d with
 | true=>exact ha pins s1 σ H1 D I1 q1
 | false=>exact hb pins s1 σ H1 D I1 q1
end
noncomputable abbrev TG:=V->St->Hp->(St->Hp->Prop)->Prop
noncomputable abbrev TGs:=List V->St->Hp->(St->Hp->Prop)->Prop
noncomputable def PG (X:Cx) (target:Expr) (t:TG):Prop :=
 ∀ (pins:List (Addr×Obj)) (s:Ad) (σ:St) (H:Hp) (v:V) (u:Value) (Q:St->Hp->Prop),Inv X pins σ H s->RelV v u->t v σ H Q ->
  Ax (AC X.prog X.w) X.A (KD target X.env u) (fun _ s'=>∃ σ' H',Inv X pins σ' H' s'/\Q σ' H') X.xe s
noncomputable def PGs (X:Cx) (ts:List Expr) (t:TGs):Prop :=
 ∀ (pins:List (Addr×Obj)) (s:Ad) (σ:St) (H:Hp) (vs:List V) (us:List Value) (Q:St->Hp->Prop),Inv X pins σ H s->Vals vs us->t vs σ H Q ->
  Ax (AC X.prog X.w) X.A (assignInOrder ((Gj ts X.env).map (·.2)) us) (fun _ s'=>∃ σ' H',Inv X pins σ' H' s'/\Q σ' H') X.xe s
section
variable {X:Cx} {pos:Pos}
noncomputable def jL (i:Nat):TG:=fun v σ H Q=>Q (σ.set i (some v)) H
theorem zP {i:Nat} {x:Str} (hN:X.N.Nodup) (hi:X.N[i]?=some x) (hx:Loc X.env.scope x) (hf:X.fn x=true\/X.env.scope.names.lookup x=some .local:=by first | exact .inl rfl | exact .inr rfl | assumption):PG X (.Name x pos) (jL i):=by
 intro pins s σ H v u Q I r h
 exact wpAny_assign_Name (aAG I hN hi hx r (fun s' I'=>⟨_,H,I',h⟩) hf)
noncomputable def gNil:TGs:=fun vs σ H Q=>vs=[]/\Q σ H
noncomputable def aKT (t:TG) (u:TGs):TGs:=fun vs σ H Q=>∃ v r,vs=v :: r/\t v σ H fun σ' H'=>u r σ' H' Q
theorem qk:PGs X [] gNil:=by
 intro pins s σ H vs us Q I r h
 obtain ⟨e,h⟩:=h
 subst e
 cases r
 exact assignInOrder_nil ⟨σ,H,I,h⟩
theorem zk {e:Expr} {es:List Expr} {t:TG} {u:TGs} (h1:PG X e t) (h2:PGs X es u)
  (hs:(Gj (e :: es) X.env).map (·.2)=KD e X.env :: (Gj es X.env).map (·.2):=by rfl):PGs X (e :: es) (aKT t u):=by
 intro pins s σ H vs us Q I r h
 obtain ⟨v,vr,e1,h⟩:=h
 subst e1
 cases r with
 | cons r rr =>
  rw [hs]
  refine assignInOrder_cons (thn (h1 pins s σ H _ _ _ I r h) fun _ s1 ⟨σ1,H1,I1,q1⟩=>?_)
  exact h2 pins s1 σ1 H1 _ _ Q I1 rr q1
noncomputable def gTup (K:Ah) (n:Nat) (t:TGs):TG:=fun v σ H Q=>∃ a xs,v=.ref a/\SqT K H a xs/\xs.length=n/\t xs σ H Q
theorem aA7 {es:List Expr} {k:Nat} {t:TGs} {n:Nat} (hc:X.calm=true) (h:PGs X es t)
  (hn:(Gj es X.env).length=n:=by rfl) (hst:(Gj es X.env).findIdx? (·.1)=none:=by rfl):PG X (.Tuple es k pos) (gTup X.K n t):=by
 intro pins s σ H v u Q I r hw
 obtain ⟨a,xs,e1,hq,hl,hw⟩:=hw
 subst e1
 cases r
 obtain ⟨its,rv,ht,hz⟩:=I.tuple hq
 refine assign_Tuple_tuple (I.ok.hd hc) ht (by simp [hn,<- hl,rv.length]) hst fun h' hx=>?_
 have I1:Inv X pins σ H { s with heap:=h' }:=I.kept (t':=s.toks) fun b o e=>hx b o (AE (An e)) e
 exact h pins _ σ H xs _ Q I1 (by simpa using rv) hw
noncomputable def tAsg (te:TE) (g:TG):TS:=fun D σ H=>te σ H fun x H1=>g x σ H1 D.nx
theorem aIq {tg e:Expr} {te:TE} {g:TG} (he:PE X e te) (hg:PG X tg g) (hs:swapsWithSole [tg] e pos.line X.env=pure false:=by rfl) (hw:swappedStores [tg] e X.env=pure none:=by rfl)
  (h1:(Gj [tg] X.env).map (·.2)=[KD tg X.env]:=by rfl):PS X (.Assign [tg] e pos) (tAsg te g):=by
 intro pins s σ H D I h
 refine wpAny_Assign_stores (thn (he pins s σ H _ I h) fun v s1 ⟨x,H1,I1,r1,q1⟩=>?_) hs hw
 rw [h1]
 exact thn (hg pins s1 σ H1 x v _ I1 r1 q1) fun _ s2 q=>q
theorem zS {i:Nat} {x:Str} {e:Expr} {te:TE} {pos':Pos} (hN:X.N.Nodup) (hi:X.N[i]?=some x) (hx:Loc X.env.scope x) (he:PE X e te) (hs:Gr e (some (.Name x pos')) pos.line X.env=pure false:=by rfl) (hf:X.fn x=true\/X.env.scope.names.lookup x=some .local:=by first | exact .inl rfl | exact .inr rfl | assumption) :
  PS X (.Assign [.Name x pos'] e pos) (tAsg te (jL i)):=by
 intro pins s σ H D I h
 refine wpAny_Assign_Name (thn (he pins s σ H _ I h) fun v s1 ⟨y,H1,I1,r1,q1⟩=>?_) hs
 exact aAG I1 hN hi hx r1 (fun s2 I2=>⟨_,H1,I2,q1⟩) hf
noncomputable def aIr (c:TT) (tb:TS):TS:=fun D σ H=>∃ W:Nat->St->Hp->Prop,(∃ m,W m σ H)/\∀ m σ H,W m σ H ->
 c σ H fun b H1=>if b=true then ∃ N:St->Hp->Prop,(∀ σ' H',N σ' H'->∃ m',m' < m/\W m' σ' H')/\tb { D with nx:=N,ct:=N,bk:=D.nx } σ H1 else D.nx σ H1
theorem aGT {c:Expr} {body:List Stmt} {tc:TT} {tb:TS} (hp:PassesOwn (AC X.prog X.w) X.A X.env X.xe) (hc:PT X c tc) (hb:PSs X body tb):PS X (.While c body [] pos) (aIr tc tb):=by
 intro pins s σ H D I h
 obtain ⟨W,⟨m0,w0⟩,turn⟩:=h
 refine wpAny_While (codeAny_whileLoop (fun n s'=>∃ σ' H',Inv X pins σ' H' s'/\W n σ' H') ?_ m0 ⟨σ,H,I,w0⟩)
 rintro n s1 ⟨σ1,H1,I1,w1⟩
 refine Ek hp (thn (hc pins s1 σ1 H1 _ I1 (turn n σ1 H1 w1)) fun b s2 ⟨H2,I2,q2⟩=>?_)
 cases b with
 | true =>
  obtain ⟨N,hN,q2⟩:=q2
  rw [if_pos rfl]
  refine Ek hp (thn (hb pins s2 σ1 H2 _ I2 q2) fun f s3 q3=>?_)
  cases f with
  | next =>
   obtain ⟨σ3,H3,I3,n3⟩:=q3
   obtain ⟨m',hm,w3⟩:=hN σ3 H3 n3
   exact ⟨m',hm,σ3,H3,I3,w3⟩
  | cont =>
   obtain ⟨σ3,H3,I3,n3⟩:=q3
   obtain ⟨m',hm,w3⟩:=hN σ3 H3 n3
   exact ⟨m',hm,σ3,H3,I3,w3⟩
  | brk=>exact q3
  | ret v=>exact q3
 | false =>
  rw [if_neg As]
  exact FP ⟨σ1,H2,I2,q2⟩
end
structure It where
 go:Nat->Hp->Prop
 yld:Nat->Hp->V->Hp->Prop
 stop:Nat->Hp->Prop
noncomputable def FpOk (X:Cx) (pins:List (Addr×Obj)) (H:Hp) (b:Addr):Prop :=
 H b=none/\b≠X.env.locals/\b ∉ X.fs/\(b∈X.ex\/X.s₀.heap.objs.size<=b)/\(∀ x c,X.env.cells.lookup x=some c->c≠b)/\∀ p∈X.pn++pins,p.1≠b
theorem Inv.fpOk {X:Cx} {pins:List (Addr×Obj)} {σ:St} {H H':Hp} {s:Ad} {b:Addr} (I:Inv X pins σ H s) (hb:s.heap.objs.size<=b) (hn:H' b=none):FpOk X pins H' b:=by
 refine ⟨hn,Ci (AB I.lt hb),I.nofs hb,.inr (At I.sz hb),fun x c e z=>?_,fun p hp z=>?_⟩
 ·obtain ⟨v,q⟩:=I.cell x c e
  exact absurd (AB q.lt (by rw [z]; exact hb)) (BM _)
 ·exact absurd (AB (An (I.pin p hp).1) (by rw [z]; exact hb)) (BM _)
structure Turn (P:Ap) (w:AT) (K:Ah) (tg:Expr) (J:It) (fp:List Addr) (it:Addr) (tn:Nat->Heap->Prop):Prop where
 mem:it∈fp
 obj:∀ i h,tn i h->∀ b∈fp,∃ o,h.get? b=some o/\∀ v,o.data≠.cell v
 keep:∀ i h h',tn i h->(∀ b∈fp,∀ o,h.get? b=some o->h'.get? b=some o)->tn i h'
 item:∀ (X:Cx),X.prog=P->X.w=w->X.K=K->X.calm=true->∀ (i:Nat) (pins:List (Addr×Obj)) (s:Ad) (σ:St) (H:Hp) (E:Value->Ad->Prop),Inv X pins σ H s->(∀ b∈fp,FpOk X pins H b)->tn i s.heap->J.go i H ->
  Ax (AC P w) X.A (EU (.ref it)) (fun r s1=>∃ u,r=some u /\
   Ax (AC P w) X.A (DU tg (.ref it) u) (fun _ s2=>∃ x H',Inv X pins σ H' s2/\RelV x u/\J.yld i H x H'/\tn (i + 1) s2.heap/\∀ b∈fp,H' b=none) E s1) E s
 done:∀ (X:Cx),X.prog=P->X.w=w->X.K=K->X.calm=true->∀ (i:Nat) (pins:List (Addr×Obj)) (s:Ad) (σ:St) (H:Hp) (E:Value->Ad->Prop),Inv X pins σ H s->(∀ b∈fp,FpOk X pins H b)->tn i s.heap->J.stop i H ->
  Ax (AC P w) X.A (EU (.ref it)) (fun r s1=>r=none/\Inv X pins σ H s1) E s
 self:∀ (A:AR) (i:Nat) (s:Ad) (Q:Value->Ad->Prop) (E:Value->Ad->Prop),tn i s.heap->Q (.ref it) s->Ax (AC P w) A (Jj (.ref it)) Q E s
noncomputable abbrev TI:=St->Hp->(It->Hp->Prop)->Prop
noncomputable def PIE (X:Cx) (pins:List (Addr×Obj)) (σ:St) (tg:Expr) (R:It->Hp->Prop) (itv:Value) (s2:Ad):Prop :=
 ∃ (it:Addr) (fp:List Addr) (tn:Nat->Heap->Prop) (J:It) (H':Hp),itv=.ref it/\Inv X pins σ H' s2/\Turn X.prog X.w X.K tg J fp it tn/\tn 0 s2.heap/\(∀ b∈fp,FpOk X pins H' b)/\R J H'
noncomputable def PI (X:Cx) (tg iter:Expr) (wi:TI):Prop :=
 ∀ (pins:List (Addr×Obj)) (s:Ad) (σ:St) (H:Hp) (R:It->Hp->Prop),Inv X pins σ H s->wi σ H R ->
  Ax (AC X.prog X.w) X.A (eval iter X.env) (fun v s1=>Ax (AC X.prog X.w) X.A (Jj v) (PIE X pins σ tg R) X.xe s1) X.xe s
theorem aET {M:HL} {A:AR} {E:Value->Ad->Prop} {s:Ad} {tg:Expr} {it:Addr} {u:Value} {o:Obj} {n:String} {vs:Array Value} {Q:Unit->Ad->Prop} (ho:s.heap.get? it=some o) (hc:o.cls=.type n) (hd:o.data=.fields vs)
    (hn:["enumerate","zip","dict_itemiterator","dict_reverseitemiterator","odict_iterator","itertools.zip_longest","itertools.pairwise"].contains n=false) (hQ:Q () s):Ax M A (DU tg (.ref it) u) Q E s:=by
  unfold DU
  cases tg <;> first
    | exact Ab hQ
    | (cases u <;> first
        | exact Ab hQ
        | (refine Aa (GW ho ?_)
           rw [hc,hd]
           show Ax M A (if (["enumerate","zip","dict_itemiterator","dict_reverseitemiterator","odict_iterator","itertools.zip_longest","itertools.pairwise"].contains n && vs[0]? == some (CL _))=true then _ else _) Q E s
           rw [if_neg (by intro h; rw [hn,Bool.false_and] at h; cases h)]
           exact Ab hQ))
noncomputable def Itl (K:Ah) (a:Addr):It :=
 ⟨fun i H=>∃ xs x,SqL K H a xs/\xs[i]?=some x,fun i H x H'=>H'=H/\∀ xs,SqL K H a xs->xs[i]?=some x,fun i H=>∃ xs,SqL K H a xs/\xs.length<=i⟩
noncomputable def Itt (K:Ah) (a:Addr):It :=
 ⟨fun i H=>∃ xs x,SqT K H a xs/\xs[i]?=some x,fun i H x H'=>H'=H/\∀ xs,SqT K H a xs->xs[i]?=some x,fun i H=>∃ xs,SqT K H a xs/\xs.length<=i⟩
noncomputable def Itr (lo:Int) (n:Nat):It:=⟨fun i _=>i < n,fun i H x H'=>H'=H/\x=.int (lo + i),fun i _=>n<=i⟩
theorem aEU {P:Ap} {w:AT} {K:Ah} {tg:Expr} (a it:Addr):Turn P w K tg (Itl K a) [it] it (fun i h=>h.IsListIter it a i) where
 mem:=by simp
 obj:=fun i h st b hb=>by
  have e:b=it:=by simpa using hb
  subst e
  obtain ⟨o,e,c,d⟩:=st
  exact ⟨o,e,fun v z=>by rw [d] at z; cases z⟩
 keep:=fun i h h' st k=>st.at fun o e=>k it (by simp) o e
 item:=by
  intro X hP hw hK hc i pins s σ H E I hf st hg
  subst hP hw hK
  obtain ⟨xs,x,hq,hx⟩:=hg
  obtain ⟨its,rv,p,hz⟩:=I.list hq
  obtain ⟨u,hu,ru⟩:=rv.get hx
  obtain ⟨f0,f1,f2,f3,f4,f5⟩:=hf it (by simp)
  refine wpAny_pyNext_list_item st p.isList (x:=u) (by simpa using hu) fun h' st' sb=>?_
  have I1:Inv X pins σ H { s with heap:=h' }:=I.turned (t':=s.toks) (fun b o hb e=>(sb.2 b hb).trans e) f0 f1 f3 f4 f5
  obtain ⟨o,e,c,d⟩:=id st'
  exact ⟨u,rfl,aET (s:={ s with heap:=h' }) e c d (by decide) ⟨x,H,I1,ru,⟨rfl,fun ys hy=>by rw [I.list_inj hy hq]; exact hx⟩,st',fun b hb=>(hf b hb).1⟩⟩
 done:=by
  intro X hP hw hK hc i pins s σ H E I hf st hg
  subst hP hw hK
  obtain ⟨xs,hq,hx⟩:=hg
  obtain ⟨its,rv,p,hz⟩:=I.list hq
  obtain ⟨f0,f1,f2,f3,f4,f5⟩:=hf it (by simp)
  have hl:=rv.length
  exact wpAny_pyNext_list_end (I.ok.hd hc) st p.isList (by simp; lia) fun h' eb=>⟨rfl,I.turned (t':=s.toks) (fun b o hb e=>eb b o hb e) f0 f1 f3 f4 f5⟩
 self:=fun _ _ _ _ _ st h=>wpAny_pyIter_listiter st h
theorem aDk {P:Ap} {w:AT} {K:Ah} {tg:Expr} (a it:Addr):Turn P w K tg (Itt K a) [it] it (fun i h=>h.IsTupleIter it a i) where
 mem:=by simp
 obj:=fun i h st b hb=>by
  have e:b=it:=by simpa using hb
  subst e
  obtain ⟨o,e,c,d⟩:=st
  exact ⟨o,e,fun v z=>by rw [d] at z; cases z⟩
 keep:=fun i h h' st k=>st.at fun o e=>k it (by simp) o e
 item:=by
  intro X hP hw hK hc i pins s σ H E I hf st hg
  subst hP hw hK
  obtain ⟨xs,x,hq,hx⟩:=hg
  obtain ⟨its,rv,p,hz⟩:=I.tuple hq
  obtain ⟨u,hu,ru⟩:=rv.get hx
  obtain ⟨f0,f1,f2,f3,f4,f5⟩:=hf it (by simp)
  refine wpAny_pyNext_tuple_item st (show s.heap.IsTuple a its.toArray from p) (x:=u) (by simpa using hu) fun h' st' sb=>?_
  have I1:Inv X pins σ H { s with heap:=h' }:=I.turned (t':=s.toks) (fun b o hb e=>(sb.2 b hb).trans e) f0 f1 f3 f4 f5
  obtain ⟨o,e,c,d⟩:=id st'
  exact ⟨u,rfl,aET (s:={ s with heap:=h' }) e c d (by decide) ⟨x,H,I1,ru,⟨rfl,fun ys hy=>by rw [I.tuple_inj hy hq]; exact hx⟩,st',fun b hb=>(hf b hb).1⟩⟩
 done:=by
  intro X hP hw hK hc i pins s σ H E I hf st hg
  subst hP hw hK
  obtain ⟨xs,hq,hx⟩:=hg
  obtain ⟨its,rv,p,hz⟩:=I.tuple hq
  obtain ⟨f0,f1,f2,f3,f4,f5⟩:=hf it (by simp)
  have hl:=rv.length
  exact wpAny_pyNext_tuple_end (I.ok.hd hc) st (show s.heap.IsTuple a its.toArray from p) (by simp; lia) fun h' eb=>⟨rfl,I.turned (t':=s.toks) (fun b o hb e=>eb b o hb e) f0 f1 f3 f4 f5⟩
 self:=fun _ _ _ _ _ st h=>wpAny_pyIter_tupleiter st h
theorem aDl {P:Ap} {w:AT} {K:Ah} {tg:Expr} (it:Addr) (lo:Int) (n:Nat):Turn P w K tg (Itr lo n) [it] it (fun i h=>IsRangeIter h it (lo + (i:Nat) * 1) ((n:Int) - (i:Nat)) 1) where
 mem:=by simp
 obj:=fun i h st b hb=>by
  have e:b=it:=by simpa using hb
  subst e
  exact ⟨_,st,fun v z=>by
   have z':Data.fields _=Data.cell v:=z
   cases z'⟩
 keep:=fun i h h' st k=>k it (by simp) _ st
 item:=by
  intro X hP hw hK hc i pins s σ H E I hf st hg
  subst hP hw hK
  obtain ⟨f0,f1,f2,f3,f4,f5⟩:=hf it (by simp)
  have W:=Walks.range (prog:=X.prog) (w:=X.w) (I.ok.hd hc) it lo 1 n
  refine W.item i s _ _ hg st fun v h' tk hv st' kk=>?_
  obtain ⟨t,rfl⟩:=hv
  have I1:Inv X pins σ H { s with heap:=h',toks:=tk }:=I.turned (fun b o hb e=>kk b o (by simpa using hb) e) f0 f1 f3 f4 f5
  refine ⟨_,rfl,aET (s:={ s with heap:=h',toks:=tk }) (n:="range_iterator") st' rfl rfl (by decide) ⟨.int (lo + i),H,I1,⟨t,?_⟩,⟨rfl,rfl⟩,st',fun b hb=>(hf b hb).1⟩⟩
  rw [Int.mul_one]
 done:=by
  intro X hP hw hK hc i pins s σ H E I hf st hg
  subst hP hw hK
  obtain ⟨f0,f1,f2,f3,f4,f5⟩:=hf it (by simp)
  exact wpAny_pyNext_range_end (I.ok.hd hc) st (by have:n<=i:=hg; lia) fun h' eb=>⟨rfl,I.turned (t':=s.toks) (fun b o hb e=>eb b o hb e) f0 f1 f3 f4 f5⟩
 self:=fun _ _ _ _ _ st h=>wpAny_pyIter_rangeiter st h
section
variable {X:Cx} {tg:Expr}
noncomputable def aKU (K:Ah) (tl:TE):TI:=fun σ H R=>tl σ H fun x H1=>∃ a,x=.ref a/\(∃ xs,SqL K H1 a xs)/\R (Itl K a) H1
noncomputable def iTup (K:Ah) (tl:TE):TI:=fun σ H R=>tl σ H fun x H1=>∃ a,x=.ref a/\(∃ xs,SqT K H1 a xs)/\R (Itt K a) H1
theorem ye {l:Expr} {tl:TE} (hl:PE X l tl):PI X tg l (aKU X.K tl):=by
 intro pins s σ H R I h
 refine thn (hl pins s σ H _ I h) fun v s1 ⟨x,H1,I1,r1,q1⟩=>?_
 obtain ⟨a,e,⟨xs,hq⟩,q⟩:=q1
 subst e
 cases r1
 obtain ⟨its,rv,p,hz⟩:=I1.list hq
 refine El p.isList ?_
 refine ⟨s1.heap.objs.size,[s1.heap.objs.size],_,_,H1,rfl,I1.kept (t':=s1.toks) fun b o e=>Ac _ e,aEU a _,⟨_,Ak _ rfl,rfl,rfl⟩,fun b hb=>?_,q⟩
 have e:b=s1.heap.objs.size:=by simpa using hb
 subst e
 exact I1.fpOk (Ai _) (I1.hok.fresh (Ai _))
theorem aBe {l:Expr} {tl:TE} (hl:PE X l tl):PI X tg l (iTup X.K tl):=by
 intro pins s σ H R I h
 refine thn (hl pins s σ H _ I h) fun v s1 ⟨x,H1,I1,r1,q1⟩=>?_
 obtain ⟨a,e,⟨xs,hq⟩,q⟩:=q1
 subst e
 cases r1
 obtain ⟨its,rv,p,hz⟩:=I1.tuple hq
 refine FQ (show s1.heap.IsTuple a its.toArray from p) ?_
 refine ⟨s1.heap.objs.size,[s1.heap.objs.size],_,_,H1,rfl,I1.kept (t':=s1.toks) fun b o e=>Ac _ e,aDk a _,⟨_,Ak _ rfl,rfl,rfl⟩,fun b hb=>?_,q⟩
 have e:b=s1.heap.objs.size:=by simpa using hb
 subst e
 exact I1.fpOk (Ai _) (I1.hok.fresh (Ai _))
theorem aD6 {pins:List (Addr×Obj)} {σ:St} {H:Hp} {s:Ad} {R:It->Hp->Prop} {E:Value->Ad->Prop} {lo hi:Int} {t u v:Tok} {tk:Nat} (I:Inv X pins σ H s) (h1:-(2 ^ 62)<=lo) (h2:lo < 2 ^ 62) (h3:-(2 ^ 62)<=hi) (h4:hi < 2 ^ 62)
  (q:R (Itr lo (hi - lo).toNat) H):Ax (AC X.prog X.w) X.A (Jj (.ref s.heap.objs.size)) (PIE X pins σ tg R) E { s with heap:=s.heap.push { cls:=.type "range",data:=.fields #[.int lo t,.int hi u,.int 1 v] },toks:=tk }:=by
 refine wpAny_pyIter_range (IsRange.new ..) (small_one h1 h2 h3 h4) ?_
 have I1:Inv X pins σ H { s with heap:=s.heap.push { cls:=.type "range",data:=.fields #[.int lo t,.int hi u,.int 1 v] },toks:=tk }:=I.kept fun b o e=>Ac _ e
 refine ⟨(s.heap.push { cls:=.type "range",data:=.fields #[.int lo t,.int hi u,.int 1 v] }).objs.size,[(s.heap.push { cls:=.type "range",data:=.fields #[.int lo t,.int hi u,.int 1 v] }).objs.size],_,_,H,rfl,
  I1.kept (t':=tk) fun b o e=>Ac _ e,aDl _ lo (hi - lo).toNat,?_,fun b hb=>?_,q⟩
 ·have e1:lo + ((0:Nat):Int) * 1=lo:=by simp
  have e2:(((hi - lo).toNat:Nat):Int) - ((0:Nat):Int)=Builtin.Range.rangeSize lo hi 1:=by rw [rangeSize_one]; split <;> lia
  show IsRangeIter _ _ (lo + ((0:Nat):Int) * 1) ((((hi - lo).toNat:Nat):Int) - ((0:Nat):Int)) 1
  rw [e1,e2]
  exact Ak _ rfl
 ·have e:b=(s.heap.push { cls:=.type "range",data:=.fields #[.int lo t,.int hi u,.int 1 v] }).objs.size:=by simpa using hb
  subst e
  exact I1.fpOk (Ai _) (I1.hok.fresh (Ai _))
noncomputable def aKV (ta:TA):TI:=fun σ H R=>ta σ H fun vs H1=>∃ j:Int,vs=[.int j]/\-(2 ^ 62)<=j/\j < 2 ^ 62/\R (Itr 0 j.toNat) H1
noncomputable def aKW (ta:TA):TI:=fun σ H R=>ta σ H fun vs H1=>∃ i j:Int,vs=[.int i,.int j]/\(-(2 ^ 62)<=i/\i < 2 ^ 62/\-(2 ^ 62)<=j/\j < 2 ^ 62)/\R (Itr i (j - i).toNat) H1
theorem qO {a:Expr} {ta:TA} {p pos:Pos} (hg:Gl X "range") (hm:X.mg "range"=none) (ha:PA X [a] ta) (hs:Bk [a] X.env=[(false,eval a X.env)]:=by rfl):PI X tg (.Call (.Name "range" p) [a] [] pos) (aKV ta):=by
 intro pins s σ H R I h
 refine Call_ (aA6 I hg hm boot_range (Da (thn (ha pos pins s σ H _ I h) fun us s1 ⟨vs,H1,I1,r1,q1⟩=>?_) hs rfl))
 obtain ⟨j,e,q1,q2,q⟩:=q1
 subst e
 cases r1 with
 | cons r rr =>
  cases rr
  obtain ⟨t,rfl⟩:=r
  exact call_range_1 (aD6 I1 (by lia) (by lia) q1 q2 (by simpa using q))
theorem aBf {a b:Expr} {ta:TA} {p pos:Pos} (hg:Gl X "range") (hm:X.mg "range"=none) (ha:PA X [a,b] ta) (hs:Bk [a,b] X.env=[(false,eval a X.env),(false,eval b X.env)]:=by rfl) (hs2:Bk [b] X.env=[(false,eval b X.env)]:=by rfl) :
  PI X tg (.Call (.Name "range" p) [a,b] [] pos) (aKW ta):=by
 intro pins s σ H R I h
 refine Call_ (aA6 I hg hm boot_range (Da (thn (ha pos pins s σ H _ I h) fun us s1 ⟨vs,H1,I1,r1,q1⟩=>?_) (by rw [hs,hs2]) (by rw [hs2]; rfl)))
 obtain ⟨i,j,e,⟨q1,q2,q3,q4⟩,q⟩:=q1
 subst e
 cases r1 with
 | cons r rr =>
  cases rr with
  | cons r' rr =>
   cases rr
   obtain ⟨t,rfl⟩:=r
   obtain ⟨t',rfl⟩:=r'
   exact call_range_2 (aD6 I1 q1 q2 q3 q4 q)
noncomputable def tFor (wi:TI) (g:TG) (tb:TS):TS:=fun D σ H=>wi σ H fun J H1=>∃ W:Nat->Nat->St->Hp->Prop,(∃ m,W 0 m σ H1)/\∀ i m σ H,W i m σ H ->
 (J.stop i H/\D.nx σ H)\/(J.go i H/\∃ N:St->Hp->Prop,(∀ σ' H',N σ' H'->∃ m',m' < m/\W (i + 1) m' σ' H')/\∀ x H',J.yld i H x H'->g x σ H' fun σ2 H2=>tb { D with nx:=N,ct:=N,bk:=D.nx } σ2 H2)
noncomputable def aAp (fp:List Addr) (h:Heap):List (Addr×Obj):=fp.filterMap fun b=>(h.get? b).map fun o=>(b,o)
theorem yJ {fp:List Addr} {h:Heap} {b:Addr} {o:Obj} (hb:b∈fp) (e:h.get? b=some o):(b,o)∈aAp fp h:=EV.mpr ⟨b,hb,by rw [e]; rfl⟩
theorem aEV {fp:List Addr} {h:Heap} {p:Addr×Obj} (hp:p∈aAp fp h):p.1∈fp/\h.get? p.1=some p.2:=by
 obtain ⟨b,hb,e⟩:=EV.mp hp
 cases q:h.get? b with
 | none=>rw [q] at e; cases e
 | some o =>
  rw [q] at e
  have e':(b,o)=p:=BA e
  subst e'
  exact ⟨hb,q⟩
theorem Inv.pinned {pins:List (Addr×Obj)} {σ:St} {H:Hp} {s:Ad} {fp:List Addr} (I:Inv X pins σ H s) (hf:∀ b∈fp,FpOk X pins H b) (ho:∀ b∈fp,∃ o,s.heap.get? b=some o/\∀ v,o.data≠.cell v):Inv X (pins++aAp fp s.heap) σ H s :=
 I.pins_of fun p hp=>(Ar.mp hp).elim (fun z=>I.pin p (Ay _ z)) fun z=>by
  obtain ⟨hb,e⟩:=aEV z
  obtain ⟨f0,f1,f2,_⟩:=hf p.1 hb
  obtain ⟨o,e',d⟩:=ho p.1 hb
  rw [e] at e'; cases e'
  exact ⟨e,f0,f1,f2,d⟩
theorem Inv.unpinned {pins pl:List (Addr×Obj)} {σ:St} {H:Hp} {s:Ad} (I:Inv X (pins++pl) σ H s):Inv X pins σ H s:=I.pins_of fun p hp=>I.pin p (Ay _ (CJ _ hp))
theorem yg {iter:Expr} {body:List Stmt} {wi:TI} {g:TG} {tb:TS} {pos:Pos} (hp:PassesOwn (AC X.prog X.w) X.A X.env X.xe) (hc:X.calm=true) (hi:PI X tg iter wi) (hg:PG X tg g) (hb:PSs X body tb)
  (hs:∀ x,CI iter X.env x=pure x:=by intro _; rfl):PS X (.For tg iter body [] pos) (tFor wi g tb):=by
 intro pins s σ H D I h
 refine wpAny_For (thn (hi pins s σ H _ I h) fun v s1 h1=>thn h1 fun itv s2 h2=>?_) hs
 obtain ⟨it,fp,tn,J,H2,e,I2,T,st2,f2,W,⟨m0,w0⟩,turn⟩:=h2
 subst e
 have stat:∀ {H':Hp},(∀ b∈fp,H' b=none)->∀ b∈fp,FpOk X pins H' b:=fun hn b hb=>⟨hn b hb,(f2 b hb).2⟩
 refine codeAny_forLoop_any (fun n s'=>∃ i σ' H',Inv X pins σ' H' s'/\tn i s'.heap/\(∀ b∈fp,H' b=none)/\W i n σ' H') ?_ m0 ⟨0,σ,H2,I2,st2,fun b hb=>(f2 b hb).1,w0⟩
 rintro n s3 ⟨i,σ3,H3,I3,st3,fr3,w3⟩
 rcases turn i n σ3 H3 w3 with ⟨stop,qn⟩ | ⟨go,N,hN,step⟩
 ·refine Ek hp (thn (T.done X rfl rfl rfl hc i pins s3 σ3 H3 X.xe I3 (stat fr3) st3 stop) fun r s4 ⟨hr,I4⟩=>?_)
  subst hr
  exact FP ⟨σ3,H3,I4,qn⟩
 ·refine Ek hp (thn (T.item X rfl rfl rfl hc i pins s3 σ3 H3 X.xe I3 (stat fr3) st3 go) fun r s4 ⟨u,hr,h4⟩=>?_)
  subst hr
  refine Ek hp (thn h4 fun _ s5 ⟨x,H5,I5,r5,y5,st5,fr5⟩=>?_)
  have I5':=I5.pinned (stat fr5) (T.obj _ _ st5)
  refine Ek hp (thn (hg _ s5 σ3 H5 x u _ I5' r5 (step x H5 y5)) fun _ s6 ⟨σ6,H6,I6,q6⟩=>?_)
  refine Ek hp (thn (hb _ s6 σ6 H6 _ I6 q6) fun f s7 q7=>?_)
  have KG:∀ {σ7:St} {H7:Hp},Inv X (pins++aAp fp s5.heap) σ7 H7 s7->N σ7 H7->∃ m,m < n/\∃ i σ' H',Inv X pins σ' H' s7/\tn i s7.heap/\(∀ b∈fp,H' b=none)/\W i m σ' H':=fun {σ7 H7} I7 n7=>by
   obtain ⟨m',hm,w7⟩:=hN σ7 H7 n7
   refine ⟨m',hm,i + 1,σ7,H7,I7.unpinned,T.keep _ _ _ st5 fun b hb o e=>(I7.pin (b,o) (Ay _ (Ay _ (yJ hb e)))).1,fun b hb=>?_,w7⟩
   obtain ⟨o,e,d⟩:=T.obj _ _ st5 b hb
   exact (I7.pin (b,o) (Ay _ (Ay _ (yJ hb e)))).2.1
  cases f with
  | next=>obtain ⟨σ7,H7,I7,n7⟩:=q7; exact KG I7 n7
  | cont=>obtain ⟨σ7,H7,I7,n7⟩:=q7; exact KG I7 n7
  | brk=>obtain ⟨σ7,H7,I7,q7⟩:=q7; exact ⟨σ7,H7,I7.unpinned,q7⟩
  | ret v=>obtain ⟨x7,σ7,H7,I7,r7,q7⟩:=q7; exact ⟨x7,σ7,H7,I7.unpinned,r7,q7⟩
end
theorem jB {K:Ah} {a:Addr} {xs:List V} {g:TG} {tb:TS} {D:Ends} {σ:St} {H:Hp} (Pv:Nat->St->Hp->Prop) (h0:Pv 0 σ H) (hl:∀ i σ H,i<=xs.length->Pv i σ H->SqL K H a xs)
  (hs:∀ i x σ H,xs[i]?=some x->Pv i σ H->g x σ H fun σ2 H2=>tb { D with nx:=Pv (i + 1),ct:=Pv (i + 1),bk:=D.nx } σ2 H2) (hd:∀ σ H,Pv xs.length σ H->D.nx σ H) :
  ∃ W:Nat->Nat->St->Hp->Prop,(∃ m,W 0 m σ H)/\∀ i m σ H,W i m σ H ->
   ((Itl K a).stop i H/\D.nx σ H)\/((Itl K a).go i H/\∃ N:St->Hp->Prop,(∀ σ' H',N σ' H'->∃ m',m' < m/\W (i + 1) m' σ' H')/\∀ x H',(Itl K a).yld i H x H'->g x σ H' fun σ2 H2=>tb { D with nx:=N,ct:=N,bk:=D.nx } σ2 H2):=by
 refine ⟨fun i m σ H=>m=xs.length - i/\i<=xs.length/\Pv i σ H,⟨xs.length,by simp,AS _,h0⟩,?_⟩
 rintro i m σ H ⟨rfl,hi,p⟩
 have q:=hl i σ H hi p
 by_cases hlt:i < xs.length
 ·refine .inr ⟨⟨xs,xs[i],q,by simp [hlt]⟩,Pv (i + 1),fun σ' H' p'=>⟨xs.length - (i + 1),by lia,rfl,hlt,p'⟩,fun x H' y=>?_⟩
  obtain ⟨e,y⟩:=y
  subst e
  exact hs i x σ _ (y xs q) p
 ·have e:i=xs.length:=by lia
  subst e
  exact .inl ⟨⟨xs,q,Ai _⟩,hd σ H p⟩
theorem aCS {K:Ah} {a:Addr} {xs:List V} {g:TG} {tb:TS} {D:Ends} {σ:St} {H:Hp} (Pv:Nat->St->Hp->Prop) (h0:Pv 0 σ H) (hl:∀ i σ H,i<=xs.length->Pv i σ H->SqT K H a xs)
  (hs:∀ i x σ H,xs[i]?=some x->Pv i σ H->g x σ H fun σ2 H2=>tb { D with nx:=Pv (i + 1),ct:=Pv (i + 1),bk:=D.nx } σ2 H2) (hd:∀ σ H,Pv xs.length σ H->D.nx σ H) :
  ∃ W:Nat->Nat->St->Hp->Prop,(∃ m,W 0 m σ H)/\∀ i m σ H,W i m σ H ->
   ((Itt K a).stop i H/\D.nx σ H)\/((Itt K a).go i H/\∃ N:St->Hp->Prop,(∀ σ' H',N σ' H'->∃ m',m' < m/\W (i + 1) m' σ' H')/\∀ x H',(Itt K a).yld i H x H'->g x σ H' fun σ2 H2=>tb { D with nx:=N,ct:=N,bk:=D.nx } σ2 H2):=by
 refine ⟨fun i m σ H=>m=xs.length - i/\i<=xs.length/\Pv i σ H,⟨xs.length,by simp,AS _,h0⟩,?_⟩
 rintro i m σ H ⟨rfl,hi,p⟩
 have q:=hl i σ H hi p
 by_cases hlt:i < xs.length
 ·refine .inr ⟨⟨xs,xs[i],q,by simp [hlt]⟩,Pv (i + 1),fun σ' H' p'=>⟨xs.length - (i + 1),by lia,rfl,hlt,p'⟩,fun x H' y=>?_⟩
  obtain ⟨e,y⟩:=y
  subst e
  exact hs i x σ _ (y xs q) p
 ·have e:i=xs.length:=by lia
  subst e
  exact .inl ⟨⟨xs,q,Ai _⟩,hd σ H p⟩
theorem ql {lo:Int} {n:Nat} {g:TG} {tb:TS} {D:Ends} {σ:St} {H:Hp} (Pv:Nat->St->Hp->Prop) (h0:Pv 0 σ H)
  (hs:∀ i σ H,i < n->Pv i σ H->g (.int (lo + i)) σ H fun σ2 H2=>tb { D with nx:=Pv (i + 1),ct:=Pv (i + 1),bk:=D.nx } σ2 H2) (hd:∀ σ H,Pv n σ H->D.nx σ H) :
  ∃ W:Nat->Nat->St->Hp->Prop,(∃ m,W 0 m σ H)/\∀ i m σ H,W i m σ H ->
   ((Itr lo n).stop i H/\D.nx σ H)\/((Itr lo n).go i H/\∃ N:St->Hp->Prop,(∀ σ' H',N σ' H'->∃ m',m' < m/\W (i + 1) m' σ' H')/\∀ x H',(Itr lo n).yld i H x H'->g x σ H' fun σ2 H2=>tb { D with nx:=N,ct:=N,bk:=D.nx } σ2 H2):=by
 refine ⟨fun i m σ H=>m=n - i/\i<=n/\Pv i σ H,⟨n,by simp,AS _,h0⟩,?_⟩
 rintro i m σ H ⟨rfl,hi,p⟩
 by_cases hlt:i < n
 ·refine .inr ⟨hlt,Pv (i + 1),fun σ' H' p'=>⟨n - (i + 1),by lia,rfl,hlt,p'⟩,fun x H' y=>?_⟩
  obtain ⟨e,y⟩:=y
  subst e y
  exact hs i σ _ hlt p
 ·have e:i=n:=by lia
  subst e
  exact .inl ⟨Ai _,hd σ H p⟩
noncomputable abbrev R2:=V->V->Hp->VK->Prop
noncomputable def OpR (X:Cx) (f:Value->Value->Sem Value) (r:R2):Prop :=
 ∀ (pins:List (Addr×Obj)) (s:Ad) (σ:St) (H:Hp) (x y:V) (v u:Value) (Q:VK),Inv X pins σ H s->RelV x v->RelV y u->r x y H Q ->
  Ax (AC X.prog X.w) X.A (f v u) (EP X pins σ Q) X.xe s
noncomputable def UnR (X:Cx) (f:Value->Sem Value) (r:V->Hp->VK->Prop):Prop :=
 ∀ (pins:List (Addr×Obj)) (s:Ad) (σ:St) (H:Hp) (x:V) (v:Value) (Q:VK),Inv X pins σ H s->RelV x v->r x H Q ->
  Ax (AC X.prog X.w) X.A (f v) (EP X pins σ Q) X.xe s
noncomputable def qL (X:Cx) (f:Value) (r:List V->Hp->VK->Prop):Prop :=
 ∀ (pins:List (Addr×Obj)) (s:Ad) (σ:St) (H:Hp) (xs:List V) (us:List Value) (Q:VK),Inv X pins σ H s->Vals xs us->r xs H Q ->
  Ax (AC X.prog X.w) X.A (call f us) (EP X pins σ Q) X.xe s
noncomputable def TruR (X:Cx) (r:V->Hp->(Bool->Hp->Prop)->Prop):Prop :=
 ∀ (pins:List (Addr×Obj)) (s:Ad) (σ:St) (H:Hp) (x:V) (v:Value) (Q:Bool->Hp->Prop),Inv X pins σ H s->RelV x v->r x H Q ->
  Ax (AC X.prog X.w) X.A (truthy v) (TP X pins σ Q) X.xe s
noncomputable def tOp (r:R2) (ta tb:TE):TE:=fun σ H Q=>ta σ H fun x H1=>tb σ H1 fun y H2=>r x y H2 Q
noncomputable def tUn (r:V->Hp->VK->Prop) (ta:TE):TE:=fun σ H Q=>ta σ H fun x H1=>r x H1 Q
noncomputable def rI (C:Int->Int->Prop) (g:Int->Int->V):R2:=fun x y H Q=>∃ i j,x=.int i/\y=.int j/\C i j/\Q (g i j) H
noncomputable def rI0 (g:Int->Int->V):R2:=fun x y H Q=>∃ i j,x=.int i/\y=.int j/\Q (g i j) H
noncomputable def rU (g:Int->V):V->Hp->VK->Prop:=fun x H Q=>∃ i,x=.int i/\Q (g i) H
section
variable {X:Cx} {a b c:Expr} {ta tb tc:TE} {pos:Pos}
theorem binT (ha:PE X a ta) (hb:PE X b tb) {pins:List (Addr×Obj)} {s:Ad} {σ:St} {H:Hp} {R:V->V->Hp->Prop} (I:Inv X pins σ H s)
  (h:ta σ H fun x H1=>tb σ H1 fun y H2=>R x y H2) {Q:Value->Ad->Prop} {f:Value->Value->Sem Value}
  (hf:∀ v u s2 x y H2,Inv X pins σ H2 s2->RelV x v->RelV y u->R x y H2->Ax (AC X.prog X.w) X.A (f v u) Q X.xe s2) :
  Ax (AC X.prog X.w) X.A (eval a X.env) (fun v s₁=>Ax (AC X.prog X.w) X.A (eval b X.env) (fun u s₂=>Ax (AC X.prog X.w) X.A (f v u) Q X.xe s₂) X.xe s₁) X.xe s:=by
 refine thn (ha pins s σ H _ I h) fun v s1 ⟨x,H1,I1,r1,q1⟩=>?_
 refine thn (hb pins s1 σ H1 _ I1 q1) fun u s2 ⟨y,H2,I2,r2,q2⟩=>?_
 exact hf v u s2 x y H2 I2 r1 r2 q2
theorem zM {op:Operator} {r:R2} (ho:OpR X (DX op) r) (ha:PE X a ta) (hb:PE X b tb):PE X (.BinOp a op b pos) (tOp r ta tb):=by
 intro pins s σ H Q I h
 exact wpAny_BinOp (binT ha hb I h fun v u s2 x y H2 I2 rx ry q=>ho pins s2 σ H2 x y v u Q I2 rx ry q)
theorem aDm {op:UnaryOp} {r:V->Hp->VK->Prop} (ho:UnR X (unaryOp op) r) (ha:PE X a ta):PE X (.UnaryOp op a pos) (tUn r ta):=by
 intro pins s σ H Q I h
 exact UnaryOp_ (thn (ha pins s σ H _ I h) fun v s1 ⟨x,H1,I1,r1,q1⟩=>ho pins s1 σ H1 x v Q I1 r1 q1)
theorem opI {f:Value->Value->Sem Value} {C:Int->Int->Prop} {g:Int->Int->Int}
  (rule:∀ (i j:Int) (t u:Tok) (s:Ad) (Q:Value->Ad->Prop) (E:Value->Ad->Prop),C i j->Q (.int (g i j) s.toks) { s with toks:=s.toks + 1 }->Ax (AC X.prog X.w) X.A (f (.int i t) (.int j u)) Q E s) :
  OpR X f (rI C fun i j=>.int (g i j)):=by
 intro pins s σ H x y v u Q I rx ry h
 obtain ⟨i,j,rfl,rfl,hc,q⟩:=h
 obtain ⟨t,rfl⟩:=rx
 obtain ⟨t',rfl⟩:=ry
 exact rule i j t t' s _ _ hc ⟨.int (g i j),H,I.tok _,⟨_,rfl⟩,q⟩
theorem opI0 {f:Value->Value->Sem Value} {g:Int->Int->Int}
  (rule:∀ (i j:Int) (t u:Tok) (s:Ad) (Q:Value->Ad->Prop) (E:Value->Ad->Prop),Q (.int (g i j) s.toks) { s with toks:=s.toks + 1 }->Ax (AC X.prog X.w) X.A (f (.int i t) (.int j u)) Q E s) :
  OpR X f (rI0 fun i j=>.int (g i j)):=by
 intro pins s σ H x y v u Q I rx ry h
 obtain ⟨i,j,rfl,rfl,q⟩:=h
 obtain ⟨t,rfl⟩:=rx
 obtain ⟨t',rfl⟩:=ry
 exact rule i j t t' s _ _ ⟨.int (g i j),H,I.tok _,⟨_,rfl⟩,q⟩
theorem opB0 {f:Value->Value->Sem Value} {g:Int->Int->Bool}
  (rule:∀ (i j:Int) (t u:Tok) (s:Ad) (Q:Value->Ad->Prop) (E:Value->Ad->Prop),Q (.bool (g i j)) s->Ax (AC X.prog X.w) X.A (f (.int i t) (.int j u)) Q E s) :
  OpR X f (rI0 fun i j=>.bl (g i j)):=by
 intro pins s σ H x y v u Q I rx ry h
 obtain ⟨i,j,rfl,rfl,q⟩:=h
 obtain ⟨t,rfl⟩:=rx
 obtain ⟨t',rfl⟩:=ry
 exact rule i j t t' s _ _ ⟨.bl (g i j),H,I,rfl,q⟩
noncomputable def CDiv (i j:Int):Prop:=0 < j/\j < 1073741824
noncomputable def CPow (i j:Int):Prop:=0<=j/\j<=1000000/\i.natAbs < 2 ^ 64
noncomputable def CMul (i j:Int):Prop:=(-(2 ^ 64) < i/\i < 2 ^ 64)\/(-(2 ^ 64) < j/\j < 2 ^ 64)
theorem CMul.ok {i j:Int} (h:CMul i j):KH i j:=by
 rcases h with ⟨h1,h2⟩ | ⟨h1,h2⟩
 ·exact .of_left (intBits_le_64 h1 h2)
 ·exact .of_right (intBits_le_64 h1 h2)
theorem aDn (k:Nat):(0:Int)<=2 ^ k:=by
 rw [two_pow_cast]
 exact Int.natCast_nonneg _
theorem zn:OpR X (DX .Add) (rI0 fun i j=>.int (i + j)):=opI0 fun _ _ _ _ _ _ _ q=>add_int q
theorem aD7:OpR X (DX .Sub) (rI0 fun i j=>.int (i - j)):=opI0 fun _ _ _ _ _ _ _ q=>sub_int q
theorem qf:OpR X (DX .Mult) (rI CMul fun i j=>.int (i * j)):=opI fun _ _ _ _ _ _ _ hc q=>mul_int q hc.ok
theorem yE:OpR X (DX .FloorDiv) (rI CDiv fun i j=>.int (i / j)):=opI fun i j _ _ _ _ _ hc q=>by
 have h1:(0:Int) < j:=hc.1
 have h2:j < 1073741824:=hc.2
 exact floordiv_int (by lia) (by rw [Fo i (by lia)]; exact q) (.inl (PyProof.noPylong_small (by lia)))
theorem ze:OpR X (DX .Mod) (rI (fun _ j=>0 < j) fun i j=>.int (i % j)):=opI fun i j _ _ _ _ _ hc q=>by
 have h1:(0:Int) < j:=hc
 exact mod_int' (by lia) (by rw [Int.fmod_eq_emod_of_nonneg i (by lia)]; exact q)
theorem aEW:OpR X (DX .Pow) (rI CPow fun i j=>.int (i ^ j.toNat)):=opI fun _ _ _ _ _ _ _ hc q=>pow_int_small hc.1 hc.2.1 hc.2.2 q
theorem aIs:OpR X (DX .LShift) (rI CPow fun i j=>.int (i * 2 ^ j.toNat)):=opI fun _ _ _ _ _ _ _ hc q=>lshift_int_small hc.1 hc.2.1 hc.2.2 q
theorem aHJ:OpR X (DX .RShift) (rI (fun _ j=>0<=j) fun i j=>.int (i / 2 ^ j.toNat)):=opI fun i j _ _ _ _ _ hc q =>
 rshift_int hc (by rw [Fo i (aDn _)]; exact q)
theorem aEX:OpR X (DX .BitAnd) (rI0 fun i j=>.int (DM i j)):=opI0 fun _ _ _ _ _ _ _ q=>and_int q
theorem unI {f:Value->Sem Value} {g:Int->Int}
  (rule:∀ (i:Int) (t:Tok) (s:Ad) (Q:Value->Ad->Prop) (E:Value->Ad->Prop),Q (.int (g i) s.toks) { s with toks:=s.toks + 1 }->Ax (AC X.prog X.w) X.A (f (.int i t)) Q E s) :
  UnR X f (rU fun i=>.int (g i)):=by
 intro pins s σ H x v Q I rx h
 obtain ⟨i,rfl,q⟩:=h
 obtain ⟨t,rfl⟩:=rx
 exact rule i t s _ _ ⟨.int (g i),H,I.tok _,⟨_,rfl⟩,q⟩
theorem aAq:UnR X (unaryOp .USub) (rU fun i=>.int (-i)):=unI fun _ _ _ _ _ q=>neg_int q
end
noncomputable def scal:V->V->Bool
 | .non,.non=>true | .non,.int _=>true | .int _,.non=>true | .non,.bl _=>true | .bl _,.non=>true | .non,.str _=>true | .str _,.non=>true
 | .int _,.int _=>true | .bl _,.bl _=>true | .str _,.str _=>true | .byt _,.byt _=>true
 | .int _,.str _=>true | .str _,.int _=>true | .bl _,.str _=>true | .str _,.bl _=>true
 | _,_=>false
noncomputable def rEq:R2:=fun x y H Q=>scal x y=true/\Q (.bl (decide (x=y))) H
noncomputable def rNe:R2:=fun x y H Q=>scal x y=true/\Q (.bl (!decide (x=y))) H
theorem aEY {i j:Int}:decide (V.int i=V.int j)=(i == j):=by
 rw [EY]
 simp
theorem aHK {i j:Bool}:decide (V.bl i=V.bl j)=(i == j):=by
 rw [EY]
 simp
theorem aEZ {i j:Str}:decide (V.str i=V.str j)=(i == j):=by
 rw [EY]
 simp
theorem aEa {i j:Array UInt8}:decide (V.byt i=V.byt j)=(i.toList == j.toList):=by
 rw [EY]
 cases i
 cases j
 simp
section
variable {X:Cx} {a b c:Expr} {ta tb tc:TE} {pos:Pos}
theorem zm {pins:List (Addr×Obj)} {σ:St} {H:Hp} {s:Ad} {Q:VK} {k k':Bool} (I:Inv X pins σ H s) (q:Q (.bl k) H) (e:k=k'):EP X pins σ Q (.bool k') s:=by
 subst e
 exact ⟨.bl k,H,I,rfl,q⟩
theorem qM:OpR X (DV .Eq) rEq:=by
 intro pins s σ H x y v u Q I rx ry h
 obtain ⟨hs,q⟩:=h
 cases x with
 | non =>
  cases rx
  cases y with
  | non=>cases ry; exact PySem.EqNone.eq_none_none (zm I q (by simp))
  | bl j=>cases ry; exact PySem.EqNone.eq_none_bool (zm I q (by simp))
  | int j=>obtain ⟨t',rfl⟩:=ry; exact PySem.EqNone.eq_none_int (zm I q (by simp))
  | str j=>obtain ⟨t',rfl⟩:=ry; exact PySem.EqNone.eq_none_str (zm I q (by simp))
  | _=>exact absurd (show false=true from hs) As
 | bl i =>
  cases rx
  cases y with
  | non=>cases ry; exact PySem.EqNone.eq_bool_none (zm I q (by simp))
  | bl j=>cases ry; exact eq_bool (zm I q aHK)
  | str j=>obtain ⟨t',rfl⟩:=ry; exact PySem.EqMixed.eq_bool_str (zm I q (by simp))
  | _=>exact absurd (show false=true from hs) As
 | int i =>
  obtain ⟨t,rfl⟩:=rx
  cases y with
  | non=>cases ry; exact PySem.EqNone.eq_int_none (zm I q (by simp))
  | int j=>obtain ⟨t',rfl⟩:=ry; exact eq_int (zm I q aEY)
  | str j=>obtain ⟨t',rfl⟩:=ry; exact PySem.EqMixed.eq_int_str (zm I q (by simp))
  | _=>exact absurd (show false=true from hs) As
 | str i =>
  obtain ⟨t,rfl⟩:=rx
  cases y with
  | non=>cases ry; exact PySem.EqNone.eq_str_none (zm I q (by simp))
  | bl j=>cases ry; exact PySem.EqMixed.eq_str_bool (zm I q (by simp))
  | int j=>obtain ⟨t',rfl⟩:=ry; exact PySem.EqMixed.eq_str_int (zm I q (by simp))
  | str j=>obtain ⟨t',rfl⟩:=ry; exact eq_str (zm I q aEZ)
  | _=>exact absurd (show false=true from hs) As
 | byt i =>
  obtain ⟨t,rfl⟩:=rx
  cases y with
  | byt j=>obtain ⟨t',rfl⟩:=ry; exact PySem.W.eq_bytes (zm I q aEa)
  | _=>exact absurd (show false=true from hs) As
 | _=>cases y <;> exact absurd (show false=true from hs) As
theorem aIt:OpR X (DV .NotEq) rNe:=by
 intro pins s σ H x y v u Q I rx ry h
 obtain ⟨hs,q⟩:=h
 cases x with
 | non =>
  cases rx
  cases y with
  | non=>cases ry; exact PySem.EqNone.ne_none_none (zm I q (by simp))
  | bl j=>cases ry; exact PySem.EqNone.ne_none_bool (zm I q (by simp))
  | int j=>obtain ⟨t',rfl⟩:=ry; exact PySem.EqNone.ne_none_int (zm I q (by simp))
  | str j=>obtain ⟨t',rfl⟩:=ry; exact PySem.EqNone.ne_none_str (zm I q (by simp))
  | _=>exact absurd (show false=true from hs) As
 | bl i =>
  cases rx
  cases y with
  | non=>cases ry; exact PySem.EqNone.ne_bool_none (zm I q (by simp))
  | bl j=>cases ry; exact ne_bool (zm I q (congrArg not aHK))
  | str j=>obtain ⟨t',rfl⟩:=ry; exact PySem.EqMixed.ne_bool_str (zm I q (by simp))
  | _=>exact absurd (show false=true from hs) As
 | int i =>
  obtain ⟨t,rfl⟩:=rx
  cases y with
  | non=>cases ry; exact PySem.EqNone.ne_int_none (zm I q (by simp))
  | int j=>obtain ⟨t',rfl⟩:=ry; exact ne_int (zm I q (congrArg not aEY))
  | str j=>obtain ⟨t',rfl⟩:=ry; exact PySem.EqMixed.ne_int_str (zm I q (by simp))
  | _=>exact absurd (show false=true from hs) As
 | str i =>
  obtain ⟨t,rfl⟩:=rx
  cases y with
  | non=>cases ry; exact PySem.EqNone.ne_str_none (zm I q (by simp))
  | bl j=>cases ry; exact PySem.EqMixed.ne_str_bool (zm I q (by simp))
  | int j=>obtain ⟨t',rfl⟩:=ry; exact PySem.EqMixed.ne_str_int (zm I q (by simp))
  | str j=>obtain ⟨t',rfl⟩:=ry; exact ne_str (zm I q (congrArg not aEZ))
  | _=>exact absurd (show false=true from hs) As
 | byt i =>
  obtain ⟨t,rfl⟩:=rx
  cases y with
  | byt j=>obtain ⟨t',rfl⟩:=ry; exact PySem.W.ne_bytes (zm I q (congrArg not aEa))
  | _=>exact absurd (show false=true from hs) As
 | _=>cases y <;> exact absurd (show false=true from hs) As
theorem aHn:OpR X (DV .Lt) (rI0 fun i j=>.bl (decide (i < j))):=opB0 fun _ _ _ _ _ _ _ q=>lt_int q
theorem aKX:OpR X (DV .LtE) (rI0 fun i j=>.bl (decide (i<=j))):=opB0 fun _ _ _ _ _ _ _ q=>le_int q
theorem aHo:OpR X (DV .Gt) (rI0 fun i j=>.bl (decide (j < i))):=opB0 fun _ _ _ _ _ _ _ q=>gt_int q
theorem aIu:OpR X (DV .GtE) (rI0 fun i j=>.bl (decide (j<=i))):=opB0 fun _ _ _ _ _ _ _ q=>ge_int q
theorem zZ (b:Expr) {op:CmpOp} (h:op≠.In:=by decide) (h2:op≠.NotIn:=by decide):GQ op b=false:=by
 have e1:(op == CmpOp.In)=false:=by cases op <;> first | rfl | exact absurd rfl h
 have e2:(op == CmpOp.NotIn)=false:=by cases op <;> first | rfl | exact absurd rfl h2
 cases b <;> simp [GQ,e1,e2]
theorem jM {op:CmpOp} {r:R2} (ho:OpR X (DV op) r) (ha:PE X a ta) (hb:PE X b tb) (hm:GQ op b=false):PE X (.Compare a [op] [b] pos) (tOp r ta tb):=by
 intro pins s σ H Q I h
 exact wpAny_Compare1 (binT ha hb I h fun v u s2 x y H2 I2 rx ry q=>ho pins s2 σ H2 x y v u Q I2 rx ry q) hm
noncomputable def aIv (t:TE):TT:=fun σ H Q=>t σ H fun x H'=>∃ k,x=.bl k/\Q k H'
theorem zU {op:CmpOp} {r:R2} (ho:OpR X (DV op) r) (ha:PE X a ta) (hb:PE X b tb) (hm:GQ op b=false):PT X (.Compare a [op] [b] pos) (aIv (tOp r ta tb)):=by
 intro pins s σ H Q I h
 refine wpAny_isTrue_Compare1 (thn (ha pins s σ H _ I h) fun v s1 ⟨x,H1,I1,r1,q1⟩=>thn (hb pins s1 σ H1 _ I1 q1) fun u s2 ⟨y,H2,I2,r2,q2⟩ =>
  thn (ho pins s2 σ H2 x y v u _ I2 r1 r2 q2) fun c s3 ⟨z,H3,I3,r3,k,e,q3⟩=>?_) hm
 subst e
 cases r3
 exact Ej ⟨H3,I3,q3⟩
noncomputable def TruV (K:Ah) (x:V) (H:Hp) (k:Bool):Prop :=
 match x with
 | .non=>k=false
 | .bl b=>k=b
 | .int i=>k=(i != 0)
 | .str y=>y.length<=sizeLine/\k=((y.length:Int) != 0)
 | .byt y=>y.size<=sizeLine/\k=((y.size:Int) != 0)
 | .ref p=>(∃ xs,SqL K H p xs/\k=!xs.isEmpty)\/(∃ xs,SqT K H p xs/\k=!xs.isEmpty)\/∃ kvs,H p=some (.dK kvs)/\k=!kvs.isEmpty
 | _=>False
theorem aDo {κ:Type} {kvs:List (κ×V)} {vs:List (κ×Value)} (r:KV kvs vs):(!vs.isEmpty)=!kvs.isEmpty:=by
 cases r <;> rfl
theorem aAr {xs:List V} {its:List Value} (r:Vals xs its):(!its.toArray.isEmpty)=!xs.isEmpty:=by
 cases r <;> simp
theorem aD8:(sizeLine:Nat) < 2 ^ 63:=by rw [AW]; decide
theorem aIw:TruR X (fun x H Q=>∃ k,TruV X.K x H k/\Q k H):=by
 intro pins s σ H x v Q I rx h
 obtain ⟨k,e,q⟩:=h
 have hl:=aD8
 have hs:sizeLine=16777216:=AW
 cases x with
 | non =>
  cases rx
  have e':k=false:=e
  subst e'
  exact truthy_none ⟨H,I,q⟩
 | bl b =>
  cases rx
  have e':k=b:=e
  subst e'
  exact Ej ⟨H,I,q⟩
 | int i =>
  obtain ⟨t,rfl⟩:=rx
  have e':k=(i != 0):=e
  subst e'
  exact PySem.P.truthy_int ⟨H,I,q⟩
 | str y =>
  obtain ⟨t,rfl⟩:=rx
  obtain ⟨hy,e'⟩:y.length<=sizeLine/\k=((y.length:Int) != 0):=e
  subst e'
  exact PySem.P.truthy_str (by lia) ⟨H,I.tok _,q⟩
 | byt y =>
  obtain ⟨t,rfl⟩:=rx
  obtain ⟨hy,e'⟩:y.size<=sizeLine/\k=((y.size:Int) != 0):=e
  subst e'
  exact PySem.W.truthy_bytes (by lia) ⟨H,I.tok _,q⟩
 | ref p =>
  cases rx
  have e':(∃ xs,SqL X.K H p xs/\k=!xs.isEmpty)\/(∃ xs,SqT X.K H p xs/\k=!xs.isEmpty)\/∃ kvs,H p=some (.dK kvs)/\k=!kvs.isEmpty:=e
  rcases e' with ⟨xs,hx,e'⟩ | ⟨xs,hx,e'⟩ | ⟨kvs,hx,e'⟩
  ·subst e'
   obtain ⟨its,r,pl,hz⟩:=I.list hx
   have hlen:=r.length
   exact wpAny_truthy_list pl.isList (by simp only [AD]; lia) ⟨H,I.tok _,by rw [aAr r]; exact q⟩
  ·subst e'
   obtain ⟨its,r,pl,hz⟩:=I.tuple hx
   have hlen:=r.length
   exact truthy_tuple pl (by simp only [AD]; lia) ⟨H,I.tok _,by rw [aAr r]; exact q⟩
  ·subst e'
   obtain ⟨hz,hS,vs,r,m⟩:kvs.length<=sizeLine/\(p == Bx)=false/\∃ vs,KV kvs vs/\s.heap.DictOf (zt X.prog X.w) p vs:=I.hok p _ hx
   have hlen:kvs.length=vs.length:=DK r
   exact wpAny_truthy_dict hS m (by lia) ⟨H,I.tok _,by rw [aDo r]; exact q⟩
 | _=>exact (show False from e).elim
theorem aD9 (ha:PE X a ta) (he:∀ whole,isTrue a X.env whole=(do let v <- whole; Km a.pos; Ji [v] (truthy v))) :
  PT X a (fun σ H Q=>ta σ H fun x H'=>∃ k,TruV X.K x H' k/\Q k H'):=by
 intro pins s σ H Q I h
 exact isTrue_plain (thn (ha pins s σ H _ I h) fun v s1 ⟨x,H1,I1,r1,q1⟩=>aIw pins s1 σ H1 x v Q I1 r1 q1) (he _)
theorem qm {x:V} {us:List Value} (r:Vals [x] us):∃ u,us=[u]/\RelV x u:=by
 cases r with
 | cons r1 r2=>cases r2; exact ⟨_,rfl,r1⟩
theorem aGU {x y:V} {us:List Value} (r:Vals [x,y] us):∃ u w',us=[u,w']/\RelV x u/\RelV y w':=by
 cases r with
 | cons r1 r2 =>
  cases r2 with
  | cons r3 r4=>cases r4; exact ⟨_,_,rfl,r1,r3⟩
theorem aGV:qL X (.builtin "abs") (fun xs H Q=>∃ i,xs=[.int i]/\Q (.int (if i < 0 then -i else i)) H):=by
 intro pins s σ H xs us Q I r h
 obtain ⟨i,rfl,q⟩:=h
 obtain ⟨u,rfl,t,rfl⟩:=qm r
 exact call_abs_int fun u tk=>⟨.int (if i < 0 then -i else i),H,I.tok _,⟨_,rfl⟩,q⟩
theorem aBg (hc:X.calm=true):qL X (.builtin "max") (fun xs H Q=>∃ i j,xs=[.int i,.int j]/\Q (.int (if j > i then j else i)) H):=by
 intro pins s σ H xs us Q I r h
 obtain ⟨i,j,rfl,q⟩:=h
 obtain ⟨u,w',rfl,⟨t,rfl⟩,⟨t',rfl⟩⟩:=aGU r
 refine max_two_ints (I.ok.hd hc) fun h' tk k=>⟨_,H,I.kept k,?_,q⟩
 by_cases hj:j > i
 ·rw [if_pos hj,if_pos hj]; exact ⟨_,rfl⟩
 ·rw [if_neg hj,if_neg hj]; exact ⟨_,rfl⟩
theorem aEb (hc:X.calm=true):qL X (.builtin "min") (fun xs H Q=>∃ i j,xs=[.int i,.int j]/\Q (.int (if j < i then j else i)) H):=by
 intro pins s σ H xs us Q I r h
 obtain ⟨i,j,rfl,q⟩:=h
 obtain ⟨u,w',rfl,⟨t,rfl⟩,⟨t',rfl⟩⟩:=aGU r
 refine min_two_ints (I.ok.hd hc) fun h' tk k=>⟨_,H,I.kept k,?_,q⟩
 by_cases hj:j < i
 ·rw [if_pos hj,if_pos hj]; exact ⟨_,rfl⟩
 ·rw [if_neg hj,if_neg hj]; exact ⟨_,rfl⟩
theorem aAO:qL X (.type "int") (fun xs H Q=>(∃ i,xs=[.int i]/\Q (.int i) H)\/∃ k,xs=[.bl k]/\Q (.int (if k then 1 else 0)) H):=by
 intro pins s σ H xs us Q I r h
 rcases h with ⟨i,rfl,q⟩ | ⟨k,rfl,q⟩
 ·obtain ⟨u,rfl,t,rfl⟩:=qm r
  exact call_int_int ⟨.int i,H,I,⟨_,rfl⟩,q⟩
 ·obtain ⟨u,rfl,r1⟩:=qm r
  cases r1
  exact call_int_bool ⟨.int (if k then 1 else 0),H,I.tok _,⟨_,rfl⟩,q⟩
end
structure ObjM (h:Heap) (x dx C:Addr) (mA:Str->Option Value):Prop where
 obj:h.get? x=some (Jh C dx)
 ns:h.Ns1 dx mA
 ne:dx≠x
theorem aEc {h:Heap} {dx:Addr} {mA:Str->Option Value} (n:h.Ns1 dx mA):∃ od,h.get? dx=some od/\∀ name,JZ name od=some (mA name):=by
 obtain ⟨o,es,ep,ho,hd,hk,_,hm⟩:=n
 refine ⟨o,ho,fun name=>?_⟩
 have e:=hm name
 unfold nsFind findBy at e
 rw [<- Array.find?_toList] at e
 unfold JZ
 rw [hd]
 dsimp only
 split
 ·rename_i y q
  rw [q] at e
  exact congrArg some e
 ·rename_i q
  rw [q] at e
  have a:es.toList.any (·.refKey)=false:=by
   rw [List.any_eq_false]
   intro y hy
   obtain ⟨z,t,hkey⟩:=hk y (JP.mp hy)
   simp [DictEntry.refKey,hkey]
  have a':¬ es.toList.any (·.refKey)=true:=by rw [a]; exact As
  rw [if_neg a']
  exact congrArg some e
theorem ObjM.look {h:Heap} {x dx C:Addr} {mA:Str->Option Value} (I:ObjM h x dx C mA):∃ od,MB h x (Jh C dx) C (some od)/\∀ name,JZ name od=some (mA name) :=
 let ⟨od,ho,hl⟩:=aEc I.ns
 ⟨od,⟨I.obj,rfl,rfl,ho⟩,hl⟩
section
variable {prog:Ap} {w:AT} {A:AR} {E:Value->Ad->Prop} {s:Ad} {K:Ah} {x dx C f:Addr} {mA:Str->Option Value} {name:Str} {v:Value}
end
theorem RelO.some_of {v:V} {o:Option Value} (r:RelO (some v) o):∃ u,o=some u/\RelV v u:=by
 cases o with
 | none=>exact (show False from r).elim
 | some u=>exact ⟨u,rfl,r⟩
section
variable {P:Ap} {w:AT} {H H':Hp} {h h':Heap} {a C dx:Addr} {fs fs':List (Str×V)}
theorem aHp (hok:HOk P w H h) (e:H a=some (.ins C dx fs)):∃ mA,ObjM h a dx C mA/\(∀ f,RelO (fs.lookup f) (mA f))/\Nl mA (fs.map (·.1))/\fs.length<=1000/\H dx=some (.own a):=by
 obtain ⟨d,z,ne,ob,mA,n,r,q⟩:=(show ObjOk P w H h a (.ins C dx fs) from hok a _ e)
 exact ⟨mA,⟨ob,n,ne⟩,r,q,z,d⟩
end
structure Cls (K:Ah) (C:Addr):Prop where
 pg:LO K C Str.empty=true
 hd:PySem.W.hasDictIn K C=true
 po:PySem.W.plainOver K C=true
 sa:BO K (.ref C) "__setattr__"=some (some (.builtin "object.__setattr__"))
theorem Cls.get {K:Ah} {C:Addr} (c:Cls K C) (f:Str):LO K C f=true:=c.pg
noncomputable def aEd (K:Ah) (C:Addr) (f:Str):Prop:=BO K (.ref C) f=some none
section
variable {X:Cx} {pins:List (Addr×Obj)} {σ:St} {H:Hp} {s:Ad} {a C dx:Addr} {fs:List (Str×V)} {f:Str} {v:V} {A:AR} {E:Value->Ad->Prop}
end
section
variable {X:Cx} {o e value:Expr} {f:Str} {pos pos' tpos:Pos} {ta tv:TE}
end
section
variable {X:Cx} {pins:List (Addr×Obj)} {σ:St} {H:Hp} {s:Ad} {A:AR} {E:Value->Ad->Prop} {Q:Value->Ad->Prop} {c:Value} {b:Bool}
inductive TyOf (K:Ah) (H:Hp):V->Value->Prop where
 | non:TyOf K H .non (.type "NoneType")
 | bl (x:Bool):TyOf K H (.bl x) (.type "bool")
 | int (i:Int):TyOf K H (.int i) (.type "int")
 | str (x:Str):TyOf K H (.str x) (.type "str")
 | flt (x:UInt64):TyOf K H (.flt x) (.type "float")
 | lst {a:Addr} {xs:List V} (e:H a=some (.lst xs)):TyOf K H (.ref a) (.type "list")
 | frz {a:Addr} {o:Obj} {xs:List V} (e:H a=some (.frz o (.lst xs))):TyOf K H (.ref a) (.type "list")
 | tup {a:Addr} {xs:List V} (e:H a=some (.tup xs)):TyOf K H (.ref a) (.type "tuple")
 | dK {a:Addr} {kvs:List (Key×V)} (e:H a=some (.dK kvs)):TyOf K H (.ref a) (.type "dict")
 | dT {a:Addr} {kvs:List (List Key×V)} (e:H a=some (.dT kvs)):TyOf K H (.ref a) (.type "dict")
 | ins {a C dx:Addr} {fs:List (Str×V)} (e:H a=some (.ins C dx fs)) (cl:Cls K C) (ha:BO K (.ref C) "__class__"=some (some (.builtin "object.__class__")))
   (hn:PySem.W.specialIn K (.builtin "object.__class__") "__get__"=some (some (.builtin "getset_descriptor.__get__"))) (htk:PySem.W.takesIn K (.builtin "object.__class__")=some true)
   (hm:KI K C (.type "object")=some true):TyOf K H (.ref a) (.ref C)
theorem aEe {x:V} {u t:Value} (I:Inv X pins σ H s) (rx:RelV x u) (ty:TyOf X.K H x t) (e:Gp X.K t c=some b) (h:∀ tk,Q (.bool b) { s with toks:=tk }) :
  Ax (AC X.prog X.w) A (call (.builtin "isinstance") [u,c]) Q E s:=by
 cases ty with
 | non=>cases (show u=Cy from rx); exact CM PySem.W.kitx_none I.kIn Dh e (fun z=>nomatch z) h
 | bl y=>cases (show u=Value.bool y from rx); exact CM PySem.W.kitx_bool I.kIn Dh e (fun z=>nomatch z) h
 | int i=>obtain ⟨t,q⟩:=(show ∃ t,u=Ha i t from rx); cases q; exact CM PySem.W.kitx_int I.kIn Dh e (fun z=>nomatch z) h
 | str y=>obtain ⟨t,q⟩:=(show ∃ t,u=Mk y t from rx); cases q; exact CM PySem.W.kitx_str I.kIn Dh e (fun z=>nomatch z) h
 | flt y=>obtain ⟨t,q⟩:=(show ∃ t,u=NB y t from rx); cases q; exact CM PySem.W.kitx_float I.kIn Dh e (fun z=>nomatch z) h
 | @lst a xs ea =>
  cases (show u=Value.ref a from rx)
  obtain ⟨_,_,n,_,h1⟩:=(show ObjOk X.prog X.w H s.heap a (.lst xs) from I.hok a _ ea)
  exact CM Lg I.kIn ⟨_,h1,rfl⟩ e (fun z=>nomatch z) h
 | @frz a ob xs ea =>
  cases (show u=Value.ref a from rx)
  obtain ⟨_,_,_,n,_,h1⟩:=(show ObjOk X.prog X.w H s.heap a (.frz ob (.lst xs)) from I.hok a _ ea)
  exact CM Lg I.kIn ⟨_,h1,rfl⟩ e (fun z=>nomatch z) h
 | @tup a xs ea =>
  cases (show u=Value.ref a from rx)
  obtain ⟨_,_,_,p⟩:=(show ObjOk X.prog X.w H s.heap a (.tup xs) from I.hok a _ ea)
  obtain ⟨o,h1,h2,_⟩:=p
  exact CM PySem.W.kitx_tuple I.kIn ⟨o,h1,h2⟩ e (fun z=>nomatch z) h
 | @dK a kvs ea =>
  cases (show u=Value.ref a from rx)
  obtain ⟨_,_,vs,_,p⟩:=(show ObjOk X.prog X.w H s.heap a (.dK kvs) from I.hok a _ ea)
  obtain ⟨o,es,ep,h1,h2,_⟩:=p
  exact CM Lh I.kIn ⟨o,h1,h2.1⟩ e (fun z=>nomatch z) h
 | @dT a kvs ea =>
  cases (show u=Value.ref a from rx)
  obtain ⟨_,_,xs,_,o,es,ep,h1,h2,_⟩:=(show ObjOk X.prog X.w H s.heap a (.dT kvs) from I.hok a _ ea)
  exact CM Lh I.kIn ⟨o,h1,h2.1⟩ e (fun z=>nomatch z) h
 | @ins a C dx fs ea cl ha hn htk hm =>
  cases (show u=Value.ref a from rx)
  obtain ⟨mA,O,_⟩:=aHp I.hok ea
  obtain ⟨od,J,_⟩:=O.look
  exact CM (PySem.W.kitx_own (cl.get _) cl.hd ha hn htk hm) I.kIn J e (fun z=>nomatch z) h
end
structure Room (k:Nat) (A:AR):Prop where
 hd:A.handled=none
 dp:A.depth + 3 * k + 5 < recursionLimit
 un:A.units + 16 * k + 200 < cLine
theorem Room.mono {j k:Nat} {A:AR} (r:Room k A) (h:j<=k):Room j A:=⟨r.hd,by have:=r.dp; lia,by have:=r.un; lia⟩
theorem Room.deeper {k:Nat} {A:AR} (r:Room (k + 1) A) (env:Env):Room k (A.deeper env) :=
 ⟨r.hd,by have:=r.dp; show A.depth + 1 + 3 * k + 5 < _; lia,by have:=r.un; show A.units + 3 + 16 * k + 200 < _; lia⟩
theorem aDp {A:AR} {C:Addr} {us:List Value} {kw:List (Str×Value)}:(A.under (.builtin "type.__call__" ⟨.ref C :: us,kw⟩)).depth=A.depth + 1:=by
 first | rfl | simp [LA,Code.weight,Code.isCreation,Code.isGuard,Code.isCaller,NC,LB,guardIds]
theorem aDq {A:AR} {C:Addr} {us:List Value} {kw:List (Str×Value)}:(A.under (.builtin "type.__call__" ⟨.ref C :: us,kw⟩)).units=A.units + 1:=by
 first | rfl | simp [LA,Code.cUnits,NC,LB]
theorem Room.make {k:Nat} {A:AR} (r:Room (k + 1) A) (C:Addr) (us:List Value) (kw:List (Str×Value)):Room k (A.under (.builtin "type.__call__" ⟨.ref C :: us,kw⟩)) :=
 ⟨r.hd,by have:=r.dp; rw [aDp]; lia,by have:=r.un; rw [aDq]; lia⟩
theorem Room.depth {k:Nat} {A:AR} (r:Room k A):A.depth < recursionLimit:=by have:=r.dp; lia
theorem Room.units {k:Nat} {A:AR} (r:Room k A):A.units + 64 < cLine:=by have:=r.un; lia
noncomputable def tNil:TA:=fun _ H Q=>Q [] H
noncomputable def aIx (ta:TE) (tr:TA):TA:=fun σ H Q=>ta σ H fun x H1=>tr σ H1 fun xs H2=>Q (x :: xs) H2
section
variable {X:Cx} {e:Expr} {es:List Expr} {te:TE} {t:TA} {pos:Pos}
theorem zC:PA X [] tNil:=fun _ _ _ _ H Q I h=>Li ⟨[],H,I,.nil,h⟩
theorem zA (ha:PE X e te) (hr:PA X es t) (hs:Bk (e :: es) X.env=(false,eval e X.env) :: Bk es X.env:=by rfl):PA X (e :: es) (aIx te t):=by
 intro pos pins s σ H Q I h
 rw [hs]
 show Ax _ _ (spliced ((false,eval e X.env) :: FJ pos (Bk es X.env))) _ _ s
 refine KJ (thn (ha pins s σ H _ I h) fun u s1 ⟨x,H1,I1,r1,q1⟩=>?_)
 exact thn (hr pos pins s1 σ H1 _ I1 q1) fun us s2 ⟨xs,H2,I2,r2,q2⟩=>⟨x :: xs,H2,I2,.cons r1 r2,q2⟩
noncomputable def tTup (t:TA):TE:=fun σ H Q=>t σ H fun xs H1=>xs.length<=sizeLine/\∀ p,H1 p=none->Q (.ref p) (upd H1 p (.tup xs))
noncomputable def tLst (t:TA):TE:=fun σ H Q=>t σ H fun xs H1=>xs.length<=sizeLine/\∀ p,H1 p=none->Q (.ref p) (upd H1 p (.lst xs))
theorem zv {x1} (h:PA X es t):PE X (.Tuple es x1 pos) (tTup t):=by
 intro pins s σ H Q I hq
 refine Kn (thn (h pos pins s σ H _ I hq) fun us s1 ⟨xs,H1,I1,r,z,q⟩=>⟨by rw [<- r.length]; exact z,?_⟩)
 have hf:H1 s1.heap.objs.size=none:=I1.hok.fresh (Ai _)
 refine ⟨.ref s1.heap.objs.size,upd H1 s1.heap.objs.size (.tup xs),I1.laid (t':=s1.toks) (fun b u e=>Ac _ e) (Ai _) ?_,rfl,q _ hf⟩
 exact ⟨z,us,r,⟨_,Ak _ rfl,rfl,_,rfl⟩⟩
theorem yz (h:PA X es t):PE X (.List es pos) (tLst t):=by
 intro pins s σ H Q I hq
 refine wpAny_List_spliced (thn (h pos pins s σ H _ I hq) fun us s1 ⟨xs,H1,I1,r,z,q⟩=>⟨by rw [<- r.length]; exact z,?_⟩)
 have hf:H1 s1.heap.objs.size=none:=I1.hok.fresh (Ai _)
 refine ⟨.ref s1.heap.objs.size,upd H1 s1.heap.objs.size (.lst xs),I1.laid (t':=s1.toks) (fun b u e=>Ac _ e) (Ai _) ?_,rfl,q _ hf⟩
 exact ⟨z,us,0,r,Ak _ rfl⟩
end
noncomputable abbrev Sp:=List V->Hp->VK->XK->Prop
noncomputable abbrev CXT:=List Env->Hp->Ad->XK->Value->Ad->Prop
structure Env0 (P:Ap) (w:AT) (K:Ah) (mg:Str->Option Value) (base:Heap) (A:AR) (outer:List Env) (s:Ad) (H:Hp):Prop where
 frames:A.frames=some outer
 mod:Mod K mg base
 bs:∀ b o,base.get? b=some o->s.heap.get? b=some o/\H b=none
 bsz:base.objs.size<=s.heap.objs.size
 funs:s.heap.FunFrames base outer
 frf:∀ b∈frs outer,H b=none
 hok:HOk P w H s.heap
 bare:Iw s.gens
noncomputable def CE (outer:List Env) (P:Ap) (w:AT) (H:Hp) (s:Ad) (Q:VK) (u:Value) (s':Ad):Prop :=
 ∃ v H',s'.os=s.os/\Iw s'.gens/\Un (frs outer) [] H H' s.heap s'.heap/\HOk P w H' s'.heap/\RelV v u/\Q v H'
noncomputable def CR (CX:CXT) (outer:List Env) (P:Ap) (w:AT) (H:Hp) (s:Ad) (Q:VK) (E:XK) (r:Ka) (s':Ad):Prop :=
 match r with
 | .ok (.ret u)=>CE outer P w H s Q u s'
 | .ok _=>False
 | .error e=>CX outer H s E e s'
structure FnOk (P:Ap) (w:AT) (K:Ah) (mg:Str->Option Value) (base:Heap) (CX:CXT) (k:Nat) (f:Addr) (fd:BL) (ps:List Str) (sp:Sp):Prop where
 len:∀ vs H Q E,sp vs H Q E->vs.length=ps.length
 run:∀ (A:AR) (outer:List Env) (s:Ad) (H:Hp) (args:Args) (us:List Value) (vs:List V) (Q:VK) (E:XK),Room k A->Env0 P w K mg base A outer s H->Ml s fd args (ps.zip us)->Vals vs us->sp vs H Q E ->
  Ef (AC P w) A (.call (.ref f) args) (CR CX outer P w H s Q E) s
theorem Env0.make {P:Ap} {w:AT} {K:Ah} {mg:Str->Option Value} {base:Heap} {A:AR} {outer:List Env} {s:Ad} {H:Hp} (e:Env0 P w K mg base A outer s H) (C:Addr) (us:List Value) (kw:List (Str×Value)) :
  Env0 P w K mg base (A.under (.builtin "type.__call__" ⟨.ref C :: us,kw⟩)) outer s H:=⟨by first | exact e.frames | (simpa [LA,Code.envs,LB,pushEnvs] using e.frames),e.mod,e.bs,e.bsz,e.funs,e.frf,e.hok,e.bare⟩
section
variable {X:Cx} {pins:List (Addr×Obj)} {σ:St} {H:Hp} {s s':Ad}
theorem Inv.env0 (I:Inv X pins σ H s):Env0 X.prog X.w X.K X.mg X.base X.A X.stack s H :=
 ⟨I.ok.frames,I.ok.mod,I.bs,At I.ok.bsz I.sz,I.stack,I.stkFree,I.hok,I.bare⟩
theorem Inv.after {Q:VK} {u:Value} (I:Inv X pins σ H s) (h:CE X.stack X.prog X.w H s Q u s'):EP X pins σ Q u s':=by
 obtain ⟨v,H',os,bare,un,hok,r,q⟩:=h
 obtain ⟨hh,g,d,t,os'⟩:=s'
 obtain rfl:os'=s.os:=os
 exact ⟨v,H',I.call (h':=hh) (g':=g) (d':=d) (t':=t) (ch:=[]) un hok bare (fun b z=>absurd z (by simp)),r,q⟩
end
noncomputable def aIy (sp:Sp) (dvs:List V) (E:XK) (t:TA):TE:=fun σ H Q=>t σ H fun vs H1=>sp (vs++dvs) H1 Q E
noncomputable def Binds (K:Ah) (fd:BL) (ps:List Str) (ds:List Value):Prop :=
 ∀ (s:Ad) (us:List Value),K.In s.heap->(us++ds).length=ps.length->Ml s fd ⟨us,[]⟩ (ps.zip (us++ds))
theorem Binds.all {K:Ah} {fd:BL} {ps:List Str} (h:∀ us:List Value,us.length=ps.length->bindArgs fd ⟨us,[]⟩=pure (ps.zip us)):Binds K fd ps []:=fun s us _ hl=>by
 rw [BD] at hl ⊢
 exact .of_eq (h us hl)
noncomputable def aEf (CX:CXT) (X:Cx) (E:XK):Prop:=∀ (pins:List (Addr×Obj)) (σ:St) (H:Hp) (s:Ad) (e:Value) (s':Ad),Inv X pins σ H s->CX X.stack H s E e s'->X.xe e s'
section
variable {X:Cx} {CX:CXT} {k:Nat} {f C:Addr} {fd:BL} {ps:List Str} {sp:Sp} {dvs:List V} {ds:List Value} {E:XK} {x m:Str} {p pos apos:Pos} {e o:Expr} {es:List Expr} {ta:TE} {t:TA}
theorem aIz {pins:List (Addr×Obj)} {σ:St} {H:Hp} {s:Ad} {Q:VK} {us:List Value} {vs:List V} (F:FnOk X.prog X.w X.K X.mg X.base CX k f fd ps sp) (hr:Room k X.A) (hb:Binds X.K fd ps ds) (hd:Vals dvs ds) (hx:aEf CX X E)
  (I:Inv X pins σ H s) (r:Vals vs us) (h:sp (vs++dvs) H Q E):Ax (AC X.prog X.w) X.A (call (.ref f) us) (EP X pins σ Q) X.xe s:=by
 have r2:Vals (vs++dvs) (us++ds):=r.append hd
 have hl:(us++ds).length=ps.length:=by rw [<- r2.length]; exact F.len _ _ _ _ h
 refine HW (Ey (F.run X.A X.stack s H ⟨us,[]⟩ (us++ds) (vs++dvs) Q E hr I.env0 (hb s us I.kIn hl) r2 h) fun r s' hq=>?_)
 cases r with
 | error e=>exact hx pins σ H s e s' I hq
 | ok fl =>
  cases fl with
  | ret u=>exact I.after hq
  | next=>exact EJ hq
  | brk=>exact EJ hq
  | cont=>exact EJ hq
theorem aHq (F:FnOk X.prog X.w X.K X.mg X.base CX k f fd ps sp) (hr:Room k X.A) (hg:Gl X x) (hm:X.mg x=some (.ref f)) (hk:AQ X.K (.ref f)=true) (hb:Binds X.K fd ps ds) (hd:Vals dvs ds) (hx:aEf CX X E)
  (ha:PA X (e :: es) t) (hdb:(x == ("__debug__":Str))=false:=by decide) (he:Bk (e :: es) X.env=(false,eval e X.env) :: Bk es X.env:=by rfl) (hpl:(FJ pos (Bk es X.env)).any (·.1)=false:=by rfl) :
  PE X (.Call (.Name x p) (e :: es) [] pos) (aIy sp dvs E t):=by
 intro pins s σ H Q I h
 refine DE (aAN I hg hm ?_ hdb)
 refine FR (h₀:=X.base) I.ok.mod.kin hk (thn (ha pos pins s σ H _ I h) fun us s1 ⟨vs,H1,I1,r,q⟩=>⟨I1.kIn,?_⟩) he hpl
 exact aIz F hr hb hd hx I1 r q
end
section
variable {X:Cx} {CX:CXT} {k:Nat} {f C:Addr} {fd:BL} {ps ks:List Str} {sp:Sp} {E:XK} {x m:Str} {p pos apos kpos:Pos} {e o:Expr} {es:List Expr} {kws:List Jk} {te ta:TE} {t tk:TA} {nm:Option Str}
variable {g:List Value->List Value->List Value} {gV:List V->List V->List V}
end
structure FnScope (N P:List Str) (sc:Scope):Prop where
 kind:sc.kind=.function
 co:sc.isCoroutine=false
 gen:sc.isGenerator=false
 nd:N.Nodup
 pre:N.take P.length=P
 par:∀ x∈P,sc.names.lookup x=some .local\/sc.names.lookup x=some .cell
 nofree:∀ y∈sc.names,y.2≠.free
theorem aBh {Gs:Str->Option Ei} {x:Str}:∀ {binds:List (Str×Value)} {m:Str->Option Value},(∀ v,(x,v) ∉ binds)->ND Gs binds m x=m x
 | [],_,_=>rfl
 | (n,v) :: r,m,h=>by
  unfold ND
  rw [aBh fun w hw=>h w (AI _ hw)]
  split
  ·have:x≠n:=by rintro rfl; exact h v AL
   simp [this]
  ·rfl
theorem aBi {Gs:Str->Option Ei} {x:Str}:∀ {binds:List (Str×Value)} {m:Str->Option Value},(∀ v,(x,v) ∉ binds)->NE Gs binds m x=m x
 | [],_,_=>rfl
 | (n,v) :: r,m,h=>by
  unfold NE
  rw [aBi fun w hw=>h w (AI _ hw)]
  split
  ·rfl
  ·have:x≠n:=by rintro rfl; exact h v AL
   simp [this]
theorem aBj {Gs:Str->Option Ei} {x:Str} {v:Value}:∀ {P:List Str} {vs:List Value} {i:Nat} {m:Str->Option Value},P.Nodup->P[i]?=some x->vs[i]?=some v->Gs x=some .local ->
  ND Gs (P.zip vs) m x=some v
 | [],_,_,_,_,h,_,_=>by simp at h
 | _ :: _,[],_,_,_,_,h,_=>by simp at h
 | p :: P,w :: vs,0,m,nd,h1,h2,hk=>by
  simp at h1 h2; subst h1; subst h2
  show ND Gs ((p,w) :: P.zip vs) m p=_
  unfold ND
  rw [aBh fun v hv=>(BY.mp nd).1 (Hb hv).1,if_pos hk]
  simp
 | p :: P,w :: vs,i + 1,m,nd,h1,h2,hk=>by
  show ND Gs ((p,w) :: P.zip vs) m x=_
  unfold ND
  exact aBj (i:=i) (BY.mp nd).2 (by simpa using h1) (by simpa using h2) hk
theorem aBk {Gs:Str->Option Ei} {x:Str} {v:Value}:∀ {P:List Str} {vs:List Value} {i:Nat} {m:Str->Option Value},P.Nodup->P[i]?=some x->vs[i]?=some v->Gs x≠some .local ->
  NE Gs (P.zip vs) m x=some v
 | [],_,_,_,_,h,_,_=>by simp at h
 | _ :: _,[],_,_,_,_,h,_=>by simp at h
 | p :: P,w :: vs,0,m,nd,h1,h2,hk=>by
  simp at h1 h2; subst h1; subst h2
  show NE Gs ((p,w) :: P.zip vs) m p=_
  unfold NE
  rw [aBi fun v hv=>(BY.mp nd).1 (Hb hv).1,if_neg hk]
  simp
 | p :: P,w :: vs,i + 1,m,nd,h1,h2,hk=>by
  show NE Gs ((p,w) :: P.zip vs) m x=_
  unfold NE
  exact aBk (i:=i) (BY.mp nd).2 (by simpa using h1) (by simpa using h2) hk
noncomputable def aAj (N:List Str) (vs:List V):St:=vs.map some++CD (N.length - vs.length) none
noncomputable def cxOf (CX:CXT) (P:Ap) (w:AT) (K:Ah) (mg:Str->Option Value) (base:Heap) (N:List Str) (qual:Str) (scope:Scope) (f:Addr) (cd:Value) (A:AR) (outer:List Env) (s:Ad) (H:Hp) (E:XK):Cx where
 prog:=P
 w:=w
 K:=K
 mg:=mg
 base:=base
 A:=A.deeper (Kc qual scope s.heap.objs.size f cd)
 N:=N
 s₀:=s
 H₀:=H
 env:=Kc qual scope s.heap.objs.size f cd
 outer:=outer
 stack:=Kc qual scope s.heap.objs.size f cd :: outer
 ex:=[]
 calm:=true
 fn:=fun _=>true
 pn:=[]
 xe:=fun e s'=>Ax (AC P w) (A.deeper (Kc qual scope s.heap.objs.size f cd)) (leaving (Kc qual scope s.heap.objs.size f cd) e) (fun _ s''=>CX outer H s E e s'') (fun e' s''=>CX outer H s E e' s'') s'
theorem aDA {sc:Scope} {n:Nat} {x:Str} (h:sc.names.lookup x=some .cell):∃ c,(CN n sc.names []).lookup x=some c:=by
 have q:=IX sc.names n [] (.inl h)
 exact Option.isSome_iff_exists.mp q
theorem aEg {CX:CXT} {P:Ap} {w:AT} {K:Ah} {mg:Str->Option Value} {base:Heap} {N ps:List Str} {qual:Str} {scope:Scope} {f:Addr} {cd:Value} {A:AR} {outer:List Env} {s s1:Ad} {H:Hp} {E:XK} {us:List Value} {vs:List V}
  (S:FnScope N ps scope) (hd:A.handled=none) (e0:Env0 P w K mg base A outer s H) (hl:vs.length=ps.length) (r:Vals vs us)
  (x:InCallC s s.heap.objs.size (ND (Kc qual scope s.heap.objs.size f cd).kindOf (ps.zip us) fun _=>none) (CN (s.heap.objs.size + 1) scope.names []) (NE (Kc qual scope s.heap.objs.size f cd).kindOf (ps.zip us) fun _=>none) s1) :
  Inv (cxOf CX P w K mg base N qual scope f cd A outer s H E) [] (aAj N vs) H s1:=by
 have hpl:ps.length<=N.length:=by have:=congrArg Ix S.pre; rw [Bd] at this; lia
 obtain ⟨h1,tk,rfl,hk⟩:=x.done
 have noA:∀ b:Addr,b ∉ (cxOf CX P w K mg base N qual scope f cd A outer s H E).ex:=fun b z=>absurd (show b∈([]:List Addr) from z) (by simp)
 refine ⟨⟨e0.mod,S.kind,rfl,rfl,Ai _,fun y z c h1 h2=>?_,fun y hy=>?_,fun y c _ h=>?_,fun _=>hd,Around.frames_deeper e0.frames,.inr ⟨rfl,rfl⟩,fun b z=>absurd z (noA b),e0.bs,e0.bsz,fun b _ _=>noA b,fun b z=>absurd z (noA b),e0.funs,e0.frf⟩,
  rfl,e0.bare,Un.kept hk,⟨_,x.toInCall.ns,fun i y v h1 h2 h3=>?_⟩,fun y c h=>⟨_,x.cell y c h⟩,e0.hok.fresh (Ai _),fun y c h=>?_,fun p hp=>absurd (show p∈([]:List (Addr×Obj)) from hp) (by simp),e0.hok.kept hk,?_⟩
 ·exact name_of_addr x.apart (By h1) (By h2)
 ·have hy:scope.names.lookup y=some .cell\/scope.names.lookup y=some .free:=hy
  rcases hy with hy | hy
  ·exact aDA hy
  ·exact absurd rfl (S.nofree _ (By hy))
 ·exact FI (x.above y c (By h))
 ·have hi:i < vs.length:=by
   unfold aAj at h2
   by_cases hi:i < vs.length
   ·exact hi
   ·rw [List.getElem?_append_right (by simpa using hi)] at h2
    rw [List.getElem?_replicate] at h2
    split at h2 <;> cases h2
  have ha:vs[i]?=some v:=by
   unfold aAj at h2
   rw [List.getElem?_append_left (by simpa using hi),Bh] at h2
   cases e:vs[i]? with
   | none=>rw [e] at h2; cases h2
   | some a=>rw [e] at h2; cases h2; rfl
  obtain ⟨u,hu,rv⟩:=r.get ha
  have hp:ps[i]?=some y:=by
   rw [<- S.pre,HX (by lia)]; exact h1
  have ndP:ps.Nodup:=by rw [<- S.pre]; exact S.nd.sublist (Lj _ _)
  refine ⟨u,rv,?_⟩
  rcases S.par y (Av hp) with k | k
  ·exact .inl ⟨k,aBj ndP hp hu k⟩
  ·obtain ⟨c,e⟩:=aDA (n:=s.heap.objs.size + 1) k
   refine .inr ⟨.inl k,c,e,?_⟩
   have q:=x.cell y c e
   rw [aBk ndP hp hu (by show scope.names.lookup y≠_; rw [k]; decide)] at q
   exact q
 ·exact e0.hok.fresh (FI (x.above y c (By h)))
 ·unfold aAj
  show _=N.length
  rw [Al,Ae,Jl]
  lia
theorem aJ0 {CX:CXT} {P:Ap} {w:AT} {K:Ah} {mg:Str->Option Value} {base:Heap} {k:Nat} {f:Addr} {name qual:Str} {params:Arguments} {body:List Stmt} {scope:Scope} {dV kV doc pm cdv ct oc:Value} {an od:Option Addr}
  {osl:Array (Option Value)} {N ps:List Str} {sp:Sp} (lk:K.lookup f=some ⟨oc,od,.func (Bn name qual params body scope dV kV doc pm an cdv ct),osl⟩) (hcd:Bg K cdv qual=true) (S:FnScope N ps scope)
  (len:∀ vs H Q E,sp vs H Q E->vs.length=ps.length)
  (hbody:∀ (A:AR) (outer:List Env) (s:Ad) (H:Hp) (vs:List V) (Q:VK) (E:XK),Room k (A.deeper (Kc qual scope s.heap.objs.size f cdv))->sp vs H Q E ->
   ∃ t,PSs (cxOf CX P w K mg base N qual scope f cdv A outer s H E) body t/\t { nx:=fun _ H'=>Q .non H',rt:=Q } (aAj N vs) H) :
  FnOk P w K mg base CX (k + 1) f (Bn name qual params body scope dV kV doc pm an cdv ct) ps sp:=by
 refine ⟨len,fun A outer s H args us vs Q E hr e0 hb r hsp=>?_⟩
 have hl:=len _ _ _ _ hsp
 have KX:K.In s.heap:=e0.mod.kin.keeps fun b o e=>(e0.bs b o e).1
 have lim:s.heap.NoLimit:=e0.mod.nolimit.keeps fun b o e=>(e0.bs b o e).1
 have hkind:∀ y∈ps.zip us,scope.names.lookup y.1=some .local\/(scope.names.lookup y.1=some .cell/\((CN (s.heap.objs.size + 1) scope.names []).lookup y.1).isSome=true):=fun ⟨n,v⟩ hy=>by
  rcases S.par n (Hb hy).1 with q | q
  ·exact .inl q
  ·exact .inr ⟨q,IX _ _ _ (.inl q)⟩
 refine codeAny_call_function hr.depth (KX _ _ lk) rfl S.co S.gen rfl (PySem.W.codeRec_of KX hcd) (hb _ _ _ _ ?_)
 refine wpAny_newFunctionEnv_cells S.kind hkind fun env he s1 x=>?_
 subst he
 refine ⟨lim.keeps x.toInCall.keep,codeAny_func ?_⟩
 obtain ⟨t,ht,hq⟩:=hbody A outer s H vs Q E (hr.deeper _) hsp
 have I:Inv (cxOf CX P w K mg base N qual scope f cdv A outer s H E) [] (aAj N vs) H s1:=aEg S hr.hd e0 hl r x
 refine BJ (ht [] s1 (aAj N vs) H _ I hq) (fun fl s' hs=>?_) fun e s' hs=>hs
 have fin:∀ {σ':St} {H':Hp} {v:V} {u:Value},Inv (cxOf CX P w K mg base N qual scope f cdv A outer s H E) [] σ' H' s'->RelV v u->Q v H'->CE outer P w H s Q u s' :=
  fun {σ' H' v u} J rv q=>⟨v,H',J.os,J.bare,J.base,J.hok,rv,q⟩
 cases fl with
 | ret u =>
  obtain ⟨v,σ',H',J,rv,q⟩:=hs
  exact fin J rv q
 | next =>
  obtain ⟨σ',H',J,q⟩:=hs
  exact fin (v:=V.non) (u:=Cy) J rfl q
 | brk =>
  obtain ⟨_,_,_,q⟩:=hs
  exact EJ q
 | cont =>
  obtain ⟨_,_,_,q⟩:=hs
  exact EJ q
section
variable {X:Cx} {x:Str} {p pos:Pos} {e:Expr} {es:List Expr} {t:TA} {id T:String} {r:List V->Hp->VK->Prop}
noncomputable def tCB (r:List V->Hp->VK->Prop) (t:TA):TE:=fun σ H Q=>t σ H fun vs H1=>r vs H1 Q
theorem zO (hc:qL X (.builtin id) r) (hg:Gl X x) (hm:X.mg x=none) (hv:BR x=some (.builtin id)) (ha:PA X (e :: es) t) (hn:x≠"__name__":=by decide) (hdb:(x == ("__debug__":Str))=false:=by decide)
  (he:Bk (e :: es) X.env=(false,eval e X.env) :: Bk es X.env:=by rfl) (hpl:(FJ pos (Bk es X.env)).any (·.1)=false:=by rfl):PE X (.Call (.Name x p) (e :: es) [] pos) (tCB r t):=by
 intro pins s σ H Q I h
 refine DE (aA6 I hg hm hv ?_ hn hdb)
 exact PyProof.Rows.callWith_builtin1 (thn (ha pos pins s σ H _ I h) fun us s1 ⟨vs,H1,I1,r1,q1⟩=>hc pins s1 σ H1 vs us Q I1 r1 q1) he hpl
theorem zW (hc:qL X (.type T) r) (hg:Gl X x) (hm:X.mg x=none) (hv:BR x=some (.type T)) (ha:PA X (e :: es) t) (hn:x≠"__name__":=by decide) (hdb:(x == ("__debug__":Str))=false:=by decide)
  (he:Bk (e :: es) X.env=(false,eval e X.env) :: Bk es X.env:=by rfl) (hpl:(FJ pos (Bk es X.env)).any (·.1)=false:=by rfl):PE X (.Call (.Name x p) (e :: es) [] pos) (tCB r t):=by
 intro pins s σ H Q I h
 refine DE (aA6 I hg hm hv ?_ hn hdb)
 exact Da (thn (ha pos pins s σ H _ I h) fun us s1 ⟨vs,H1,I1,r1,q1⟩=>hc pins s1 σ H1 vs us Q I1 r1 q1) he hpl
theorem aDr (hc:qL X (.type T) r) (hg:Gl X x) (hm:X.mg x=none) (hv:BR x=some (.type T)) (hn:x≠"__name__":=by decide) (hdb:(x == ("__debug__":Str))=false:=by decide) :
  PE X (.Call (.Name x p) [] [] pos) (tCB r tNil):=by
 intro pins s σ H Q I h
 refine DE (aA6 I hg hm hv ?_ hn hdb)
 exact PyProof.Rows.callWith_type0 (hc pins s σ H [] [] Q I .nil h)
end
end L2
namespace HT
open PySem PyProof.Rows
section
open PySem.SeqAt
open PySem.AutoSeq1 (wpAny_loadPart')
open PySem.MeetsSeq PySem.MeetsSeq2 PySem.MeetsSeq3
end
section
variable {prog:Ap} {w:AT} {A:AR} {E:Value->Ad->Prop} {s:Ad}
theorem cat_tup {t b:Addr} {vs ws:List Value} {Q:Value->Ad->Prop} (ht:NK s.heap t vs.toArray) (hb:NK s.heap b ws.toArray) (hv:vs≠[])
  (h1:ws=[]->Q (.ref t) s) (h2:ws≠[]->Q (.ref s.heap.objs.size) { s with heap:=s.heap.push { cls:=.type "tuple",data:=.seq (vs++ws).toArray } })
  (hsz:vs.length + ws.length<=sizeLine):Ax (AC prog w) A (DX .Add (.ref t) (.ref b)) Q E s:=by
 obtain ⟨⟨cls,dd,data,sl⟩,ho,hc,n,hd⟩:=id ht
 obtain ⟨⟨cls2,dd2,data2,sl2⟩,ho2,hc2,n2,hd2⟩:=id hb
 simp only at hc hd hc2 hd2
 subst hc hd hc2 hd2
 have e:vs.toArray++ws.toArray=(vs++ws).toArray:=by simp
 by_cases hw:ws=[]
 ·exact Jm ⟨_,ho,rfl⟩ ⟨_,ho2,rfl⟩ GB Iy EQ EA (Em _ _)
   (tuple_addW1 t b vs.toArray ws.toArray n n2 dd dd2 sl sl2 (by simpa using hv) (by simp [hw])) ⟨ho,ho2,h1 hw⟩
 ·refine Jm ⟨_,ho,rfl⟩ ⟨_,ho2,rfl⟩ GB Iy EQ EA (Em _ _)
   (tuple_addW2 t b vs.toArray ws.toArray n n2 dd dd2 sl sl2 (by simpa using hv) (by simpa using hw) (by rw [AD,AD]; exact hsz)) ⟨ho,ho2,?_⟩
  rw [e]
  exact h2 hw
noncomputable def sIx (n d:Nat):Option Int->Nat
 | none=>d
 | some v=>if v < 0 then (v + (n:Int)).toNat else min v.toNat n
theorem aJ1 (n d:Nat) (hd:d<=n) (o:Option Int):sIx n d o<=n:=by
 cases o with
 | none=>exact hd
 | some v =>
  show (if v < 0 then (v + (n:Int)).toNat else min v.toNat n)<=n
  by_cases hv:v < 0
  ·rw [if_pos hv]; lia
  ·rw [if_neg hv]; exact Nat.min_le_right _ _
theorem aEh (v:Int) (n d:Nat):(if v < 0 then max (v + (n:Int)) 0 else min v (n:Int))=((sIx n d (some v):Nat):Int):=by
 show (if v < 0 then max (v + (n:Int)) 0 else min v (n:Int))=(((if v < 0 then (v + (n:Int)).toNat else min v.toNat n):Nat):Int)
 by_cases hv:v < 0
 ·simp only [if_pos hv]; lia
 ·simp only [if_neg hv]; lia
theorem aDs (lo hi:Option Int) (n:Nat):CO lo hi 1 (n:Int)=(((sIx n 0 lo:Nat):Int),((sIx n n hi:Nat):Int)):=by
 have h1:¬ ((1:Int) < 0):=by lia
 unfold CO
 simp only [h1,if_false]
 refine Prod.ext ?_ ?_
 ·cases lo with
  | none=>rfl
  | some v=>exact aEh v n 0
 ·cases hi with
  | none=>rfl
  | some v=>exact aEh v n n
theorem aDt (i j:Nat):Cc (i:Int) (j:Int) 1=j - i:=by
 unfold Cc
 have h1:(1:Int) > 0:=by lia
 simp only [h1,if_true,Int.ediv_one]
 split <;> lia
theorem js {v:Value} {o:Option Int} {Q:Option Int->Ad->Prop} (p:Jn v o) (h:Q o s):Ax (AC prog w) A (Builtin.Slice.slicePartIndex v) Q E s:=by
 cases p with
 | none=>exact HM h
 | int i t=>exact slicePart_int h
theorem qg {sl:Addr} {vl vu:Value} {lo hi:Option Int} {n:Nat} {Q:Int×Int×Nat->Ad->Prop} (hs:s.heap.IsSliceOf sl vl vu .none) (pl:Jn vl lo) (pu:Jn vu hi)
  (h:Q (((sIx n 0 lo:Nat):Int),1,sIx n n hi - sIx n 0 lo) s):Ax (AC prog w) A (Ea (.ref sl) (pure (n:Int))) Q E s:=by
 obtain ⟨os,hos,hcs,hds⟩:=id hs
 unfold Ea HN
 refine Aa (Aa (Cd hos hds (x:=vl) rfl (Aa (Cd hos hds (x:=vu) rfl (Aa (Cd hos hds (x:=.none) rfl (Ab ?_)))))))
 refine Aa (HM ?_)
 show Ax _ _ (if ((1:Int) == 0)=true then _ else _) _ _ s
 rw [if_neg (by decide)]
 refine Aa (js pl (Aa (js pu (Aa (Ab ?_)))))
 show Ax _ _ (match CO lo hi 1 (n:Int) with | (lo,hi)=>pure (lo,(1:Int),Cc lo hi 1)) _ _ s
 rw [aDs lo hi n]
 show Ax _ _ (pure (((sIx n 0 lo:Nat):Int),(1:Int),Cc ((sIx n 0 lo:Nat):Int) ((sIx n n hi:Nat):Int) 1)) _ _ s
 rw [aDt]
 exact Ab h
theorem aDB (xs:Array Value) (i k:Nat):((Bc k).filterMap fun (m:Nat)=>xs[((i:Int) + (m:Int) * 1).toNat]?).toArray=((xs.toList.drop i).take k).toArray:=by
 have e:(fun (m:Nat)=>xs[((i:Int) + (m:Int) * 1).toNat]?)=fun m=>xs[i + m]?:=by
  funext m
  have:((i:Int) + (m:Int) * 1).toNat=i + m:=by lia
  rw [this]
 rw [e]
 have:=pick_run xs i k
 rw [KL] at this
 have e2:((fun x=>xs[x]?) ∘ fun x=>i + x)=fun m=>xs[i + m]?:=rfl
 rw [e2] at this
 rw [this]
theorem getItem_tuple_cut {t sl:Addr} {items:Array Value} {vl vu:Value} {lo hi:Option Int} {Q:Value->Ad->Prop} (ht:NK s.heap t items) (hs:s.heap.IsSliceOf sl vl vu .none) (pl:Jn vl lo) (pu:Jn vu hi)
    (hw:¬ (sIx items.size 0 lo=0/\sIx items.size items.size hi=items.size))
    (h:Q (.ref s.heap.objs.size) { s with heap:=s.heap.push { cls:=.type "tuple",data:=.seq ((items.toList.drop (sIx items.size 0 lo)).take (sIx items.size items.size hi - sIx items.size 0 lo)).toArray } })
    (hsz:items.size<=sizeLine):Ax (AC prog w) A (Gk (.ref t) (.ref sl)) Q E s:=by
  have htake:sizeOk (.seq ((items.toList.drop (sIx items.size 0 lo)).take (sIx items.size items.size hi - sIx items.size 0 lo)).toArray):=by
    show ((items.toList.drop (sIx items.size 0 lo)).take (sIx items.size items.size hi - sIx items.size 0 lo)).toArray.size<=sizeLine
    rw [AD,Bd,GC,AA]
    lia
  have hj:sIx items.size items.size hi<=items.size:=aJ1 _ _ (Ai _) hi
  obtain ⟨os,hos,hcs,hds⟩:=id hs
  have hTs:s.TypeIs (.ref sl) "slice":=⟨os,hos,hcs⟩
  unfold Gk
  try with_reducible refine BE ?_
  first | refine Aa (Ab ?_) | skip
  refine Aa (HY ht.typeIs (by decide) ?_)
  refine Aa (Bl (name:=CW "__getitem__") ht.typeIs BB
    (AU BB ht.typeIs Hc ?_ (Hv _ _)))
  show Ax _ _ (Fp (.ref t) >>= _) _ _ s
  refine Aa (KM ht ?_)
  refine Aa (DN hTs ?_)
  rw [if_pos (by decide)]
  refine Aa (qg hs pl pu ?_)
  have hno:¬ ((((sIx items.size 0 lo:Nat):Int) == 0 && (1:Int) == 1 && (sIx items.size items.size hi - sIx items.size 0 lo) == items.size)=true):=by
    intro q
    rw [Bq,Bq] at q
    have q1:((sIx items.size 0 lo:Nat):Int)=0:=eq_of_beq q.1.1
    have q2:sIx items.size items.size hi - sIx items.size 0 lo=items.size:=eq_of_beq q.2
    exact hw ⟨by lia,by lia⟩
  show Ax _ _ (if (((sIx items.size 0 lo:Nat):Int) == 0 && (1:Int) == 1 && (sIx items.size items.size hi - sIx items.size 0 lo) == items.size)=true then _ else _) _ _ s
  rw [if_neg hno,aDB]
  first
    | exact Aa (m:=Ck _) (Bb (Ab ⟨_,rfl,Ab h⟩) htake)
    | exact Aa (m:=Ck _) (Bb (Aa (Ab (Ab ⟨_,rfl,Ab h⟩))) htake)
    | exact Aa (Aa (m:=Ck _) (Bb (Ab (Ab ⟨_,rfl,Ab h⟩)) htake))
    | exact Aa (Aa (m:=Ck _) (Bb (Ab ⟨_,rfl,Ab h⟩) htake))
end
end HT
namespace L2
open PySem PySem.Spec PyProof.Rows
noncomputable abbrev TO:=St->Hp->(Option Int->Hp->Prop)->Prop
noncomputable def PO (X:Cx) (e:Option Expr) (t:TO):Prop :=
 ∀ (pins:List (Addr×Obj)) (s:Ad) (σ:St) (H:Hp) (Q:Option Int->Hp->Prop),Inv X pins σ H s->t σ H Q ->
  Ax (AC X.prog X.w) X.A (evalPart e X.env) (fun u s'=>∃ o H',Inv X pins σ H' s'/\Jn u o/\Q o H') X.xe s
noncomputable def aHr:TO:=fun _ H Q=>Q none H
noncomputable def aKY (t:TE):TO:=fun σ H Q=>t σ H fun x H1=>∃ i,x=.int i/\Q (some i) H1
theorem jt {ns:List Int}:∀ {us:List Value},Vals (ns.map V.int) us->Gm us ns:=by
 induction ns with
 | nil=>intro us r; rw [Cu] at r; cases r; exact .nil
 | cons n ns ih =>
  intro us r
  rw [Aw] at r
  cases r with
  | cons r1 r2 =>
   obtain ⟨t,e⟩:=r1
   subst e
   exact .cons n t (ih r2)
section
variable {X:Cx} {e:Expr} {te:TE} {lo hi:Option Expr} {tl th:TO} {pos p2:Pos}
theorem jN:PO X none aHr:=by
 intro pins s σ H Q I h
 rw [Iz]
 exact Ab ⟨none,H,I,.none,h⟩
theorem yR (h:PE X e te):PO X (some e) (aKY te):=by
 intro pins s σ H Q I hw
 rw [evalPart_some]
 refine thn (h pins s σ H _ I hw) fun u s1 ⟨x,H1,I1,r1,q1⟩=>?_
 obtain ⟨i,rfl,q⟩:=q1
 obtain ⟨t,rfl⟩:=r1
 exact ⟨some i,H1,I1,.int i t,q⟩
noncomputable def SlR (X:Cx) (r:V->Option Int->Option Int->Hp->VK->Prop):Prop :=
 ∀ (pins:List (Addr×Obj)) (s:Ad) (σ:St) (H:Hp) (x:V) (v vl vu:Value) (lo hi:Option Int) (sl:Addr) (Q:VK),Inv X pins σ H s->RelV x v->s.heap.IsSliceOf sl vl vu .none->Jn vl lo->Jn vu hi->r x lo hi H Q ->
  ∃ T id,HZ (.type T) "__getitem__"=pure (some (.builtin id))/\s.TypeIs v T/\Ax (AC X.prog X.w) X.A (Gk v (.ref sl)) (EP X pins σ Q) X.xe s
noncomputable def tSl (r:V->Option Int->Option Int->Hp->VK->Prop) (te:TE) (tl th:TO):TE:=fun σ H Q=>te σ H fun x H1=>tl σ H1 fun l H2=>th σ H2 fun u H3=>r x l u H3 Q
theorem yj {r:V->Option Int->Option Int->Hp->VK->Prop} (hr:SlR X r) (he:PE X e te) (hl:PO X lo tl) (hu:PO X hi th):PE X (.Subscript e (.Slice lo hi none p2) pos) (tSl r te tl th):=by
 intro pins s σ H Q I h
 refine JL (thn (he pins s σ H _ I h) fun v s1 ⟨x,H1,I1,r1,q1⟩=>?_)
 refine Mm (thn (hl pins s1 σ H1 _ I1 q1) fun vl s2 ⟨l,H2,I2,pl,q2⟩=>thn (hu pins s2 σ H2 _ I2 q2) fun vu s3 ⟨u,H3,I3,pu,q3⟩=>?_)
 rw [Iz]
 refine Ab ?_
 have I4:Inv X pins σ H3 { s3 with heap:=s3.heap.push { cls:=.type "slice",data:=.fields #[vl,vu,.none] } }:=I3.kept (t':=s3.toks) fun b ob q=>Ac _ q
 obtain ⟨T,id,hT,ht,hg⟩:=hr pins { s3 with heap:=s3.heap.push { cls:=.type "slice",data:=.fields #[vl,vu,.none] } } σ H3 x v vl vu l u s3.heap.objs.size Q I4 r1 (Hw ..) pl pu q3
 show Ax (AC X.prog X.w) X.A (KN e (.Slice lo hi none p2) v (.ref s3.heap.objs.size)) (EP X pins σ Q) X.xe { s3 with heap:=s3.heap.push { cls:=.type "slice",data:=.fields #[vl,vu,.none] } }
 exact tail_any (ops:=[.ref s3.heap.objs.size,v]) ht hT hg (by with_unfolding_all rfl)
noncomputable def cutV (xs:List V) (lo hi:Option Int):List V:=(xs.drop (HT.sIx xs.length 0 lo)).take (HT.sIx xs.length xs.length hi - HT.sIx xs.length 0 lo)
theorem aCT (xs:List V) (lo hi:Option Int):(cutV xs lo hi).length<=xs.length:=by
 unfold cutV
 rw [Bd,GC]
 lia
noncomputable def rSlT (K:Ah):V->Option Int->Option Int->Hp->VK->Prop:=fun x lo hi H Q=>∃ a xs,x=.ref a/\SqT K H a xs /\
 ¬ (HT.sIx xs.length 0 lo=0/\HT.sIx xs.length xs.length hi=xs.length)/\∀ p,H p=none->Q (.ref p) (upd H p (.tup (cutV xs lo hi)))
theorem aJ2:SlR X (rSlT X.K):=by
 intro pins s σ H x v vl vu lo hi sl Q I rx hs pl pu h
 obtain ⟨a,xs,rfl,hx,hw,q⟩:=h
 cases rx
 obtain ⟨its,r,ht,hz⟩:=I.tuple hx
 have hlen:its.toArray.size=xs.length:=by rw [AD]; exact r.length.symm
 refine ⟨"tuple",_,BB.lookup,ht.typeIs,?_⟩
 refine HT.getItem_tuple_cut ht hs pl pu (by rw [hlen]; exact hw) ?_ (by rw [hlen]; exact hz)
 rw [hlen]
 refine ⟨.ref s.heap.objs.size,_,I.laid (t':=s.toks) (o:=.tup (cutV xs lo hi)) (fun b ob q=>Ac _ q) (Ai _) ?_,rfl,q _ (I.hok.fresh (Ai _))⟩
 exact ⟨At (aCT xs lo hi) hz,_,(r.drop (HT.sIx xs.length 0 lo)).take (HT.sIx xs.length xs.length hi - HT.sIx xs.length 0 lo),KO _ _⟩
noncomputable def aKZ (K:Ah):R2:=fun x y H Q=>∃ a b xs ys,x=.ref a/\y=.ref b/\SqT K H a xs/\SqT K H b ys/\xs≠[]/\xs.length + ys.length<=sizeLine /\
 (ys=[]->Q (.ref a) H)/\(ys≠[]->∀ p,H p=none->Q (.ref p) (upd H p (.tup (xs++ys))))
theorem Vals.nil_iff {xs:List V} {us:List Value} (r:Vals xs us):us=[]↔xs=[]:=by
 cases r with
 | nil=>simp
 | cons _ _=>simp
theorem aCU:OpR X (DX .Add) (aKZ X.K):=by
 intro pins s σ H x y v u Q I rx ry h
 obtain ⟨a,b,xs,ys,rfl,rfl,ha,hb,hx,hz,q1,q2⟩:=h
 cases rx
 cases ry
 obtain ⟨its,r1,p1,_⟩:=I.tuple ha
 obtain ⟨its2,r2,p2,_⟩:=I.tuple hb
 refine HT.cat_tup p1 p2 (fun z=>hx (r1.nil_iff.mp z)) (fun z=>⟨.ref a,H,I,rfl,q1 (r2.nil_iff.mp z)⟩) (fun z=>?_) (by rw [<- r1.length,<- r2.length]; exact hz)
 refine ⟨.ref s.heap.objs.size,_,I.laid (t':=s.toks) (o:=.tup (xs++ys)) (fun b ob q=>Ac _ q) (Ai _) ?_,rfl,q2 (fun w=>z (r2.nil_iff.mpr w)) _ (I.hok.fresh (Ai _))⟩
 exact ⟨by rw [Al]; exact hz,_,r1.append r2,KO _ _⟩
end
noncomputable def ixN (n:Nat) (i:Int):Option Nat:=if 0<=i then (if i < n then some i.toNat else none) else if -(n:Int)<=i then some (i + n).toNat else none
noncomputable def atI {α:Type} (xs:List α) (i:Int):Option α:=(ixN xs.length i).bind fun j=>xs[j]?
theorem aHs {n:Nat} {i:Int} {j:Nat} (h:ixN n i=some j):Nn i n=some j/\j < n/\-(n:Int)<=i/\i < n:=by
 unfold ixN at h
 by_cases h0:0<=i
 ·rw [if_pos h0] at h
  by_cases h1:i < n
  ·rw [if_pos h1] at h
   have e:i.toNat=j:=BA h
   exact ⟨by rw [seqIndex_of h0 h1,e],by lia,by lia,h1⟩
  ·rw [if_neg h1] at h; cases h
 ·rw [if_neg h0] at h
  by_cases h1:-(n:Int)<=i
  ·rw [if_pos h1] at h
   have e:(i + n).toNat=j:=BA h
   exact ⟨by rw [seqIndex_neg (by lia) h1,e],by lia,h1,by lia⟩
  ·rw [if_neg h1] at h; cases h
theorem aCV {α:Type} {xs:List α} {i:Int} {v:α} (h:atI xs i=some v):∃ j,Nn i xs.length=some j/\xs[j]?=some v/\j < xs.length/\-(xs.length:Int)<=i/\i < xs.length:=by
 unfold atI at h
 cases e:ixN xs.length i with
 | none=>rw [e] at h; cases h
 | some j =>
  rw [e] at h
  obtain ⟨h1,h2,h3,h4⟩:=aHs e
  exact ⟨j,h1,h,h2,h3,h4⟩
theorem aHt {α:Type} {xs:List α} {j:Nat} {v:α} (h:xs[j]?=some v):atI xs (j:Int)=some v:=by
 have hj:j < xs.length:=(Ao.mp h).1
 have e:ixN xs.length (j:Int)=some j:=by
  unfold ixN
  rw [if_pos (by lia),if_pos (by lia)]; simp
 unfold atI; rw [e]; exact h
theorem aGW {α:Type} (xs:List α) (v:α):atI (xs++[v]) (-1)=some v:=by
 have hl:(xs++[v]).length=xs.length + 1:=by simp
 have e:ixN (xs++[v]).length (-1)=some xs.length:=by
  unfold ixN
  rw [hl,if_neg (by decide),if_pos (by lia)]
  congr 1
  lia
 unfold atI
 rw [e]
 show (xs++[v])[xs.length]?=some v
 simp
noncomputable def aHu (b:Expr):Prop:=∀ o i,Ko b false o i=operate [o,i] (Gk o i)
noncomputable def IxR (X:Cx) (r:R2):Prop :=
 ∀ (value slice:Expr) (pins:List (Addr×Obj)) (s:Ad) (σ:St) (H:Hp) (x y:V) (v u:Value) (Q:VK),Inv X pins σ H s->RelV x v->RelV y u->r x y H Q ->
  Ko slice false v u=operate [v,u] (Gk v u)->Ax (AC X.prog X.w) X.A (KN value slice v u) (EP X pins σ Q) X.xe s
noncomputable def MtR (X:Cx) (id:String) (r:V->List V->Hp->VK->Prop):Prop :=
 ∀ (pins:List (Addr×Obj)) (s:Ad) (σ:St) (H:Hp) (x:V) (xs:List V) (v:Value) (us:List Value) (Q:VK),Inv X pins σ H s->RelV x v->Vals xs us->r x xs H Q ->
  Ax (AC X.prog X.w) X.A (call (.builtin id) (v :: us)) (EP X pins σ Q) X.xe s
section
variable {X:Cx} {a b:Expr} {ta tb:TE} {pos:Pos}
theorem jJ {r:R2} (hr:IxR X r) (ha:PE X a ta) (hb:PE X b tb) (hs:aHu b):PE X (.Subscript a b pos) (tOp r ta tb):=by
 intro pins s σ H Q I h
 exact JL (binT ha hb I h fun v u s2 x y H2 I2 rx ry q=>hr a b pins s2 σ H2 x y v u Q I2 rx ry q (hs _ _))
noncomputable def rIxL (K:Ah):R2:=fun x y H Q=>∃ p xs i v,x=.ref p/\y=.int i/\SqL K H p xs/\atI xs i=some v/\Q v H
noncomputable def rIxT (K:Ah):R2:=fun x y H Q=>∃ p xs i v,x=.ref p/\y=.int i/\SqT K H p xs/\atI xs i=some v/\Q v H
theorem yS:IxR X (rIxL X.K):=by
 intro value slice pins s σ H x y v u Q I rx ry h hs
 obtain ⟨p,xs,i,z,rfl,rfl,hq,he,q⟩:=h
 cases rx
 obtain ⟨t,rfl⟩:=ry
 obtain ⟨its,r,pl,hz⟩:=I.list hq
 obtain ⟨j,h1,h2,h3,h4,h5⟩:=aCV he
 obtain ⟨w,ew,rw'⟩:=r.get h2
 have hl:=r.length
 have hn:=aD8
 have fin:EP X pins σ Q w s:=⟨z,H,I,rw',q⟩
 by_cases h0:0<=i
 ·have hj:i.toNat=j:=by
   rw [seqIndex_of h0 h5] at h1
   exact BA h1
  exact item_listR pl.isList h0 (by lia) (by rw [hj]; simpa using ew) fin hs
 ·have hj:(i + (its.toArray.size:Int)).toNat=j:=by
   rw [seqIndex_neg (by lia) h4] at h1
   rw [AD,<- hl]
   exact BA h1
  exact IY (x:=w) pl.isList.typeIs Lk.lookup
   (wpAny_getItem_list_neg (Q:=fun r s'=>r=w/\EP X pins σ Q r s') pl.isList (by lia) (by rw [AD] <;> lia) (by lia) (by rw [hj]; simpa using ew) ⟨rfl,fin⟩) hs
theorem aHL:IxR X (rIxT X.K):=by
 intro value slice pins s σ H x y v u Q I rx ry h hs
 obtain ⟨p,xs,i,z,rfl,rfl,hq,he,q⟩:=h
 cases rx
 obtain ⟨t,rfl⟩:=ry
 obtain ⟨its,r,pl,hz⟩:=I.tuple hq
 obtain ⟨j,h1,h2,h3,h4,h5⟩:=aCV he
 obtain ⟨w,ew,rw'⟩:=r.get h2
 have hl:=r.length
 have hn:=aD8
 have fin:EP X pins σ Q w s:=⟨z,H,I,rw',q⟩
 exact IY (x:=w) pl.typeIs slot_tuple_getitem.lookup
  (getItem_tuple (j:=j) (Q:=fun r s'=>r=w/\EP X pins σ Q r s') pl (by lia) (by lia) (by rw [AD,<- hl]; exact h1) (by simpa using ew) ⟨rfl,fin⟩) hs
theorem zQ:qL X (.builtin "len") (fun xs H Q=>∃ p ys,xs=[.ref p]/\(SqL X.K H p ys\/SqT X.K H p ys)/\Q (.int ys.length) H):=by
 intro pins s σ H xs us Q I r h
 obtain ⟨p,ys,rfl,hq,q⟩:=h
 obtain ⟨u,rfl,rx⟩:=qm r
 cases rx
 have hn:=aD8
 rcases hq with hq | hq
 ·obtain ⟨its,r',pl,hz⟩:=I.list hq
  have hlen:=r'.length
  exact Calls.call_len_list pl.isList (by simp only [AD] <;> lia) ⟨.int ys.length,H,I.tok _,⟨s.toks + 1,by rw [AD,hlen]⟩,q⟩
 ·obtain ⟨its,r',pl,hz⟩:=I.tuple hq
  have hlen:=r'.length
  exact len_tuple pl (by simp only [AD] <;> lia) ⟨.int ys.length,H,I.tok _,⟨s.toks + 1,by rw [AD,hlen]⟩,q⟩
theorem aA8:qL X (.type "list") (fun xs H Q=>∃ p ys,xs=[.ref p]/\(SqL X.K H p ys\/SqT X.K H p ys)/\∀ l,H l=none->Q (.ref l) (upd H l (.lst ys))):=by
 intro pins s σ H xs us Q I r h
 obtain ⟨p,ys,rfl,hq,q⟩:=h
 obtain ⟨u,rfl,rx⟩:=qm r
 cases rx
 have fin:∀ (its:List Value),Vals ys its->ys.length<=sizeLine->∀ (h':Heap) (c':Nat),(∀ b o',s.heap.get? b=some o'->h'.get? b=some o') ->
   h'.get? s.heap.objs.size=some { cls:=.type "list",dict:=none,data:=.seq its.toArray c',slots:=#[] }->EP X pins σ Q (.ref s.heap.objs.size) { s with heap:=h' }:=fun its r' hz h' c' kp e =>
  ⟨.ref s.heap.objs.size,_,I.laid (t':=s.toks) kp (Ai _) (show ObjOk X.prog X.w _ h' _ (.lst ys) from ⟨hz,its,c',r',e⟩),rfl,q _ (I.hok.fresh (Ai _))⟩
 rcases hq with hq | hq
 ·obtain ⟨its,r',pl,hz⟩:=I.list hq
  have hlen:=r'.length
  obtain ⟨o,ho,hc,n,hd⟩:=pl.isList
  exact call_list_seq p (.inl rfl) ho hc hd (fun h' c' kp e=>fin its r' hz h' c' kp e) (by simp only [AD] <;> lia)
 ·obtain ⟨its,r',pl,hz⟩:=I.tuple hq
  have hlen:=r'.length
  obtain ⟨o,ho,hc,n,hd⟩:=pl
  exact call_list_seq p (.inr rfl) ho hc hd (fun h' c' kp e=>fin its r' hz h' c' kp e) (by simp only [AD] <;> lia)
theorem zu:qL X (.type "tuple") (fun xs H Q=>∃ p ys,xs=[.ref p]/\((SqL X.K H p ys/\∀ l,H l=none->Q (.ref l) (upd H l (.tup ys)))\/(SqT X.K H p ys/\Q (.ref p) H))):=by
 intro pins s σ H xs us Q I r h
 obtain ⟨p,ys,rfl,h⟩:=h
 obtain ⟨u,rfl,rx⟩:=qm r
 cases rx
 rcases h with ⟨hq,q⟩ | ⟨hq,q⟩
 ·obtain ⟨its,r',pl,hz⟩:=I.list hq
  have hlen:=r'.length
  refine call_tuple_list pl.isList (fun h' kp=>?_) (by simp only [AD] <;> lia)
  have I1:Inv X pins σ H { s with heap:=h' }:=I.kept (t':=s.toks) kp
  have I2:Inv X pins σ (upd H h'.objs.size (.tup ys)) { s with heap:=h'.push { cls:=.type "tuple",data:=.seq its.toArray } } :=
   I1.laid (t':=s.toks) (fun b o e=>Ac _ e) (Ai _) (show ObjOk X.prog X.w _ _ _ (.tup ys) from ⟨hz,its,r',KO _ _⟩)
  exact ⟨.ref h'.objs.size,_,I2,rfl,q _ (I1.hok.fresh (Ai _))⟩
 ·obtain ⟨its,r',pl,hz⟩:=I.tuple hq
  exact call_tuple_same pl ⟨.ref p,H,I,rfl,q⟩
noncomputable def tyV (K:Ah) (T:String) (x:V) (H:Hp):Prop:=match x with
 | .str _=>T="str"
 | .int _=>T="int"
 | .ref p=>(T="list"/\∃ xs,SqL K H p xs)\/(T="tuple"/\∃ o,K.lookup p=some o/\o.cls=.type "tuple"/\o.dict=none) \/
   (T="dict"/\((∃ kvs,H p=some (.dK kvs))\/∃ kvs,H p=some (.dT kvs)))\/(T="set"/\∃ S n,H p=some (.set S n))
 | _=>False
theorem aJ3 {pins:List (Addr×Obj)} {σ:St} {H:Hp} {s:Ad} {T:String} {x:V} {v:Value} (I:Inv X pins σ H s) (r:RelV x v) (ty:tyV X.K T x H) :
  s.TypeIs v T/\∀ a,v=.ref a->∃ ob,s.heap.get? a=some ob/\ob.dict=none:=by
 cases x with
 | str z =>
  obtain ⟨t,rfl⟩:=r
  cases (show T="str" from ty)
  exact ⟨typeIs_str s z t,fun _ e=>nomatch e⟩
 | int i =>
  obtain ⟨t,rfl⟩:=r
  cases (show T="int" from ty)
  exact ⟨MN s i t,fun _ e=>nomatch e⟩
 | ref p =>
  cases r
  rcases ty with ⟨rfl,xs,hq⟩ | ⟨rfl,o,hk,hc,hd⟩ | ⟨rfl,hk⟩ | ⟨rfl,S,n,hk⟩
  ·obtain ⟨its,_,pl,_⟩:=I.list hq
   refine ⟨pl.isList.typeIs,fun a e=>?_⟩
   cases e
   obtain ⟨o,n,e,c,hd,_⟩:=pl
   exact ⟨o,e,hd⟩
  ·refine ⟨⟨o,I.kIn p o hk,hc⟩,fun a e=>?_⟩
   cases e
   exact ⟨o,I.kIn _ o hk,hd⟩
  ·have z:∃ o,s.heap.get? p=some o/\o.ExactDict:=by
    rcases hk with ⟨kvs,hk⟩ | ⟨kvs,hk⟩
    ·obtain ⟨_,_,_,_,o,_,_,e,ex,_⟩:=I.hok p _ hk
     exact ⟨o,e,ex⟩
    ·obtain ⟨_,_,_,_,o,_,_,e,ex,_⟩:=I.hok p _ hk
     exact ⟨o,e,ex⟩
   obtain ⟨o,e,ex⟩:=z
   refine ⟨⟨o,e,ex.1⟩,fun a e2=>?_⟩
   cases e2
   exact ⟨o,e,ex.2.1⟩
  ·obtain ⟨o,_,_,_,e,ex,_⟩:=I.hok p _ hk
   refine ⟨⟨o,e,ex.1⟩,fun a e2=>?_⟩
   cases e2
   exact ⟨o,e,ex.2.1⟩
 | _=>exact EJ ty
noncomputable def tBM (K:Ah) (T:String) (r:V->List V->Hp->VK->Prop) (to:TE) (t:TA):TE:=fun σ H Q=>to σ H fun x H1=>tyV K T x H1/\t σ H1 fun xs H2=>r x xs H2 Q
variable {o e:Expr} {es:List Expr} {to:TE} {t:TA} {name:Str} {apos cpos:Pos} {T id:String} {r:V->List V->Hp->VK->Prop}
theorem aB4 (pa:PlainAttrs T) (slot:Slot T name id) (hty:typeOf (.builtin id)=pure (.type "method_descriptor")) (hm:MtR X id r) (ho:PE X o to) (ha:PA X (e :: es) t)
  (hbase:IA o name X.env (eval o X.env)=eval o X.env:=by rfl)
  (hfew:((FJ cpos (Bk (e :: es) X.env)).all (fun x=>!x.1) && (MY cpos (Kp [] X.env)).all (fun x=>x.1.isSome)
   && decide ((e :: es).length + ([]:List Jk).length + (if ([]:List Jk).isEmpty then 0 else 1) < 30))=true:=by rfl)
  (hline:(apos.endLine == cpos.line)=true:=by rfl) (hs:Bk (e :: es) X.env=(false,eval e X.env) :: Bk es X.env:=by rfl) (hplain:(FJ cpos (Bk es X.env)).any (·.1)=false:=by rfl) :
  PE X (.Call (.Attribute o name apos) (e :: es) [] cpos) (tBM X.K T r to t):=by
 intro pins s σ H Q I h
 refine IZ hbase hfew hline rfl (thn (ho pins s σ H _ I h) fun v s1 ⟨x,H1,I1,r1,ty,q1⟩=>?_)
 obtain ⟨h1,h2⟩:=aJ3 I1 r1 ty
 refine ⟨T,id,pa,slot,hty,h1,h2,?_⟩
 have hA:=ha cpos pins s1 σ H1 _ I1 q1
 rw [hs] at hA ⊢
 refine Gf (by show (false || (FJ cpos (Bk es X.env)).any (·.1))=false; rw [hplain] <;> rfl) (GK ?_)
 exact thn hA fun us s2 ⟨vs,H2,I2,r2,q2⟩=>hm pins s2 σ H2 x vs v us Q I2 r1 r2 q2
end
noncomputable def MtM (X:Cx) (id:String) (r:V->List V->Hp->VK->Prop):Prop :=
 ∀ (pins:List (Addr×Obj)) (s:Ad) (σ:St) (H:Hp) (x:V) (xs:List V) (v:Value) (us:List Value) (Q:VK),Inv X pins σ H s->RelV x v->Vals xs us->r x xs H Q ->
  Ax (AC X.prog X.w) X.A (call (.builtin id) (v :: us)) (EP X pins σ Q) X.xe s
theorem Vals.one:∀ {x:V} {us:List Value},Vals [x] us->∃ u,us=[u]/\RelV x u
 | _,_,.cons r .nil=>⟨_,rfl,r⟩
theorem Vals.eraseIdx:∀ {xs:List V} {us:List Value} (i:Nat),Vals xs us->Vals (xs.eraseIdx i) (us.eraseIdx i)
 | _,_,_,.nil=>.nil
 | _,_,0,.cons _ t=>t
 | _,_,i + 1,.cons r t=>.cons r (Vals.eraseIdx i t)
theorem Vals.reverse {xs:List V} {us:List Value} (h:Vals xs us):Vals xs.reverse us.reverse:=by
 induction h with
 | nil=>exact .nil
 | cons r t ih=>rw [Gn,Gn]; exact Vals.append ih (.cons r .nil)
theorem aBl {α:Type}:∀ (l:List α) (i:Nat),(l.eraseIdx i).length<=l.length
 | [],_=>Ai _
 | _ :: _,0=>Db _
 | _ :: r,i + 1=>CS (aBl r i)
section
variable {X:Cx} {pins:List (Addr×Obj)} {σ:St} {H:Hp} {s:Ad} {l b:Addr} {xs ys zs:List V}
theorem Inv.lset {its its':List Value} {n:Nat} {f:Array Value->Array Value} {t':Nat} (I:Inv X pins σ H s) (hH:H l=some (.lst xs))
  (e:s.heap.get? l=some { cls:=.type "list",data:=.seq its.toArray n }) (hf:f its.toArray=its'.toArray) (hv:Vals ys its') (hz:ys.length<=sizeLine) :
  Inv X pins σ (upd H l (.lst ys)) { s with heap:=s.heap.update l (Dr f),toks:=t' }:=by
 have q:=PySem.IsL.update e f
 rw [hf] at q
 refine I.write (x:=l) (e:=l) (by rw [hH]; exact trivial) (.inl rfl) (fun b' u hb hu=>(Bv s.heap (Dr f) (CB hb)).trans hu) ⟨_,q⟩ ?_
 exact ⟨hz,its',_,hv,q⟩
theorem Inv.lnew {its:List Value} {t':Nat} (I:Inv X pins σ H s) (hv:Vals ys its) (hz:ys.length<=sizeLine) :
  Inv X pins σ (upd H s.heap.objs.size (.lst ys)) { s with heap:=s.heap.push { cls:=.type "list",data:=.seq its.toArray },toks:=t' } :=
 I.laid (fun _ _ q=>Ac _ q) (Ai _) ⟨hz,its,0,hv,Ak _ rfl⟩
theorem Inv.fresh (I:Inv X pins σ H s):H s.heap.objs.size=none:=I.hok.fresh (Ai _)
theorem Inv.lstM (I:Inv X pins σ H s) (hH:H l=some (.lst xs)):xs.length<=sizeLine/\∃ (its:List Value) (n:Nat),Vals xs its/\xs.length=its.length/\s.heap.get? l=some { cls:=.type "list",data:=.seq its.toArray n }:=by
 obtain ⟨z,its,n,r,e⟩:=I.hok l _ hH
 exact ⟨z,its,n,r,r.length,e⟩
end
section
variable {X:Cx}
noncomputable def aHv:V->List V->Hp->VK->Prop:=fun x vs H Q=>∃ l xs y,x=.ref l/\vs=[y]/\H l=some (.lst xs)/\xs.length < sizeLine/\Q .non (upd H l (.lst (xs++[y])))
theorem yO:MtM X "list.append" aHv:=by
 intro pins s σ H x vs v us Q I rx rv h
 obtain ⟨l,xs,y,rfl,rfl,hH,hz,q⟩:=h
 cases rx
 obtain ⟨u,rfl,ru⟩:=rv.one
 obtain ⟨z,its,n,r,hl,e⟩:=I.lstM hH
 refine GX F.slot_list_append ⟨_,e,rfl⟩ F.entry_list_append (F.args_list_append_2 _ _) (PySem.list_append l its.toArray n u (by rw [AD]; lia)) ⟨e,?_⟩
 refine ⟨.non,_,I.lset (its':=its++[u]) hH e (by simp) (r.append (.cons ru .nil)) ?_,rfl,q⟩
 rw [Al,Jo]
 lia
noncomputable def aJ4:V->List V->Hp->VK->Prop:=fun x vs H Q=>∃ l xs i k y,x=.ref l/\vs=[.int i]/\H l=some (.lst xs)/\-(2 ^ 63)<=i/\i < 2 ^ 63/\Nn i xs.length=some k/\xs[k]?=some y/\Q y (upd H l (.lst (xs.eraseIdx k)))
theorem aGX:MtM X "list.pop" aJ4:=by
 intro pins s σ H x vs v us Q I rx rv h
 obtain ⟨l,xs,i,k,y,rfl,rfl,hH,h1,h2,hk,hy,q⟩:=h
 cases rx
 obtain ⟨u,rfl,ru⟩:=rv.one
 obtain ⟨t,rfl⟩:=ru
 obtain ⟨z,its,n,r,hl,e⟩:=I.lstM hH
 obtain ⟨w,hw,rw'⟩:=r.get hy
 refine GX F.slot_list_pop ⟨_,e,rfl⟩ F.entry_list_pop (F.args_list_pop_2 _ _)
  (MeetsSeq.list_pop_at l its.toArray n i t k w (fitsIndex_both h1 h2) (by rw [AD,<- hl]; exact hk) (by rw [<- Br]; exact hw) (by rw [AD]; lia)) ⟨e,?_⟩
 refine ⟨y,_,I.lset (its':=its.eraseIdx k) hH e ?_ (r.eraseIdx k) ?_,rw',q⟩
 ·show its.toArray.eraseIdxIfInBounds k=(its.eraseIdx k).toArray
  rw [Ds]
 ·have:=aBl xs k
  lia
noncomputable def rCat:R2:=fun x y H Q=>∃ l b xs zs,x=.ref l/\y=.ref b/\H l=some (.lst xs)/\H b=some (.lst zs)/\xs.length + zs.length<=sizeLine/\∀ p,H p=none->Q (.ref p) (upd H p (.lst (xs++zs)))
theorem aEi:OpR X (DX .Add) rCat:=by
 intro pins s σ H x y v u Q I rx ry h
 obtain ⟨l,b,xs,zs,rfl,rfl,hH,hB,hz,q⟩:=h
 cases rx
 cases ry
 obtain ⟨z,its,n,r,hl,e⟩:=I.lstM hH
 obtain ⟨z2,its2,n2,r2,hl2,e2⟩:=I.lstM hB
 refine PySem.P.add_list e e2 ?_ (by rw [AD,AD]; lia)
 have ea:its.toArray++its2.toArray=(its++its2).toArray:=by simp
 rw [ea]
 exact ⟨.ref _,_,I.lnew (t':=s.toks) (r.append r2) (by rw [Al]; lia),rfl,q _ I.fresh⟩
end
section
variable {prog:Ap} {w:AT} {A:AR} {E:Value->Ad->Prop} {s:Ad}
set_option maxRecDepth 100000 in
end
section
variable {X:Cx}
end
end L2
namespace Att
open PySem PySem.W PySem.Calls PyProof.Rows
theorem aAP {P:Params} {h:Heap}:∀ (ns:List Int) (vs:List Value),WellAll P h vs (ns.map WData.int)->Gm vs ns:=by
 intro ns
 induction ns with
 | nil =>
  intro vs w
  rw [Cu] at w
  cases w
  exact .nil
 | cons n ns ih =>
  intro vs w
  rw [Aw] at w
  cases w with
  | cons a b =>
   cases a
   exact .cons _ _ (ih _ b)
theorem aEj {l:OpenLaw} {n:Nat} (hn:l.most=some n) {P:Params} {h:Heap} {args:List WData} {vals:List Value}
    (hpre:l.row.toRowW.claim.pre args=true) (hwl:WellAll P h vals args) :
    ∃ a vs ns,vals=[Value.ref a]/\args=[WData.list (ns.map WData.int)]/\h.get? a=some { cls:=.type "list",data:=.seq vs.toArray }/\Gm vs ns/\ns.length<=n:=by
  have hsh:WShape.hasAll [] args [.list .int]=true:=(pre_splitW hpre).1
  have hc:l.pre.holds [] { args:=args }=true:=(pre_splitW hpre).2
  obtain ⟨d,r,rfl,h1,h2⟩:=hasAllW_cons hsh
  obtain rfl:=hasAllW_nil h2
  obtain ⟨xs,rfl,h3⟩:=hasW_list h1
  obtain ⟨ns,rfl⟩:=items_int h3
  have hlen:ns.length<=n:=by
    unfold OpenLaw.pre at hc
    have h4:(WTm.not (.lt (.lit (.int (n:Int))) (.len (.arg 0)))).holds [] { args:=[.list (ns.map .int)] }=true:=by
      have h4:=(holds_andW hc).1
      rw [hn] at h4
      exact h4
    have h5:=condW_of h4 (w_not (w_lt w_lit (w_len_list (w_arg rfl))))
    rw [Ae] at h5
    refine IM fun q=>?_
    have q':(n:Int) < ((ns.length:Nat):Int):=by lia
    first
      | (rw [decide_eq_true q'] at h5; exact absurd h5 (by decide))
      | (simp at h5; lia)
  cases hwl with
  | cons w1 w2 =>
    cases w2
    cases w1 with
    | list ho hall=>exact ⟨_,_,ns,rfl,rfl,ho,aAP ns _ hall,hlen⟩
theorem aEk (l:OpenLaw) (args:List WData):l.row.toRowW.claim.post args (.bool true) args=true :=
 postW_of (r:=l.row.toRowW) (X:=(true == true))
  (show WShape.has [] (.bool true) .bool=true by first | rfl | decide | simp [WShape.has,WShape.arms,WShape.armsAll])
  (show (WTm.eq .res (.lit (.bool true))).value [] { args:=args,res:=some (.bool true),after:=args }=some (.bool (true == true)) from w_eq_bool (w_res rfl) w_lit) rfl
theorem attach_call {l:OpenLaw} {n:Nat} {q:Ap} {loose:List Str} {XP:(Str->Option Value)->Heap->Prop} {YP:AT->Heap->Prop} {d:DefRec}
  (hn:l.most=some n) (hdf:d.params.defaults=[])
  (call:∀ (w:AT) (s₀ s₁:Ad) (mg mb:Str->Option Value) (fa:Addr) (o:Obj) (pm cd doc:Value) (a:Addr) (vs:List Value) (ns:List Int),
   Ground q loose [] XP w s₀ mg mb s₁.heap->YP w s₁.heap ->
   s₁.heap.get? fa=some o->o.data=.func (docDef d.name d.params d.body d.scope pm cd doc)->s₁.heap.CodeRec cd d.name->mg d.name=some (.ref fa) ->
   s₁.heap.get? a=some { cls:=.type "list",data:=.seq vs.toArray }->Gm vs ns->ns.length<=n->s₁.gens=#[] ->
   Ef (AC l.prog w) Ll (.call (.ref fa) ⟨[.ref a],[]⟩) (fun r s'=>r=.ok (.ret (.bool true))/\OldK s₁.heap s'.heap/\s'.os=s₁.os/\Iw s'.gens) s₁) :
  WalkO q loose XP YP l.row.toRowW d [] (fun f vs=>MO f vs):=by
 intro w s₀ s₁ mg mb G Y fa o pm cd doc dV kV ho hd hcd hD hmg hg args vals as hpre hlay hrd hwl hlo
 obtain rfl:dV=.none:=Dflts.none hD hdf
 obtain rfl:kV=.none:=Dflts.noKw hD
 obtain ⟨a,vs,ns,rfl,rfl,hobj,hints,hlen⟩:=aEj hn hpre hwl
 refine enter_call (Ey (call w s₀ s₁ mg mb fa o pm cd doc a vs ns G Y ho (fd_plain hd) hcd hmg hobj hints hlen hg) fun r s' hq=>?_)
 obtain ⟨rfl,h2,h3,h4⟩:=hq
 exact ⟨.inl ⟨.bool true,.bool true,[],rfl,fun _=>rfl,.bool true,aEk l _,fun _=>⟨En,fun _ hm=>(nomatch hm)⟩⟩,h2,h3,h4⟩
section
variable {prog:Ap} {w:AT} {A:AR} {E:Value->Ad->Prop} {s:Ad} {K:Frag}
end
end Att
namespace L2
open PySem PySem.Spec PyProof.Rows
theorem qP:∀ {vs:List Value} {ns:List Int},Gm vs ns->Vals (ns.map V.int) vs
 | _,_,.nil=>.nil
 | _,_,.cons n t h=>.cons ⟨t,rfl⟩ (qP h)
noncomputable def Only (H:Hp):Prop:=∀ b,H b=none\/∃ o xs,H b=some (.frz o (.lst xs))
theorem aGY {P:Ap} {w:AT} {K:Ah} {mg mb:Str->Option Value} {CX:CXT} {k:Nat} {fa a:Addr} {fd:BL} {x:Str} {sp:Sp} {s₁:Ad} {vs:List Value} {ns:List Int}
  (KX:K.In s₁.heap) (hns:s₁.heap.Ns AK mg) (hb:s₁.heap.Ns ML mb) (hbb:∀ x:Str,x≠"__name__"->mb x=BR x) (hlim:s₁.heap.NoLimit) (hg:s₁.gens=#[])
  (ha:s₁.heap.get? a=some { cls:=.type "list",data:=.seq vs.toArray }) (hi:Gm vs ns) (hl:ns.length<=sizeLine) (hr:Room k Ll)
  (F:∀ base:Heap,K.In base->base.Ns AK mg->FnOk P w K mg base CX k fa fd [x] sp) (hbind:∀ (s:Ad) (u:Value),Ml s fd ⟨[u],[]⟩ [(x,u)])
  (hsp:∀ H:Hp,Only H->SqL K H a (ns.map V.int)->sp [.ref a] H (fun v _=>v=.bl true) fun _ _ _=>False)
  (hCX:∀ H e s',CX [] H s₁ (fun _ _ _=>False) e s'->False) :
  Ef (AC P w) Ll (.call (.ref fa) ⟨[.ref a],[]⟩) (fun r s'=>r=.ok (.ret (.bool true))/\OldK s₁.heap s'.heap/\s'.os=s₁.os/\Iw s'.gens) s₁:=by
 have rv:=qP hi
 have lenV:=hi.length
 have core:∀ H:Hp,Only H->SqL K H a (ns.map V.int)->HOk P w H s₁.heap->(∀ b,H b≠none->b=a)->(H a≠none->K.lookup a=none) ->
   Ef (AC P w) Ll (.call (.ref fa) ⟨[.ref a],[]⟩) (fun r s'=>r=.ok (.ret (.bool true))/\OldK s₁.heap s'.heap/\s'.os=s₁.os/\Iw s'.gens) s₁:=by
  intro H hO hS hok hA hK
  have base_of:∀ {b:Addr} {o:Obj},s₁.heap.get? b=some o->H b=none->(hidT s₁.heap H).get? b=some o:=fun e n=>aGS e n
  have noA:∀ {b:Addr} {o:Obj} {es:Array CP} {ep:Nat},s₁.heap.get? b=some o->o.data=.dict es ep->H b=none:=fun {b o es ep} e d=>by
   cases q:H b with
   | none=>rfl
   | some u =>
    have e':b=a:=hA b (by rw [q]; simp)
    subst e'
    rw [ha] at e; cases e
    have d':Data.seq vs.toArray _=Data.dict es ep:=d
    cases d'
  have nsK:∀ {b:Addr} {m:Str->Option Value},s₁.heap.Ns b m->(hidT s₁.heap H).Ns b m:=fun {b m} ⟨o,es,ep,e,d,r⟩=>⟨o,es,ep,base_of e (noA e d),d,r⟩
  have hKb:K.In (hidT s₁.heap H):=fun b o e=>base_of (KX b o e) (by
   cases q:H b with
   | none=>rfl
   | some u =>
    have e':b=a:=hA b (by rw [q]; simp)
    subst e'
    rw [hK (by rw [q]; simp)] at e; cases e)
  have hM:Mod K mg (hidT s₁.heap H):=⟨hKb,nsK hns,⟨mb,nsK hb,hbb⟩,let ⟨mc,h1,h2⟩:=hlim; ⟨mc,nsK h1,h2⟩⟩
  have e0:Env0 P w K mg (hidT s₁.heap H) Ll [] s₁ H:=⟨rfl,hM,fun b o e=>aHk e,Hz (aEQ _ _),trivial,fun b hb=>absurd (show b∈([]:List Addr) from hb) (by simp),hok,.of_eq hg⟩
  refine Ey ((F _ hKb (nsK hns)).run Ll [] s₁ H ⟨[.ref a],[]⟩ [.ref a] [.ref a] _ _ hr e0 (hbind s₁ (.ref a)) (.cons rfl .nil) (hsp H hO hS)) fun r s' h=>?_
  cases r with
  | error e=>exact (hCX H e s' h).elim
  | ok fl =>
   cases fl with
   | next=>exact EJ h
   | brk=>exact EJ h
   | cont=>exact EJ h
   | ret u =>
    obtain ⟨v,H',os,bare,un,hok',r',q⟩:=h
    have q':v=.bl true:=q
    subst q'
    obtain rfl:u=Value.bool true:=r'
    refine ⟨rfl,OldK.of_keep fun b o e=>?_,os,bare⟩
    cases q:H b with
    | none=>exact un.keep b o e q (by intro z; exact absurd (show b∈([]:List Addr) from z) (by simp)) (by simp)
    | some u =>
     rcases hO b with z | ⟨ob,xs,z⟩
     ·rw [q] at z; cases z
     ·have z2:=un.frzs b ob _ z
      obtain ⟨e1,_⟩:=hok b _ z
      obtain ⟨e2,_⟩:=hok' b _ z2
      rw [e] at e1; cases e1
      exact e2
 cases hk:K.lookup a with
 | some o =>
  have e:=KX a o hk
  rw [ha] at e
  cases e
  refine core (fun _=>none) (fun _=>.inl rfl) (.inr ⟨_,vs.toArray,_,hk,rfl,rfl,rfl,by rw [AD,lenV]; exact hl,by simpa using rv⟩) (fun b u z=>by have z':(none:Option HO)=some u:=z; cases z') (fun b z=>absurd rfl z) fun z=>absurd rfl z
 | none =>
  refine core (fun b=>if b=a then some (.frz { cls:=.type "list",data:=.seq vs.toArray } (.lst (ns.map V.int))) else none) (fun b=>?_) (.inl (.inr ⟨{ cls:=.type "list",data:=.seq vs.toArray },if_pos rfl⟩)) (fun b u z=>?_) (fun b z=>?_) fun _=>hk
  ·by_cases hb:b=a
   ·exact .inr ⟨_,_,if_pos hb⟩
   ·exact .inl (if_neg hb)
  ·by_cases hb:b=a
   ·have z':=(if_pos hb).symm.trans z
    cases z'
    subst hb
    exact ⟨ha,by rw [Ae]; exact hl,vs,_,rv,ha⟩
   ·have z':=(if_neg hb).symm.trans z
    cases z'
  ·by_cases hb:b=a
   ·exact hb
   ·exact absurd (if_neg hb) z
theorem walk_of {l:Jp} {n k:Nat} {q:Ap} {loose:List Str} {XP:(Str->Option Value)->Heap->Prop} {YP:AT->Heap->Prop} {d:DefRec} {K:Params->Ah} {CX:AT->CXT} {sp:AT->Sp} {x:Str}
  (hn:l.most=some n) (hn2:n<=sizeLine) (hdf:d.params.defaults=[]) (hr:Room k Ll)
  (hY:∀ (w:AT) (h:Heap),YP w h->(K w.params).In h)
  (F:∀ (w:AT) (mg:Str->Option Value) (fa:Addr) (h:Heap),(K w.params).In h->h.Ns AK mg->mg d.name=some (.ref fa) ->
   ∃ fd:BL,(∀ (s:Ad) (u:Value),Ml s fd ⟨[u],[]⟩ [(x,u)]) /\
    ∀ base:Heap,(K w.params).In base->base.Ns AK mg->FnOk l.prog w (K w.params) mg base (CX w) k fa fd [x] (sp w))
  (hsp:∀ (w:AT) (H:Hp) (a:Addr) (ns:List Int),ns.length<=n->Only H->SqL (K w.params) H a (ns.map V.int)->sp w [.ref a] H (fun v _=>v=.bl true) fun _ _ _=>False)
  (hCX:∀ (w:AT) (H:Hp) (s:Ad) (e:Value) (s':Ad),CX w [] H s (fun _ _ _=>False) e s'->False) :
  MZ q loose XP YP l.row.toRowW d [] (fun f vs=>MO f vs):=by
 refine Att.attach_call hn hdf fun w s₀ s₁ mg mb fa o pm cd doc a vs ns G Y ho hd hcd hmg hobj hints hlen hg=>?_
 have KX:=hY w _ Y
 obtain ⟨fd,hb,hF⟩:=F w mg fa _ KX G.T.g hmg
 exact aGY KX G.T.g G.T.b G.T.builtins G.T.nolimit hg hobj hints (At hlen hn2) hr hF hb (fun H hO hS=>hsp w H a ns hlen hO hS) fun H e s'=>hCX w H s₁ e s'
noncomputable def aHw (s:Stmt) (j:Nat):Stmt:=match s with
 | .ClassDef _ _ _ body _ _ _ _ _ _ _=>body.getD j (.Pass ⟨0,0,0,0⟩)
 | _=>.Pass ⟨0,0,0,0⟩
noncomputable def za (s:Stmt):Arguments:=match s with
 | .FunctionDef _ a _ _ _ _ _ _ _ _=>a
 | _=>{ posonlyargs:=[],args:=[],vararg:=none,kwonlyargs:=[],kw_defaults:=[],kwarg:=none,defaults:=[] }
noncomputable def zV (s:Stmt):List Stmt:=match s with
 | .FunctionDef _ _ b _ _ _ _ _ _ _=>b
 | _=>[]
noncomputable def zF (s:Stmt):Scope:=match s with
 | .FunctionDef _ _ _ _ _ _ sc _ _ _=>sc
 | _=>{ kind:=.function,names:=[],isGenerator:=false,isCoroutine:=false }
noncomputable abbrev CX0:CXT:=fun _ _ _ _ _ _=>False
noncomputable abbrev E0:XK:=fun _ _ _=>False
theorem aKa {X:Cx}:aEf CX0 X E0:=fun _ _ _ _ _ _ _ h=>h.elim
structure Fun (K:Ah) (x qual:Str) (st:Stmt) (f:Addr) (fd:BL):Prop where
 ex:∃ (oc:Value) (od:Option Addr) (kV doc pm:Value) (an:Option Addr) (cdv ct:Value) (osl:Array (Option Value)),
  fd=Bn x qual (za st) (zV st) (zF st) .none kV doc pm an cdv ct/\K.lookup f=some ⟨oc,od,.func fd,osl⟩/\Bg K cdv qual=true
 kp:AQ K (.ref f)=true
section
variable {P:Ap} {w:AT} {K:Ah} {mg:Str->Option Value} {base:Heap}
theorem Fun.ok {x qual:Str} {st:Stmt} {f:Addr} {fd:BL} {N ps:List Str} {k:Nat} {sp:Sp} (F:Fun K x qual st f fd) (S:FnScope N ps (zF st)) (len:∀ vs H Q E,sp vs H Q E->vs.length=ps.length)
  (hbody:∀ (cdv:Value) (A:AR) (outer:List Env) (s:Ad) (H:Hp) (vs:List V) (Q:VK) (E:XK),Room k (A.deeper (Kc qual (zF st) s.heap.objs.size f cdv))->sp vs H Q E ->
   ∃ t,PSs (cxOf CX0 P w K mg base N qual (zF st) f cdv A outer s H E).nox (zV st) t/\t { nx:=fun _ H'=>Q .non H',rt:=Q } (aAj N vs) H):FnOk P w K mg base CX0 (k + 1) f fd ps sp:=by
 obtain ⟨oc,od,kV,doc,pm,an,cdv,ct,osl,rfl,lk,hcd⟩:=F.ex
 refine aJ0 lk hcd S len fun A outer s H vs Q E hr hsp=>?_
 obtain ⟨t,h,q⟩:=hbody cdv A outer s H vs Q E hr hsp
 exact ⟨t,h.nox,q⟩
theorem Fun.binds {x qual:Str} {st:Stmt} {f:Addr} {fd:BL} {ps:List Str} (F:Fun K x qual st f fd)
  (h:∀ (kV doc pm:Value) (an:Option Addr) (cdv ct:Value) (us:List Value),us.length=ps.length->bindArgs (Bn x qual (za st) (zV st) (zF st) .none kV doc pm an cdv ct) ⟨us,[]⟩=pure (ps.zip us)):Binds K fd ps []:=by
 obtain ⟨oc,od,kV,doc,pm,an,cdv,ct,osl,rfl,lk,hcd⟩:=F.ex
 exact .all (h kV doc pm an cdv ct)
theorem zw {x qual:Str} {st:Stmt} {f:Addr} {oc:Value} {od an:Option Addr} {osl:Array (Option Value)} {kV doc pm cdv ct:Value} (l:K.lookup f=some ⟨oc,od,.func (Bn x qual (za st) (zV st) (zF st) .none kV doc pm an cdv ct),osl⟩)
  (c:Bg K cdv qual=true) (k:AQ K (.ref f)=true):Fun K x qual st f (Bn x qual (za st) (zV st) (zF st) .none kV doc pm an cdv ct):=⟨⟨oc,od,kV,doc,pm,an,cdv,ct,osl,rfl,l,c⟩,k⟩
end
theorem yf {A:AR} {k:Nat} (hr:Room k A):A.units + 1 < cLine:=Nat.lt_of_le_of_lt (Nat.add_le_add_left (by decide:1<=64) _) hr.units
section
variable {X:Cx}
theorem pv (i:Nat) {x:Str} {pos:Pos} (hN:X.N[i]?=some x:=by rfl) (hv:Vis X.env.scope x:=by first | exact Bj rfl | exact Bi (Bj rfl) | exact Bi (Bi rfl)) (hd:(x == ("__debug__":Str))=false:=by decide)
  (hcd:(x == ("__classdict__":Str))=false:=by decide):PE X (.Name x pos) (tVar i):=aIn hN hv hd hcd
end
theorem iteF {A B:Prop} (h:B):if false=true then A else B:=by
 rw [if_neg As]
 exact h
theorem iteT {A B:Prop} (h:A):if true=true then A else B:=by
 rw [if_pos rfl]
 exact h
theorem ite2 {c A B:Prop} [Decidable c] (h1:c->A) (h2:¬ c->B):if c then A else B:=by
 by_cases h:c
 ·rw [if_pos h]
  exact h1 h
 ·rw [if_neg h]
  exact h2 h
theorem aKb {c A B:Prop} [Decidable c] (hc:c) (h:B):if (!decide c)=true then A else B:=by
 rw [decide_eq_true hc]
 exact iteF h
noncomputable def Same (H H':Hp):Prop:=∀ b o,H b=some o->H' b=some o
theorem Same.refl (H:Hp):Same H H:=fun _ _ h=>h
theorem Same.trans {H H1 H2:Hp} (a:Same H H1) (b:Same H1 H2):Same H H2:=fun c o h=>b c o (a c o h)
section
variable {X:Cx}
theorem aEl:OpR X (DX .Mult) (rI KH fun i j=>.int (i * j)):=opI fun _ _ _ _ _ _ _ hc q=>mul_int q hc
theorem aAs {n k:Nat} (hk:0 < k) (h:n < 2 ^ k):n.log2 < k:=by
 rcases Nat.eq_zero_or_pos n with h0 | hp
 ·rw [h0]; simpa using hk
 ·exact (Nat.log2_lt (Ci hp)).mpr h
theorem aDC {a b:Int} (ha:a.natAbs < 2 ^ 4000) (hb:b.natAbs < 2 ^ 4000):KH a b:=by
 have l:∀ {z:Int},z.natAbs < 2 ^ 4000->FB z<=4000:=by
  intro z hz
  unfold FB
  split
  ·exact AS _
  ·have:=aAs (by decide:0 < 4000) hz
   lia
 have h1:=l ha
 have h2:=l hb
 unfold KH
 have:Jq ((FB a:Int) + (FB b:Int))=false:=by
  unfold Jq bitsLine
  exact decide_eq_false (by lia)
 rw [this]; simp
noncomputable def aKc (i j:Int):Prop:=0 < j/\j.natAbs < 2 ^ 4000
theorem aAH:OpR X (DX .FloorDiv) (rI aKc fun i j=>.int (i / j)):=opI fun i j _ _ _ _ _ hc q=>by
 have h1:(0:Int) < j:=hc.1
 have h2:=aAs (by decide:0 < 4000) hc.2
 exact floordiv_int (by lia) (by rw [Fo i (by lia)]; exact q) (.inl (PyProof.noPylong_of_log2 (by lia)))
theorem aCW:qL X (.builtin "isinstance") (fun xs H Q=>∃ x T t b,xs=[x,.ty T]/\TyOf X.K H x t/\Gp X.K t (.type T)=some b/\Q (.bl b) H):=by
 intro pins s σ H xs us Q I r h
 obtain ⟨x,T,t,b,rfl,ty,e,q⟩:=h
 obtain ⟨u,u2,rfl,rx,r2⟩:=aGU r
 obtain rfl:u2=DD T:=r2
 exact aEe I rx ty e fun tk=>⟨.bl b,H,I.tok tk,rfl,q⟩
noncomputable def tRev (K:Ah) (te:TE):TE:=fun σ H Q=>te σ H fun x H1=>∃ a xs,x=.ref a/\SqL K H1 a xs/\∀ p,H1 p=none->Q (.ref p) (upd H1 p (.lst xs.reverse))
theorem aHM {e:Expr} {te:TE} {j} {p2 p3 p4 pos:Pos} (he:PE X e te):PE X (.Subscript e (.Slice none none (some (.UnaryOp .USub (.Constant (.int 1) j p3) p4)) p2) pos) (tRev X.K te):=by
 intro pins s σ H Q I h
 refine JL (thn (he pins s σ H _ I h) fun v s1 ⟨x,H1,I1,r1,q1⟩=>?_)
 obtain ⟨a,xs,rfl,hx,q⟩:=q1
 obtain rfl:v=Value.ref a:=r1
 refine Mm ?_
 rw [Iz]
 refine Ab ?_
 refine Ab ?_
 refine thn (yR (X:=X) (aDm aAq zD) pins s1 σ H1 (fun o H'=>o=some (-1)/\H'=H1) I1 ⟨1,rfl,-1,rfl,rfl,rfl⟩) fun vs s2 ⟨o,H2,I2,ip,eo,eH⟩=>?_
 subst eo eH
 obtain ⟨its,r,ht,hz⟩:=I2.list hx
 have hlen:=r.length
 have I4:Inv X pins σ H2 { s2 with heap:=s2.heap.push { cls:=.type "slice",data:=.fields #[.none,.none,vs] } }:=I2.kept (t':=s2.toks) fun b ob q=>Ac _ q
 have ht4:PlainL (s2.heap.push { cls:=.type "slice",data:=.fields #[.none,.none,vs] }) a its.toArray:=by
  obtain ⟨o,n,e1,e2⟩:=ht
  exact ⟨o,n,Ac _ e1,e2⟩
 refine tail_any (ops:=[.ref a,.ref s2.heap.objs.size]) ht4.isList.typeIs Lk.lookup ?_ (by with_unfolding_all rfl)
 refine wpAny_getItem_list_slice ht4.isList (Hw ..) .none .none ip (by simp) ?_ (by rw [AD] <;> lia)
 rw [PySem.W.krv_pick]
 refine ⟨.ref _,_,I4.laid (t':=s2.toks) (o:=.lst xs.reverse) (fun b ob q=>Ac _ q) (Ai _) ?_,rfl,q _ (I4.hok.fresh (Ai _))⟩
 exact ⟨by rw [Cq]; exact hz,its.reverse,0,r.reverse,Ak _ rfl⟩
noncomputable def aEm (w:AT) (K:Ah) (a:Addr):Prop:=∃ es n,K.lookup a=some ⟨.type "dict",none,.dict es n,#[]⟩/\FS w.params es.toList
noncomputable def rIxD (w:AT) (K:Ah):R2:=fun x y H Q=>∃ a z v u,x=.ref a/\y=.str z/\aEm w K a/\AH K a z=some (some u)/\RelV v u/\Q v H
theorem aJ5:IxR X (rIxD X.w X.K):=by
 intro value slice pins s σ H x y v u Q I rx ry h hs
 obtain ⟨a,z,v',u',rfl,rfl,⟨es,n,hl,hk⟩,e,r,q⟩:=h
 obtain rfl:v=Value.ref a:=rx
 obtain ⟨t,rfl⟩:=ry
 obtain ⟨m,F⟩:=I.fr
 exact PySem.W.topItem_K F I.mod.kin hl hk e ⟨v',H,I.tok _,r,q⟩ hs
structure Callee (P:Ap) (w:AT) (K:Ah) (mg:Str->Option Value) (base:Heap) (CX:CXT) (k:Nat) (f:Addr) (sp:Sp):Prop where
 ok:∃ fd ps,FnOk P w K mg base CX k f fd ps sp/\Binds K fd ps []
 kp:AQ K (.ref f)=true
end
theorem yZ:BR "len"=some (.builtin "len"):=by decide +kernel
theorem aB5:BR "isinstance"=some (.builtin "isinstance"):=by decide +kernel
theorem aEn:BR "int"=some (.type "int"):=by decide +kernel
theorem aHx:BR "bool"=some (.type "bool"):=by decide +kernel
theorem qU:BR "tuple"=some (.type "tuple"):=by decide +kernel
theorem aAQ:BR "list"=some (.type "list"):=by decide +kernel
structure Def (P:Ap) (w:AT) (K:Ah) (mg:Str->Option Value) (base:Heap) (CX:CXT) (k:Nat) (x:Str) (sp:Sp):Prop where
 ex:∃ f fd ps,FnOk P w K mg base CX k f fd ps sp/\Binds K fd ps []/\mg x=some (.ref f)/\AQ K (.ref f)=true
section
variable {X:Cx} {CX:CXT} {k:Nat} {sp:Sp} {x:Str} {p pos:Pos} {e:Expr} {es:List Expr} {t:TA}
theorem zj (G:Def X.prog X.w X.K X.mg X.base CX0 k x sp) (hr:Room k X.A) (ha:PA X (e :: es) t) (hg:Gl X x:=by rfl) (hdb:(x == ("__debug__":Str))=false:=by decide)
  (he:Bk (e :: es) X.env=(false,eval e X.env) :: Bk es X.env:=by rfl) (hpl:(FJ pos (Bk es X.env)).any (·.1)=false:=by rfl) :
  PE X (.Call (.Name x p) (e :: es) [] pos) (aIy sp [] E0 t):=by
 obtain ⟨f,fd,ps,a,b,c,d⟩:=G.ex
 exact aHq a hr hg c d b .nil aKa ha hdb he hpl
noncomputable def aJ6 (K:Ah):List V->Hp->VK->Prop:=fun xs H Q=>match xs with
 | [x,.ty T]=>∃ t b,TyOf K H x t/\Gp K t (.type T)=some b/\Q (.bl b) H
 | _=>False
theorem aEo:qL X (.builtin "isinstance") (aJ6 X.K):=by
 intro pins s σ H xs us Q I r h
 unfold aJ6 at h
 split at h
 ·obtain ⟨t,b,ty,e,q⟩:=h
  exact aCW pins s σ H _ us Q I r ⟨_,_,t,b,rfl,ty,e,q⟩
 ·exact h.elim
theorem aHy {T:Str} {TT:String} {a:Expr} {ta:TE} {p2:Pos} (hm:X.mg "isinstance"=none) (hT:X.mg T=none) (hv:BR T=some (.type TT)) (ha:PE X a ta) (hg:Gl X "isinstance":=by rfl) (hg2:Gl X T:=by rfl) (hn:T≠"__name__":=by decide) (hd:(T == ("__debug__":Str))=false:=by decide)
  (he:Bk [a,.Name T p2] X.env=(false,eval a X.env) :: Bk [.Name T p2] X.env:=by rfl) (hpl:(FJ pos (Bk [.Name T p2] X.env)).any (·.1)=false:=by rfl) (he2:Bk [.Name T p2] X.env=[(false,eval (.Name T p2) X.env)]:=by rfl) :
  PE X (.Call (.Name "isinstance" p) [a,.Name T p2] [] pos) (fun σ H Q=>ta σ H fun x H1=>∃ t b,TyOf X.K H1 x t/\Gp X.K t (.type TT)=some b/\Q (.bl b) H1) :=
 zO aEo hg hm aB5 (zA ha (zA (aHl (v:=.ty TT) hg2 hT hv rfl hn hd) zC he2) he) (by decide) (by decide) he hpl
end
end L2
set_option maxHeartbeats 4000000
namespace L2
open PySem PySem.Spec PyProof.Rows
noncomputable def yh (cells:List (Str×Addr)):List (Str×Ei)->List (Str×Addr)->Option (List (Str×Addr))
 | [],acc=>some acc
 | (n,k) :: r,acc=>if (k == .free)=true then (match cells.lookup n with
  | some a=>yh cells r ((n,a) :: acc)
  | none=>none) else yh cells r acc
theorem jc {scope:Scope} {env:Env} {cl:List (Str×Addr)} (h:yh env.cells scope.names []=some cl):closureFor scope env=pure cl:=by
 have gen:∀ (l:List (Str×Ei)) (acc cl:List (Str×Addr)),yh env.cells l acc=some cl ->
   (NL (m:=Sem) l acc fun (x:Str×Ei) (cs:List (Str×Addr))=>if (x.2 == .free)=true then (do let c <- cellOf env x.1; pure (Dz ((x.1,c) :: cs))) else pure (Dz cs))=pure cl:=by
  intro l
  induction l with
  | nil=>intro acc cl h; cases h; rfl
  | cons y r ih =>
   intro acc cl h
   obtain ⟨n,k⟩:=y
   unfold yh at h
   rw [FT]
   by_cases hk:(k == .free)=true
   ·rw [if_pos hk] at h
    dsimp only
    rw [if_pos hk]
    cases e:env.cells.lookup n with
    | none=>rw [e] at h; cases h
    | some a =>
     rw [e] at h
     have ec:cellOf env n=pure a:=by unfold cellOf; rw [e]
     rw [ec,KP,KP]
     exact ih _ _ h
   ·rw [if_neg hk] at h
    dsimp only
    rw [if_neg hk,KP]
    exact ih _ _ h
 unfold closureFor
 exact (bind_pure _).trans (gen scope.names [] cl h)
theorem ju {cells:List (Str×Addr)}:∀ {l:List (Str×Ei)} {acc cl:List (Str×Addr)},yh cells l acc=some cl->(∀ p∈acc,cells.lookup p.1=some p.2)->∀ p∈cl,cells.lookup p.1=some p.2
 | [],acc,cl,h,ha=>by cases h; exact ha
 | (n,k) :: r,acc,cl,h,ha=>by
  unfold yh at h
  split at h
  ·cases e:cells.lookup n with
   | none=>rw [e] at h; cases h
   | some a =>
    rw [e] at h
    refine ju h fun p hp=>?_
    rcases Aq.mp hp with q | q
    ·subst q; exact e
    ·exact ha p q
  ·exact ju h ha
theorem jC {cells:List (Str×Addr)} {x:Str}:∀ {l:List (Str×Ei)} {acc cl:List (Str×Addr)},yh cells l acc=some cl->((x,EB)∈l\/∃ c,(x,c)∈acc)->∃ c,(x,c)∈cl
 | [],acc,cl,h,hx=>by
  cases h
  rcases hx with q | q
  ·cases q
  ·exact q
 | (n,k) :: r,acc,cl,h,hx=>by
  unfold yh at h
  split at h
  ·cases e:cells.lookup n with
   | none=>rw [e] at h; cases h
   | some a =>
    rw [e] at h
    refine jC h ?_
    rcases hx with q | ⟨c,q⟩
    ·rcases Aq.mp q with z | z
     ·cases z; exact .inr ⟨a,AL⟩
     ·exact .inl z
    ·exact .inr ⟨c,AI _ q⟩
  ·rename_i hk
   refine jC h ?_
   rcases hx with q | q
   ·rcases Aq.mp q with z | z
    ·cases z; exact absurd rfl hk
    ·exact .inl z
   ·exact .inr q
theorem ym {α:Type} {x:Str} {c:α}:∀ {l:List (Str×α)},(x,c)∈l->∃ d,l.lookup x=some d/\(x,d)∈l
 | (n,a) :: r,h=>by
  rw [EH]
  by_cases e:(x == n)=true
  ·rw [e]
   have e':x=n:=by simpa using e
   exact ⟨a,rfl,by rw [e']; exact AL⟩
  ·have e2:(x == n)=false:=by simpa using e
   rw [e2]
   rcases Aq.mp h with z | z
   ·cases z; simp at e
   ·obtain ⟨d,h1,h2⟩:=ym z
    exact ⟨d,h1,AI _ h2⟩
noncomputable def cxC (X:Cx) (N:List Str) (scope:Scope) (cl:List (Str×Addr)) (C:Addr) (s2:Ad) (H2:Hp) (fp:List Addr):Cx where
 prog:=X.prog
 w:=X.w
 K:=X.K
 mg:=X.mg
 base:=X.base
 A:=X.A
 N:=N
 s₀:=s2
 H₀:=H2
 env:=Mc scope cl C X.env
 outer:=X.stack
 stack:=X.stack
 ex:=fp
 fn:=fun _=>false
 calm:=X.calm
 pn:=[]
 xe:=fun _ _=>False
noncomputable def yT (mp:List (Option Nat)) (σ:St):St:=mp.map fun o=>match o with
 | some j=>(σ[j]?).bind id
 | none=>none
noncomputable def PTL (X:Cx) (ifs:List Expr) (t:TT):Prop :=
 ∀ (pins:List (Addr×Obj)) (s:Ad) (σ:St) (H:Hp) (Q:Bool->Hp->Prop),Inv X pins σ H s->t σ H Q ->
  Ax (AC X.prog X.w) X.A (NL ifs true fun c r=>if r=true then do let ok <- isTrue c X.env (eval c X.env); pure (Dz ok) else pure (Dz r)) (TP X pins σ Q) X.xe s
section
variable {prog:Ap} {w:AT} {A:AR} {R:Ka->Ad->Prop} {s:Ad}
theorem aCX {elt target iter:Expr} {ifs:List Expr} {scope:Scope} {pos:Pos} {it acc:Value} {env:Env} (I:Nat->Ad->Prop)
  (turn:∀ n s,I n s->Ax (AC prog w) A (EU it) (fun r s₁=>match r with
   | none=>R (.ok .next) s₁
   | some v=>Ax (AC prog w) A (DU target it v) (fun _ s1=>Ax (AC prog w) A (KD target env v) (fun _ s₂ =>
     Ax (AC prog w) A (NL ifs true fun c r=>if r=true then do let ok <- isTrue c env (eval c env); pure (Dz ok) else pure (Dz r)) (fun ok s₃ =>
      if ok=true then Ax (AC prog w) A (eval elt env) (fun x s₄ =>
       Ax (AC prog w) A (call (.builtin "list.append") [acc,x]) (fun _ s₅=>∃ m,m < n/\I m s₅) (fun _ _=>False) s₄) (fun _ _=>False) s₃
      else ∃ m,m < n/\I m s₃) (fun _ _=>False) s₂) (fun _ _=>False) s1) (fun _ _=>False) s₁) (fun _ _=>False) s)
  (n:Nat) (h:I n s) :
  Ef (AC prog w) A (.compLoop (.ListComp elt [⟨target,iter,ifs,0⟩] scope pos) 0 it acc env) R s:=by
 refine LC rfl I (fun n s hI=>?_) n h
 show Ax _ A ((Md (.ListComp elt [⟨target,iter,ifs,0⟩] scope pos) 0 it acc env).onRaise (fun x=>do Jr x env; Js x)) _ _ s
 refine Mn ?_
 rw [compTurn_list]
 refine Aa (CT (Aa (BJ (turn n s hI) (fun r s₁ h₁=>?_) fun _ _ h'=>h'.elim)))
 cases r with
 | none=>exact Ab h₁
 | some v =>
  refine Aa (BJ h₁ (fun _ s1 h1=>Aa (BJ h1 (fun _ s₂ h₂=>Aa (BJ h₂ (fun ok s₃ h₃=>?_) fun _ _ h'=>h'.elim)) fun _ _ h'=>h'.elim)) fun _ _ h'=>h'.elim)
  cases ok with
  | false=>exact Ab ⟨rfl,h₃⟩
  | true =>
   exact Aa (Aa (BJ h₃ (fun x s₄ h₄=>Aa (BJ h₄ (fun _ s₅ h₅=>Ab (Ab ⟨rfl,h₅⟩)) fun _ _ h'=>h'.elim)) fun _ _ h'=>h'.elim))
end
section
variable {X:Cx}
theorem aAR:PTL X [] (fun _ H Q=>Q true H):=fun pins s σ H Q I h=>wpAny_tests_nil ⟨H,I,h⟩
theorem aB6 {c:Expr} {t:TT} (h:PT X c t):PTL X [c] t:=fun pins s σ H Q I hq=>wpAny_tests_one (h pins s σ H Q I hq)
noncomputable def aHz (mp:List (Option Nat)) (wi:TI) (g:Addr->Ad->Hp->List Addr->TG) (tt:Addr->Ad->Hp->List Addr->TT) (te:Addr->Ad->Hp->List Addr->TE):TE:=fun σ H Q=>wi σ H fun J H1=>∀ (D:Addr),H1 D=none->∀ (C:Addr) (s2:Ad) (fp:List Addr),
 ∃ W:Nat->Nat->St->Hp->Prop,(∃ m,W 0 m (yT mp σ) (upd H1 D (.lst [])))/\∀ i m σ2 H2,W i m σ2 H2 ->
  (J.stop i H2/\Q (.ref D) H2)\/(J.go i H2/\∃ N:St->Hp->Prop,(∀ σ' H',N σ' H'->∃ m',m' < m/\W (i + 1) m' σ' H')/\∀ x H',J.yld i H2 x H'->g C s2 H1 fp x σ2 H' fun σ3 H3=>tt C s2 H1 fp σ3 H3 fun b H4 =>
   if b=true then te C s2 H1 fp σ3 H4 fun y H5=>∃ xs,H5 D=some (.lst xs)/\xs.length < sizeLine/\N σ3 (upd H5 D (.lst (xs++[y]))) else N σ3 H4)
end
inductive D where
 | non
 | bl (b:Bool)
 | int (i:Int)
 | str (x:Str)
 | tup (l:List D)
 | lst (l:List D)
mutual
noncomputable def Rep (K:Ah) (H:Hp):D->V->Prop
 | .non,v=>v=.non
 | .bl b,v=>v=.bl b
 | .int i,v=>v=.int i
 | .str x,v=>v=.str x
 | .tup ds,v=>∃ p xs,v=.ref p/\SqT K H p xs/\Reps K H ds xs
 | .lst ds,v=>∃ p xs,v=.ref p/\SqL K H p xs/\Reps K H ds xs
noncomputable def Reps (K:Ah) (H:Hp):List D->List V->Prop
 | [],xs=>xs=[]
 | d :: ds,xs=>∃ x r,xs=x :: r/\Rep K H d x/\Reps K H ds r
end
mutual
noncomputable def eqD:D->D->Bool
 | .non,.non=>true
 | .bl a,.bl b=>a == b
 | .bl a,.int b=>(if a then 1 else 0) == b
 | .int a,.bl b=>a == (if b then 1 else 0)
 | .int a,.int b=>a == b
 | .str a,.str b=>a == b
 | .tup a,.tup b=>eqDs a b
 | .lst a,.lst b=>eqDs a b
 | _,_=>false
noncomputable def eqDs:List D->List D->Bool
 | [],[]=>true
 | a :: r,b :: t=>eqD a b && eqDs r t
 | _,_=>false
end
mutual
noncomputable def D.dep:D->Nat
 | .tup l=>deps l + 1
 | .lst l=>deps l + 1
 | _=>0
noncomputable def deps:List D->Nat
 | []=>0
 | d :: r=>max d.dep (deps r)
end
theorem Reps.len {K:Ah} {H:Hp}:∀ {ds:List D} {xs:List V},Reps K H ds xs->ds.length=xs.length
 | [],xs,h=>by
  unfold Reps at h; subst h; rfl
 | d :: ds,xs,h=>by
  unfold Reps at h
  obtain ⟨x,r,rfl,_,h⟩:=h
  rw [AY,AY,Reps.len h]
theorem Reps.get {K:Ah} {H:Hp}:∀ {ds:List D} {xs:List V} {j:Nat} {d:D},Reps K H ds xs->ds[j]?=some d->∃ x,xs[j]?=some x/\Rep K H d x
 | [],xs,j,d,h,e=>by cases e
 | a :: ds,xs,j,d,h,e=>by
  unfold Reps at h
  obtain ⟨x,r,rfl,h1,h2⟩:=h
  match j,e with
  | 0,e=>cases e; exact ⟨x,rfl,h1⟩
  | j + 1,e=>exact Reps.get (ds:=ds) (j:=j) h2 (by simpa using e)
mutual
theorem aB7:∀ d:D,eqD d d=true
 | .non=>rfl
 | .bl b=>by unfold eqD; simp
 | .int i=>by unfold eqD; simp
 | .str x=>by unfold eqD; simp
 | .tup l=>by unfold eqD; exact eqDs_refl l
 | .lst l=>by unfold eqD; exact eqDs_refl l
theorem eqDs_refl:∀ l:List D,eqDs l l=true
 | []=>by unfold eqDs; rfl
 | d :: r=>by unfold eqDs; rw [aB7 d,eqDs_refl r]; rfl
end
section
variable {X:Cx} {pins:List (Addr×Obj)} {σ:St} {H:Hp} {s:Ad}
theorem Inv.list_tup (I:Inv X pins σ H s) {a:Addr} {xs ys:List V} (h1:SqL X.K H a xs) (h2:SqT X.K H a ys):False:=by
 obtain ⟨its,_,⟨o,n,e1,c1,_⟩,_⟩:=I.list h1
 obtain ⟨its2,_,⟨o2,e2,c2,_⟩,_⟩:=I.tuple h2
 rw [e1] at e2; cases e2
 rw [c1] at c2
 injection c2 with c3
 exact absurd c3 (by decide)
mutual
theorem aCY (I:Inv X pins σ H s):∀ (d e:D) (v:V),Rep X.K H d v->Rep X.K H e v->d=e
  | .non,e,v,h1,h2=>by
    unfold Rep at h1; subst h1
    cases e <;> (unfold Rep at h2; first | rfl | (obtain ⟨_,_,z,_⟩:=h2; cases z; done) | cases h2)
  | .bl b,e,v,h1,h2=>by
    unfold Rep at h1; subst h1
    cases e <;> (unfold Rep at h2; first | (obtain ⟨_,_,z,_⟩:=h2; cases z; done) | (cases h2; rfl) | cases h2)
  | .int b,e,v,h1,h2=>by
    unfold Rep at h1; subst h1
    cases e <;> (unfold Rep at h2; first | (obtain ⟨_,_,z,_⟩:=h2; cases z; done) | (cases h2; rfl) | cases h2)
  | .str b,e,v,h1,h2=>by
    unfold Rep at h1; subst h1
    cases e <;> (unfold Rep at h2; first | (obtain ⟨_,_,z,_⟩:=h2; cases z; done) | (cases h2; rfl) | cases h2)
  | .tup l,e,v,h1,h2=>by
    unfold Rep at h1
    obtain ⟨p,xs,rfl,q,r⟩:=h1
    cases e with
    | tup l2 =>
      unfold Rep at h2
      obtain ⟨p2,xs2,z,q2,r2⟩:=h2
      cases z
      rw [I.tuple_inj q2 q] at r2
      rw [reps_inj I l l2 xs r r2]
    | lst l2 =>
      unfold Rep at h2
      obtain ⟨p2,xs2,z,q2,r2⟩:=h2
      cases z
      exact (I.list_tup q2 q).elim
    | _=>unfold Rep at h2; cases h2
  | .lst l,e,v,h1,h2=>by
    unfold Rep at h1
    obtain ⟨p,xs,rfl,q,r⟩:=h1
    cases e with
    | lst l2 =>
      unfold Rep at h2
      obtain ⟨p2,xs2,z,q2,r2⟩:=h2
      cases z
      rw [I.list_inj q2 q] at r2
      rw [reps_inj I l l2 xs r r2]
    | tup l2 =>
      unfold Rep at h2
      obtain ⟨p2,xs2,z,q2,r2⟩:=h2
      cases z
      exact (I.list_tup q q2).elim
    | _=>unfold Rep at h2; cases h2
theorem reps_inj (I:Inv X pins σ H s):∀ (ds es:List D) (xs:List V),Reps X.K H ds xs->Reps X.K H es xs->ds=es
 | [],es,xs,h1,h2=>by
  unfold Reps at h1; subst h1
  cases es with
  | nil=>rfl
  | cons e es=>unfold Reps at h2; obtain ⟨_,_,z,_⟩:=h2; cases z
 | d :: ds,es,xs,h1,h2=>by
  unfold Reps at h1
  obtain ⟨x,r,rfl,a,b⟩:=h1
  cases es with
  | nil=>unfold Reps at h2; cases h2
  | cons e es =>
   unfold Reps at h2
   obtain ⟨x2,r2,z,a2,b2⟩:=h2
   cases z
   rw [aCY I d e x a a2,reps_inj I ds es r b b2]
end
theorem aDD:∀ (ds es:List D),ds.length=es.length->(Bc ds.length).all (fun j=>match ds[j]?,es[j]? with
  | some d,some e=>eqD d e
  | _,_=>false)=eqDs ds es
 | [],[],_=>by unfold eqDs; rfl
 | d :: ds,e :: es,h=>by
  rw [AY,List.range_succ_eq_map,List.all_cons,List.all_map]
  unfold eqDs
  rw [<- aDD ds es (by simpa using h)]
  rfl
theorem aB8:∀ (ds es:List D),ds.length≠es.length->eqDs ds es=false
 | [],[],h=>absurd rfl h
 | [],_ :: _,_=>by unfold eqDs; rfl
 | _ :: _,[],_=>by unfold eqDs; rfl
 | d :: ds,e :: es,h=>by
  unfold eqDs
  rw [aB8 ds es (by simpa using h),MC]
noncomputable def eAt (ds es:List D) (j:Nat):Bool:=match ds[j]?,es[j]? with
  | some d,some e=>eqD d e
  | _,_=>false
theorem aDE {A:AR} {ds es:List D} {xs ys:List V} {us vs:List Value} (r1:Reps X.K H ds xs) (r2:Reps X.K H es ys) (v1:Vals xs us) (v2:Vals ys vs)
  (ih:∀ (j:Nat) (d e:D) (x y:V) (u v:Value),ds[j]?=some d->es[j]?=some e->Rep X.K H d x->Rep X.K H e y->RelV x u->RelV y v->FK A s u v (eqD d e)) :
  ∀ j (h1:j < us.toArray.size) (h2:j < vs.toArray.size),FK A s us.toArray[j] vs.toArray[j] (eAt ds es j):=by
 intro j h1 h2
 rw [AD] at h1 h2
 have l1:=r1.len
 have l2:=r2.len
 have l3:=v1.length
 have l4:=v2.length
 have e1:ds[j]?=some (ds[j]'(by lia)):=Au _
 have e2:es[j]?=some (es[j]'(by lia)):=Au _
 obtain ⟨x,hx,px⟩:=r1.get e1
 obtain ⟨y,hy,py⟩:=r2.get e2
 obtain ⟨u,hu,ru⟩:=v1.get hx
 obtain ⟨v,hv,rv⟩:=v2.get hy
 have q:=ih j _ _ x y u v e1 e2 px py ru rv
 have hu':us.toArray[j]'(by simpa using h1)=u:=by
  have:=Au h1
  rw [hu] at this
  simpa using (BA this).symm
 have hv':vs.toArray[j]'(by simpa using h2)=v:=by
  have:=Au h2
  rw [hv] at this
  simpa using (BA this).symm
 rw [hu',hv']
 unfold eAt
 rw [e1,e2]
 exact q
theorem aBm {ds es:List D} {n:Nat} (h:ds.length=n) (h2:es.length=n):(Bc n).all (eAt ds es)=eqDs ds es:=by
 rw [<- h,<- aDD ds es (h.trans h2.symm)]
 rfl
theorem aEp {ds es:List D} {n m:Nat} (h:ds.length=n) (h2:es.length=m):((Bc (min n m)).all (eAt ds es) && (n == m))=eqDs ds es:=by
 by_cases e:n=m
 ·subst e
  rw [LD,aBm h h2]
  simp
 ·have e2:(n == m)=false:=by simpa using e
  rw [e2,MC,aB8 ds es (by rw [h,h2]; exact e)]
theorem aDF {A:AR} {l b:Addr} {ds es:List D} {xs ys:List V} (I:Inv X pins σ H s) (h1:SqL X.K H l xs) (h2:SqL X.K H b ys) (r1:Reps X.K H ds xs) (r2:Reps X.K H es ys) (hu:A.units < cLine)
  (ih:∀ (j:Nat) (d e:D) (x y:V) (u v:Value),ds[j]?=some d->es[j]?=some e->Rep X.K H d x->Rep X.K H e y->RelV x u->RelV y v->FK A.in1 s u v (eqD d e)) :
  MP A s (.ref l) (.ref b) (eqDs ds es)/\LF A s (.ref l) (.ref b) (!eqDs ds es):=by
 obtain ⟨us,v1,p1,z1⟩:=I.list h1
 obtain ⟨vs,v2,p2,z2⟩:=I.list h2
 have l1:=r1.len
 have l2:=r2.len
 have l3:=v1.length
 have l4:=v2.length
 by_cases e:us.length=vs.length
 ·have it:=aDE r1 r2 v1 v2 ih
  have a1:=SeqAt.RcAt.lists (A:=A) p1.isList p2.isList (by simpa using e) hu it
  have a2:=KQ (A:=A) p1.isList p2.isList (by simpa using e) hu it
  rw [aBm (ds:=ds) (es:=es) (by simp; lia) (by simp; lia)] at a1 a2
  exact ⟨a1,a2⟩
 ·have ne:(us.toArray.size != vs.toArray.size)=true:=by simpa using e
  rw [aB8 ds es (by lia)]
  exact ⟨SeqAt.RcAt.lists_lengths p1.isList p2.isList ne hu,Hu p1.isList p2.isList ne hu⟩
theorem aEq {A:AR} {l b:Addr} {ds es:List D} {xs ys:List V} (I:Inv X pins σ H s) (h1:SqT X.K H l xs) (h2:SqT X.K H b ys) (r1:Reps X.K H ds xs) (r2:Reps X.K H es ys) (hu:A.units < cLine)
  (ih:∀ (j:Nat) (d e:D) (x y:V) (u v:Value),ds[j]?=some d->es[j]?=some e->Rep X.K H d x->Rep X.K H e y->RelV x u->RelV y v->FK A.in1 s u v (eqD d e)) :
  MP A s (.ref l) (.ref b) (eqDs ds es)/\LF A s (.ref l) (.ref b) (!eqDs ds es):=by
 obtain ⟨us,v1,p1,z1⟩:=I.tuple h1
 obtain ⟨vs,v2,p2,z2⟩:=I.tuple h2
 have l1:=r1.len
 have l2:=r2.len
 have l3:=v1.length
 have l4:=v2.length
 have it:=aDE r1 r2 v1 v2 ih
 have a1:=SeqAt.RcAt.tuples (A:=A) (show s.heap.IsTuple l us.toArray from p1) (show s.heap.IsTuple b vs.toArray from p2) hu it
 have a2:=SeqAt.RcNeAt.tuples (A:=A) (show s.heap.IsTuple l us.toArray from p1) (show s.heap.IsTuple b vs.toArray from p2) hu it
 rw [aEp (ds:=ds) (es:=es) (by simp; lia) (by simp; lia)] at a1 a2
 exact ⟨a1,a2⟩
theorem aAI:∀ {l:List D} {j:Nat} {d:D},l[j]?=some d->d.dep<=deps l
 | a :: l,0,d,e=>by cases e; unfold deps; lia
 | a :: l,j + 1,d,e=>by
  have:=aAI (l:=l) (j:=j) (d:=d) (by simpa using e)
  unfold deps; lia
theorem aHN (I:Inv X pins σ H s):∀ (n:Nat) (A:AR) (d e:D) (x y:V) (u v:Value),d.dep<=n->A.units + n < cLine->Rep X.K H d x->Rep X.K H e y->RelV x u->RelV y v->FK A s u v (eqD d e):=by
 intro n
 induction n with
 | zero =>
  intro A d e x y u v hd hu r1 r2 ru rv
  have hu0:A.units < cLine:=by lia
  cases d with
  | tup l=>unfold D.dep at hd; lia
  | lst l=>unfold D.dep at hd; lia
  | non =>
   unfold Rep at r1; subst r1; cases ru
   cases e with
   | non=>unfold Rep at r2; subst r2; cases rv; exact Jt _
   | bl b=>unfold Rep at r2; subst r2; cases rv; exact SeqAt.EqAt.none_bool b
   | int b=>unfold Rep at r2; subst r2; obtain ⟨t,rfl⟩:=rv; exact SeqAt.EqAt.none_int b t
   | str b=>unfold Rep at r2; subst r2; obtain ⟨t,rfl⟩:=rv; exact SeqAt.EqAt.none_str b t
   | tup l=>unfold Rep at r2; obtain ⟨p,xs,rfl,q,_⟩:=r2; cases rv; obtain ⟨us,_,pt,_⟩:=I.tuple q; exact SeqAt.EqAt.none_tuple (show s.heap.IsTuple p us.toArray from pt) hu0
   | lst l=>unfold Rep at r2; obtain ⟨p,xs,rfl,q,_⟩:=r2; cases rv; obtain ⟨us,_,pt,_⟩:=I.list q; exact SeqAt.EqAt.none_list pt.isList hu0
  | bl a =>
   unfold Rep at r1; subst r1; cases ru
   cases e with
   | non=>unfold Rep at r2; subst r2; cases rv; exact SeqAt.EqAt.bool_none a
   | bl b=>unfold Rep at r2; subst r2; cases rv; exact JQ a b
   | int b=>unfold Rep at r2; subst r2; obtain ⟨t,rfl⟩:=rv; exact SeqAt.EqAt.bool_int a b t
   | str b=>unfold Rep at r2; subst r2; obtain ⟨t,rfl⟩:=rv; exact SeqAt.EqAt.bool_str a b t
   | tup l=>unfold Rep at r2; obtain ⟨p,xs,rfl,q,_⟩:=r2; cases rv; obtain ⟨us,_,pt,_⟩:=I.tuple q; exact SeqAt.EqAt.bool_tuple a (show s.heap.IsTuple p us.toArray from pt) hu0
   | lst l=>unfold Rep at r2; obtain ⟨p,xs,rfl,q,_⟩:=r2; cases rv; obtain ⟨us,_,pt,_⟩:=I.list q; exact SeqAt.EqAt.bool_list a pt.isList hu0
  | int a =>
   unfold Rep at r1; subst r1; obtain ⟨t1,rfl⟩:=ru
   cases e with
   | non=>unfold Rep at r2; subst r2; cases rv; exact SeqAt.EqAt.int_none a t1
   | bl b=>unfold Rep at r2; subst r2; cases rv; exact SeqAt.EqAt.int_bool a t1 b
   | int b=>unfold Rep at r2; subst r2; obtain ⟨t,rfl⟩:=rv; exact SeqAt.EqAt.int_int a t1 b t
   | str b=>unfold Rep at r2; subst r2; obtain ⟨t,rfl⟩:=rv; exact KA a t1 b t
   | tup l=>unfold Rep at r2; obtain ⟨p,xs,rfl,q,_⟩:=r2; cases rv; obtain ⟨us,_,pt,_⟩:=I.tuple q; exact SeqAt.EqAt.int_tuple a t1 (show s.heap.IsTuple p us.toArray from pt) hu0
   | lst l=>unfold Rep at r2; obtain ⟨p,xs,rfl,q,_⟩:=r2; cases rv; obtain ⟨us,_,pt,_⟩:=I.list q; exact SeqAt.EqAt.int_list a t1 pt.isList hu0
  | str a =>
   unfold Rep at r1; subst r1; obtain ⟨t1,rfl⟩:=ru
   cases e with
   | non=>unfold Rep at r2; subst r2; cases rv; exact SeqAt.EqAt.str_none a t1
   | bl b=>unfold Rep at r2; subst r2; cases rv; exact SeqAt.EqAt.str_bool a t1 b
   | int b=>unfold Rep at r2; subst r2; obtain ⟨t,rfl⟩:=rv; exact KC a t1 b t
   | str b=>unfold Rep at r2; subst r2; obtain ⟨t,rfl⟩:=rv; exact SeqAt.EqAt.str_str a t1 b t
   | tup l=>unfold Rep at r2; obtain ⟨p,xs,rfl,q,_⟩:=r2; cases rv; obtain ⟨us,_,pt,_⟩:=I.tuple q; exact SeqAt.EqAt.str_tuple a t1 (show s.heap.IsTuple p us.toArray from pt) hu0
   | lst l=>unfold Rep at r2; obtain ⟨p,xs,rfl,q,_⟩:=r2; cases rv; obtain ⟨us,_,pt,_⟩:=I.list q; exact SeqAt.EqAt.str_list a t1 pt.isList hu0
 | succ n ihn =>
  intro A d e x y u v hd hu r1 r2 ru rv
  have hu0:A.units < cLine:=by lia
  have hu1:A.in1.units + n < cLine:=by show A.units + 1 + n < cLine; lia
  cases d with
  | tup l =>
   have r1':=r1
   unfold Rep at r1
   obtain ⟨p,xs,rfl,q,rs⟩:=r1
   cases ru
   have hd':deps l<=n:=by unfold D.dep at hd; lia
   obtain ⟨us,_,pt,_⟩:=id (I.tuple q)
   cases e with
   | non=>unfold Rep at r2; subst r2; cases rv; exact SeqAt.EqAt.tuple_none (show s.heap.IsTuple p us.toArray from pt) hu0
   | bl b=>unfold Rep at r2; subst r2; cases rv; exact SeqAt.EqAt.tuple_bool b (show s.heap.IsTuple p us.toArray from pt) hu0
   | int b=>unfold Rep at r2; subst r2; obtain ⟨t,rfl⟩:=rv; exact SeqAt.EqAt.tuple_int b t (show s.heap.IsTuple p us.toArray from pt) hu0
   | str b=>unfold Rep at r2; subst r2; obtain ⟨t,rfl⟩:=rv; exact SeqAt.EqAt.tuple_str b t (show s.heap.IsTuple p us.toArray from pt) hu0
   | tup l2 =>
    have r2':=r2
    unfold Rep at r2
    obtain ⟨p2,xs2,rfl,q2,rs2⟩:=r2
    cases rv
    by_cases hp:p=p2
    ·subst hp
     rw [aCY I _ _ _ r1' r2',aB7]
     exact Jt _
    ·unfold eqD
     exact KS hp (aEq I q q2 rs rs2 hu0 fun j d e x y u v e1 e2 a b c f=>ihn A.in1 d e x y u v (At (aAI e1) hd') hu1 a b c f).1
   | lst l2 =>
    unfold Rep at r2
    obtain ⟨p2,xs2,rfl,q2,rs2⟩:=r2
    cases rv
    obtain ⟨us2,_,pt2,_⟩:=I.list q2
    exact SeqAt.EqAt.tuple_list (show s.heap.IsTuple p us.toArray from pt) pt2.isList hu0
  | lst l =>
   have r1':=r1
   unfold Rep at r1
   obtain ⟨p,xs,rfl,q,rs⟩:=r1
   cases ru
   have hd':deps l<=n:=by unfold D.dep at hd; lia
   obtain ⟨us,_,pt,_⟩:=id (I.list q)
   cases e with
   | non=>unfold Rep at r2; subst r2; cases rv; exact SeqAt.EqAt.list_none pt.isList hu0
   | bl b=>unfold Rep at r2; subst r2; cases rv; exact SeqAt.EqAt.list_bool b pt.isList hu0
   | int b=>unfold Rep at r2; subst r2; obtain ⟨t,rfl⟩:=rv; exact SeqAt.EqAt.list_int b t pt.isList hu0
   | str b=>unfold Rep at r2; subst r2; obtain ⟨t,rfl⟩:=rv; exact SeqAt.EqAt.list_str b t pt.isList hu0
   | lst l2 =>
    have r2':=r2
    unfold Rep at r2
    obtain ⟨p2,xs2,rfl,q2,rs2⟩:=r2
    cases rv
    by_cases hp:p=p2
    ·subst hp
     rw [aCY I _ _ _ r1' r2',aB7]
     exact Jt _
    ·unfold eqD
     exact KS hp (aDF I q q2 rs rs2 hu0 fun j d e x y u v e1 e2 a b c f=>ihn A.in1 d e x y u v (At (aAI e1) hd') hu1 a b c f).1
   | tup l2 =>
    unfold Rep at r2
    obtain ⟨p2,xs2,rfl,q2,rs2⟩:=r2
    cases rv
    obtain ⟨us2,_,pt2,_⟩:=I.tuple q2
    exact SeqAt.EqAt.list_tuple pt.isList (show s.heap.IsTuple p2 us2.toArray from pt2) hu0
  | _=>exact ihn A _ e x y u v (by unfold D.dep; exact AS _) (by lia) r1 r2 ru rv
noncomputable def rEqS (K:Ah) (neg:Bool):R2:=fun x y H Q=>∃ ds es,((Rep K H (.lst ds) x/\Rep K H (.lst es) y)\/(Rep K H (.tup ds) x/\Rep K H (.tup es) y))/\deps ds<=50/\Q (.bl (if neg then !eqDs ds es else eqDs ds es)) H
theorem aI0 (I:Inv X pins σ H s) {x y:V} {u v:Value} {ds es:List D} (hA:X.A.units + 60 < cLine) (ru:RelV x u) (rv:RelV y v) (h:(Rep X.K H (.lst ds) x/\Rep X.K H (.lst es) y)\/(Rep X.K H (.tup ds) x/\Rep X.K H (.tup es) y)) (hd:deps ds<=50) :
  MP X.A s u v (eqDs ds es)/\LF X.A s u v (!eqDs ds es):=by
 have ih:∀ (j:Nat) (d e:D) (x y:V) (u v:Value),ds[j]?=some d->es[j]?=some e->Rep X.K H d x->Rep X.K H e y->RelV x u->RelV y v->FK X.A.in1 s u v (eqD d e) :=
  fun j d e x y u v e1 e2 a b c f=>aHN I 50 X.A.in1 d e x y u v (At (aAI e1) hd) (by show X.A.units + 1 + 50 < cLine; lia) a b c f
 rcases h with ⟨h1,h2⟩ | ⟨h1,h2⟩
 ·unfold Rep at h1 h2
  obtain ⟨p,xs,rfl,q,rs⟩:=h1
  obtain ⟨p2,xs2,rfl,q2,rs2⟩:=h2
  cases ru; cases rv
  exact aDF I q q2 rs rs2 (by lia) ih
 ·unfold Rep at h1 h2
  obtain ⟨p,xs,rfl,q,rs⟩:=h1
  obtain ⟨p2,xs2,rfl,q2,rs2⟩:=h2
  cases ru; cases rv
  exact aEq I q q2 rs rs2 (by lia) ih
theorem aJ7 (hA:X.A.units + 60 < cLine):OpR X (DV .NotEq) (rEqS X.K true):=by
 intro pins s σ H x y u v Q I ru rv h
 obtain ⟨ds,es,h,hd,q⟩:=h
 exact (aI0 I hA ru rv h hd).2 X.prog X.w X.xe _ ⟨.bl (!eqDs ds es),H,I,rfl,q⟩
theorem aDG (hA:X.A.units + 60 < cLine):OpR X (DV .NotEq) (fun x y H Q=>∃ p b xs,x=.ref p/\y=.ref b/\SqL X.K H p xs/\SqL X.K H b []/\Q (.bl (!xs.isEmpty)) H):=by
 intro pins s σ H x y u v Q I ru rv h
 obtain ⟨p,b,xs,rfl,rfl,q1,q2,q⟩:=h
 cases ru; cases rv
 obtain ⟨us,v1,p1,_⟩:=I.list q1
 obtain ⟨vs,v2,p2,_⟩:=I.list q2
 cases v2
 cases v1 with
 | nil =>
  have a:=KQ (A:=X.A) (e:=fun _=>true) p1.isList p2.isList rfl (by lia) (fun j h1 _=>absurd h1 (by simp))
  exact a X.prog X.w X.xe _ ⟨.bl false,H,I,rfl,q⟩
 | cons r1 r2 =>
  exact Hu (A:=X.A) p1.isList p2.isList (by simp) (by lia) X.prog X.w X.xe _ ⟨.bl true,H,I,rfl,q⟩
end
end L2
namespace L2
open PySem PySem.Spec PyProof.Rows
section
variable {X:Cx} {pos:Pos}
theorem hu60 {k:Nat} {A:AR} (hr:Room k A):A.units + 60 < cLine:=by have:=hr.units; lia
noncomputable def aAt (XN:List Str) (xn:List (Str×Ei)) (N:List Str) (cn:List (Str×Ei)):List (Option Nat)->Nat->Bool
 | [],_=>true
 | none :: r,i=>aAt XN xn N cn r (i + 1)
 | some j :: r,i=>(match N[i]? with
  | some x=>XN[j]? == some x && (xn.lookup x == some .cell || xn.lookup x == some .free) && cn.lookup x == some .free
  | none=>false) && aAt XN xn N cn r (i + 1)
theorem aAS {XN:List Str} {xn:List (Str×Ei)} {N:List Str} {cn:List (Str×Ei)}:∀ {mp:List (Option Nat)} {k:Nat},aAt XN xn N cn mp k=true->∀ (i j:Nat),mp[i]?=some (some j)->∃ x,N[k + i]?=some x/\XN[j]?=some x/\(xn.lookup x=some .cell\/xn.lookup x=some .free)/\cn.lookup x=some .free
 | [],k,h,i,j,e=>by cases e
 | none :: r,k,h,0,j,e=>by cases e
 | none :: r,k,h,i + 1,j,e=>by
  have:=aAS (mp:=r) (k:=k + 1) h i j (by simpa using e)
  rw [show k + (i + 1)=k + 1 + i by lia]; exact this
 | some m :: r,k,h,0,j,e=>by
  cases e
  unfold aAt at h
  rw [Bq] at h
  have h1:=h.1
  cases en:N[k]? with
  | none=>rw [en] at h1; cases h1
  | some x =>
   rw [en] at h1
   simp only [Bq,Mo,beq_iff_eq] at h1
   exact ⟨x,rfl,h1.1.1,h1.1.2,h1.2⟩
 | some m :: r,k,h,i + 1,j,e=>by
  unfold aAt at h
  rw [Bq] at h
  have:=aAS (mp:=r) (k:=k + 1) h.2 i j (by simpa using e)
  rw [show k + (i + 1)=k + 1 + i by lia]; exact this
noncomputable def aAE (Pv:Nat->List V->St->Hp->Prop) (D:Addr) (i:Nat):St->Hp->Prop:=fun σ' H'=>∃ ys,ys.length<=i + 1/\Pv (i + 1) ys σ' H'/\H' D=some (.lst ys)
theorem jd {K:Ah} {a:Addr} {xs:List V} {H1:Hp} {D:Addr} {σ0:St} {g:TG} {tt:TT} {te:TE} {R:Hp->Prop}
  (Pv:Nat->List V->St->Hp->Prop) (hl:∀ i ys σ H2,Pv i ys σ H2->SqL K H2 a xs) (h0:Pv 0 [] σ0 (upd H1 D (.lst [])))
  (hs:∀ i x ys σ H2,xs[i]?=some x->ys.length<=i->Pv i ys σ H2->H2 D=some (.lst ys)->g x σ H2 fun σ3 H3=>tt σ3 H3 fun b H4=>if b=true then te σ3 H4 fun y H5=>∃ zs,H5 D=some (.lst zs)/\zs.length < sizeLine/\aAE Pv D i σ3 (upd H5 D (.lst (zs++[y]))) else aAE Pv D i σ3 H4)
  (hd:∀ ys σ H2,Pv xs.length ys σ H2->H2 D=some (.lst ys)->R H2) :
  ∃ W:Nat->Nat->St->Hp->Prop,(∃ m,W 0 m σ0 (upd H1 D (.lst [])))/\∀ i m σ2 H2,W i m σ2 H2 ->
  ((Itl K a).stop i H2/\R H2)\/((Itl K a).go i H2/\∃ N:St->Hp->Prop,(∀ σ' H',N σ' H'->∃ m',m' < m/\W (i + 1) m' σ' H')/\∀ x H',(Itl K a).yld i H2 x H'->g x σ2 H' fun σ3 H3=>tt σ3 H3 fun b H4 =>
   if b=true then te σ3 H4 fun y H5=>∃ xs,H5 D=some (.lst xs)/\xs.length < sizeLine/\N σ3 (upd H5 D (.lst (xs++[y]))) else N σ3 H4):=by
 refine ⟨fun i m σ H'=>m=xs.length - i/\i<=xs.length/\∃ ys,ys.length<=i/\Pv i ys σ H'/\H' D=some (.lst ys),⟨xs.length,by simp,AS _,[],Ai _,h0,zB⟩,?_⟩
 rintro i m σ2 H2 ⟨rfl,hi,ys,hy,p,e⟩
 have q:=hl i ys σ2 H2 p
 by_cases hlt:i < xs.length
 ·refine .inr ⟨⟨xs,xs[i],q,by simp [hlt]⟩,aAE Pv D i,fun σ' H' ⟨ys',l',p',e'⟩=>⟨xs.length - (i + 1),by lia,rfl,hlt,ys',l',p',e'⟩,fun x' H' y=>?_⟩
  obtain ⟨e1,y⟩:=y
  subst e1
  exact hs i x' ys σ2 _ (y xs q) hy p e
 ·have ei:i=xs.length:=by lia
  subst ei
  exact .inl ⟨⟨xs,q,Ai _⟩,hd ys σ2 H2 p e⟩
theorem jv {lo:Int} {n:Nat} {H1:Hp} {D:Addr} {σ0:St} {g:TG} {tt:TT} {te:TE} {R:Hp->Prop}
  (Pv:Nat->List V->St->Hp->Prop) (h0:Pv 0 [] σ0 (upd H1 D (.lst [])))
  (hs:∀ i ys σ H2,i < n->ys.length<=i->Pv i ys σ H2->H2 D=some (.lst ys)->g (.int (lo + i)) σ H2 fun σ3 H3=>tt σ3 H3 fun b H4=>if b=true then te σ3 H4 fun y H5=>∃ zs,H5 D=some (.lst zs)/\zs.length < sizeLine/\aAE Pv D i σ3 (upd H5 D (.lst (zs++[y]))) else aAE Pv D i σ3 H4)
  (hd:∀ ys σ H2,Pv n ys σ H2->H2 D=some (.lst ys)->R H2) :
  ∃ W:Nat->Nat->St->Hp->Prop,(∃ m,W 0 m σ0 (upd H1 D (.lst [])))/\∀ i m σ2 H2,W i m σ2 H2 ->
  ((Itr lo n).stop i H2/\R H2)\/((Itr lo n).go i H2/\∃ N:St->Hp->Prop,(∀ σ' H',N σ' H'->∃ m',m' < m/\W (i + 1) m' σ' H')/\∀ x H',(Itr lo n).yld i H2 x H'->g x σ2 H' fun σ3 H3=>tt σ3 H3 fun b H4 =>
   if b=true then te σ3 H4 fun y H5=>∃ xs,H5 D=some (.lst xs)/\xs.length < sizeLine/\N σ3 (upd H5 D (.lst (xs++[y]))) else N σ3 H4):=by
 refine ⟨fun i m σ H'=>m=n - i/\i<=n/\∃ ys,ys.length<=i/\Pv i ys σ H'/\H' D=some (.lst ys),⟨n,by simp,AS _,[],Ai _,h0,zB⟩,?_⟩
 rintro i m σ2 H2 ⟨rfl,hi,ys,hy,p,e⟩
 by_cases hlt:i < n
 ·refine .inr ⟨hlt,aAE Pv D i,fun σ' H' ⟨ys',l',p',e'⟩=>⟨n - (i + 1),by lia,rfl,hlt,ys',l',p',e'⟩,fun x' H' y=>?_⟩
  obtain ⟨e1,y⟩:=y
  subst e1 y
  exact hs i ys σ2 _ hlt hy p e
 ·have ei:i=n:=by lia
  subst ei
  exact .inl ⟨Ai _,hd ys σ2 H2 p e⟩
end
section
variable {prog:Ap} {w:AT} {A:AR} {E:Value->Ad->Prop} {s:Ad}
theorem jw {ti tt:Addr} {k:Nat} {vs:Array Value} {v:Value} {Q:Value->Ad->Prop} (hp:s.heap.IsTupleIter ti tt k) (hc:s.heap.IsTuple tt vs) (hv:vs[k]?=some v)
  (hq:∀ g,g.IsTupleIter ti tt (k + 1)->Ch ti s.heap g->Q v { s with heap:=g }):Ax (AC prog w) A (Cf (.ref ti)) Q E s:=by
 obtain ⟨ob,e0,e1,e2⟩:=id hp
 obtain ⟨oc,c0,_,nc,c2⟩:=hc
 unfold Cf
 refine Aa (Bl (name:=CW "__next__") hp.typeIs Eb (AU Eb hp.typeIs Hd ?_ (GR _)))
 show Ax _ _ (NF (.ref ti) 0 >>= _) _ _ s
 refine Aa (Cd e0 e2 (x:=.ref tt) rfl ?_)
 show Ax _ _ (if (Value.ref tt == Cy)=true then _ else _) _ _ s
 rw [if_neg (show ¬ ((Value.ref tt == Cy)=true) from As)]
 show Ax _ _ (NF (.ref ti) 1 >>= _) _ _ s
 refine Aa (Cd e0 e2 (x:=.int k 0) rfl ?_)
 show Ax _ _ (No (.ref tt) >>= _) _ _ s
 refine Aa (Dw c0 c2 ?_)
 simp only [BH,hv]
 refine Aa (CF e0 e2 (by simp) (Ab ⟨v,rfl,Ab (hq _ ?_ (AX ..))⟩))
 exact ⟨_,Ba _ e0 (Co (BF e2 _)),(DP ..).trans e1,by rw [BF e2]; simp [CL]⟩
theorem aAu {ti tt:Addr} {k:Nat} {vs:Array Value} {Q:Value->Ad->Prop} (hh:A.handled=none) (hp:s.heap.IsTupleIter ti tt k) (hc:s.heap.IsTuple tt vs) (hv:vs[k]?=none)
  (hE:∀ g e,Kq ti s.heap g->(∃ o,g.get? e=some o/\o.cls=.type "StopIteration")->E (.ref e) { s with heap:=g }):Ax (AC prog w) A (Cf (.ref ti)) Q E s:=by
 obtain ⟨ob,e0,e1,e2⟩:=id hp
 obtain ⟨oc,c0,_,nc,c2⟩:=hc
 unfold Cf
 refine Aa (Bl (name:=CW "__next__") hp.typeIs Eb (AU Eb hp.typeIs Hd ?_ (GR _)))
 show Ax _ _ (NF (.ref ti) 0 >>= _) _ _ s
 refine Aa (Cd e0 e2 (x:=.ref tt) rfl ?_)
 show Ax _ _ (if (Value.ref tt == Cy)=true then _ else _) _ _ s
 rw [if_neg (show ¬ ((Value.ref tt == Cy)=true) from As)]
 show Ax _ _ (NF (.ref ti) 1 >>= _) _ _ s
 refine Aa (Cd e0 e2 (x:=.int k 0) rfl ?_)
 show Ax _ _ (No (.ref tt) >>= _) _ _ s
 refine Aa (Dw c0 c2 ?_)
 simp only [BH,hv]
 refine Aa (Cp (Aa (CF e0 e2 (by simp) ?_)))
 show Ax _ _ (MQ (.type "StopIteration") [] >>= _) _ _ _
 refine Aa ?_
 simp only [MQ,Na]
 refine Aa (Bb ?_ (by size_fits))
 refine Aa (m:=EL _ _) (He (a:=Cy) (by first | rfl | (simp only [EL]; done)) ?_)
 refine Bb ?_ (by size_fits)
 simp only [Nb]
 refine Aa (IB ?_)
 first | rw [show A.in1.handled=none from hh] | rw [hh]
 refine Aa (Ab (Kr ?_))
 exact hE _ _ (((AX ..).extBut.push _).push _) ⟨_,Ak _ rfl,rfl⟩
structure ZT (h:Heap) (z ti to i j a b:Addr) (f0:Value) (k:Nat):Prop where
 zz:Np h z ti to f0
 pi:KU h ti (.ref i) (.ref j)
 po:∃ x y,KU h to x y
 ia:h.IsTupleIter i a k
 jb:h.IsTupleIter j b k
theorem aEr {z ti to i j a b:Addr} {k:Nat} {xs ys:Array Value} {x y:Value} {Q:Value->Ad->Prop} (D:ZipApart z ti to i j a b) (Z:ZT s.heap z ti to i j a b .none k)
  (ha:s.heap.IsTuple a xs) (hb:s.heap.IsTuple b ys) (hx:xs[k]?=some x) (hy:ys[k]?=some y)
  (hq:∀ g,ZT g z ti to i j a b (CL s.heap.objs.size) (k + 1)->KU g s.heap.objs.size x y->g.objs.size=s.heap.objs.size + 1 ->
   (∀ c o,c≠z->c≠to->c≠i->c≠j->s.heap.get? c=some o->g.get? c=some o)->Q (.ref s.heap.objs.size) { s with heap:=g }) :
  Ax (AC prog w) A (Builtin.«zip.__next__» ⟨[.ref z],[]⟩) (fun fin s'=>∃ v,fin=.done (.ret v)/\Q v s') E s:=by
 obtain ⟨Zz,Zi,⟨u,v,Zo⟩,Za,Zb⟩:=Z
 show Ax _ _ (NF (.ref z) 2 >>= _) _ _ _
 refine Aa (Cd Zz rfl (x:=.bool false) rfl ?_)
 show Ax _ _ (NF (.ref z) 3 >>= _) _ _ _
 refine Aa (Cd Zz rfl (x:=.ref ti) rfl (Aa (Dw Zi rfl ?_)))
 show Ax _ _ (CV (.ref z) >>= _) _ _ _
 refine Aa ?_
 unfold CV
 refine Aa (Cd Zz rfl (x:=.none) rfl (Ab ?_))
 simp only [if_true]
 refine Aa (Cp (Aa (Cd Zz rfl (x:=.ref to) rfl (Aa (Df Zz (by simp) fun g1 z1 b1=>?_)))))
 replace z1:Np g1 z ti to .ellipsis:=z1
 refine Aa ?_
 simp only [IN,Hf,FT,Kd]
 refine Aa (Aa (IC ?_))
 show Ax _ _ (Cf (.ref i) >>= _) _ _ _
 refine Aa (jw (Za.extBut b1.extBut D.i1z) (ha.extBut b1.extBut D.l1z) hx fun g2 p2 b2=>Ab ?_)
 have o2:KU g2 to u v:=b2.extBut _ _ D.TOi1 (b1.extBut _ _ D.TOz Zo)
 refine Aa (Dw o2 rfl (Aa (GL o2 fun g3 o3 b3=>?_)))
 replace o3:KU g3 to x v:=o3
 refine Aa (Ks (Ab (Aa (Aa (IC ?_)))))
 show Ax _ _ (Cf (.ref j) >>= _) _ _ _
 refine Aa (jw (((Zb.extBut b1.extBut D.i2z).extBut b2.extBut D.i12.symm).extBut b3.extBut D.TOi2.symm) (((hb.extBut b1.extBut D.l2z).extBut b2.extBut D.l2i1).extBut b3.extBut D.l2TO) hy fun g4 p4 b4=>Ab ?_)
 have o4:KU g4 to x v:=b4.extBut _ _ D.TOi2 o3
 refine Aa (Dw o4 rfl (Aa (GL o4 fun g5 o5 b5=>?_)))
 replace o5:KU g5 to x y:=o5
 refine Aa (Ks (Ab (Ab (Aa (Dw o5 rfl (Aa (HP ?_)))))))
 have sz:g5.objs.size=s.heap.objs.size:=by rw [b5.1,b4.1,b3.1,b2.1,b1.1]
 have z5:Np g5 z ti to .ellipsis:=b5.extBut _ _ D.TOz.symm (b4.extBut _ _ D.i2z.symm (b3.extBut _ _ D.TOz.symm (b2.extBut _ _ D.i1z.symm z1)))
 have keep5:∀ c o,c≠z->c≠to->c≠i->c≠j->s.heap.get? c=some o->g5.get? c=some o:=fun c o n1 n2 n3 n4 e=>b5.extBut _ _ n2 (b4.extBut _ _ n4 (b3.extBut _ _ n2 (b2.extBut _ _ n3 (b1.extBut _ _ n1 e))))
 have pa5:g5.IsTupleIter i a (k + 1):=((p2.extBut b3.extBut D.TOi1.symm).extBut b4.extBut D.i12).extBut b5.extBut D.TOi1.symm
 have pb5:g5.IsTupleIter j b (k + 1):=p4.extBut b5.extBut D.TOi2.symm
 have zlt:z < g5.objs.size:=An z5
 show Ax _ _ (Fu (.ref z) (.ref g5.objs.size) >>= _) _ _ _
 refine Aa ?_
 unfold Fu
 have z6:Np (g5.push { cls:=.type "tuple",data:=.seq #[x,y] }) z ti to .ellipsis:=Ac _ z5
 refine Aa (Df z6 (by simp) fun g7 z7 b7=>?_)
 replace z7:Np g7 z ti to (CL g5.objs.size):=z7
 refine Df z7 (by simp) fun g8 z8 b8=>?_
 replace z8:Np g8 z ti to (CL g5.objs.size):=z8
 have keep8:∀ c o,c≠z->g5.get? c=some o->g8.get? c=some o:=fun c o n e=>b8.extBut _ _ n (b7.extBut _ _ n (Ac _ e))
 have new8:KU g8 g5.objs.size x y:=b8.extBut _ _ (Ci zlt) (b7.extBut _ _ (Ci zlt) (Ak _ rfl))
 have sz8:g8.objs.size=g5.objs.size + 1:=by rw [b8.1,b7.1,BW]
 rw [sz] at z8 new8 sz8
 refine Ab ⟨_,rfl,?_⟩
 show Q (.ref g5.objs.size) _
 rw [sz]
 exact hq g8 ⟨z8,keep8 _ _ D.TIz (keep5 _ _ D.TIz D.TITO D.TIi1 D.TIi2 Zi),⟨x,y,keep8 _ _ D.TOz o5⟩,pa5.at fun o e=>keep8 _ o D.i1z e,pb5.at fun o e=>keep8 _ o D.i2z e⟩ new8 sz8 fun c o n1 n2 n3 n4 e=>keep8 c o n1 (keep5 c o n1 n2 n3 n4 e)
theorem aEs {z ti to i j a b:Addr} {k:Nat} {xs ys:Array Value} {Q:PySem.Fin->Ad->Prop} (hh:A.handled=none) (D:ZipApart z ti to i j a b) (Z:ZT s.heap z ti to i j a b .none k)
  (ha:s.heap.IsTuple a xs) (hb:s.heap.IsTuple b ys) (hend:xs[k]?=none\/ys[k]?=none)
  (hE:∀ g e,(∀ c o,c≠z->c≠to->c≠i->c≠j->s.heap.get? c=some o->g.get? c=some o)->(∃ o,g.get? e=some o/\o.cls=.type "StopIteration")->E (.ref e) { s with heap:=g }) :
  Ax (AC prog w) A (Builtin.«zip.__next__» ⟨[.ref z],[]⟩) Q E s:=by
 obtain ⟨Zz,Zi,⟨u,v,Zo⟩,Za,Zb⟩:=Z
 show Ax _ _ (NF (.ref z) 2 >>= _) _ _ _
 refine Aa (Cd Zz rfl (x:=.bool false) rfl ?_)
 show Ax _ _ (NF (.ref z) 3 >>= _) _ _ _
 refine Aa (Cd Zz rfl (x:=.ref ti) rfl (Aa (Dw Zi rfl ?_)))
 show Ax _ _ (CV (.ref z) >>= _) _ _ _
 refine Aa ?_
 unfold CV
 refine Aa (Cd Zz rfl (x:=.none) rfl (Ab ?_))
 simp only [if_true]
 refine Aa (Cp (Aa (Cd Zz rfl (x:=.ref to) rfl (Aa (Df Zz (by simp) fun g1 z1 b1=>?_)))))
 replace z1:Np g1 z ti to .ellipsis:=z1
 refine Aa ?_
 simp only [IN,Hf,FT,Kd]
 refine Aa (Aa (IC ?_))
 show Ax _ _ (Cf (.ref i) >>= _) _ _ _
 cases hx:xs[k]? with
 | none =>
  refine Aa (aAu hh (Za.extBut b1.extBut D.i1z) (ha.extBut b1.extBut D.l1z) hx fun g2 e b2 ⟨oe,q1,q2⟩=>?_)
  have z2:Np g2 z ti to .ellipsis:=b2 _ _ D.i1z.symm z1
  have ez:e≠z:=fun x=>by
   subst x
   rw [z2] at q1
   cases q1
   simp at q2
  exact Df z2 (by simp) fun g3 _ b3=>hE g3 e (fun c o n1 _ n3 _ x=>b3.extBut _ _ n1 (b2 _ _ n3 (b1.extBut _ _ n1 x))) ⟨oe,b3.extBut _ _ ez q1,q2⟩
 | some x =>
  have hy:ys[k]?=none:=hend.elim (fun h=>by rw [hx] at h; cases h) id
  refine Aa (jw (Za.extBut b1.extBut D.i1z) (ha.extBut b1.extBut D.l1z) hx fun g2 p2 b2=>Ab ?_)
  have o2:KU g2 to u v:=b2.extBut _ _ D.TOi1 (b1.extBut _ _ D.TOz Zo)
  refine Aa (Dw o2 rfl (Aa (GL o2 fun g3 o3 b3=>Aa (Ks (Ab (Aa (Aa (IC ?_))))))))
  show Ax _ _ (Cf (.ref j) >>= _) _ _ _
  refine Aa (aAu hh (((Zb.extBut b1.extBut D.i2z).extBut b2.extBut D.i12.symm).extBut b3.extBut D.TOi2.symm) (((hb.extBut b1.extBut D.l2z).extBut b2.extBut D.l2i1).extBut b3.extBut D.l2TO) hy fun g4 e b4 ⟨oe,q1,q2⟩=>?_)
  have z4:Np g4 z ti to .ellipsis:=b4 _ _ D.i2z.symm (b3.extBut _ _ D.TOz.symm (b2.extBut _ _ D.i1z.symm z1))
  have ez:e≠z:=fun x=>by
   subst x
   rw [z4] at q1
   cases q1
   simp at q2
  exact Df z4 (by simp) fun g5 _ b5=>hE g5 e (fun c o n1 n2 n3 n4 x=>b5.extBut _ _ n1 (b4 _ _ n4 (b3.extBut _ _ n2 (b2.extBut _ _ n3 (b1.extBut _ _ n1 x))))) ⟨oe,b5.extBut _ _ ez q1,q2⟩
noncomputable abbrev zt1 (h:Heap) (a:Addr):Heap:=h.push { cls:=.type "tuple_iterator",data:=.fields #[.ref a,.int 0 0] }
noncomputable abbrev zt2 (h:Heap) (a b:Addr):Heap:=(zt1 h a).push { cls:=.type "tuple_iterator",data:=.fields #[.ref b,.int 0 0] }
noncomputable abbrev zt3 (h:Heap) (a b:Addr):Heap:=(zt2 h a b).push { cls:=.type "tuple",data:=.seq #[.ref h.objs.size,.ref (zt1 h a).objs.size] }
noncomputable abbrev zt4 (h:Heap) (a b:Addr):Heap:=(zt3 h a b).push { cls:=.type "tuple",data:=.seq #[.none,.none] }
noncomputable abbrev zt5 (h:Heap) (a b:Addr):Heap:=(zt4 h a b).push { cls:=.type "zip",data:=.fields #[.none,.bool false,.bool false,.ref (zt2 h a b).objs.size,.ref (zt3 h a b).objs.size] }
theorem aDu (a b:Addr) (xs ys:Array Value):NO (Builtin.«zip.__new__» ⟨[.type "zip",.ref a,.ref b],[]⟩)
  (fun _ R s=>s.heap.IsTuple a xs/\s.heap.IsTuple b ys/\R (.ok (.ret (.ref (zt4 s.heap a b).objs.size))) { s with heap:=zt5 s.heap a b }) :=
 .of_wp fun prog w A R s h=>by
  obtain ⟨hp,g,d,tk,os⟩:=s
  obtain ⟨h1,h2,h⟩:=h
  have hsub:=sub_zip
  have t1:Nq (Mp ⟨hp,g,d,tk,os⟩) a xs:=h1
  have t2:Nq (Mp ⟨hp.push { cls:=.type "tuple_iterator",data:=.fields #[.ref a,.int 0 0] },g,d,tk,os⟩) b ys:=Heap.IsTuple.push h2 _
  wp_walk using FQ t1,FQ t2
  exact ⟨_,rfl,h⟩
theorem aEt {a b:Addr} {xs ys:Array Value} {Q:Value->Ad->Prop} (ha:s.heap.IsTuple a xs) (hb:s.heap.IsTuple b ys)
  (h:∀ g,ZT g (s.heap.objs.size + 4) (s.heap.objs.size + 2) (s.heap.objs.size + 3) s.heap.objs.size (s.heap.objs.size + 1) a b .none 0->g.objs.size=s.heap.objs.size + 5->(∀ c o,s.heap.get? c=some o->g.get? c=some o) ->
   Q (.ref (s.heap.objs.size + 4)) { s with heap:=g }):Ax (AC prog w) A (call (.type "zip") [.ref a,.ref b]) Q E s:=by
 refine callType_new F.called_zip (by decide) (F.typeCall_zip_2 _ _) (F.newCall_zip_2 _ _) (fun obj=>F.args_object_init_3 obj _ _) F.entry_zip_new (aDu a b xs ys) ⟨ha,hb,?_⟩
 have z1:(zt1 s.heap a).objs.size=s.heap.objs.size + 1:=BW ..
 have z2:(zt2 s.heap a b).objs.size=s.heap.objs.size + 2:=by rw [BW,z1]
 have z3:(zt3 s.heap a b).objs.size=s.heap.objs.size + 3:=by rw [BW,z2]
 have z4:(zt4 s.heap a b).objs.size=s.heap.objs.size + 4:=by rw [BW,z3]
 have z5:(zt5 s.heap a b).objs.size=s.heap.objs.size + 5:=by rw [BW,z4]
 have g5:(zt5 s.heap a b).get? (zt4 s.heap a b).objs.size=some _:=Ak _ rfl
 have g4:(zt5 s.heap a b).get? (zt3 s.heap a b).objs.size=some _:=Ac _ (Ak _ rfl)
 have g3:(zt5 s.heap a b).get? (zt2 s.heap a b).objs.size=some _:=Ac _ (Ac _ (Ak _ rfl))
 have g2:(zt5 s.heap a b).get? (zt1 s.heap a).objs.size=some _:=Ac _ (Ac _ (Ac _ (Ak _ rfl)))
 have g1:(zt5 s.heap a b).get? s.heap.objs.size=some _:=Ac _ (Ac _ (Ac _ (Ac _ (Ak _ rfl))))
 show _/\_
 rw [z2,z3,z4] at g5
 rw [z1,z2] at g3
 rw [z3] at g4
 rw [z1] at g2
 rw [z4]
 exact ⟨⟨_,g5,rfl⟩,h _ ⟨g5,g3,⟨_,_,g4⟩,⟨_,g1,rfl,rfl⟩,⟨_,g2,rfl,rfl⟩⟩ z5 fun c o x=>Ac _ (Ac _ (Ac _ (Ac _ (Ac _ x))))⟩
end
noncomputable def Itz (K:Ah) (p q:Addr):It :=
  ⟨fun i H=>∃ xs ys x y,SqT K H p xs/\SqT K H q ys/\xs[i]?=some x/\ys[i]?=some y,
   fun i H v H'=>∃ T x y,v=.ref T/\H T=none/\H'=upd H T (.tup [x,y])/\∀ xs ys,SqT K H p xs->SqT K H q ys->xs[i]?=some x/\ys[i]?=some y,
   fun i H=>∃ xs ys,SqT K H p xs/\SqT K H q ys/\(xs.length<=i\/ys.length<=i)⟩
theorem aGZ {P:Ap} {w:AT} {K:Ah} {es:List Expr} {kk:Nat} {pos:Pos} (p q z ti to i j:Addr) (D:ZipApart z ti to i j p q) :
  Turn P w K (.Tuple es kk pos) (Itz K p q) [z,ti,to,i,j] z (fun k h=>ZT h z ti to i j p q .none k) where
 mem:=by simp
 obj:=fun k h st b hb=>by
  obtain ⟨a1,a2,⟨u,v,a3⟩,⟨o4,a4,c4,d4⟩,⟨o5,a5,c5,d5⟩⟩:=st
  simp only [Aq,BI,or_false] at hb
  rcases hb with rfl | rfl | rfl | rfl | rfl
  ·exact ⟨_,a1,fun v e=>by cases e⟩
  ·exact ⟨_,a2,fun v e=>by cases e⟩
  ·exact ⟨_,a3,fun v e=>by cases e⟩
  ·exact ⟨_,a4,fun v e=>by rw [d4] at e; cases e⟩
  ·exact ⟨_,a5,fun v e=>by rw [d5] at e; cases e⟩
 keep:=fun k h h' st kp=>by
  obtain ⟨a1,a2,⟨u,v,a3⟩,a4,a5⟩:=st
  exact ⟨kp z (by simp) _ a1,kp ti (by simp) _ a2,⟨u,v,kp to (by simp) _ a3⟩,a4.at fun o e=>kp i (by simp) o e,a5.at fun o e=>kp j (by simp) o e⟩
 item:=by
  intro X hP hw hK hc k pins s σ H E I hf st hg
  subst hP hw hK
  obtain ⟨xs,ys,x,y,hp,hq,hx,hy⟩:=hg
  obtain ⟨us,ru,pu,_⟩:=I.tuple hp
  obtain ⟨vs,rv,pv,_⟩:=I.tuple hq
  obtain ⟨u,eu,r1⟩:=ru.get hx
  obtain ⟨v,ev,r2⟩:=rv.get hy
  have hT:s.TypeIs (.ref z) "zip":=⟨_,st.zz,rfl⟩
  unfold EU
  refine Aa (Dx (Bl (name:=CW "__next__") hT Hg (AU Hg hT LP (aEr D st (show s.heap.IsTuple p us.toArray from pu) (show s.heap.IsTuple q vs.toArray from pv) (by simpa using eu) (by simpa using ev) fun g Zg new sz kp=>Ab ?_) (Lm _))))
  refine ⟨_,rfl,?_⟩
  refine wpAny_letOwnedTupleGo_zip Zg.zz fun g' z' b'=>?_
  have fz:=hf z (by simp)
  have fo:=hf to (by simp)
  have fi:=hf i (by simp)
  have fj:=hf j (by simp)
  have nT:H s.heap.objs.size=none:=I.hok.fresh (Ai _)
  have kp':∀ c o,c≠z->c≠to->c≠i->c≠j->s.heap.get? c=some o->g'.get? c=some o:=fun c o n1 n2 n3 n4 e=>b'.extBut _ _ n1 (kp c o n1 n2 n3 n4 e)
  have zne:s.heap.objs.size≠z:=Ci (An st.zz)
  have new':KU g' s.heap.objs.size u v:=b'.extBut _ _ zne new
  have notch:∀ b,b ∉ [z,to,i,j]->b≠z/\b≠to/\b≠i/\b≠j:=fun b hb=>by simpa using hb
  have trk:∀ b o,H b=some o->b≠z/\b≠to/\b≠i/\b≠j:=fun b o e=>⟨zE e fz.1,zE e fo.1,zE e fi.1,zE e fj.1⟩
  have I1:Inv X pins σ (upd H s.heap.objs.size (.tup [x,y])) { s with heap:=g' }:=by
   refine I.step (g':=s.gens) (d':=s.drawn) (t':=s.toks) (ch:=[z,to,i,j]) (fun b hb=>?_) (fun b o _ _ hc e _=>?_) (fun b o _ _ hc e _=>?_) (fun b o hc e n=>?_) (fun b o hc e=>?_) (fun b xs e=>?_) (fun b o u e=>?_) (fun b ps e=>⟨#[],?_⟩) (fun m hm=>?_) (fun b o e=>?_) I.bare
   ·simp only [Aq,BI,or_false] at hb
    rcases hb with rfl | rfl | rfl | rfl
    ·exact ⟨fz.2.2.2.1,fz.2.1,fz.2.2.2.2.1,fz.2.2.2.2.2⟩
    ·exact ⟨fo.2.2.2.1,fo.2.1,fo.2.2.2.2.1,fo.2.2.2.2.2⟩
    ·exact ⟨fi.2.2.2.1,fi.2.1,fi.2.2.2.2.1,fi.2.2.2.2.2⟩
    ·exact ⟨fj.2.2.2.1,fj.2.1,fj.2.2.2.2.1,fj.2.2.2.2.2⟩
   ·obtain ⟨n1,n2,n3,n4⟩:=notch b hc
    exact kp' b o n1 n2 n3 n4 e
   ·obtain ⟨n1,n2,n3,n4⟩:=notch b hc
    exact ⟨o.slots,kp' b o n1 n2 n3 n4 e⟩
   ·rw [zI (AE (An e))]; exact n
   ·obtain ⟨n1,n2,n3,n4⟩:=notch b hc
    exact ⟨o,kp' b o n1 n2 n3 n4 e⟩
   ·rw [zI (zE e nT)]; exact e
   ·rw [zI (zE e nT)]; exact e
   ·rw [zI (zE e nT),e]; simp
   ·obtain ⟨o,es,ep,ho,r⟩:=hm
    exact ⟨o,es,ep,kp' _ o (CB fz.2.1) (CB fo.2.1) (CB fi.2.1) (CB fj.2.1) ho,r⟩
   ·by_cases hb:b=s.heap.objs.size
    ·subst hb
     rw [zB] at e
     cases e
     exact ⟨by show 2<=sizeLine; rw [AW]; decide,[u,v],.cons r1 (.cons r2 .nil),⟨_,new',rfl,0,rfl⟩⟩
    ·rw [zI hb] at e
     refine (I.hok b o e).stay (fun c v' hcc r=>?_) (fun c r=>by rw [zI (zE r nT)]; exact r) fun c xs r=>by rw [zI (zE r nT)]; exact r
     rcases hcc with rfl | hcc
     ·obtain ⟨n1,n2,n3,n4⟩:=trk c o e
      exact kp' c v' n1 n2 n3 n4 r
     ·obtain ⟨n1,n2,n3,n4⟩:=trk c _ hcc
      exact kp' c v' n1 n2 n3 n4 r
  refine ⟨.ref s.heap.objs.size,_,I1,rfl,⟨_,x,y,rfl,nT,rfl,fun xs' ys' h1 h2=>?_⟩,?_,fun b hb=>?_⟩
  ·rw [I.tuple_inj h1 hp,I.tuple_inj h2 hq]
   exact ⟨hx,hy⟩
  ·obtain ⟨a1,a2,⟨c1,c2,a3⟩,a4,a5⟩:=Zg
   exact ⟨z',b'.extBut _ _ D.TIz a2,⟨c1,c2,b'.extBut _ _ D.TOz a3⟩,a4.extBut b'.extBut D.i1z,a5.extBut b'.extBut D.i2z⟩
  ·have hb':∃ o,s.heap.get? b=some o:=by
    obtain ⟨a1,a2,⟨c1,c2,a3⟩,⟨o4,a4,_⟩,⟨o5,a5,_⟩⟩:=st
    simp only [Aq,BI,or_false] at hb
    rcases hb with rfl | rfl | rfl | rfl | rfl
    ·exact ⟨_,a1⟩
    ·exact ⟨_,a2⟩
    ·exact ⟨_,a3⟩
    ·exact ⟨_,a4⟩
    ·exact ⟨_,a5⟩
   obtain ⟨o,e⟩:=hb'
   rw [zI (AE (An e))]
   exact (hf b hb).1
 done:=by
  intro X hP hw hK hc k pins s σ H E I hf st hg
  subst hP hw hK
  obtain ⟨xs,ys,hp,hq,hend⟩:=hg
  obtain ⟨us,ru,pu,_⟩:=I.tuple hp
  obtain ⟨vs,rv,pv,_⟩:=I.tuple hq
  have l1:=ru.length
  have l2:=rv.length
  have hT:s.TypeIs (.ref z) "zip":=⟨_,st.zz,rfl⟩
  unfold EU
  refine Aa (Dx (Bl (name:=CW "__next__") hT Hg (AU Hg hT LP (aEs (I.ok.hd hc) D st (show s.heap.IsTuple p us.toArray from pu) (show s.heap.IsTuple q vs.toArray from pv) ?_ fun g e kp ⟨o,ho,hcl⟩=>?_) (Lm _))))
  ·rcases hend with h | h
   ·exact .inl (by simp; lia)
   ·exact .inr (by simp; lia)
  ·refine Aa (DG (T:="StopIteration") (b:=true) ⟨o,ho,hcl⟩ HQ ?_)
   refine Ab ⟨rfl,?_⟩
   have fz:=hf z (by simp)
   have fo:=hf to (by simp)
   have fi:=hf i (by simp)
   have fj:=hf j (by simp)
   have notch:∀ b,b ∉ [z,to,i,j]->b≠z/\b≠to/\b≠i/\b≠j:=fun b hb=>by simpa using hb
   have trk:∀ b o,H b=some o->b≠z/\b≠to/\b≠i/\b≠j:=fun b o e=>⟨zE e fz.1,zE e fo.1,zE e fi.1,zE e fj.1⟩
   refine I.step (g':=s.gens) (d':=s.drawn) (t':=s.toks) (ch:=[z,to,i,j]) (fun b hb=>?_) (fun b o _ _ hc e _=>?_) (fun b o _ _ hc e _=>?_) (fun b o hc e n=>n) (fun b o hc e=>?_) (fun b xs e=>e) (fun b o u e=>e) (fun b ps e=>⟨#[],by rw [e]; simp⟩) (fun m hm=>?_) (fun b o e=>?_) I.bare
   ·simp only [Aq,BI,or_false] at hb
    rcases hb with rfl | rfl | rfl | rfl
    ·exact ⟨fz.2.2.2.1,fz.2.1,fz.2.2.2.2.1,fz.2.2.2.2.2⟩
    ·exact ⟨fo.2.2.2.1,fo.2.1,fo.2.2.2.2.1,fo.2.2.2.2.2⟩
    ·exact ⟨fi.2.2.2.1,fi.2.1,fi.2.2.2.2.1,fi.2.2.2.2.2⟩
    ·exact ⟨fj.2.2.2.1,fj.2.1,fj.2.2.2.2.1,fj.2.2.2.2.2⟩
   ·obtain ⟨n1,n2,n3,n4⟩:=notch b hc
    exact kp b o n1 n2 n3 n4 e
   ·obtain ⟨n1,n2,n3,n4⟩:=notch b hc
    exact ⟨o.slots,kp b o n1 n2 n3 n4 e⟩
   ·obtain ⟨n1,n2,n3,n4⟩:=notch b hc
    exact ⟨o,kp b o n1 n2 n3 n4 e⟩
   ·obtain ⟨o,es,ep,ho,r⟩:=hm
    exact ⟨o,es,ep,kp _ o (CB fz.2.1) (CB fo.2.1) (CB fi.2.1) (CB fj.2.1) ho,r⟩
   ·refine (I.hok b o e).stay (fun c v' hcc r=>?_) (fun _ r=>r) fun _ _ r=>r
    rcases hcc with rfl | hcc
    ·obtain ⟨n1,n2,n3,n4⟩:=trk c o e
     exact kp c v' n1 n2 n3 n4 r
    ·obtain ⟨n1,n2,n3,n4⟩:=trk c _ hcc
     exact kp c v' n1 n2 n3 n4 r
 self:=fun _ _ _ _ _ st h=>LQ st.zz h
theorem aJ8:BR "zip"=some (.type "zip"):=by decide +kernel
section
variable {X:Cx} {es:List Expr} {kk:Nat} {tpos:Pos}
noncomputable def iZip (K:Ah) (ta:TA):TI:=fun σ H R=>ta σ H fun vs H1=>∃ p q,vs=[.ref p,.ref q]/\(∃ xs,SqT K H1 p xs)/\(∃ ys,SqT K H1 q ys)/\R (Itz K p q) H1
theorem aJ9 {a b:Expr} {ta:TA} {p pos:Pos} (hm:X.mg "zip"=none) (ha:PA X [a,b] ta) (hg:Gl X "zip":=by rfl) (hs:Bk [a,b] X.env=[(false,eval a X.env),(false,eval b X.env)]:=by rfl) (hs2:Bk [b] X.env=[(false,eval b X.env)]:=by rfl) :
  PI X (.Tuple es kk tpos) (.Call (.Name "zip" p) [a,b] [] pos) (iZip X.K ta):=by
 intro pins s σ H R I h
 refine Call_ (aA6 I hg hm aJ8 (Da (thn (ha pos pins s σ H _ I h) fun us s1 ⟨vs,H1,I1,r1,q1⟩=>?_) (by rw [hs,hs2]) (by rw [hs2]; rfl)))
 obtain ⟨x,y,e,⟨xs,hx⟩,⟨ys,hy⟩,q⟩:=q1
 subst e
 obtain ⟨u,v,rfl,ru,rv⟩:=aGU r1
 cases ru; cases rv
 obtain ⟨us,_,px,_⟩:=I1.tuple hx
 obtain ⟨vs,_,py,_⟩:=I1.tuple hy
 have lx:x < s1.heap.objs.size:=px.lt
 have ly:y < s1.heap.objs.size:=py.lt
 refine aEt (show s1.heap.IsTuple x us.toArray from px) (show s1.heap.IsTuple y vs.toArray from py) fun g Zg sz kp=>?_
 refine LQ Zg.zz ?_
 refine ⟨_,_,_,_,H1,rfl,I1.kept (t':=s1.toks) kp,aGZ x y _ _ _ _ _ (zipApart_new lx ly),Zg,fun b hb=>?_,q⟩
 have hge:s1.heap.objs.size<=b:=by
  simp only [Aq,BI,or_false] at hb
  rcases hb with rfl | rfl | rfl | rfl | rfl <;> lia
 exact I1.fpOk hge (I1.hok.fresh hge)
theorem aGa {K:Ah} {p q:Addr} {xs ys:List V} {H1:Hp} {D:Addr} {σ0:St} {g:TG} {tt:TT} {te:TE} {R:Hp->Prop}
  (Pv:Nat->List V->St->Hp->Prop) (hl:∀ i zs σ H2,Pv i zs σ H2->SqT K H2 p xs/\SqT K H2 q ys) (hlen:xs.length=ys.length) (h0:Pv 0 [] σ0 (upd H1 D (.lst [])))
  (hs:∀ i T x y zs σ H2,xs[i]?=some x->ys[i]?=some y->zs.length<=i->Pv i zs σ H2->H2 D=some (.lst zs)->H2 T=none->g (.ref T) σ (upd H2 T (.tup [x,y])) fun σ3 H3=>tt σ3 H3 fun b H4=>if b=true then te σ3 H4 fun y H5=>∃ zs,H5 D=some (.lst zs)/\zs.length < sizeLine/\aAE Pv D i σ3 (upd H5 D (.lst (zs++[y]))) else aAE Pv D i σ3 H4)
  (hd:∀ zs σ H2,Pv xs.length zs σ H2->H2 D=some (.lst zs)->R H2) :
  ∃ W:Nat->Nat->St->Hp->Prop,(∃ m,W 0 m σ0 (upd H1 D (.lst [])))/\∀ i m σ2 H2,W i m σ2 H2 ->
  ((Itz K p q).stop i H2/\R H2)\/((Itz K p q).go i H2/\∃ N:St->Hp->Prop,(∀ σ' H',N σ' H'->∃ m',m' < m/\W (i + 1) m' σ' H')/\∀ x H',(Itz K p q).yld i H2 x H'->g x σ2 H' fun σ3 H3=>tt σ3 H3 fun b H4 =>
   if b=true then te σ3 H4 fun y H5=>∃ xs,H5 D=some (.lst xs)/\xs.length < sizeLine/\N σ3 (upd H5 D (.lst (xs++[y]))) else N σ3 H4):=by
 refine ⟨fun i m σ H'=>m=xs.length - i/\i<=xs.length/\∃ zs,zs.length<=i/\Pv i zs σ H'/\H' D=some (.lst zs),⟨xs.length,by simp,AS _,[],Ai _,h0,zB⟩,?_⟩
 rintro i m σ2 H2 ⟨rfl,hi,zs,hy,pv,e⟩
 obtain ⟨q1,q2⟩:=hl i zs σ2 H2 pv
 by_cases hlt:i < xs.length
 ·refine .inr ⟨⟨xs,ys,xs[i],ys[i],q1,q2,by simp [hlt],by simp [hlen ▸ hlt]⟩,aAE Pv D i,fun σ' H' ⟨zs',l',p',e'⟩=>⟨xs.length - (i + 1),by lia,rfl,hlt,zs',l',p',e'⟩,fun v H' y=>?_⟩
  obtain ⟨T,x,y,rfl,hT,rfl,hxy⟩:=y
  obtain ⟨e1,e2⟩:=hxy xs ys q1 q2
  exact hs i T x y zs σ2 H2 e1 e2 hy pv e hT
 ·have ei:i=xs.length:=by lia
  subst ei
  exact .inl ⟨⟨xs,ys,q1,q2,.inl (Ai _)⟩,hd zs σ2 H2 pv e⟩
end
end L2
namespace L2
open PySem PySem.Spec PyProof.Rows PySem.Builtin.Str
section
variable {X:Cx}
end
section
variable {prog:Ap} {w:AT} {A:AR} {E:Value->Ad->Prop} {s:Ad}
end
section
variable {X:Cx} {pos p2:Pos}
end
end L2
namespace L2
open PySem PySem.Spec PyProof.Rows
section
variable {X:Cx}
end
section
variable {prog:Ap} {w:AT} {A:AR} {E:Value->Ad->Prop} {s:Ad}
end
theorem aBn:BR "enumerate"=some (.type "enumerate"):=by decide +kernel
section
variable {X:Cx} {es:List Expr} {kk:Nat} {tpos:Pos}
end
end L2
namespace HT
open PySem PySem.Spec PyProof.Rows
section
variable {prog:Ap} {w:AT} {A:AR} {E:Value->Ad->Prop} {s:Ad}
theorem getItem_tuple_whole {t sl:Addr} {items:Array Value} {vl vu:Value} {lo hi:Option Int} {Q:Value->Ad->Prop} (ht:NK s.heap t items) (hs:s.heap.IsSliceOf sl vl vu .none) (pl:Jn vl lo) (pu:Jn vu hi)
    (h1:sIx items.size 0 lo=0) (h2:sIx items.size items.size hi=items.size)
    (h:Q (.ref t) s):Ax (AC prog w) A (Gk (.ref t) (.ref sl)) Q E s:=by
  obtain ⟨os,hos,hcs,hds⟩:=id hs
  have hTs:s.TypeIs (.ref sl) "slice":=⟨os,hos,hcs⟩
  unfold Gk
  try with_reducible refine BE ?_
  first | refine Aa (Ab ?_) | skip
  refine Aa (HY ht.typeIs (by decide) ?_)
  refine Aa (Bl (name:=CW "__getitem__") ht.typeIs BB
    (AU BB ht.typeIs Hc ?_ (Hv _ _)))
  show Ax _ _ (Fp (.ref t) >>= _) _ _ s
  refine Aa (KM ht ?_)
  refine Aa (DN hTs ?_)
  rw [if_pos (by decide)]
  refine Aa (qg hs pl pu ?_)
  have hyes:(((sIx items.size 0 lo:Nat):Int) == 0 && (1:Int) == 1 && (sIx items.size items.size hi - sIx items.size 0 lo) == items.size)=true:=by
    rw [h1,h2]
    simp
  show Ax _ _ (if (((sIx items.size 0 lo:Nat):Int) == 0 && (1:Int) == 1 && (sIx items.size items.size hi - sIx items.size 0 lo) == items.size)=true then _ else _) _ _ s
  rw [if_pos hyes]
  unfold Builtin.Tuple.tupleIsExact
  refine Aa (Aa (DN ht.typeIs (Ab ?_)))
  show Ax _ _ (if (DD "tuple" == DD "tuple")=true then _ else _) _ _ s
  rw [if_pos (by decide)]
  refine Aa (Cp ?_)
  first
    | exact Ab ⟨_,rfl,Ab h⟩
    | exact Aa (Ab (Ab ⟨_,rfl,Ab h⟩))
end
end HT
namespace L2
open PySem PySem.Spec PyProof.Rows
variable {X:Cx}
theorem aEu:SlR X (fun x lo hi H Q=>∃ a xs,x=.ref a/\SqT X.K H a xs /\
  ((HT.sIx xs.length 0 lo=0/\HT.sIx xs.length xs.length hi=xs.length)->Q (.ref a) H)/\(¬ (HT.sIx xs.length 0 lo=0/\HT.sIx xs.length xs.length hi=xs.length)->∀ p,H p=none->Q (.ref p) (upd H p (.tup (cutV xs lo hi))))):=by
 intro pins s σ H x v vl vu lo hi sl Q I rx hs pl pu h
 obtain ⟨a,xs,rfl,hx,q1,q2⟩:=h
 by_cases hw:HT.sIx xs.length 0 lo=0/\HT.sIx xs.length xs.length hi=xs.length
 ·cases rx
  obtain ⟨its,r,ht,hz⟩:=I.tuple hx
  have hlen:its.toArray.size=xs.length:=by rw [AD]; exact r.length.symm
  refine ⟨"tuple",_,BB.lookup,ht.typeIs,?_⟩
  exact HT.getItem_tuple_whole ht hs pl pu (by rw [hlen]; exact hw.1) (by rw [hlen]; exact hw.2) ⟨.ref a,H,I,rfl,q1 hw⟩
 ·exact aJ2 pins s σ H _ v vl vu lo hi sl Q I rx hs pl pu ⟨a,xs,rfl,hx,hw,q2 hw⟩
end L2
namespace L2
open PySem PySem.Spec PyProof.Rows
section
variable {O:KeyOrd}
noncomputable def Up (f:Nat->O.α) (n:Nat):Prop:=∀ i j,i<=j->j < n->O.kle (f i) (f j)
noncomputable def Dn (f:Nat->O.α) (n:Nat):Prop:=∀ i j,i<=j->j < n->O.kle (f j) (f i)
theorem Up.one (f:Nat->O.α):Up f 1:=fun i j a b=>by
 have e:i=j:=by lia
 rw [e]; exact BZ _
theorem Dn.one (f:Nat->O.α):Dn f 1:=fun i j a b=>by
 have e:i=j:=by lia
 rw [e]; exact BZ _
theorem Up.snoc {f:Nat->O.α} {n:Nat} (u:Up f n) (h:O.kle (f (n - 1)) (f n)):Up f (n + 1):=fun i j a b=>by
 rcases Cv j n with c | c
 ·exact u i j a c
 have ej:j=n:=by lia
 rw [ej]
 rcases Cv i n with c2 | c2
 ·exact AO (u i (n - 1) (by lia) (by lia)) h
 ·have ei:i=n:=by lia
  rw [ei]; exact BZ _
theorem Dn.snoc {f:Nat->O.α} {n:Nat} (u:Dn f n) (h:O.kle (f n) (f (n - 1))):Dn f (n + 1):=fun i j a b=>by
 rcases Cv j n with c | c
 ·exact u i j a c
 have ej:j=n:=by lia
 rw [ej]
 rcases Cv i n with c2 | c2
 ·exact AO h (u i (n - 1) (by lia) (by lia))
 ·have ei:i=n:=by lia
  rw [ei]; exact BZ _
theorem Dn.congr {f g:Nat->O.α} {n:Nat} (u:Dn f n) (h:∀ i,g i=f i):Dn g n:=fun i j a b=>by rw [h,h]; exact u i j a b
end
section
variable {O:KeyOrd} (κ:Keyed->O.α) (d:O.α)
noncomputable def fk (xs:Array Keyed) (i:Nat):O.α:=match xs[i]? with
 | some p=>κ p
 | none=>d
theorem aEv {xs ys:Array Keyed} {i j:Nat} (h:xs[i]?=ys[j]?):fk κ d xs i=fk κ d ys j:=by unfold fk; rw [h]
theorem aB9 {xs:Array Keyed} {i j:Nat} (hj:j<=xs.size) (k:Nat):fk κ d (IP xs i j ((j - i) / 2)) k=if i<=k/\k < j then fk κ d xs (i + j - 1 - k) else fk κ d xs k:=by
 have e:=Kt (i:=i) hj k
 split at e
 ·rename_i c; rw [if_pos c]; exact aEv κ d e
 ·rename_i c; rw [if_neg c]; exact aEv κ d e
theorem aCZ {xs:Array Keyed} {i j:Nat} (hj:j<=xs.size) (h:∀ k,i<=k->k < j->fk κ d xs k=fk κ d xs (j - 1)) (k:Nat):fk κ d (IP xs i j ((j - i) / 2)) k=fk κ d xs k:=by
 rw [aB9 κ d hj]
 split
 ·rename_i c
  rw [h _ (by lia) (by lia),<- h k c.1 c.2]
 ·rfl
theorem aCa {xs:Array Keyed} {a b:Nat} (ha:a < xs.size) (hb:b<=a) (k:Nat):fk κ d (MR xs a b) k=if k=a - b then fk κ d xs a else if a - b < k/\k<=a then fk κ d xs (k - 1) else fk κ d xs k:=by
 have e:=getElem?_bubble ha b hb k
 split at e
 ·rename_i c; rw [if_pos c]; exact aEv κ d e
 ·rename_i c
  rw [if_neg c]
  split at e
  ·rename_i c2; rw [if_pos c2]; exact aEv κ d e
  ·rename_i c2; rw [if_neg c2]; exact aEv κ d e
end
structure Srt (M:HL) (A:AR) (E:Value->Ad->Prop) (s:Ad) {O:KeyOrd} (κ:Keyed->O.α) (d:O.α) (n:Nat) (Bs:SortSt->Prop):Prop where
 lt:∀ {st:SortSt} {i j:Nat} {Q:Option Bool->SortSt->Prop},Bs st->i < n->j < n->Q (some (O.blt (fk κ d (AF st) i) (fk κ d (AF st) j))) st->wpS M A E s (ltAt' i j) Q st
 put:∀ {st:SortSt} {xs:Array Keyed},Bs st->xs.Perm (AF st)->Bs (Mq st xs)
 sz:∀ {st:SortSt},Bs st->(AF st).size=n
section
variable {prog:Ap} {w:AT} {A:AR} {E:Value->Ad->Prop} {s:Ad} {O:KeyOrd} {κ:Keyed->O.α} {d:O.α} {n:Nat} {Bs:SortSt->Prop}
theorem aEw (S:Srt (AC prog w) A E s κ d n Bs) {st:SortSt} (hb:Bs st) {a m:Nat} (h1:1<=a) (ham:a<=m) (hmn:m<=n) (up:Up (fk κ d (AF st)) a) {Q:NP->SortSt->Prop}
  (q:∀ k,a<=k->k<=m->Up (fk κ d (AF st)) k->(k=m\/O.klt (fk κ d (AF st) k) (fk κ d (AF st) (k - 1)))->Q (none,k) st):wpS (AC prog w) A E s (ascLoop a m) Q st:=by
 unfold ascLoop
 refine BK (fun x c st'=>st'=st/\c=(none,x)/\Up (fk κ d (AF st)) x) (fun x c st' hx hm hI=>?_) (fun c st' hI=>?_) ⟨rfl,rfl,up⟩
 ·obtain ⟨e1,e2,u⟩:=hI
  subst e1 e2
  refine Ag (S.lt hb (show x < n by lia) (show x - 1 < n by lia) ?_)
  dsimp only
  cases e:O.blt (fk κ d (AF st') x) (fk κ d (AF st') (x - 1)) with
  | true=>rw [if_pos rfl]; exact Aj (q x hx (by lia) u (.inr e))
  | false=>rw [if_neg As]; exact Aj ⟨rfl,rfl,u.snoc e⟩
 ·obtain ⟨e1,e2,u⟩:=hI
  subst e1 e2
  rw [GD ham] at u ⊢
  exact q m ham (Ai m) u (.inl rfl)
theorem aDH (S:Srt (AC prog w) A E s κ d n Bs) {st:SortSt} (hb:Bs st) {a m:Nat} (h1:1<=a) (ham:a<=m) (hmn:m<=n) (dn:Dn (fk κ d (AF st)) a) {Q:Option Nat->SortSt->Prop}
  (q:∀ k st',Bs st'->1<=k->k<=m->Up (fk κ d (AF st')) k->Q (some k) st'):wpS (AC prog w) A E s (tail3 a m) Q st:=by
 have z:a<=(AF st).size:=by rw [S.sz hb]; lia
 unfold tail3
 refine Ag (DH ?_)
 have hb2:=S.put hb (ID (AF st) 0 a ((a - 0) / 2))
 have u2:Up (fk κ d (IP (AF st) 0 a ((a - 0) / 2))) a:=fun i j c1 c2=>by
  rw [aB9 κ d z,aB9 κ d z,if_pos ⟨AS _,by lia⟩,if_pos ⟨AS _,c2⟩]
  exact dn _ _ (by lia) (by lia)
 exact Ag (aEw S hb2 h1 ham hmn u2 fun k k1 k2 u _=>Aj (q k _ hb2 (by lia) k2 u))
theorem aGb (S:Srt (AC prog w) A E s κ d n Bs) {st:SortSt} (hb:Bs st) {a m:Nat} (h1:1<=a) (ham:a<=m) (hmn:m<=n) (dn:Dn (fk κ d (AF st)) a) {Q:Nr->SortSt->Prop}
  (q:∀ k e st',Bs st'->a<=k->k<=m->Dn (fk κ d (AF st')) k->e + 1<=k->(∀ i,k - (e + 1)<=i->i < k->fk κ d (AF st') i=fk κ d (AF st') (k - 1))->Q (none,k,e) st'):wpS (AC prog w) A E s (descLoop a m) Q st:=by
 unfold descLoop
 have one:∀ (xs:Array Keyed) (x:Nat),1<=x->∀ i,x - (0 + 1)<=i->i < x->fk κ d xs i=fk κ d xs (x - 1):=fun xs x hx i c1 c2=>by rw [show i=x - 1 by lia]
 refine BK (fun x c st'=>∃ e,c=(none,x,e)/\Bs st'/\Dn (fk κ d (AF st')) x/\e + 1<=x/\∀ i,x - (e + 1)<=i->i < x->fk κ d (AF st') i=fk κ d (AF st') (x - 1)) (fun x c st' hx hm hI=>?_) (fun c st' hI=>?_) ⟨0,rfl,hb,dn,h1,one _ a h1⟩
 ·obtain ⟨e,rfl,b,u,le,fl⟩:=hI
  have z:x<=(AF st').size:=by rw [S.sz b]; lia
  refine Ag (S.lt b (show x < n by lia) (show x - 1 < n by lia) ?_)
  dsimp only
  cases e1:O.blt (fk κ d (AF st') x) (fk κ d (AF st') (x - 1)) with
  | true =>
   rw [if_pos rfl]
   have u1:Dn (fk κ d (AF st')) (x + 1):=u.snoc (AM e1)
   by_cases c:e > 0
   ·rw [if_pos c]
    exact Ag (DH (Aj ⟨0,rfl,S.put b (ID _ _ _ _),u1.congr (aCZ κ d z fl),by lia,one _ (x + 1) (by lia)⟩))
   ·rw [if_neg c]
    exact Aj ⟨0,rfl,b,u1,by lia,one _ (x + 1) (by lia)⟩
  | false =>
   rw [if_neg As]
   refine Ag (S.lt b (show x - 1 < n by lia) (show x < n by lia) ?_)
   dsimp only
   cases e2:O.blt (fk κ d (AF st') (x - 1)) (fk κ d (AF st') x) with
   | true=>rw [if_pos rfl]; exact Aj (q x e st' b hx (by lia) u le fl)
   | false =>
    rw [if_neg As]
    have same:fk κ d (AF st') x=fk κ d (AF st') (x - 1):=FC e2 e1
    refine Aj ⟨e + 1,rfl,b,u.snoc (by rw [same]; exact BZ _),by lia,fun i c1 c2=>?_⟩
    rw [FU]
    rcases Cv i x with c3 | c3
    ·rw [same]; exact fl i (by lia) c3
    ·rw [show i=x by lia]
 ·obtain ⟨e,rfl,b,u,le,fl⟩:=hI
  rw [GD ham] at u le fl ⊢
  exact q m e st' b ham (Ai m) u le fl
theorem aA9 (S:Srt (AC prog w) A E s κ d n Bs) {st:SortSt} (hb:Bs st) {a m:Nat} (ham:a + 1<=m) (hmn:m<=n) (dn:Dn (fk κ d (AF st)) (a + 1)) {Q:Option Nat->SortSt->Prop}
  (q:∀ k st',Bs st'->1<=k->k<=m->Up (fk κ d (AF st')) k->Q (some k) st'):wpS (AC prog w) A E s (descPart a m) Q st:=by
 unfold descPart
 refine Ag (Gq (Cp ⟨rfl,?_⟩))
 refine Ag (aGb S hb (by lia) ham hmn dn fun k e st' b k1 k2 u le fl=>?_)
 have z:k<=(AF st').size:=by rw [S.sz b]; lia
 dsimp only
 by_cases c:e > 0
 ·rw [if_pos c]
  exact Ag (DH (aDH S (S.put b (ID _ _ _ _)) (by lia) k2 hmn (u.congr (aCZ κ d z fl)) q))
 ·rw [if_neg c]
  exact aDH S b (by lia) k2 hmn u q
theorem aEx (S:Srt (AC prog w) A E s κ d n Bs) {st:SortSt} (hb:Bs st) {m:Nat} (h1:1<=m) (hmn:m<=n) {Q:Option Nat->SortSt->Prop}
  (q:∀ k st',Bs st'->1<=k->k<=m->Up (fk κ d (AF st')) k->Q (some k) st'):wpS (AC prog w) A E s (countRun' 0 m) Q st:=by
 rw [countRun0_eq]
 refine Ag (aEw S hb (Ai 1) h1 hmn (Up.one _) fun k k1 k2 u ends=>?_)
 have z:k<=(AF st).size:=by rw [S.sz hb]; lia
 dsimp only
 by_cases c:k=m
 ·rw [if_pos (beq_iff_eq.mpr c)]
  exact Aj (q k st hb k1 k2 u)
 rw [if_neg (fun z=>c (beq_iff_eq.mp z))]
 have fall:=ends.resolve_left c
 by_cases c1:k > 1
 ·rw [if_pos c1]
  refine Ag (S.lt hb (show 0 < n by lia) (show k - 1 < n by lia) ?_)
  dsimp only
  cases e:O.blt (fk κ d (AF st) 0) (fk κ d (AF st) (k - 1)) with
  | true=>rw [if_pos rfl]; exact Aj (q k st hb k1 k2 u)
  | false =>
   rw [if_neg As]
   have flat:∀ i,0<=i->i < k->fk κ d (AF st) i=fk κ d (AF st) (k - 1):=fun i _ ci =>
    FC (u i (k - 1) (by lia) (by lia)) (AO e (u 0 i (AS _) ci))
   have dn:Dn (fk κ d (AF st)) (k + 1):=by
    refine Dn.snoc (fun i j a b=>?_) (AM fall)
    rw [flat i (AS _) (by lia),flat j (AS _) b]
    exact BZ _
   exact Ag (DH (aA9 S (S.put hb (ID _ _ _ _)) (by lia) hmn (dn.congr (aCZ κ d z flat)) q))
 ·rw [if_neg c1]
  have e1:k=1:=by lia
  subst e1
  exact aA9 S hb (by lia) hmn (Dn.snoc (Dn.one _) (AM fall)) q
theorem aDv (S:Srt (AC prog w) A E s κ d n Bs) {st:SortSt} (hb:Bs st) {a:Nat} (han:a<=n) (up:Up (fk κ d (AF st)) a) {Q:Bool->SortSt->Prop}
  (q:∀ st',Bs st'->Up (fk κ d (AF st')) n->Q true st'):wpS (AC prog w) A E s (binarySort' 0 n a) Q st:=by
 rw [binarySort'_eq]
 simp only [Cj]
 refine Ag (DL (BK (fun x c st'=>c=(none,())/\Bs st'/\Up (fk κ d (AF st')) (min x n)) (Q:=fun c st'=>c=(none,())/\Bs st'/\Up (fk κ d (AF st')) n) (fun x c st' hx hxn hI=>?_) (fun c st' hI=>?_) ⟨rfl,hb,?_⟩) ?_)
 ·obtain ⟨rfl,b,u⟩:=hI
  rw [Eo (by lia)] at u
  refine Ag (DL (BK (fun y c st2=>st2=st'/\∃ l r,c=(none,l,r)/\l<=r/\r<=x/\r - l<=x - y/\(∀ i,i < l->O.kle (fk κ d (AF st') i) (fk κ d (AF st') x))/\∀ i,r<=i->i < x->O.klt (fk κ d (AF st') x) (fk κ d (AF st') i))
   (Q:=fun c st2=>st2=st'/\∃ l r,c=(none,l,r)/\l<=x/\(∀ i,i < l->O.kle (fk κ d (AF st') i) (fk κ d (AF st') x))/\∀ i,l<=i->i < x->O.klt (fk κ d (AF st') x) (fk κ d (AF st') i))
   (fun y c st2 _ hy hJ=>?_) (fun c st2 hJ=>?_) ⟨rfl,0,x,rfl,AS _,Ai _,Ai _,(fun i hi=>absurd hi (Ep i)),fun i c1 c2=>absurd c2 (Nat.not_lt.mpr c1)⟩) ?_)
  ·obtain ⟨rfl,l,r,rfl,lr,rx,dist,lo,hi⟩:=hJ
   dsimp only
   by_cases c:l >= r
   ·rw [if_pos c]
    exact Aj ⟨rfl,l,r,rfl,by lia,lo,fun i c1 c2=>hi i (by lia) c2⟩
   rw [if_neg c]
   refine Ag (S.lt b (show x < n by lia) (show (l + r) / 2 < n by lia) ?_)
   dsimp only
   cases e:O.blt (fk κ d (AF st2) x) (fk κ d (AF st2) ((l + r) / 2)) with
   | true =>
    rw [if_pos rfl]
    exact Aj ⟨rfl,l,(l + r) / 2,rfl,by lia,by lia,by lia,lo,fun i c1 c2=>Ia e (u _ _ c1 c2)⟩
   | false =>
    rw [if_neg As]
    exact Aj ⟨rfl,(l + r) / 2 + 1,r,rfl,by lia,rx,by lia,fun i ci=>AO (u i ((l + r) / 2) (by lia) (by lia)) e,hi⟩
  ·obtain ⟨rfl,l,r,rfl,lr,rx,dist,lo,hi⟩:=hJ
   exact ⟨rfl,l,r,rfl,by lia,lo,fun i c1 c2=>hi i (by lia) c2⟩
  ·rintro c st2 ⟨rfl,l,r,rfl,lx,lo,hi⟩
   have z:x < (AF st2).size:=by rw [S.sz b]; exact hxn
   show wpS _ _ _ _ (moveDown' x l >>= fun _=>pure (Dz (none,()))) _ _
   rw [moveDown'_eq]
   refine Ag (Di (Aj ⟨rfl,S.put b (bubble_perm _ _ _),?_⟩))
   rw [Eo (by lia)]
   intro i j c1 c2
   show O.kle (fk κ d (MR (AF st2) x (x - l)) i) (fk κ d (MR (AF st2) x (x - l)) j)
   rw [aCa κ d z (Nat.sub_le _ _),aCa κ d z (Nat.sub_le _ _),show x - (x - l)=l by lia]
   by_cases a1:i=l
   ·rw [if_pos a1]
    by_cases a2:j=l
    ·rw [if_pos a2]; exact BZ _
    ·rw [if_neg a2,if_pos ⟨by lia,by lia⟩]; exact AM (hi _ (by lia) (by lia))
   ·rw [if_neg a1]
    by_cases a3:l < i/\i<=x
    ·rw [if_pos a3,if_neg (by lia),if_pos ⟨by lia,by lia⟩]
     exact u _ _ (by lia) (by lia)
    ·rw [if_neg a3]
     by_cases a2:j=l
     ·rw [if_pos a2]; exact lo i (by lia)
     ·rw [if_neg a2]
      by_cases a4:l < j/\j<=x
      ·rw [if_pos a4]; exact u _ _ (by lia) (by lia)
      ·rw [if_neg a4]; exact u _ _ c1 (by lia)
 ·obtain ⟨rfl,b,u⟩:=hI
  rw [show min (max (max a 1) n) n=n by lia] at u
  exact ⟨rfl,b,u⟩
 ·intro i j c1 c2
  rcases Cv j a with c | c
  ·exact up i j c1 c
  ·have e:i=j:=by lia
   rw [e]; exact BZ _
 ·rintro c st' ⟨rfl,b,u⟩
  exact Aj (q st' b u)
end
structure TB (kd:SortKind) (a0:Array Keyed) (st:SortSt):Prop where
 kind:Gs st=kd
 perm:(AF st).Perm a0
 pend:Bt st=#[]
 fail:FV st=none
section
variable {prog:Ap} {w:AT} {A:AR} {E:Value->Ad->Prop} {s:Ad} {O:KeyOrd} {κ:Keyed->O.α} {d:O.α} {kd:SortKind} {a0:Array Keyed}
theorem aGc (S:Srt (AC prog w) A E s κ d a0.size (TB kd a0)) (h2:2<=a0.size) (h64:a0.size < 64) {st:SortSt} (hb:TB kd a0 st) {Q:Unit->SortSt->Prop}
  (q:∀ st',(AF st').Perm a0->FV st'=none->Up (fk κ d (AF st')) a0.size->Q () st'):wpS (AC prog w) A E s sortRuns' Q st:=by
 have zst:=S.sz hb
 have mr:minRun' a0.size a0.size 0=a0.size:=by
  cases e:a0.size with
  | zero=>lia
  | succ k =>
   rw [minRun'_succ,if_pos (by lia)]
 rw [sortRuns'_eq]
 refine Ag (EZ ?_)
 dsimp only
 rw [zst,mr]
 have laid:∀ st':SortSt,TB kd a0 st'->Up (fk κ d (AF st')) a0.size->(AF (FL st' ((Bt st').push (0,a0.size,0)))).Perm a0/\FV (FL st' ((Bt st').push (0,a0.size,0)))=none/\Bt (FL st' ((Bt st').push (0,a0.size,0)))=#[(0,a0.size,0)]/\Up (fk κ d (AF (FL st' ((Bt st').push (0,a0.size,0))))) a0.size:=fun st' b u =>
  ⟨b.perm,b.fail,(by show (Bt st').push (0,a0.size,0)=_; rw [b.pend]; rfl),u⟩
 refine Ag (DL (BK (fun x c st'=>(x=0/\c=(none,0)/\TB kd a0 st')\/(c=(none,a0.size)/\(AF st').Perm a0/\FV st'=none/\Bt st'=#[(0,a0.size,0)]/\Up (fk κ d (AF st')) a0.size))
  (Q:=fun c st'=>c=(none,a0.size)/\(AF st').Perm a0/\FV st'=none/\Bt st'=#[(0,a0.size,0)]/\Up (fk κ d (AF st')) a0.size) (fun x c st' _ hx hI=>?_) (fun c st' hI=>?_) (.inl ⟨rfl,rfl,hb⟩)) ?_)
 ·rcases hI with ⟨rfl,rfl,b⟩ | ⟨rfl,r⟩
  ·dsimp only
   rw [if_neg (by lia)]
   simp only [Gu,LD,Cj]
   refine Ag (aEx S b (by lia) (Ai _) fun k st2 b2 k1 k2 u=>?_)
   dsimp only
   by_cases c:k < a0.size
   ·rw [if_pos c]
    refine Ag (Gq (Cp ⟨rfl,?_⟩))
    refine Ag (aDv S b2 k2 u fun st3 b3 u3=>?_)
    simp only [IE,Bz,if_false]
    refine Ag (EZ ?_)
    rw [show (Bt st3).back?=none by rw [b3.pend]; rfl]
    dsimp only
    exact Ag (Di (Aj (.inr ⟨rfl,laid st3 b3 u3⟩)))
   ·rw [if_neg c]
    have ek:k=a0.size:=by lia
    subst ek
    refine Ag (EZ ?_)
    rw [show (Bt st2).back?=none by rw [b2.pend]; rfl]
    dsimp only
    exact Ag (Di (Aj (.inr ⟨rfl,laid st2 b2 u⟩)))
  ·dsimp only
   rw [if_pos (Ai _)]
   exact Aj ⟨rfl,r⟩
 ·rcases hI with ⟨h,_⟩ | h
  ·exact absurd h (by lia)
  ·exact h
 ·rintro c st' ⟨rfl,r1,r2,r3,r4⟩
  dsimp only
  refine Ag (DL (BK (fun _ c st2=>st2=st'/\c=(none,())) (Q:=fun c st2=>st2=st'/\c=(none,())) (fun x c st2 _ _ hJ=>?_) (fun c st2 hJ=>hJ) ⟨rfl,rfl⟩) ?_)
  ·obtain ⟨rfl,rfl⟩:=hJ
   refine Ag (EZ ?_)
   rw [if_pos (by rw [r3]; exact Ai 1)]
   exact Aj ⟨rfl,rfl⟩
  ·rintro c st2 ⟨rfl,rfl⟩
   exact Aj (q _ r1 r2 r4)
end
noncomputable def lx:List Int->List Int->Bool
 | [],[]=>false
 | [],_ :: _=>true
 | _ :: _,[]=>false
 | a :: x,b :: y=>if a=b then lx x y else decide (a < b)
theorem jx (a b:Int) (x y:List Int):lx (a :: x) (b :: y)=if a=b then lx x y else decide (a < b):=by rw [lx]
theorem aBo:∀ x,lx x x=false
 | []=>rfl
 | a :: x=>by rw [jx,if_pos rfl]; exact aBo x
theorem aDI:∀ x y,lx x y=false->lx y x=false->x=y
 | [],[],_,_=>rfl
 | [],_ :: _,h,_=>by cases h
 | _ :: _,[],_,h=>by cases h
 | a :: x,b :: y,h1,h2=>by
  rw [jx] at h1 h2
  by_cases e:a=b
  ·subst e
   rw [if_pos rfl] at h1 h2
   rw [aDI x y h1 h2]
  ·rw [if_neg e] at h1
   rw [if_neg (CB e)] at h2
   have:=of_decide_eq_false h1
   have:=of_decide_eq_false h2
   lia
theorem aDJ:∀ x y z,lx x y=true->lx y z=true->lx x z=true
 | [],[],_,h,_=>by cases h
 | [],_ :: _,[],_,h=>by cases h
 | [],_ :: _,_ :: _,_,_=>rfl
 | _ :: _,[],_,h,_=>by cases h
 | _ :: _,_ :: _,[],_,h=>by cases h
 | a :: x,b :: y,c :: z,h1,h2=>by
  rw [jx] at h1 h2 ⊢
  by_cases e1:a=b
  ·subst e1
   rw [if_pos rfl] at h1
   by_cases e2:a=c
   ·subst e2
    rw [if_pos rfl] at h2 ⊢
    exact aDJ x y z h1 h2
   ·rw [if_neg e2] at h2 ⊢; exact h2
  ·rw [if_neg e1] at h1
   have k1:=of_decide_eq_true h1
   by_cases e2:b=c
   ·subst e2
    rw [if_neg e1]; exact h1
   ·rw [if_neg e2] at h2
    have k2:=of_decide_eq_true h2
    rw [if_neg (by lia)]
    exact decide_eq_true (by lia)
theorem aHO:∀ x y z,lx x z=true->lx x y=true\/lx y z=true
 | [],[],_,h=>.inr h
 | [],_ :: _,_,_=>.inl rfl
 | _ :: _,_,[],h=>by cases h
 | _ :: _,[],_ :: _,_=>.inr rfl
 | a :: x,b :: y,c :: z,h=>by
  rw [jx] at h ⊢
  rw [jx]
  by_cases e1:a=b
  ·subst e1
   rw [if_pos rfl]
   by_cases e2:a=c
   ·subst e2
    rw [if_pos rfl] at h ⊢
    exact aHO x y z h
   ·rw [if_neg e2] at h ⊢; exact .inr h
  ·rw [if_neg e1]
   by_cases e2:b=c
   ·subst e2
    rw [if_neg e1] at h; exact .inl h
   ·rw [if_neg e2]
    by_cases e3:a < b
    ·exact .inl (decide_eq_true e3)
    ·refine .inr (decide_eq_true ?_)
     by_cases e4:a=c
     ·subst e4; lia
     ·rw [if_neg e4] at h
      have:=of_decide_eq_true h
      lia
noncomputable def lxO:KeyOrd:=⟨List Int,lx,aBo,aDJ,fun a b c h=>aHO a b c h,aDI⟩
noncomputable abbrev aAT (b:Bool):SortKind:=(sortPriv% PySem.Builtin.KeyKind.tuples) b
theorem aEy (b:Bool) (x y:Value):keyLt' (aAT b) x y=(do
  let xs <- DY x
  let ys <- DY y
  for ((p,q),i) in (xs.toList.zip ys.toList).zipIdx do
   if !(<- eqBool p q) then return <- oneLt' (b && i == 0) p q
  return xs.size < ys.size):=rfl
section
variable {prog:Ap} {w:AT} {A:AR} {E:Value->Ad->Prop} {s:Ad}
noncomputable def lexO:List Int->List Int->Option Bool
 | a :: x,b :: y=>if a=b then lexO x y else some (decide (a < b))
 | _,_=>none
theorem aBp (a b:Int) (x y:List Int):lexO (a :: x) (b :: y)=if a=b then lexO x y else some (decide (a < b)):=by rw [lexO]
theorem aEz:∀ x y,lx x y=(lexO x y).getD (decide (x.length < y.length))
 | [],[]=>rfl
 | [],b :: y=>by
  have e:lexO [] (b :: y)=none:=by unfold lexO; rfl
  rw [e]
  exact (decide_eq_true (LG y.length)).symm
 | _ :: _,[]=>rfl
 | a :: x,b :: y=>by
  rw [jx,aBp]
  by_cases e:a=b
  ·rw [if_pos e,if_pos e,aEz x y,AY,AY]
   simp
  ·rw [if_neg e,if_neg e]; rfl
theorem aCb {l:Addr} {us:List Value} {Q:List Value->Ad->Prop} (hl:s.heap.IsTuple l us.toArray) (hz:us.length<=sizeLine)
  (q:∀ g,(∀ b o,s.heap.get? b=some o->g.get? b=some o)->g.objs.size=s.heap.objs.size + 1->Q us { s with heap:=g }):Ax (AC prog w) A (Ju (.ref l)) Q E s:=by
 obtain ⟨o,ho,hc,n,hd⟩:=id hl
 have new:(s.heap.push (BX "list" #[] 0)).get? s.heap.objs.size=some (BX "list" #[] 0):=Ak _ rfl
 have old:(s.heap.push (BX "list" #[] 0)).get? l=some o:=Ac _ ho
 unfold Ju
 refine Aa (HR (Cr Ft ?_))
 refine Aa (m:=Mr []) (Ed (Ab ⟨DF _ (by decide +kernel),Cr IQ ?_⟩))
 show Ax _ _ (DW (.ref s.heap.objs.size) (.ref l) (.ref s.heap.objs.size)) _ _ _
 unfold DW
 refine Aa (DN (T:="tuple") ⟨o,old,hc⟩ ?_)
 rw [if_pos (by rw [show (DD "tuple" == DD "tuple")=true from rfl]; simp)]
 refine Aa (Ez old hd (Aa (Ez new rfl ?_)))
 rw [if_neg (by simp)]
 refine Aa (Fi new rfl ?_ (AS _) (by show (#[]++us.toArray).size<=_; rw [AG]; show 0 + us.toArray.size<=_; rw [AD]; lia))
 refine Ab ?_
 show Ax (AC prog w) A (load s.heap.objs.size >>= fun o=>match o.data with
   | .seq xs _=>pure xs.toList
   | _=>IF "internal:collect") Q E { s with heap:=(s.heap.push (BX "list" #[] 0)).update s.heap.objs.size (Dr (·++us.toArray)) }
 refine Aa (GW (Jv new _) ?_)
 show Ax _ _ (pure ((#[]:Array Value)++us.toArray).toList) Q E _
 rw [show ((#[]:Array Value)++us.toArray).toList=us by simp]
 refine Ab (q _ (fun b o' e=>?_) (by rw [GE,BW]))
 have ne:b≠s.heap.objs.size:=AE (An e)
 exact (Bv _ _ (CB ne)).trans (Ac _ e)
theorem aF0 {α β:Type} {f:α->Sem β} {r:α->β}:∀ (l:List α),(∀ x∈l,∀ {Q:β->Ad->Prop},Q (r x) s->Ax (AC prog w) A (f x) Q E s)->∀ {Q:List β->Ad->Prop},Q (l.map r) s->Ax (AC prog w) A (l.mapM f) Q E s
 | [],_,Q,h=>by rw [List.mapM_nil]; exact Ab h
 | x :: t,hf,Q,h=>by
  rw [MD]
  exact Aa (hf x (AL ..) (Aa (aF0 t (fun y hy=>hf y (AI _ hy)) (Ab h))))
end
section
variable {X:Cx} {k:Nat} {f:Addr} {fd:BL} {ps:List Str} {sp:Sp}
end
section
variable {prog:Ap} {w:AT} {A:AR} {E:Value->Ad->Prop} {s:Ad}
open Classical in
end
section
variable {X:Cx} {k:Nat} {f:Addr} {fd:BL} {ps:List Str} {sp:Sp}
end
theorem qA:BR "sorted"=some (.builtin "sorted"):=by decide +kernel
section
variable {X:Cx} {k:Nat} {f:Addr} {fd:BL} {ps:List Str} {sp:Sp}
end
noncomputable def XAt (h:Heap) (e:Addr) (cls:Value) (dx:Option Addr) (tb:Value):Prop:=∃ oe vs,h.get? e=some oe/\oe.cls=cls/\oe.dict=dx/\oe.data=.fields vs/\vs[1]?=some tb
noncomputable def TbAt (h:Heap) (T:Addr) (fl:Value):Prop:=∃ oT ts,h.get? T=some oT/\oT.data=.fields ts/\ts[3]?=some fl
section
variable {M:HL} {A:AR} {E:Value->Ad->Prop} {s:Ad}
theorem aBA {h base:Heap} {l:List Env} (hl:h.FunFrames base l) {b:Addr} (hb:b∈frs l) {o:Obj} (ho:h.get? b=some o) (vs:Array Value):o.data≠.fields vs:=by
 obtain ⟨_,o2,h2,hn⟩:=hl.mem hb
 rw [ho] at h2
 cases h2
 exact hn vs
theorem aF1 {base:Heap} {env:Env} {outer:List Env} {L e:Addr} {oe:Obj} {vs:Array Value} {hd:Value} {hn:Bool} {Q:Unit->Ad->Prop} (hfr:A.frames=some (env :: outer)) (hl:s.heap.FunFrames base (env :: outer)) (hf:env.frame=some L)
  (he:s.heap.get? e=some oe) (hdat:oe.data=.fields vs) (hsz:1 < vs.size)
  (h:∀ h' T,(∀ b o,s.heap.get? b=some o->b ∉ frs (env :: outer)->b≠e->h'.get? b=some o)->(∀ b o,s.heap.get? b=some o->b≠e->∃ sl,h'.get? b=some { o with slots:=sl })->s.heap.objs.size<=T->T≠e->XAt h' e oe.cls oe.dict (.ref T)->TbAt h' T (CL L) ->
   Q () { s with heap:=h' }) :
  Ax M A (frameOf env >>= fun a=>entryPlaceOf L hn >>= fun pl=>Hh hd a .none (CL L) .none pl >>= fun b=>setField (.ref e) 1 b) Q E s:=by
 have ne:e ∉ frs (env :: outer):=fun z=>aBA hl z he vs hdat
 refine Aa (wpAny_frameOf_fun hfr hl hf fun h1 so=>Aa (wpAny_entryPlaceOf fun pl isP=>?_))
 unfold Hh Nt
 refine Aa (Bb ?_ (isP.sizeOk5 _ _ _ _ _))
 generalize hts:([hd,.ref L,.none,CL L,.none]++(if pl.isEmpty then CD 6 Cy else pl)).toArray=ts
 have h3:ts[3]?=some (CL L):=by rw [<- hts]; simp
 have ge:h1.get? e=some oe:=(so.2.1 e ne).trans he
 have lt:e < h1.objs.size:=An ge
 refine CF (Ac _ ge) hdat hsz ?_
 refine h _ h1.objs.size (fun b o hb nb nbe=>?_) (fun b o hb nbe=>?_) (Hz so.1.symm) (Ci lt) ?_ ?_
 ·rw [Bv _ _ (CB nbe)]
  exact Ac _ ((so.2.1 b nb).trans hb)
 ·obtain ⟨sl,q⟩:=so.2.2 b o hb
  exact ⟨sl,by rw [Bv _ _ (CB nbe)]; exact Ac _ q⟩
 ·have dm:=BF hdat (·.setIfInBounds 1 (Value.ref h1.objs.size))
  refine ⟨_,_,Ba _ (Ac _ ge) (Co dm),DP _ _,?_,dm,by simp [hsz]⟩
  obtain ⟨c,d,dt,sl⟩:=oe
  cases dt <;> first | rfl | cases hdat
 ·exact ⟨_,ts,by rw [Bv _ _ (AE lt)]; exact Ak _ rfl,rfl,h3⟩
end
structure Chg (fs ch:List Addr) (h h':Heap):Prop where
 keep:∀ b o,h.get? b=some o->b ∉ fs->b ∉ ch->h'.get? b=some o
 slot:∀ b o,h.get? b=some o->b ∉ ch->∃ sl,h'.get? b=some { o with slots:=sl }
structure Own (X:Cx) (H:Hp) (b:Addr):Prop where
 free:H b=none
 new:X.s₀.heap.objs.size<=b
 loc:b≠X.env.locals
 cel:∀ x c,X.env.cells.lookup x=some c->c≠b
 pin:∀ p∈X.pn,p.1≠b
section
variable {X:Cx} {σ:St} {H:Hp} {s:Ad}
theorem Inv.chg {ch:List Addr} {h':Heap} (I:Inv X [] σ H s) (c:Chg (frs X.stack) ch s.heap h') (hc:∀ b∈ch,Own X H b):Inv X [] σ H { s with heap:=h' }:=by
 refine I.call (g':=s.gens) (t':=s.toks) (d':=s.drawn) (ch:=ch) (H':=H) ⟨fun b o e _ nf nc=>c.keep b o e nf nc,fun b o e _ _ nc=>c.slot b o e nc,fun _ _ _ n _=>n,fun b o e nc=>let ⟨sl,q⟩:=c.slot b o e nc; ⟨_,q⟩,fun _ _ e=>e,fun _ _ _ e=>e,fun b ps e=>⟨#[],by rw [e]; simp⟩⟩ (fun b u e=>?_) I.bare fun b hb=>⟨.inr (hc b hb).new,(hc b hb).loc,(hc b hb).cel,fun p hp=>(hc b hb).pin p (by simpa using hp)⟩
 refine (I.hok b u e).stay (fun c' v hh q=>c.keep c' v q (fun z=>?_) fun z=>?_) (fun _ q=>q) fun _ _ q=>q
 ·have:=I.stkFree c' z
  rcases hh with rfl | hh
  ·rw [this] at e; cases e
  ·rw [this] at hh; cases hh
 ·have:=(hc c' z).free
  rcases hh with rfl | hh
  ·rw [this] at e; cases e
  ·rw [this] at hh; cases hh
theorem Inv.own_new (I:Inv X [] σ H s) {b:Addr} (hb:s.heap.objs.size<=b):Own X H b where
 free:=I.hok.fresh hb
 new:=At I.sz hb
 loc:=Ci (AB I.lt hb)
 cel:=fun x c e z=>by
  obtain ⟨v,q⟩:=I.cell x c e
  exact absurd (AB q.lt (by rw [z]; exact hb)) (BM _)
 pin:=fun p hp z=>absurd (AB (An (I.pin p (by simpa using hp)).1) (by rw [z]; exact hb)) (BM _)
end
noncomputable abbrev XS:=Value->Option Addr->St->Hp->Prop
noncomputable def FlOk (mk:Option Bool) (fl:Value) (L:Addr):Prop:=match mk with
 | none=>fl=.none\/fl=CL L
 | some true=>fl=CL L
 | some false=>fl=.none
theorem FlOk.any {mk:Option Bool} {fl:Value} {L:Addr} (h:FlOk mk fl L):fl=.none\/fl=CL L:=by
 match mk,h with
 | none,h=>exact h
 | some true,h=>exact .inr h
 | some false,h=>exact .inl h
noncomputable def XBe (X:Cx) (E:XS) (tb:Bool) (mk:Option Bool) (ev:Value) (s:Ad):Prop:=∃ e cls dx σ H,ev=.ref e/\Inv X [] σ H s/\Own X H e /\
 ((tb=false/\XAt s.heap e cls dx .none)\/∃ T fl,XAt s.heap e cls dx (.ref T)/\Own X H T/\T≠e/\TbAt s.heap T fl/\FlOk mk fl X.env.locals)/\E cls dx σ H
noncomputable abbrev XIn (X:Cx) (E:XS):Value->Ad->Prop:=XBe X E false none
section
variable {X:Cx} {E:XS} {M:HL} {A:AR} {F:Value->Ad->Prop} {s:Ad} {ev:Value} {tb:Bool} {mk:Option Bool}
theorem aHP {Q:Unit->Ad->Prop} (hA:A.frames=some X.stack) (hst:X.stack=X.env :: X.outer) (hf:X.env.frame=some X.env.locals) (h:XBe X E tb mk ev s) (hQ:∀ s',XBe X E true (some true) ev s'->Q () s'):Ax M A (Jr ev X.env) Q F s:=by
 obtain ⟨e,cls,dx,σ,H,rfl,I,oe,ht,hE⟩:=h
 have fin:∀ {s1:Ad} {hd:Value} {ob:Obj} {vs:Array Value},Inv X [] σ H s1->s1.heap.get? e=some ob->ob.cls=cls->ob.dict=dx->ob.data=.fields vs->1 < vs.size ->
   Ax M A (frameOf X.env >>= fun a=>entryPlaceOf X.env.locals (hd != .none) >>= fun pl=>Hh hd a .none (CL X.env.locals) .none pl >>= fun b=>setField (.ref e) 1 b) Q F s1:=by
  intro s1 hd ob vs I1 ge hcls hdx hdat hsz
  have fr:=I1.stack
  rw [hst] at fr
  refine aF1 (hA.trans (by rw [hst])) fr hf ge hdat hsz fun h' T k1 k2 hT ne xa ta=>?_
  rw [hcls,hdx] at xa
  have J:=I1.chg (ch:=[e]) (h':=h') ⟨fun b o q nf nc=>k1 b o q (by rw [<- hst]; exact nf) (by simpa using nc),fun b o q nc=>k2 b o q (by simpa using nc)⟩ fun b hb=>by
   have:b=e:=by simpa using hb
   subst this; exact oe
  exact hQ _ ⟨e,cls,dx,σ,H,rfl,J,oe,.inr ⟨T,_,xa,I1.own_new hT,ne,ta,rfl⟩,hE⟩
 unfold Jr
 simp only [hf]
 rcases ht with ⟨_,ob,vs,ge,hcls,hdx,hdat,h1⟩ | ⟨T,fl,⟨ob,vs,ge,hcls,hdx,hdat,h1⟩,oT,ne,⟨ot,ts,gT,dT,h3⟩,hfl⟩
 ·refine Aa (Cd ge hdat h1 ?_)
  rw [if_neg (by decide)]
  exact fin I ge hcls hdx hdat (Dm.mp h1).1
 ·refine Aa (Cd ge hdat h1 ?_)
  rw [if_pos (show (Value.ref T != Cy)=true by simp)]
  refine Aa (Cd gT dT h3 ?_)
  rcases hfl.any with rfl | rfl
  ·rw [if_neg (show ¬ ((Cy == CL X.env.locals)=true) by simp [CL])]
   refine Aa (CF gT dT (Dm.mp h3).1 ?_)
   have J:=I.chg (ch:=[T]) (h':=s.heap.update T (EC (·.setIfInBounds 3 Cy))) ⟨fun b o q _ nc=>(Bv _ _ (fun z=>nc (by simp [z]))).trans q,fun b o q nc=>⟨o.slots,(Bv _ _ (fun z=>nc (by simp [z]))).trans q⟩⟩ fun b hb=>by
    have:b=T:=by simpa using hb
    subst this; exact oT
   exact fin J ((Bv _ _ ne).trans ge) hcls hdx hdat (Dm.mp h1).1
  ·rw [if_pos (show (CL X.env.locals == CL X.env.locals)=true by first | exact beq_self_eq_true _ | simp)]
   exact Ab (hQ s ⟨e,cls,dx,σ,H,rfl,I,oe,.inr ⟨T,_,⟨ob,vs,ge,hcls,hdx,hdat,h1⟩,oT,ne,⟨ot,ts,gT,dT,h3⟩,rfl⟩,hE⟩)
theorem aBB {Q:Unit->Ad->Prop} {fr:Option Addr} (hfr:fr=none\/fr=some X.env.locals) (h:XBe X E true mk ev s) (hQ:∀ s',XBe X E true (some fr.isSome) ev s'->Q () s'):Ax M A (setFlight ev fr) Q F s:=by
 obtain ⟨e,cls,dx,σ,H,rfl,I,oe,ht,hE⟩:=h
 rcases ht with ⟨z,_⟩ | ⟨T,fl,⟨ob,vs,ge,hcls,hdx,hdat,h1⟩,oT,ne,⟨ot,ts,gT,dT,h3⟩,hfl⟩
 ·cases z
 ·have h3s:=(Dm.mp h3).1
  unfold setFlight
  refine Aa (Cd ge hdat h1 ?_)
  rw [if_pos (show (Value.ref T != Cy)=true by simp)]
  refine CF gT dT h3s (hQ _ ?_)
  generalize hx:(fr.elim Cy fun f=>CL f)=x
  have J:=I.chg (ch:=[T]) (h':=s.heap.update T (EC (·.setIfInBounds 3 x))) ⟨fun b o q _ nc=>(Bv _ _ (fun z=>nc (by simp [z]))).trans q,fun b o q nc=>⟨o.slots,(Bv _ _ (fun z=>nc (by simp [z]))).trans q⟩⟩ fun b hb=>by
   have:b=T:=by simpa using hb
   subst this; exact oT
  have dm:=BF dT (·.setIfInBounds 3 x)
  refine ⟨e,cls,dx,σ,H,rfl,J,oe,.inr ⟨T,x,⟨ob,vs,(Bv _ _ ne).trans ge,hcls,hdx,hdat,h1⟩,oT,ne,⟨_,_,Ba _ gT (Co dm),dm,by simp [h3s]⟩,?_⟩,hE⟩
  rcases hfr with rfl | rfl
  ·exact hx.symm
  ·exact hx.symm
theorem XBe.frames (h:XBe X E tb mk ev s):X.A.frames=some X.stack:=by
 obtain ⟨_,_,_,_,_,_,I,_⟩:=h
 exact I.ok.frames
end
noncomputable def CXF (P:Ap) (w:AT):CXT:=fun l H s E ev s'=>∃ e cls dx H' T,ev=.ref e/\s'.os=s.os/\Iw s'.gens/\Un (frs l) [] H H' s.heap s'.heap/\HOk P w H' s'.heap/\H' e=none/\s.heap.objs.size<=e /\
 XAt s'.heap e cls dx (.ref T)/\T≠e/\H' T=none/\s.heap.objs.size<=T/\TbAt s'.heap T .none/\E cls dx H'
section
variable {X:Cx} {E:XS}
theorem aI1 {EK:XK} {M:HL} {A:AR} {F:Value->Ad->Prop} {s:Ad} {ev:Value} {tb:Bool} {mk:Option Bool} (hA:A.frames=some X.stack) (hst:X.stack=X.env :: X.outer) (hf:X.env.frame=some X.env.locals) (hex:X.ex=[])
  (h:XBe X (fun cls dx _ H=>EK cls dx H) tb mk ev s):Ax M A (leaving X.env ev) (fun _ s''=>CXF X.prog X.w X.outer X.H₀ X.s₀ EK ev s'') F s:=by
 unfold leaving
 refine Aa (aHP hA hst hf h fun s1 q=>aBB (.inl rfl) q fun s2 q2=>?_)
 obtain ⟨e,cls,dx,σ,H,rfl,I,oe,ht,hE⟩:=q2
 rcases ht with ⟨z,_⟩ | ⟨T,fl,xa,oT,ne,ta,hfl⟩
 ·cases z
 ·have e1:fl=.none:=hfl
  subst e1
  have b:=I.base
  rw [hex] at b
  exact ⟨e,cls,dx,H,T,rfl,I.os,I.bare,b,I.hok,oe.free,oe.new,xa,ne,oT.free,oT.new,ta,hE⟩
theorem aHQ {EK:XK} {pins:List (Addr×Obj)} {σ:St} {H:Hp} {s s':Ad} {ev:Value} (I:Inv X pins σ H s) (h:CXF X.prog X.w X.stack H s EK ev s') (hE:∀ cls dx H',EK cls dx H'->E cls dx σ H'):XIn X E ev s':=by
 obtain ⟨e,cls,dx,H',T,rfl,os,ba,un,hok,he,le,xa,ne,hT,lT,ta,q⟩:=h
 have J:=I.call' os un hok ba (fun b z=>absurd z (by simp))
 have J0:Inv X [] σ H' s':=J.pins_of fun p hp=>absurd hp (by simp)
 have own:∀ b,H' b=none->s.heap.objs.size<=b->Own X H' b:=fun b hb lb=>⟨hb,At I.sz lb,Ci (AB I.lt lb),fun x c e z=>by
  obtain ⟨v,q⟩:=I.cell x c e
  exact absurd (AB q.lt (by rw [z]; exact lb)) (BM _),fun p hp z=>absurd (AB (An (I.pin p (CJ _ hp)).1) (by rw [z]; exact lb)) (BM _)⟩
 exact ⟨e,cls,dx,σ,H',rfl,J0,own e he le,.inr ⟨T,.none,xa,own T hT lT,ne,ta,.inl rfl⟩,hE _ _ _ q⟩
end
noncomputable abbrev Cx.raises (X:Cx) (E:XS):Cx:=X.wish (XIn X E)
theorem PSs.wish {X:Cx} {f:Value->Ad->Prop} {st:List Stmt} {t:TS} (h:PSs (X.wish f) st t) (hf:∀ e s,f e s->X.xe e s):PSs X st t:=fun pins s σ H D I hw =>
 BJ (h pins s σ H D (I.wish _) hw) (fun _ _ q=>q.unwish) hf
section
variable {X:Cx} {E:XS} {k:Nat} {sp:Sp} {x:Str} {p pos:Pos} {e:Expr} {es:List Expr} {t:TA}
noncomputable def aJA (sp:Sp) (E:XS) (t:TA):TE:=fun σ H Q=>t σ H fun vs H1=>sp vs H1 Q fun cls dx H'=>E cls dx σ H'
theorem aI2 (G:Def X.prog X.w X.K X.mg X.base (CXF X.prog X.w) k x sp) (hr:Room k X.A) (ha:PA (X.raises E) (e :: es) t) (hg:Gl (X.raises E) x:=by rfl) (hdb:(x == ("__debug__":Str))=false:=by decide)
  (he:Bk (e :: es) X.env=(false,eval e X.env) :: Bk es X.env:=by rfl) (hpl:(FJ pos (Bk es X.env)).any (·.1)=false:=by rfl) :
  PE (X.raises E) (.Call (.Name x p) (e :: es) [] pos) (aJA sp E t):=by
 obtain ⟨f,fd,ps,F,b,c,d⟩:=G.ex
 intro pins s σ H Q I h
 refine DE (aAN I hg c (FR (h₀:=X.base) I.ok.mod.kin d
  (thn (ha pos pins s σ H _ I h) fun us s1 ⟨vs,H1,I1,r,q⟩=>⟨I1.kIn,?_⟩) he hpl) hdb)
 have hl:us.length=ps.length:=by rw [<- r.length]; exact F.len _ _ _ _ q
 have bd:=b s1 us I1.kIn (by simpa using hl)
 rw [BD] at bd
 refine HW (Ey (F.run X.A X.stack s1 H1 ⟨us,[]⟩ us vs Q (fun cls dx H'=>E cls dx σ H') hr I1.unwish.env0 bd r q) fun r s' hq=>?_)
 cases r with
 | error ev=>exact aHQ I1.unwish hq fun _ _ _ z=>z
 | ok fl =>
  cases fl with
  | ret u=>exact (I1.after hq:EP (X.raises E) pins σ Q u s')
  | _=>exact EJ hq
end
section
variable {P:Ap} {w:AT} {K:Ah} {mg:Str->Option Value} {base:Heap}
theorem Fun.okX {x qual:Str} {st:Stmt} {f:Addr} {fd:BL} {N ps:List Str} {k:Nat} {sp:Sp} (F:Fun K x qual st f fd) (S:FnScope N ps (zF st)) (len:∀ vs H Q E,sp vs H Q E->vs.length=ps.length)
  (hbody:∀ (cdv:Value) (A:AR) (outer:List Env) (s:Ad) (H:Hp) (vs:List V) (Q:VK) (E:XK),Room k (A.deeper (Kc qual (zF st) s.heap.objs.size f cdv))->sp vs H Q E ->
   ∃ t,PSs ((cxOf (CXF P w) P w K mg base N qual (zF st) f cdv A outer s H E).raises fun cls dx _ H'=>E cls dx H') (zV st) t/\t { nx:=fun _ H'=>Q .non H',rt:=Q } (aAj N vs) H):FnOk P w K mg base (CXF P w) (k + 1) f fd ps sp:=by
 obtain ⟨oc,od,kV,doc,pm,an,cdv,ct,osl,rfl,lk,hcd⟩:=F.ex
 refine aJ0 lk hcd S len fun A outer s H vs Q E hr hsp=>?_
 obtain ⟨t,ht,q⟩:=hbody cdv A outer s H vs Q E hr hsp
 exact ⟨t,ht.wish fun ev s' z=>aI1 z.frames rfl rfl rfl z,q⟩
end
section
variable {X:Cx} {pins:List (Addr×Obj)} {σ:St} {H:Hp} {s:Ad}
noncomputable abbrev Cx.pinTo (X:Cx) (ps:List (Addr×Obj)):Cx:={ X with pn:=X.pn++ps }
noncomputable abbrev Cx.suite (X:Cx) (ev:Value) (ps:List (Addr×Obj)):Cx:={ X with pn:=X.pn++ps,A:=X.A.mark (some ev),calm:=false,xe:=fun _ _=>False }
theorem Inv.pinTo (I:Inv X pins σ H s):Inv (X.pinTo pins) [] σ H s:=by
 obtain ⟨ok,a1,a2,a3,a4,a5,a6,a7,a8,a9,a10⟩:=I
 exact ⟨⟨ok.mod,ok.kind,ok.glob,ok.blt,ok.above,ok.inj,ok.has,ok.cab,ok.hd,ok.frames,ok.stk,ok.exf,ok.bs,ok.bsz,ok.noex,ok.exfs,ok.funs,ok.frf⟩,a1,a2,a3,a4,a5,a6,a7,fun p hp=>a8 p (by simpa using hp),a9,a10⟩
theorem Inv.unpinTo (I:Inv (X.pinTo pins) [] σ H s):Inv X pins σ H s:=by
 obtain ⟨ok,a1,a2,a3,a4,a5,a6,a7,a8,a9,a10⟩:=I
 exact ⟨⟨ok.mod,ok.kind,ok.glob,ok.blt,ok.above,ok.inj,ok.has,ok.cab,ok.hd,ok.frames,ok.stk,ok.exf,ok.bs,ok.bsz,ok.noex,ok.exfs,ok.funs,ok.frf⟩,a1,a2,a3,a4,a5,a6,a7,fun p hp=>a8 p (by simpa using hp),a9,a10⟩
theorem Inv.insuite {ev:Value} {ps:List (Addr×Obj)} (I:Inv (X.pinTo pins) ps σ H s):Inv (X.suite ev pins) ps σ H s:=by
 obtain ⟨ok,a1,a2,a3,a4,a5,a6,a7,a8,a9,a10⟩:=I
 exact ⟨⟨ok.mod,ok.kind,ok.glob,ok.blt,ok.above,ok.inj,ok.has,ok.cab,(fun z=>by cases z),ok.frames,ok.stk,ok.exf,ok.bs,ok.bsz,ok.noex,ok.exfs,ok.funs,ok.frf⟩,a1,a2,a3,a4,a5,a6,a7,a8,a9,a10⟩
theorem Inv.outsuite {ev:Value} {ps:List (Addr×Obj)} (I:Inv (X.suite ev pins) ps σ H s) (h0:X.Ok):Inv (X.pinTo pins) ps σ H s:=by
 obtain ⟨ok,a1,a2,a3,a4,a5,a6,a7,a8,a9,a10⟩:=I
 exact ⟨⟨ok.mod,ok.kind,ok.glob,ok.blt,ok.above,ok.inj,ok.has,ok.cab,h0.hd,ok.frames,ok.stk,ok.exf,ok.bs,ok.bsz,ok.noex,ok.exfs,ok.funs,ok.frf⟩,a1,a2,a3,a4,a5,a6,a7,a8,a9,a10⟩
end
noncomputable def xO (fr:Bool) (cls:Value) (dx:Option Addr) (e:Addr):HO:=.ext fun h=>∃ oe vs,h.get? e=some oe/\oe.cls=cls/\oe.dict=dx/\oe.data=.fields vs/\(fr=true->∃ a0,vs=#[a0,.none,.none,.none,.bool false,.none])
theorem aJB {P:Ap} {w:AT} {H:Hp} {h:Heap} {fr:Bool} {cls:Value} {dx:Option Addr} {e:Addr} {oe:Obj} {vs:Array Value} (h1:h.get? e=some oe) (h2:oe.cls=cls) (h3:oe.dict=dx) (h4:oe.data=.fields vs)
  (h5:fr=true->∃ a0,vs=#[a0,.none,.none,.none,.bool false,.none]):ObjOk P w H h e (xO fr cls dx e):=⟨⟨oe,vs,h1,h2,h3,h4,h5⟩,⟨oe,h1⟩,fun _ _ ⟨o,vs,y1,y2⟩ k=>⟨o,vs,k o y1,y2⟩⟩
noncomputable def XCls (K:Ah) (C:Addr) (bm:List Value):Prop:=bm.contains (.type "BaseException")=true/\∃ nm q N bs hdct sn sub ab col dd k0 k1 k2 k3 k5 newId,K.lookup C=some (Hi nm q C N bs bm hdct sn sub ab col dd k0 k1 k2 k3 k5 newId)
section
variable {X:Cx} {pins:List (Addr×Obj)} {σ:St} {H:Hp} {s:Ad}
end
section
variable {M:HL} {A:AR} {E:Value->Ad->Prop}
theorem aCc {h:Heap} {g:Array GP} {d:MX} {t:Nat} {os:OsState} {e C W:Addr} {oe:Obj} {bm bw:List Value} {Q:Bool->Ad->Prop} {nm q nm' q':Str} {N N':Addr} {bs bs':List Value} {hdct hdct':Bool} {sn sn':List Str} {sub sub':List Value} {ab ab':Bool} {col col':Option Bool} {dd dd':Option Addr} {k0 k1 k2 k3 k5 l0 l1 l2 l3 l5:Option Value} {newId newId':String}
    (hC:h.get? C=some (Hi nm q C N bs bm hdct sn sub ab col dd k0 k1 k2 k3 k5 newId)) (hW:h.get? W=some (Hi nm' q' W N' bs' bw hdct' sn' sub' ab' col' dd' l0 l1 l2 l3 l5 newId'))
    (he:h.get? e=some oe) (hcls:oe.cls=.ref C) (hb:bw.contains (.type "BaseException")=true) (hm:(Value.ref C :: bm).contains (.ref W)=true) (hq:Q true ⟨h,g,d,t,os⟩):Ax M A (excMatches (.ref e) (.ref W)) Q E ⟨h,g,d,t,os⟩:=by
  have hwB:(Value.ref W :: bw).contains (.type "BaseException")=true:=by rw [HB,hb,LH]
  have nt:=tc_notTuple
  unfold excMatches
  repeat (first | (with_reducible refine DQ he ?_; rw [hcls]) | with_reducible refine DQ hW ?_
                | (with_reducible refine FD hW ?_; rw [hwB]) | (with_reducible refine FD hC ?_; rw [hm]) | wp_step)
  exact hq
end
section
variable {X:Cx} {i:Nat} {n x:Str} {C:Addr} {bw:List Value} {body suite:List Stmt} {b0:Stmt} {np hp pos:Pos} {tb:XS->TS} {ts:TS}
theorem SP.unpin {E:XS} {pins:List (Addr×Obj)} {D:Ends} {f:Flow} {s:Ad} (h:SP ((X.pinTo pins).raises E) [] D f s):SP X pins D f s:=by
 match f,h with
 | .next,⟨σ,H,I,q⟩=>exact ⟨σ,H,I.unwish.unpinTo,q⟩
 | .brk,⟨σ,H,I,q⟩=>exact ⟨σ,H,I.unwish.unpinTo,q⟩
 | .cont,⟨σ,H,I,q⟩=>exact ⟨σ,H,I.unwish.unpinTo,q⟩
 | .ret u,⟨v,σ,H,I,r,q⟩=>exact ⟨v,σ,H,I.unwish.unpinTo,r,q⟩
end
noncomputable abbrev vMro:List Value:=[.type "ValueError",.type "Exception",.type "BaseException",.type "object"]
theorem aBC {K:Ah} {bB:List Value} {v:Value} (hv:bB.contains v=true):∀ {l:List Value},EM K bB l=true->l.contains v=true
 | [],e=>by
  have z:bB=[]:=beq_iff_eq.mp e
  rw [z] at hv
  exact hv
 | u :: r,e=>by
  unfold EM at e
  rcases Ku.mp e with q | q
  ·rw [beq_iff_eq.mp q]; exact hv
  ·split at q
   ·split at q
    ·simp only [Bq] at q
     rw [HB,aBC hv q.2,LH]
    ·cases q
   ·cases q
theorem aBq {K:Ah} (self:Value):∀ {l:List Value},EM K vMro l=true->refuseLoop self "__setattr__" l=pure ()
 | [],e=>by cases beq_iff_eq.mp e
 | u :: r,e=>by
  unfold EM at e
  rcases Ku.mp e with q | q
  ·rw [beq_iff_eq.mp q]; exact PySem.F.store_ValueError.passes self
  ·split at q
   ·split at q
    ·simp only [Bq] at q
     rw [refuseLoop_ref]
     exact aBq self q.2
    ·cases q
   ·cases q
structure XC (K:Ah) (C:Addr) (bm:List Value):Prop where
 lk:∃ nm q N bs sn sub ab col dd k0 k1 k2 k3 k5,K.lookup C=some (Hi nm q C N bs bm true sn sub ab col dd k0 k1 k2 k3 k5 "ValueError.__new__")
 tl:EM K vMro bm=true
 kp:AQ K (.ref C)=true
 ga:BO K (.ref C) "__getattribute__"=some (some (.builtin "BaseException.__getattribute__"))
 gh:BO K (.ref C) "__getattr__"=some none
 gc:BO K (.ref C) "__class__"=some (some (.builtin "object.__class__"))
 sa:BO K (.ref C) "__setattr__"=some (some (.builtin "object.__setattr__"))
section
variable {K:Ah} {C W:Addr} {bm bw:List Value}
theorem XC.cls (c:XC K C bm):∃ cd,Nc K C=some cd/\cd.mro=.ref C :: bm/\cd.hasDict=true:=by
 obtain ⟨nm,q,N,bs,sn,sub,ab,col,dd,k0,k1,k2,k3,k5,lk⟩:=c.lk
 exact ⟨_,by unfold Nc; rw [lk],rfl,rfl⟩
theorem XC.mro (c:XC K C bm) (v:Value):KI K C v=some ((Value.ref C :: bm).contains v):=by
 obtain ⟨cd,h1,h2,_⟩:=c.cls
 unfold KI
 rw [h1,Option.bind_some,h2,if_neg (by simp)]
theorem XC.has (c:XC K C bm) {v:Value} (hv:vMro.contains v=true):(Value.ref C :: bm).contains v=true:=by rw [HB,aBC hv c.tl,LH]
theorem XC.xcls (c:XC K C bm):XCls K C bm:=by
 obtain ⟨nm,q,N,bs,sn,sub,ab,col,dd,k0,k1,k2,k3,k5,lk⟩:=c.lk
 exact ⟨aBC (by decide) c.tl,_,_,_,_,_,_,_,_,_,_,_,_,_,_,_,_,lk⟩
theorem XC.tail (c:XC K C bm) {h:Heap} (X:K.In h):OwnTail h vMro bm:=PySem.W.tail_of_in X c.tl
end
noncomputable abbrev xTup (us:List Value):Obj:={ cls:=.type "tuple",data:=.seq us.toArray }
noncomputable abbrev xNew (C t:Addr):Obj:={ cls:=.ref C,data:=.fields #[.ref t,.none,.none,.none,.bool false,.none] }
noncomputable abbrev xHp (h:Heap) (C:Addr) (us:List Value):Heap:=(h.push (xTup us)).push (xNew C h.objs.size)
section
variable {prog:Ap} {w:AT} {A:AR} {E:Value->Ad->Prop} {h:Heap} {g:Array GP} {d:MX} {t:Nat} {os:OsState} {K:Ah} {C:Addr} {bm us:List Value}
theorem aAJ {b:Addr} {o:Obj} (e:h.get? b=some o):(xHp h C us).get? b=some o:=Ac _ (Ac _ e)
theorem aF2:(xHp h C us).get? (h.objs.size + 1)=some (xNew C h.objs.size):=by
 have:=Ak (h.push (xTup us)) (o:=xNew C h.objs.size) rfl
 rwa [BW] at this
theorem aJC {init:Value} {Q:Fin->Ad->Prop} (X:K.In h) (c:XC K C bm) (hu:us.length<=sizeLine) (hi:FW (AC prog w) h (HZ (.ref C) "__init__") (some init))
    (hb:∀ self,FW (AC prog w) h (bindSpecial init self) (init,[self]))
    (go:Ax (AC prog w) A (call init (.ref (h.objs.size + 1) :: us)) (fun r s'=>r=.none/\Q (.done (.ret (.ref (h.objs.size + 1)))) s') E ⟨xHp h C us,g,d,t,os⟩) :
    Ax (AC prog w) A (Builtin.«type.__call__» ⟨.ref C :: us,[]⟩) Q E ⟨h,g,d,t,os⟩:=by
  have F:=PySem.F.excBase_ValueError
  have T:=c.tail X
  obtain ⟨nm,qn,N,bs,sn,sub,ab,col,dd,k0,k1,k2,k3,k5,lk⟩:=c.lk
  have cC:=X _ _ lk
  repeat (first
    | with_reducible refine DQ cC ?_
    | with_reducible refine wpAny_madeBy_exc cC ?_
    | wp_step)
  refine codeAny_call_builtin_code (DF _ F.quiet) (wpAny_check_new_subT F T cC ?_)
  refine codeAny_exc_new_subT F T cC ?_ hu
  show Ax _ _ _ _ _ _
  have c2:=aAJ (C:=C) (us:=us) cC
  have n2:(xHp h C us).get? (h.objs.size + 1)=some (xNew C h.objs.size):=aF2
  have self:(Value.ref C :: bm).contains (.ref C)=true:=by simp
  unfold MS
  repeat (first
    | with_reducible refine DQ n2 ?_
    | (with_reducible refine FD c2 ?_; rw [self])
    | wp_step)
  show Ax _ _ (HZ (.ref C) _) _ _ _
  refine (hi.keeps fun _ _=>aAJ).at ?_
  refine BE (Aa (((hb _).keeps fun _ _=>aAJ).at ?_))
  refine Aa (BJ go (fun r s' z=>?_) fun _ _ z=>z)
  obtain ⟨rfl,z⟩:=z
  wp_walk
  exact z
theorem aJD {init:Value} {Q:Value->Ad->Prop} (X:K.In h) (c:XC K C bm) (hu:us.length<=sizeLine) (hi:FW (AC prog w) h (HZ (.ref C) "__init__") (some init))
    (hb:∀ self,FW (AC prog w) h (bindSpecial init self) (init,[self]))
    (go:Ax (AC prog w) (A.under (.builtin "type.__call__" ⟨.ref C :: us,[]⟩)) (call init (.ref (h.objs.size + 1) :: us)) (fun r s'=>r=.none/\Q (.ref (h.objs.size + 1)) s') E ⟨xHp h C us,g,d,t,os⟩) :
    Ax (AC prog w) A (call (.ref C) us) Q E ⟨h,g,d,t,os⟩:=by
  obtain ⟨nm,qn,N,bs,sn,sub,ab,col,dd,k0,k1,k2,k3,k5,lk⟩:=c.lk
  have cC:=X _ _ lk
  have l1:=tc_lookup
  have l2:=tc_bind (.ref C)
  have ty:(⟨h,g,d,t,os⟩:Ad).TypeIs (.ref C) "type":=⟨_,cC,rfl⟩
  refine HW (Hj ?_)
  show Ax _ _ (callAny (.ref C) _) _ _ _
  repeat (any_goals (first
    | assumption
    | with_reducible refine DQ cC ?_
    | wp_step))
  refine ⟨rfl,?_⟩
  exact codeAny_call_builtin_at (DF _ (by decide +kernel)) entry_typeCall (wpAny_check_type_call_sub cC (aJC X c hu hi hb go))
end
section
variable {prog:Ap} {w:AT} {A:AR} {E:Value->Ad->Prop} {s:Ad} {K:Ah} {C x:Addr} {bm:List Value} {ox:Obj} {od:Option Obj} {name:Str}
theorem aKd {v:Value} {vs:Array Value} {o:Obj} {Q:Unit->Ad->Prop} (X:K.In s.heap) (c:XC K C bm) (ha:BO K (.ref C) name=some none) (hx:s.heap.get? x=some o) (hc:o.cls=.ref C) (hd:o.dict=none) (hv:o.data=.fields vs)
  (go:∀ h' tk,h'.get? x=some { o with dict:=some s.heap.objs.size }->h'.Ns1 s.heap.objs.size (fun y=>if y=name then some v else none)->(∀ b ob,b≠x->s.heap.get? b=some ob->h'.get? b=some ob)->Q () { s with heap:=h',toks:=tk }) :
  Ax (AC prog w) A (setAttr (.ref x) name v) Q E s:=by
 have I:MB s.heap x o C none:=⟨hx,hc,by unfold PySem.W.notCls; rw [hv],by rw [hd]; trivial⟩
 have SF:=PySem.F.store_object
 obtain ⟨cd,h1,h2,h3⟩:=c.cls
 have l0:=I.type (M:=AC prog w)
 have l1:=JR (M:=AC prog w) X ha
 have l2:FW (AC prog w) s.heap (mroOf (.ref C)) cd.mro:=(Kv X h1).andThen .now
 have l3:=Kv (M:=AC prog w) X h1
 have lb:FW (AC prog w) s.heap (MS (.ref x) (.type "object")) true:=l0.andThen (PySem.W.looks_mroIn X (by rw [c.mro,c.has (by decide)]))
 refine PySem.W.set_plain X I c.sa ?_
 refine JS SF.slot.plain SF.entry (@PySem.W.check_slot (AC prog w) _ _ { s with toks:=s.toks + 1 } "object.__setattr__" "object" "__setattr__" (.ref x) [.str name s.toks,v] [] _ SF.kind SF.split lb (SF.args (.ref x) (.str name s.toks) v) ?_)
 rw [PySem.W.osa_eq,refuse_eq]
 obtain ⟨hh,g,d,t,os⟩:=s
 refine Aa (Aa (l0.at (Aa (l2.at ?_))))
 rw [h2,refuseLoop_ref,aBq _ c.tl]
 refine Ab (Aa (l0.at (Aa (l1.at (Aa (Ab ?_))))))
 obtain ⟨oc,odi,oda,osl⟩:=o
 dsimp only at hc hd hv hx go
 subst hc hd hv
 show Ax _ _ (FX _ _ _ _ _ _) _ _ _
 unfold FX
 refine Aa (Ab (Aa ?_))
 show Ax _ _ (instanceDict x true) _ _ _
 unfold instanceDict
 refine Aa (wpAny_loadPart hx ?_)
 dsimp only
 refine Aa (l3.at ?_)
 rw [h3]
 have nsz:x≠hh.objs.size:=AE (An hx)
 have x1:=Ac PySem.W.emptyDict hx
 refine Aa (wpAny_alloc' (Aa (wpAny_update' x1 ?_)))
 refine Ab ?_
 generalize hg:((hh.push PySem.W.emptyDict).update x fun o=>{ o with dict:=some hh.objs.size })=h2
 have xd:h2.get? x=some ⟨.ref C,some hh.objs.size,.fields vs,osl⟩:=by rw [<- hg]; exact Ba _ x1 rfl
 have dd:h2.get? hh.objs.size=some PySem.W.emptyDict:=by rw [<- hg]; exact (Kw _ _ _ _ nsz.symm).trans (Heap.get?_push_at rfl rfl)
 have kp:∀ b ob,b≠x->hh.get? b=some ob->h2.get? b=some ob:=fun b ob nb q=>by rw [<- hg]; exact (Kw _ _ _ _ nb).trans (Ac _ q)
 have nd:h2.Ns hh.objs.size (fun _=>none):=⟨_,#[],_,dd,rfl,fun e he=>absurd he (by simp),fun _=>rfl⟩
 show Ax _ _ (Gv hh.objs.size _ name v) _ _ _
 unfold Gv Builtin.ObjectAttr.newKeyGuard
 refine Aa (Ab (Aa (wpAny_nsSet1 (Heap.Ns1.of_empty nd) fun h' hn sb=>?_)))
 obtain ⟨oD,es,ep,g1,g2,g3⟩:=hn.count (Within.cons name v Within.nil)
 refine Aa (wpAny_lookBehind g1 (by rw [g2]; exact pastItsLine_dict (At g3 (by rw [AY,Fa,AW]; lia))) ?_)
 refine Ab ?_
 exact go h' _ ((sb.2 x nsz).trans xd) hn fun b ob nb q=>(sb.2 b (AE (An q))).trans (kp b ob nb q)
end
section
variable {X:Cx} {a c o e value:Expr} {ta tc tv:TE} {p pos pos':Pos} {f:Str}
noncomputable def aKe (K:Ah) (ta tv:TE) (f:Str):TS:=fun D σ H=>tv σ H fun y H1=>ta σ H1 fun x H2=>∃ a C bm fr,x=.ref a/\XC K C bm/\H2 a=some (xO fr (.ref C) none a)/\aEd K C f /\
 ∀ dx,H2 dx=none->dx≠a->D.nx σ (upd (upd H2 a (xO fr (.ref C) (some dx) a)) dx (.xd [(f,y)]))
theorem aI3 (ha:PE X o ta) (hv:PE X value tv) (hs:Gr value (some (.Attribute o f pos')) pos.line X.env=pure false):PS X (.Assign [.Attribute o f pos'] value pos) (aKe X.K ta tv f):=by
 intro pins s σ H D I h
 refine plainObj_wpAny_Assign_Attribute (thn (hv pins s σ H _ I h) fun u s1 ⟨y,H1,I1,ry,q⟩=>thn (ha pins s1 σ H1 _ I1 q) fun ov s2 ⟨x,H2,I2,rx,a,C,bm,fr,ex,c,hA,n,q2⟩=>?_) hs
 subst ex
 obtain rfl:ov=Value.ref a:=rx
 obtain ⟨⟨oe,vs,g1,g2,g3,g4,g5⟩,_⟩:=(show ObjOk X.prog X.w H2 s2.heap a (xO fr (.ref C) none a) from I2.hok a _ hA)
 have fr0:H2 s2.heap.objs.size=none:=I2.hok.fresh (Ai _)
 have na:s2.heap.objs.size≠a:=CB (AE (An g1))
 refine aKd I2.kIn c n g1 g2 g3 g4 fun h' tk k1 k2 k3=>⟨σ,_,?_,q2 _ fr0 na⟩
 have old:∀ b ob,H2 b=none->s2.heap.get? b=some ob->h'.get? b=some ob:=fun b ob hb e=>k3 b ob (fun z=>by rw [z,hA] at hb; cases hb) e
 have up:∀ b,b≠a->b≠s2.heap.objs.size->upd (upd H2 a (xO fr (.ref C) (some s2.heap.objs.size) a)) s2.heap.objs.size (.xd [(f,y)]) b=H2 b:=fun b n1 n2=>by rw [zI n2,zI n1]
 have lt:∀ b ob,s2.heap.get? b=some ob->b≠s2.heap.objs.size:=fun b ob e=>AE (An e)
 refine I2.un (t':=tk) ⟨fun b ob e n _ _=>old b ob n e,fun b ob e n _ _=>⟨ob.slots,old b ob n e⟩,fun b ob e n _=>?_,fun b ob e _=>?_,fun b xs e=>?_,fun b ob u e=>?_,fun b ps e=>⟨#[],?_⟩⟩ fun b u e=>?_
 ·rw [up b (fun z=>by rw [z,hA] at n; cases n) (lt b ob e)]; exact n
 ·by_cases hb:b=a
  ·subst hb; exact ⟨_,k1⟩
  ·exact ⟨ob,k3 b ob hb e⟩
 ·rw [up b (fun z=>by rw [z,hA] at e; cases e) (fun z=>by rw [z,fr0] at e; cases e)]; exact e
 ·rw [up b (fun z=>by rw [z,hA] at e; cases e) (fun z=>by rw [z,fr0] at e; cases e)]; exact e
 ·rw [up b (fun z=>by rw [z,hA] at e; cases e) (fun z=>by rw [z,fr0] at e; cases e),e]; simp
 ·by_cases hd:b=s2.heap.objs.size
  ·subst hd
   rw [zB] at e
   cases e
   refine ⟨_,k2,fun g=>?_⟩
   by_cases z:g=f
   ·subst z; simp [NG,RelO]; exact ry
   ·have z2:(g == f)=false:=beq_eq_false_iff_ne.mpr z
    simp [NG,z,z2,RelO]
  ·by_cases hb:b=a
   ·subst hb
    rw [zI hd,zB] at e
    cases e
    exact aJB k1 g2 rfl g4 g5
   ·rw [up b hb hd] at e
    refine (I2.hok b u e).stay (fun x ox hh r=>k3 x ox (fun z=>?_) r) (fun x r=>?_) fun x xs r=>?_
    ·subst z
     rcases hh with hh | hh
     ·exact hb hh.symm
     ·rw [hA] at hh; cases hh
    ·rw [up x (fun z=>by rw [z,hA] at r; cases r) (fun z=>by rw [z,fr0] at r; cases r)]; exact r
    ·rw [up x (fun z=>by rw [z,hA] at r; cases r) (fun z=>by rw [z,fr0] at r; cases r)]; exact r
end
noncomputable def del (H:Hp) (e:Addr):Hp:=fun b=>if b=e then none else H b
theorem aAv {H:Hp} {e b:Addr} (h:b≠e):del H e b=H b:=if_neg h
theorem jD {H:Hp} {e:Addr}:del H e e=none:=if_pos rfl
theorem aI4 {H:Hp} {e:Addr} {o:HO} (h:H e=none):del (upd H e o) e=H:=by
 funext b
 by_cases q:b=e
 ·subst q; rw [jD,h]
 ·rw [aAv q,zI q]
theorem aDw {H:Hp} {e d:Addr} {o:HO} (h:d≠e):del (upd H d o) e=upd (del H e) d o:=by
 funext b
 by_cases q:b=e
 ·subst q; rw [jD,zI (CB h),jD]
 ·rw [aAv q]
  by_cases z:b=d
  ·subst z; rw [zB,zB]
  ·rw [zI z,zI z,aAv q]
section
variable {X:Cx} {pins:List (Addr×Obj)} {σ:St} {H:Hp} {s:Ad}
theorem Inv.untrack {e:Addr} {φ:Heap->Prop} (I:Inv X pins σ H s) (hx:H e=some (.ext φ)):Inv X pins σ (del H e) s:=by
 have nn:∀ b,H b=none->del H e b=none:=fun b n=>by
  by_cases q:b=e
  ·rw [q]; exact jD
  ·rw [aAv q]; exact n
 have ne:∀ {b:Addr} {o:HO},H b=some o->(∀ ψ,o≠.ext ψ)->del H e b=some o:=fun {b o} q n=>by
  rw [aAv (fun z=>by rw [z,hx] at q; exact n φ (BA q).symm)]; exact q
 refine ⟨I.ok,I.os,I.bare,⟨I.base.keep,I.base.slot,fun b o q n m=>nn b (I.base.free b o q n m),I.base.there,fun b xs q=>ne (I.base.tups b xs q) fun _ z=>(by cases z),fun b o u q=>ne (I.base.frzs b o u q) fun _ z=>(by cases z),fun b ps q=>?_⟩,I.loc,I.cell,nn _ I.free,fun y c q=>nn _ (I.freeC y c q),fun p hp=>?_,fun b u q=>?_,I.len⟩
 ·obtain ⟨more,z⟩:=I.base.tbls b ps q
  exact ⟨more,ne z fun _ z=>by cases z⟩
 ·obtain ⟨a,b,c⟩:=I.pin p hp
  exact ⟨a,nn _ b,c⟩
 ·by_cases z:b=e
  ·rw [z,jD] at q; cases q
  ·rw [aAv z] at q
   exact (I.hok b u q).stay (fun _ _ _ r=>r) (fun c r=>ne r fun _ z=>by cases z) fun c xs r=>ne r fun _ z=>by cases z
end
section
variable {X:Cx} {C f:Addr} {bm:List Value} {k:Nat} {fd:BL} {ps:List Str} {sp:Sp} {x:Str} {p pos rpos:Pos} {e:Expr} {es:List Expr} {t:TA}
structure XMk (P:Ap) (w:AT) (K:Ah) (mg:Str->Option Value) (base:Heap) (C:Addr) (k:Nat) (sp:Sp):Prop where
 ok:∃ f fd ps,BO K (.ref C) "__init__"=some (some (.ref f))/\ME K (.ref f)=some (.type "function")/\FnOk P w K mg base CX0 k f fd ps sp/\Binds K fd ps []
theorem Inv.xborn {pins:List (Addr×Obj)} {σ:St} {H:Hp} {s:Ad} {us:List Value} (I:Inv X pins σ H s):Inv X pins σ (upd H (s.heap.objs.size + 1) (xO true (.ref C) none (s.heap.objs.size + 1))) { s with heap:=xHp s.heap C us } :=
 I.laid (a:=s.heap.objs.size + 1) (o:=xO true (.ref C) none (s.heap.objs.size + 1)) (t':=s.toks) (fun _ _=>aAJ) (Db _) (aJB aF2 rfl rfl rfl fun _=>⟨_,rfl⟩)
theorem aKf {pins:List (Addr×Obj)} {σ:St} {H:Hp} {s:Ad} {Q:Addr->Hp->Prop} {us:List Value} {vs:List V} (c:XC X.K C bm) (M:XMk X.prog X.w X.K X.mg X.base C k sp) (hr:Room (k + 1) X.A) (I:Inv X pins σ H s) (r:Vals vs us) (hu:vs.length<=sizeLine)
  (h:∀ e,H e=none->sp (.ref e :: vs) (upd H e (xO true (.ref C) none e)) (fun v H2=>v=.non/\Q e H2) E0) :
  Ax (AC X.prog X.w) X.A (call (.ref C) us) (fun u s'=>∃ e H2,u=.ref e/\s.heap.objs.size<=e/\Inv X pins σ H2 s'/\Q e H2) X.xe s:=by
 obtain ⟨f,fd,ps,hi,hf,F,hb⟩:=M.ok
 have hq:=h (s.heap.objs.size + 1) (I.hok.fresh (Db _))
 have I2:=Inv.xborn (C:=C) (us:=us) I
 have r2:Vals (V.ref (s.heap.objs.size + 1) :: vs) (Value.ref (s.heap.objs.size + 1) :: us):=.cons rfl r
 have hl:(Value.ref (s.heap.objs.size + 1) :: us++[]).length=ps.length:=by
  rw [BD,<- r2.length]
  exact F.len _ _ _ _ hq
 have bd:=hb _ (Value.ref (s.heap.objs.size + 1) :: us) I2.kIn hl
 rw [BD] at bd
 have run:=F.run _ X.stack _ _ ⟨Value.ref (s.heap.objs.size + 1) :: us,[]⟩ (Value.ref (s.heap.objs.size + 1) :: us) _ _ E0 (hr.make C us []) (I2.env0.make C us []) bd r2 hq
 have K0:=I.kIn
 have sz:s.heap.objs.size<=s.heap.objs.size + 1:=Db _
 obtain ⟨hh,g,d,tk,os⟩:=s
 refine aJD K0 c (by rw [<- r.length]; exact hu) (JR K0 hi) (fun self=>PySem.W.bind_fn K0 self hf) ?_
 refine HW (Ey run fun rr s' z=>?_)
 cases rr with
 | error ev=>exact z.elim
 | ok fl =>
  cases fl with
  | ret u =>
   obtain ⟨v,H',I3,rv,ev,q3⟩:=I2.after z
   subst ev
   exact ⟨rv,_,H',rfl,sz,I3,q3⟩
  | _=>exact z.elim
theorem aJE {pins:List (Addr×Obj)} {σ:St} {H:Hp} {s:Ad} {R:List V->Hp->Prop} {Q:Value->Ad->Prop} (c:XC X.K C bm) (hg:Gl X x) (hm:X.mg x=some (.ref C)) (ha:PA X (e :: es) t) (I:Inv X pins σ H s) (h:t σ H R)
  (go:∀ us vs s1 H1,Inv X pins σ H1 s1->Vals vs us->R vs H1->X.s₀.heap.objs.size<=s1.heap.objs.size->Ax (AC X.prog X.w) X.A (call (.ref C) us) Q X.xe s1)
  (hdb:(x == ("__debug__":Str))=false:=by decide) (he:Bk (e :: es) X.env=(false,eval e X.env) :: Bk es X.env:=by rfl) (hpl:(FJ pos (Bk es X.env)).any (·.1)=false:=by rfl) :
  Ax (AC X.prog X.w) X.A (eval (.Call (.Name x p) (e :: es) [] pos) X.env) Q X.xe s:=by
 refine DE (aAN I hg hm ?_ hdb)
 exact FR (h₀:=X.base) I.ok.mod.kin c.kp (thn (ha pos pins s σ H _ I h) fun us s1 ⟨vs,H1,I1,r,q⟩=>⟨I1.kIn,go us vs s1 H1 I1 r q I1.sz⟩) he hpl
theorem aI5 {M:HL} {A:AR} {E:Value->Ad->Prop} {s:Ad} {env:Env} {v:Sem Value} {Q:Flow->Ad->Prop} {K:Ah} (hh:A.handled=none) (c:XC K C bm)
    (h:Ax M A v (fun u s1=>∃ e oe a0,u=.ref e/\K.In s1.heap/\s1.heap.get? e=some oe/\oe.cls=.ref C/\oe.data=.fields #[a0,.none,.none,.none,.bool false,.none]/\E u s1) E s):Ax M A (raiseStmt env (some v) none) Q E s:=by
  have hB:=c.has (v:=.type "BaseException") (by decide)
  obtain ⟨nm,qn,N,bs,sn,sub,ab,col,dd,k0,k1,k2,k3,k5,lk⟩:=c.lk
  unfold raiseStmt
  refine Aa (BJ h (fun u s1 z=>?_) fun _ _ z=>z)
  obtain ⟨e,oe,a0,rfl,X,he,hc,hd,hE⟩:=z
  have cC:=X _ _ lk
  obtain ⟨hp,g,d,tk,os⟩:=s1
  obtain ⟨oc,odi,oda,osl⟩:=oe
  dsimp only at hc hd
  subst hc hd
  repeat (first
    | with_reducible refine DQ he ?_
    | with_reducible refine DQ cC ?_
    | (with_reducible refine FD cC ?_; rw [hB])
    | wp_step)
  exact wpAny_raiseNew_none hh hE
theorem XIn.fresh {E:XS} {σ:St} {H1 H2:Hp} {s1 s2:Ad} {pins:List (Addr×Obj)} {e:Addr} {dx:Option Addr} (I1:Inv X pins σ H1 s1) (I2:Inv X pins σ H2 s2) (le:s1.heap.objs.size<=e) (hx:H2 e=some (xO true (.ref C) dx e)) (hE:E (.ref C) dx σ (del H2 e)):XIn X E (.ref e) s2:=by
 obtain ⟨⟨oe,vs,g1,g2,g3,g4,g5⟩,_⟩:=(show ObjOk X.prog X.w H2 s2.heap e (xO true (.ref C) dx e) from I2.hok e _ hx)
 obtain ⟨a0,rfl⟩:=g5 rfl
 refine ⟨e,.ref C,dx,σ,del H2 e,rfl,(I2.untrack hx).pins_of fun p hp=>absurd hp (by simp),⟨jD,At I1.sz le,Ci (AB I1.lt le),fun y c q z=>?_,fun p hp z=>?_⟩,.inl ⟨rfl,oe,_,g1,g2,g3,g4,rfl⟩,hE⟩
 ·obtain ⟨v,q⟩:=I1.cell y c q
  exact absurd (AB q.lt (by rw [z]; exact le)) (BM _)
 ·exact absurd (AB (An (I1.pin p (CJ _ hp)).1) (by rw [z]; exact le)) (BM _)
noncomputable def aJF (C:Addr) (sp:Sp) (E:XS) (t:TA):TS:=fun _ σ H=>t σ H fun vs H1=>vs.length<=sizeLine/\∀ e,H1 e=none->sp (.ref e :: vs) (upd H1 e (xO true (.ref C) none e)) (fun v H2=>v=.non/\∃ dx,H2 e=some (xO true (.ref C) dx e)/\E (.ref C) dx σ (del H2 e)) E0
theorem aDK {E:XS} (hc:X.calm=true) (c:XC X.K C bm) (M:XMk X.prog X.w X.K X.mg X.base C k sp) (hr:Room (k + 1) X.A) (hm:X.mg x=some (.ref C)) (ha:PA (X.raises E) (e :: es) t) (hg:Gl X x:=by rfl)
  (hdb:(x == ("__debug__":Str))=false:=by decide) (he:Bk (e :: es) X.env=(false,eval e X.env) :: Bk es X.env:=by rfl) (hpl:(FJ pos (Bk es X.env)).any (·.1)=false:=by rfl) :
  PS (X.raises E) (.Raise (some (.Call (.Name x p) (e :: es) [] pos)) none rpos) (aJF C sp E t):=by
 intro pins s σ H D I h
 rw [arm_exec_Raise]
 refine Aa (CT ?_)
 refine aI5 (K:=X.K) (I.ok.hd hc) c (Aa (aJE (X:=X.raises E) c hg hm ha I h (fun us vs s1 H1 I1 r ⟨z,q⟩ _=>thn (aKf (X:=X.raises E) (Q:=fun e H2=>∃ dx,H2 e=some (xO true (.ref C) dx e)/\E (.ref C) dx σ (del H2 e)) c M hr I1 r z q) fun u s2 ⟨e2,H2,eu,le,I2,dx,hx,hE⟩=>?_) hdb he hpl))
 subst eu
 obtain ⟨⟨oe,vs',g1,g2,g3,g4,g5⟩,_⟩:=(show ObjOk X.prog X.w H2 s2.heap e2 (xO true (.ref C) dx e2) from I2.hok e2 _ hx)
 obtain ⟨a0,rfl⟩:=g5 rfl
 exact Aa (CT (Ab ⟨e2,oe,a0,rfl,I2.kIn,g1,g2,g4,XIn.fresh I1.unwish I2.unwish le hx hE⟩))
end
section
variable {X:Cx} {E:XS} {k:Nat} {Fam:Addr->Sp->Prop} {x:Str} {p pos:Pos} {e:Expr} {es:List Expr} {tf:TE} {t:TA}
noncomputable def aI6 (Fam:Addr->Sp->Prop) (E:XS) (tf:TE) (t:TA):TE:=fun σ H Q=>tf σ H fun x H1=>∃ f sp,x=.ref f/\Fam f sp/\t σ H1 fun vs H2=>sp vs H2 Q fun cls dx H'=>E cls dx σ H'
theorem aF3 (hF:∀ f sp,Fam f sp->Callee X.prog X.w X.K X.mg X.base (CXF X.prog X.w) k f sp) (hr:Room k X.A) (hf:PE (X.raises E) (.Name x p) tf) (ha:PA (X.raises E) (e :: es) t)
  (he:Bk (e :: es) X.env=(false,eval e X.env) :: Bk es X.env:=by rfl) (hpl:(FJ pos (Bk es X.env)).any (·.1)=false:=by rfl) :
  PE (X.raises E) (.Call (.Name x p) (e :: es) [] pos) (aI6 Fam E tf t):=by
 intro pins s σ H Q I h
 refine DE (thn (hf pins s σ H _ I h) fun u s1 ⟨y,H1,I1,r1,f,sp,ey,fam,q⟩=>?_)
 subst ey
 obtain rfl:u=Value.ref f:=r1
 obtain ⟨⟨fd,ps,F,hb⟩,hk⟩:=hF f sp fam
 refine FR (h₀:=X.base) I.ok.mod.kin hk (thn (ha pos pins s1 σ H1 _ I1 q) fun us s2 ⟨vs,H2,I2,r,q2⟩=>⟨I2.kIn,?_⟩) he hpl
 have hl:us.length=ps.length:=by rw [<- r.length]; exact F.len _ _ _ _ q2
 have bd:=hb s2 us I2.kIn (by simpa using hl)
 rw [BD] at bd
 refine HW (Ey (F.run X.A X.stack s2 H2 ⟨us,[]⟩ us vs Q (fun cls dx H'=>E cls dx σ H') hr I2.unwish.env0 bd r q2) fun rr s' z=>?_)
 cases rr with
 | error ev=>exact aHQ I2.unwish z fun _ _ _ z=>z
 | ok fl =>
  cases fl with
  | ret u=>exact (I2.after z:EP (X.raises E) pins σ Q u s')
  | _=>exact z.elim
end
theorem je:∀ (l:List (Str×Ei)) (n:Nat) (acc:List (Str×Addr)),CN n l acc=CN n l []++acc
 | [],_,_=>rfl
 | (y,k) :: r,n,acc=>by
  unfold CN
  split
  ·rw [je r (n + 1) ((y,n) :: acc),je r (n + 1) [(y,n)],BN]; rfl
  ·exact je r n acc
theorem aCd {x:Str} {c:Addr}:∀ {l:List (Str×Ei)} {n:Nat} {acc:List (Str×Addr)},(x,c)∈CN n l acc->(x,Ee)∈l\/(x,c)∈acc
 | [],_,_,h=>.inr h
 | (y,k) :: r,n,acc,h=>by
  unfold CN at h
  split at h
  ·rename_i hk
   have hk':k=.cell:=by simpa using hk
   rcases aCd h with q | q
   ·exact .inl (AI _ q)
   ·rcases Aq.mp q with z | z
    ·cases z; subst hk'; exact .inl AL
    ·exact .inr z
  ·rcases aCd h with q | q
   ·exact .inl (AI _ q)
   ·exact .inr q
theorem aCe {x:Str}:∀ {l:List (Str×Ei)} {n:Nat} {acc:List (Str×Addr)},((x,Ee)∈l\/∃ c,(x,c)∈acc)->∃ c,(x,c)∈CN n l acc
 | [],_,_,h=>by
  rcases h with h | h
  ·cases h
  ·exact h
 | (y,k) :: r,n,acc,h=>by
  unfold CN
  split
  ·rename_i hk
   refine aCe ?_
   rcases h with h | ⟨c,h⟩
   ·rcases Aq.mp h with z | z
    ·cases z; exact .inr ⟨n,AL⟩
    ·exact .inl z
   ·exact .inr ⟨c,AI _ h⟩
  ·rename_i hk
   refine aCe ?_
   rcases h with h | h
   ·rcases Aq.mp h with z | z
    ·cases z; exact absurd rfl hk
    ·exact .inl z
   ·exact .inr h
noncomputable abbrev aAU (scope:Scope) (C:Addr):List (Str×Addr):=CN (C + 1) scope.names []
noncomputable def cxCC (X:Cx) (N:List Str) (scope:Scope) (cl:List (Str×Addr)) (C:Addr) (s2:Ad) (H2:Hp) (fp:List Addr):Cx:={ cxC X N scope (CN (C + 1) scope.names cl) C s2 H2 fp with fn:=fun x=>scope.names.lookup x == some .cell }
structure CompScopeC (X:Cx) (N:List Str) (mp:List (Option Nat)) (scope:Scope):Prop where
 kind:scope.kind=.function
 cells:∀ y∈scope.names,y.2=.cell->scope.names.lookup y.1=some .cell
 names:∀ y∈scope.names,y.2=.local->scope.names.lookup y.1=some .local
 len:mp.length=N.length
 out:∀ (i j:Nat),mp[i]?=some (some j)->∃ x,N[i]?=some x/\X.N[j]?=some x/\(X.env.scope.names.lookup x=some .cell\/X.env.scope.names.lookup x=some .free)/\scope.names.lookup x=some .free
section
variable {M:HL} {A:AR} {E:Value->Ad->Prop} {s:Ad}
theorem aAA {scope:Scope} {globals builtins:Addr} {cl:List (Str×Addr)} {qual:Str} {env:Env} {Q:Env->Ad->Prop}
  (h:Q (newEnv scope s.heap.objs.size globals (CN (s.heap.objs.size + 1) scope.names cl) qual none .none (some env) builtins) { s with heap:=Nu (s.heap.push PySem.W.emptyDict) scope.names }) :
  Ax M A (newFunctionEnv scope globals cl [] qual none .none (some env) builtins) Q E s:=by
 simp only [newFunctionEnv,KW,if_true]
 refine Aa (Ms ?_)
 refine Aa (wpAny_layCells _ (fun name kind cells=>by cases hkc:kind == Ee <;> simp [hkc]) _ _ _ _ ?_)
 rw [show ({ s with heap:=s.heap.push { cls:=.type "dict",data:=.dict #[] } }:Ad).heap.objs.size=s.heap.objs.size + 1 from BW ..]
 refine Aa (Ab ?_)
 exact Ab h
end
section
variable {X:Cx}
theorem aF4 {pins:List (Addr×Obj)} {σ:St} {H:Hp} {s2:Ad} {N:List Str} {mp:List (Option Nat)} {scope:Scope} {cl:List (Str×Addr)} {fp:List Addr} {h1:Heap} {tk:Nat} (I:Inv X pins σ H s2) (S:CompScopeC X N mp scope)
  (hcl:yh X.env.cells scope.names []=some cl) (hfp:∀ b∈fp,FpOk X pins H b) (hfo:∀ b∈fp,∃ o,s2.heap.get? b=some o)
  (old:∀ b o,s2.heap.get? b=some o->h1.get? b=some o) {oo:HO} (hD:ObjOk X.prog X.w (upd H s2.heap.objs.size oo) h1 s2.heap.objs.size oo) {m:Str->Option Value} (hC:h1.Ns (s2.heap.objs.size + 1) m) (cok:NH h1 (s2.heap.objs.size + 2) (aAU scope (s2.heap.objs.size + 1))) :
  Inv (cxCC X N scope cl (s2.heap.objs.size + 1) s2 H fp) [] (yT mp σ) (upd H s2.heap.objs.size oo) { s2 with heap:=h1,toks:=tk }:=by
 have clm:∀ {x:Str} {c:Addr},cl.lookup x=some c->X.env.cells.lookup x=some c:=fun {x c} e=>ju hcl (fun p z=>absurd z (by simp)) (x,c) (By e)
 have hn:H s2.heap.objs.size=none:=I.hok.fresh (Ai _)
 have hnC:H (s2.heap.objs.size + 1)=none:=I.hok.fresh (Db _)
 have cellLt:∀ {x:Str} {c:Addr},X.env.cells.lookup x=some c->c < s2.heap.objs.size:=fun {x c} e=>by
  obtain ⟨v,q⟩:=I.cell x c e
  exact q.lt
 have freeOf:∀ x,((Nd scope X.env).names.lookup x=some .cell\/(Nd scope X.env).names.lookup x=some .free)->(x,EB)∈scope.names\/(x,Ee)∈scope.names:=fun x hx=>by
  have hm:(x,Ee)∈(Nd scope X.env).names\/(x,EB)∈(Nd scope X.env).names:=hx.elim (fun z=>.inl (By z)) fun z=>.inr (By z)
  have conv:∀ k,(x,k)∈(Nd scope X.env).names->(k=.cell\/k=.free)->(x,EB)∈scope.names\/(x,Ee)∈scope.names:=fun k hm hk=>by
   obtain ⟨⟨n,k'⟩,hy,e⟩:=AJ.mp hm
   dsimp only at e
   split at e
   ·rename_i hc
    simp only [Bq,beq_iff_eq] at hc
    cases e
    rw [hc.1.1] at hy
    exact .inl hy
   ·cases e
    rcases hk with z | z
    ·subst z; exact .inr hy
    ·subst z; exact .inl hy
  exact hm.elim (fun z=>conv _ z (.inl rfl)) fun z=>conv _ z (.inr rfl)
 have app:∀ x,(CN (s2.heap.objs.size + 1 + 1) scope.names cl).lookup x=((aAU scope (s2.heap.objs.size + 1)).lookup x).or (cl.lookup x):=fun x=>by rw [je,List.lookup_append]
 have two:∀ {x:Str} {c:Addr},(CN (s2.heap.objs.size + 1 + 1) scope.names cl).lookup x=some c->((aAU scope (s2.heap.objs.size + 1)).lookup x=some c/\(h1.IsCell c none/\s2.heap.objs.size + 2<=c))\/X.env.cells.lookup x=some c:=fun {x c} e=>by
  rw [app] at e
  cases eo:(aAU scope (s2.heap.objs.size + 1)).lookup x with
  | some d =>
   rw [eo] at e
   cases e
   exact .inl ⟨rfl,cok.empty _ _ (By eo)⟩
  | none =>
   rw [eo] at e
   exact .inr (clm e)
 have ownHas:∀ {x:Str},(x,Ee)∈scope.names->∃ c,(aAU scope (s2.heap.objs.size + 1)).lookup x=some c:=fun {x} hx=>by
  obtain ⟨c,hc⟩:=aCe (n:=s2.heap.objs.size + 1 + 1) (acc:=[]) (.inl hx)
  obtain ⟨d,hd,_⟩:=ym hc
  exact ⟨d,hd⟩
 have ok:(cxCC X N scope cl (s2.heap.objs.size + 1) s2 H fp).Ok:=by
  refine ⟨I.ok.mod,S.kind,I.ok.glob,I.ok.blt,Db _,fun x y c e1 e2=>?_,fun x hx=>?_,fun x c z e=>?_,I.ok.hd,I.ok.frames,.inl rfl,fun b hb=>⟨?_,fun x c e=>?_⟩,I.bs,At I.ok.bsz I.sz,fun b o e hb=>?_,fun b hb z=>?_,I.stack,I.stkFree⟩
  ·rcases two e1 with ⟨o1,_,l1⟩ | o1 <;> rcases two e2 with ⟨o2,_,l2⟩ | o2
   ·exact name_of_addr cok.apart (By o1) (By o2)
   ·exact absurd (AB (cellLt o2) (At (Ec _ 2) l1)) (BM _)
   ·exact absurd (AB (cellLt o1) (At (Ec _ 2) l2)) (BM _)
   ·exact I.ok.inj x y c o1 o2
  ·show ∃ c,(CN (s2.heap.objs.size + 1 + 1) scope.names cl).lookup x=some c
   rcases freeOf x hx with q | q
   ·obtain ⟨c,hc⟩:=jC hcl (.inl q)
    obtain ⟨d,hd,_⟩:=ym hc
    rw [app,hd]
    cases (aAU scope (s2.heap.objs.size + 1)).lookup x with
    | none=>exact ⟨d,rfl⟩
    | some c'=>exact ⟨c',rfl⟩
   ·obtain ⟨c,hc⟩:=ownHas q
    exact ⟨c,by rw [app,hc]; rfl⟩
  ·have z':scope.names.lookup x=some .cell:=beq_iff_eq.mp z
   obtain ⟨c',hc'⟩:=ownHas (By z')
   have e':(CN (s2.heap.objs.size + 1 + 1) scope.names cl).lookup x=some c:=e
   rw [app,hc'] at e'
   cases e'
   exact At (Ec _ 2) (cok.empty _ _ (By hc')).2
  ·obtain ⟨o,e⟩:=hfo b hb
   exact AE (Dt (An e))
  ·rcases two e with ⟨_,_,l⟩ | o
   ·obtain ⟨ob,eb⟩:=hfo b hb
    exact CB (AE (AB (An eb) (At (Ec _ 2) l)))
   ·exact (hfp b hb).2.2.2.2.1 x c o
  ·rcases (hfp b hb).2.2.2.1 with z | z
   ·exact I.ok.noex b o e z
   ·exact absurd (AB (An e) (At I.ok.bsz z)) (BM _)
  ·rcases Aq.mp (I.stkSub b z) with q | q
   ·exact (hfp b hb).2.1 q
   ·exact (hfp b hb).2.2.1 q
 refine ⟨ok,rfl,I.bare,Un.laid old (Ai _) hn,⟨m,hC,fun i x v e1 e2 e3=>?_⟩,fun x c e=>?_,?_,fun x c e=>?_,(fun p hp=>nomatch hp),?_,?_⟩
 ·
  unfold yT at e2
  rw [Bh] at e2
  cases em:mp[i]? with
  | none=>rw [em] at e2; cases e2
  | some o =>
   rw [em] at e2
   cases o with
   | none=>cases e2
   | some j =>
    have e2':(σ[j]?).bind id=some v:=BA e2
    obtain ⟨x',n1,n2,n3,n4⟩:=S.out i j em
    rw [show (cxCC X N scope cl (s2.heap.objs.size + 1) s2 H fp).N[i]?=N[i]? from rfl,n1] at e1
    cases e1
    have sj:σ[j]?=some (some v):=by
     cases ej:σ[j]? with
     | none=>rw [ej] at e2'; cases e2'
     | some o=>rw [ej] at e2'; exact congrArg some e2'
    obtain ⟨m0,hm0,hl⟩:=I.loc
    obtain ⟨u,ru,lk⟩:=hl j x v n2 sj (.inr n3)
    refine ⟨u,ru,.inr ⟨?_,?_⟩⟩
    ·have hf:(x,EB)∈scope.names:=By n4
     have key:∀ l:List (Str×Ei),l.lookup x=some .free->((l.map fun (n,k)=>if (k == EB && X.env.scope.kind == .function && X.env.kindOf n == some .cell) then (n,Ee) else (n,k)).lookup x=some .cell \/
       (l.map fun (n,k)=>if (k == EB && X.env.scope.kind == .function && X.env.kindOf n == some .cell) then (n,Ee) else (n,k)).lookup x=some .free):=by
      intro l
      induction l with
      | nil=>intro z; cases z
      | cons y r ih =>
       obtain ⟨n,k⟩:=y
       intro z
       rw [EH] at z
       rw [Aw]
       dsimp only
       by_cases en:(x == n)=true
       ·rw [en] at z
        dsimp only at z
        cases z
        split
        ·exact .inl (by rw [EH,en])
        ·exact .inr (by rw [EH,en])
       ·have en2:(x == n)=false:=by simpa using en
        rw [en2] at z
        dsimp only at z
        split
        ·rw [EH,en2]; exact ih z
        ·rw [EH,en2]; exact ih z
     exact key scope.names n4
    ·have hf:(x,EB)∈scope.names:=By n4
     obtain ⟨c,hc⟩:=jC hcl (.inl hf)
     obtain ⟨d,hd,_⟩:=ym hc
     rcases lk with ⟨k1,_⟩ | ⟨_,c',hc',z⟩
     ·have k1':X.env.scope.names.lookup x=some .local:=k1
      rcases n3 with z | z <;> (rw [k1'] at z; cases z)
     ·have e:=clm hd
      rw [hc'] at e
      have e3:c'=d:=BA e
      obtain ⟨o,ho,hdt⟩:=z
      rw [e3] at ho
      have no:(aAU scope (s2.heap.objs.size + 1)).lookup x=none:=by
       cases eo:(aAU scope (s2.heap.objs.size + 1)).lookup x with
       | none=>rfl
       | some c0 =>
        rcases aCd (By eo) with q | q
        ·have:=S.cells _ q rfl
         rw [n4] at this
         cases this
        ·cases q
      exact ⟨d,by show (CN (s2.heap.objs.size + 1 + 1) scope.names cl).lookup x=some d; rw [app,no]; exact hd,o,old _ _ ho,hdt⟩
 ·rcases two e with ⟨_,ic,_⟩ | q
  ·exact ⟨_,ic⟩
  ·obtain ⟨v,o,ho,hdt⟩:=I.cell x c q
   exact ⟨v,o,old _ _ ho,hdt⟩
 ·show upd H s2.heap.objs.size oo (s2.heap.objs.size + 1)=none
  rw [zI (Ci (Fx _))]; exact hnC
 ·show upd H s2.heap.objs.size oo c=none
  rcases two e with ⟨_,_,l⟩ | q
  ·rw [zI (Ci (AB (Nat.lt_add_of_pos_right (by decide)) l))]
   exact I.hok.fresh (At (Ec _ 2) l)
  ·rw [zI (AE (cellLt q))]
   exact I.freeC x c q
 ·exact I.hok.laid old (Ai _) hD
 ·show (yT mp σ).length=N.length
  unfold yT
  rw [Ae]; exact S.len
theorem aBr {pins:List (Addr×Obj)} {σ:St} {H:Hp} {s2:Ad} {N:List Str} {mp:List (Option Nat)} {scope:Scope} {cl:List (Str×Addr)} {fp:List Addr} {h1:Heap} {tk:Nat} (I:Inv X pins σ H s2) (S:CompScopeC X N mp scope)
  (hcl:yh X.env.cells scope.names []=some cl) (hfp:∀ b∈fp,FpOk X pins H b) (hfo:∀ b∈fp,∃ o,s2.heap.get? b=some o)
  (old:∀ b o,s2.heap.get? b=some o->h1.get? b=some o) (hD:h1.get? s2.heap.objs.size=some { cls:=.type "list",data:=.seq ([]:List Value).toArray }) {m:Str->Option Value} (hC:h1.Ns (s2.heap.objs.size + 1) m) (cok:NH h1 (s2.heap.objs.size + 2) (aAU scope (s2.heap.objs.size + 1))) :
  Inv (cxCC X N scope cl (s2.heap.objs.size + 1) s2 H fp) [] (yT mp σ) (upd H s2.heap.objs.size (.lst [])) { s2 with heap:=h1,toks:=tk } :=
 aF4 I S hcl hfp hfo old ⟨by show 0<=sizeLine; exact AS _,[],0,.nil,hD⟩ hC cok
theorem aDL {elt iter tg:Expr} {ifs:List Expr} {scope:Scope} {pos:Pos} {N:List Str} {mp:List (Option Nat)} {cl:List (Str×Addr)} {wi:TI} {g:Addr->Ad->Hp->List Addr->TG} {tt:Addr->Ad->Hp->List Addr->TT} {te:Addr->Ad->Hp->List Addr->TE}
  (hc:X.calm=true) (S:CompScopeC X N mp scope) (hcl:yh X.env.cells scope.names []=some cl) (hi:PI X tg iter wi)
  (hg:∀ C s2 H2 fp,PG (cxCC X N scope cl C s2 H2 fp) tg (g C s2 H2 fp)) (ht:∀ C s2 H2 fp,PTL (cxCC X N scope cl C s2 H2 fp) ifs (tt C s2 H2 fp)) (he:∀ C s2 H2 fp,PE (cxCC X N scope cl C s2 H2 fp) elt (te C s2 H2 fp))
  (hs:∀ x,CI iter X.env x=pure x)
  {use:Option (Value->Sem Unit)} {PQ:Value->Ad->Prop} {pins:List (Addr×Obj)} {s:Ad} {σ:St} {H:Hp} {Q:VK} (I:Inv X pins σ H s) (h:aHz mp wi g tt te σ H Q)
  (fin:∀ (H2:Hp) (s2:Ad) (fp:List Addr) (σ':St) (H':Hp) (s':Ad),Inv X pins σ H2 s2->(∀ b∈fp,FpOk X pins H2 b)->Inv (cxCC X N scope cl (s2.heap.objs.size + 1) s2 H2 fp) [] σ' H' s'->Q (.ref s2.heap.objs.size) H' ->
   Nf (AC X.prog X.w) X.A X.xe use PQ (.ref s2.heap.objs.size) (s2.heap.objs.size + 1) (.ok .next) s') :
  Ax (AC X.prog X.w) X.A (comprehension (.ListComp elt [⟨tg,iter,ifs,0⟩] scope pos) scope X.env (firstIterPos [⟨tg,iter,ifs,0⟩] pos) (Mr []) (firstAsync [⟨tg,iter,ifs,0⟩]) (firstIter [⟨tg,iter,ifs,0⟩] X.env) use) PQ X.xe s:=by
 refine Ib (use:=use) rfl hs (jc hcl) S.kind S.names (thn (hi pins s σ H _ I h) fun v s1 h1=>thn h1 fun itv s2 h2=>?_)
 obtain ⟨it,fp,tn,J,H2,e,I2,T,st2,f2,h3⟩:=h2
 subst e
 refine Bb (aAA ?_)
 dsimp only
 have hn2:H2 s2.heap.objs.size=none:=I2.hok.fresh (Ai _)
 generalize hH2:s2.heap.push { cls:=.type "list",dict:=none,data:=.seq ([]:List Value).toArray }=G2
 have hC:G2.objs.size=s2.heap.objs.size + 1:=by rw [<- hH2,BW]
 generalize hh1:Nu (G2.push PySem.W.emptyDict) scope.names=h₁
 have old1:∀ b o,G2.get? b=some o->h₁.get? b=some o:=fun b o e=>by rw [<- hh1]; exact Hk _ _ b o (Ac _ e)
 have old:∀ b o,s2.heap.get? b=some o->h₁.get? b=some o:=fun b o e=>old1 b o (hH2 ▸ Ac _ e)
 have hD1:h₁.get? s2.heap.objs.size=some { cls:=.type "list",data:=.seq ([]:List Value).toArray }:=old1 _ _ (hH2 ▸ Ak _ rfl)
 have hns₁:h₁.Ns (s2.heap.objs.size + 1) (fun _=>none):=by
  have e1:h₁.get? G2.objs.size=some PySem.W.emptyDict:=by rw [<- hh1]; exact Hk _ _ _ _ (Ak _ rfl)
  rw [hC] at e1
  exact ⟨_,#[],_,e1,rfl,fun e he=>absurd he (by simp),fun _=>rfl⟩
 have cok:NH h₁ (s2.heap.objs.size + 2) (aAU scope (s2.heap.objs.size + 1)):=by
  have:=cellsFrom_ok scope.names (G2.push PySem.W.emptyDict) (s2.heap.objs.size + 2) [] ⟨fun _ _ hm=>(nomatch hm),En⟩ (by rw [BW,hC]; exact Ai _)
  rw [BW,hC,hh1] at this
  exact this
 obtain ⟨W,⟨m0,w0⟩,turn⟩:=h3 s2.heap.objs.size hn2 (s2.heap.objs.size + 1) s2 fp
 have I4:=aBr (tk:=s2.toks) I2 S hcl f2 (fun b hb=>let ⟨o,e,_⟩:=T.obj _ _ st2 b hb; ⟨o,e⟩) old hD1 hns₁ cok
 have st4:tn 0 h₁:=T.keep _ _ _ st2 fun b hb o e=>old b o e
 have stat:∀ {pl:List (Addr×Obj)} {H':Hp},(∀ b∈fp,H' b=none)->(∀ p∈pl,p.1 ∉ fp)->∀ b∈fp,FpOk (cxCC X N scope cl (s2.heap.objs.size + 1) s2 H2 fp) pl H' b:=fun {pl H'} hn hp b hb =>
  ⟨hn b hb,(I4.ok.exf b hb).1,I4.ok.exfs b hb,.inl hb,(I4.ok.exf b hb).2,fun p z q=>hp p (by simpa [cxC,cxCC] using z) (by rw [q]; exact hb)⟩
 have fr0:∀ b∈fp,(upd H2 s2.heap.objs.size (.lst [])) b=none:=fun b hb=>by
  obtain ⟨o,e,_⟩:=T.obj _ _ st2 b hb
  rw [zI (AE (An e))]
  exact (f2 b hb).1
 have loop:Ef (AC X.prog X.w) X.A (.compLoop (.ListComp elt [⟨tg,iter,ifs,0⟩] scope pos) 0 (.ref it) (.ref s2.heap.objs.size) (Mc scope (CN (s2.heap.objs.size + 1 + 1) scope.names cl) (s2.heap.objs.size + 1) X.env))
   (Nf (AC X.prog X.w) X.A X.xe use PQ (.ref s2.heap.objs.size) (s2.heap.objs.size + 1)) { s2 with heap:=h₁,toks:=s2.toks }:=by
  refine aCX (fun n s'=>∃ i σ' H',Inv (cxCC X N scope cl (s2.heap.objs.size + 1) s2 H2 fp) [] σ' H' s'/\tn i s'.heap/\(∀ b∈fp,H' b=none)/\W i n σ' H') ?_ m0 ⟨0,_,_,I4,st4,fr0,w0⟩
  rintro n s3 ⟨i,σ3,H3,I3,st3,fr3,w3⟩
  rcases turn i n σ3 H3 w3 with ⟨stop,qn⟩ | ⟨go,N',hN,step⟩
  ·refine (thn (T.done (cxCC X N scope cl (s2.heap.objs.size + 1) s2 H2 fp) rfl rfl rfl hc i [] s3 σ3 H3 (fun _ _=>False) I3 (stat fr3 (fun _ z=>nomatch z)) st3 stop) fun r s4 ⟨hr,I4'⟩=>?_)
   subst hr
   exact fin H2 s2 fp _ _ _ I2 f2 I4' qn
  ·refine (thn (T.item (cxCC X N scope cl (s2.heap.objs.size + 1) s2 H2 fp) rfl rfl rfl hc i [] s3 σ3 H3 (fun _ _=>False) I3 (stat fr3 (fun _ z=>nomatch z)) st3 go) fun r s4 ⟨u,hr,h4⟩=>?_)
   subst hr
   refine thn h4 fun _ s5 ⟨x,H5,I5,r5,y5,st5,fr5⟩=>?_
   have I5':=I5.pinned (pins:=[]) (stat fr5 (fun _ z=>nomatch z)) (T.obj _ _ st5)
   refine (thn (hg (s2.heap.objs.size + 1) s2 H2 fp _ s5 σ3 H5 x u _ I5' r5 (step x H5 y5)) fun _ s6 ⟨σ6,H6,I6,q6⟩=>?_)
   refine (thn (ht (s2.heap.objs.size + 1) s2 H2 fp _ s6 σ6 H6 _ I6 q6) fun b s7 ⟨H7,I7,q7⟩=>?_)
   have KG:∀ {σ7:St} {H7:Hp} {s7:Ad},Inv (cxCC X N scope cl (s2.heap.objs.size + 1) s2 H2 fp) ([]++aAp fp s5.heap) σ7 H7 s7->N' σ7 H7->∃ m,m < n/\∃ i σ' H',Inv (cxCC X N scope cl (s2.heap.objs.size + 1) s2 H2 fp) [] σ' H' s7/\tn i s7.heap/\(∀ b∈fp,H' b=none)/\W i m σ' H':=fun {σ7 H7 s7} I7 n7=>by
    obtain ⟨m',hm,w7⟩:=hN σ7 H7 n7
    refine ⟨m',hm,i + 1,σ7,H7,I7.unpinned,T.keep _ _ _ st5 fun b hb o e=>(I7.pin (b,o) (Ay _ (Ay _ (yJ hb e)))).1,fun b hb=>?_,w7⟩
    obtain ⟨o,e,d⟩:=T.obj _ _ st5 b hb
    exact (I7.pin (b,o) (Ay _ (Ay _ (yJ hb e)))).2.1
   cases b with
   | false =>
    rw [if_neg As] at q7 ⊢
    exact KG I7 q7
   | true =>
    rw [if_pos rfl] at q7 ⊢
    refine (thn (he (s2.heap.objs.size + 1) s2 H2 fp _ s7 σ6 H7 _ I7 q7) fun y s8 ⟨yv,H8,I8,ry,xs,hx,hz,n8⟩=>?_)
    refine (thn (yO (X:=cxCC X N scope cl (s2.heap.objs.size + 1) s2 H2 fp) _ s8 σ6 H8 (.ref s2.heap.objs.size) [yv] (.ref s2.heap.objs.size) [y] (fun _ H'=>N' σ6 H') I8 rfl (.cons ry .nil) ⟨_,xs,yv,rfl,rfl,hx,hz,n8⟩) fun _ s9 ⟨_,H9,I9,_,n9⟩=>?_)
    exact KG I9 n9
 have goal:=Ja loop (T.self X.A 0 { s2 with heap:=h₁,toks:=s2.toks } _ _ st4 loop)
 rw [hC]
 exact goal
theorem aAV {N:List Str} {scope:Scope} {cl:List (Str×Addr)} {pins:List (Addr×Obj)} {σ σ':St} {H2 H':Hp} {s2 s':Ad} {fp:List Addr} {h'':Heap} (I2:Inv X pins σ H2 s2) (f2:∀ b∈fp,FpOk X pins H2 b) (J':Inv (cxCC X N scope cl (s2.heap.objs.size + 1) s2 H2 fp) [] σ' H' s')
  (keepC:∀ b o,b≠s2.heap.objs.size + 1->s'.heap.get? b=some o->h''.get? b=some o):Inv X pins σ H' { s' with heap:=h'' }:=by
 have u0:=J'.base
 have neC:∀ b o,s2.heap.get? b=some o->b≠s2.heap.objs.size + 1:=fun b o e=>AE (Dt (An e))
 have u:Un (frs X.stack) fp H2 H' s2.heap h'':=⟨fun b o e n hb hx=>keepC b o (neC b o e) (u0.keep b o e n hb hx),fun b o e n hb hx=>by
   obtain ⟨sl,e1⟩:=u0.slot b o e n hb hx
   exact ⟨sl,keepC b _ (neC b o e) e1⟩,u0.free,fun b o e hx=>by
   obtain ⟨o',e1⟩:=u0.there b o e hx
   exact ⟨o',keepC b o' (neC b o e) e1⟩,u0.tups,u0.frzs,u0.tbls⟩
 have freeC:H' (s2.heap.objs.size + 1)=none:=J'.free
 have hok:HOk X.prog X.w H' h'':=fun b o e=>(J'.hok b o e).stay (fun c v hcc r=>keepC c v (by
   intro z
   rcases hcc with q1 | q1
   ·rw [<- q1,z,freeC] at e; cases e
   ·rw [z,freeC] at q1; cases q1) r) (fun _ z=>z) fun _ _ z=>z
 exact I2.call' (s':={ s' with heap:=h'' }) J'.os u hok J'.bare fun b hb=>⟨(f2 b hb).2.2.2.1,(f2 b hb).2.1,(f2 b hb).2.2.2.2.1,(f2 b hb).2.2.2.2.2⟩
theorem qC {elt iter tg:Expr} {ifs:List Expr} {scope:Scope} {pos:Pos} {N:List Str} {mp:List (Option Nat)} {cl:List (Str×Addr)} {wi:TI} {g:Addr->Ad->Hp->List Addr->TG} {tt:Addr->Ad->Hp->List Addr->TT} {te:Addr->Ad->Hp->List Addr->TE}
  (hc:X.calm=true) (S:CompScopeC X N mp scope) (hcl:yh X.env.cells scope.names []=some cl) (hi:PI X tg iter wi)
  (hg:∀ C s2 H2 fp,PG (cxCC X N scope cl C s2 H2 fp) tg (g C s2 H2 fp)) (ht:∀ C s2 H2 fp,PTL (cxCC X N scope cl C s2 H2 fp) ifs (tt C s2 H2 fp)) (he:∀ C s2 H2 fp,PE (cxCC X N scope cl C s2 H2 fp) elt (te C s2 H2 fp))
  (hs:∀ x,CI iter X.env x=pure x:=by intro _; rfl) :
  PE X (.ListComp elt [⟨tg,iter,ifs,0⟩] scope pos) (aHz mp wi g tt te):=by
 intro pins s σ H Q I h
 rw [eval_ListComp]
 refine aDL hc S hcl hi hg ht he hs I h fun H2 s2 fp σ' H' s' I2 f2 J' q=>?_
 obtain ⟨m,hm,_⟩:=id J'.loc
 exact ⟨m,hm,fun h'' sb=>⟨.ref s2.heap.objs.size,H',aAV I2 f2 J' fun b o hb e=>sb.extBut b o hb e,rfl,q⟩⟩
theorem aI7 {i:Nat} {x:Str} {pos' spos:Pos} {elt iter tg:Expr} {ifs:List Expr} {scope:Scope} {pos:Pos} {N:List Str} {mp:List (Option Nat)} {cl:List (Str×Addr)} {wi:TI} {g:Addr->Ad->Hp->List Addr->TG} {tt:Addr->Ad->Hp->List Addr->TT} {te:Addr->Ad->Hp->List Addr->TE}
  (hN:X.N.Nodup) (hx:X.N[i]?=some x) (hl:Loc X.env.scope x) (hc:X.calm=true) (S:CompScopeC X N mp scope) (hcl:yh X.env.cells scope.names []=some cl) (hi:PI X tg iter wi)
  (hg:∀ C s2 H2 fp,PG (cxCC X N scope cl C s2 H2 fp) tg (g C s2 H2 fp)) (ht:∀ C s2 H2 fp,PTL (cxCC X N scope cl C s2 H2 fp) ifs (tt C s2 H2 fp)) (he:∀ C s2 H2 fp,PE (cxCC X N scope cl C s2 H2 fp) elt (te C s2 H2 fp))
  (hs:∀ x,CI iter X.env x=pure x:=by intro _; rfl)
  (hsw:Gr (.ListComp elt [⟨tg,iter,ifs,0⟩] scope pos) (some (.Name x pos')) spos.line X.env=pure true:=by rfl)
  (hf:X.fn x=true\/X.env.scope.names.lookup x=some .local:=by first | exact .inl rfl | exact .inr rfl | assumption) :
  PS X (.Assign [.Name x pos'] (.ListComp elt [⟨tg,iter,ifs,0⟩] scope pos) spos) (fun D σ H=>aHz mp wi g tt te σ H fun v H1=>D.nx (σ.set i (some v)) H1):=by
 intro pins s σ H D I h
 rw [Jw _ _ _ _ hsw]
 refine Aa (CT ?_)
 rw [Ic]
 refine Aa (Aa (thn (aDL hc S hcl hi hg ht he hs (PQ:=fun _ s'=>SP X pins D .next s') I h fun H2 s2 fp σ' H' s' I2 f2 J' q=>?_) fun _ _ z=>Ab (Ab z)))
 ·obtain ⟨m,⟨oC,es,ep,ho,r⟩,_⟩:=id J'.loc
  have I3:Inv X pins σ H' s':=aAV (h'':=s'.heap) I2 f2 J' fun b o _ e=>e
  have nL:s2.heap.objs.size + 1≠X.env.locals:=Ci (AB I2.lt (Db _))
  have nf:s2.heap.objs.size + 1 ∉ X.fs:=I2.nofs (Db _)
  have fp:=Inv.fpOk (H':=H') I2 (Db _) (b:=s2.heap.objs.size + 1) J'.free
  have I4:Inv X (pins++[(s2.heap.objs.size + 1,oC)]) σ H' s':=I3.pins_of fun p hp=>by
   rcases Ar.mp hp with z | z
   ·exact I3.pin p (Ay _ z)
   ·have e:p=(s2.heap.objs.size + 1,oC):=by simpa using z
    subst e
    exact ⟨ho,J'.free,nL,nf,fun v z=>by rw [r.1] at z; cases z⟩
  show Ax _ _ (KD (.Name x pos') X.env _) _ _ _
  refine Aa (CT (wpAny_bindName (aAG I4 hN hx hl (show RelV (.ref s2.heap.objs.size) (.ref s2.heap.objs.size) from rfl) (fun s5 I5=>?_) hf)))
  obtain ⟨hC,_⟩:=I5.pin (s2.heap.objs.size + 1,oC) (Ay _ (Ay _ (by simp)))
  refine ⟨m,⟨oC,es,ep,hC,r⟩,fun h' sb=>⟨_,H',?_,q⟩⟩
  have I6:Inv X pins (σ.set i (some (.ref s2.heap.objs.size))) H' s5:=I5.pins_of fun p hp=>I5.pin p (Ay _ (CJ _ hp))
  exact I6.turned (t':=s5.toks) (it:=s2.heap.objs.size + 1) (fun b o hb e=>sb.extBut b o hb e) fp.1 fp.2.1 fp.2.2.2.1 fp.2.2.2.2.1 fp.2.2.2.2.2
theorem qo {N:List Str} {scope:Scope} (mp:List (Option Nat)) (h1:scope.kind=.function) (h2:∀ y∈scope.names,y.2=.cell->scope.names.lookup y.1=some .cell) (h3:∀ y∈scope.names,y.2=.local->scope.names.lookup y.1=some .local) (h4:mp.length=N.length)
  (h5:aAt X.N X.env.scope.names N scope.names mp 0=true):CompScopeC X N mp scope :=
 ⟨h1,h2,h3,h4,fun i j e=>by
  obtain ⟨x,a,b,c,d⟩:=aAS h5 i j e
  exact ⟨x,by simpa using a,b,c,d⟩⟩
end
theorem aBD (elt t1 i1 t2 i2:Expr) (scope:Scope) (pos:Pos) (it acc:Value) (env:Env) :
  Md (.ListComp elt [⟨t1,i1,[],0⟩,⟨t2,i2,[],0⟩] scope pos) 0 it acc env=(do
   Km i1.pos
   match <- EU it with
   | none=>pure (.done .next)
   | some v =>
    DU t1 it v
    KD t1 env v
    let x <- eval i2 env
    Km i2.pos
    let x <- CI i2 env x
    let _ <- runOwn (.compStart (.ListComp elt [⟨t1,i1,[],0⟩,⟨t2,i2,[],0⟩] scope pos) 1 (<- Ji [x] (Jj x)) acc env) env
    KG (.compLoop (.ListComp elt [⟨t1,i1,[],0⟩,⟨t2,i2,[],0⟩] scope pos) 0 it acc env)):=by rfl
theorem aBE (elt t1 i1 t2 i2:Expr) (scope:Scope) (pos:Pos) (it acc:Value) (env:Env) :
  Md (.ListComp elt [⟨t1,i1,[],0⟩,⟨t2,i2,[],0⟩] scope pos) 1 it acc env=(do
   Km i2.pos
   match <- EU it with
   | none=>pure (.done .next)
   | some v =>
    DU t2 it v
    KD t2 env v
    (do let _ <- call (.builtin "list.append") [acc,<- eval elt env])
    KG (.compLoop (.ListComp elt [⟨t1,i1,[],0⟩,⟨t2,i2,[],0⟩] scope pos) 1 it acc env)):=by rfl
section
variable {prog:Ap} {w:AT} {A:AR} {R:Ka->Ad->Prop} {s:Ad}
theorem aAk {elt t1 i1 t2 i2 scope pos it acc env}
    (h0:Ef (AC prog w) A (.compLoop (.ListComp elt [⟨t1,i1,[],0⟩,⟨t2,i2,[],0⟩] scope pos) 1 it acc env) R s)
    (h:Ax (AC prog w) A (Jj it) (fun it' s'=>Ef (AC prog w) A (.compLoop (.ListComp elt [⟨t1,i1,[],0⟩,⟨t2,i2,[],0⟩] scope pos) 1 it' acc env) R s')
      (notedBy (AC prog w) A env fun x s'=>R (.error x) s') s) :
    Ef (AC prog w) A (.compStart (.ListComp elt [⟨t1,i1,[],0⟩,⟨t2,i2,[],0⟩] scope pos) 1 it acc env) R s:=by
  refine Hj ?_
  show Ax _ _ ((compStart (.ListComp elt [⟨t1,i1,[],0⟩,⟨t2,i2,[],0⟩] scope pos) 1 it acc env).onRaise (fun x=>do Jr x env; Km theWindowsPlace)) _ _ s
  refine wpAny_notedAt ?_
  unfold compStart
  show Ax _ _ (ask >>= _) _ _ s
  refine Aa (CG (wpAny_ite ?_))
  split
  · first
      | exact Aa (Ab (Ab (Mt rfl h0)))
      | exact Ab (Mt rfl h0)
  · first
      | exact Aa (Cp (Aa (CT (Aa (BJ h (fun it' s' h'=>Ab (Mt rfl h')) fun _ _ x=>x)))))
      | (refine Aa (Cp ?_); show Ax _ _ (Km i2.pos >>= _) _ _ s; exact Aa (CT (Aa (BJ h (fun it' s' h'=>Ab (Mt rfl h')) fun _ _ x=>x))))
theorem aBF {elt t1 i1 t2 i2:Expr} {scope:Scope} {pos:Pos} {it acc:Value} {env:Env} (I:Nat->Ad->Prop) (hs:∀ x,CI i2 env x=pure x)
  (turn:∀ n s,I n s->Ax (AC prog w) A (EU it) (fun r s₁=>match r with
   | none=>R (.ok .next) s₁
   | some v=>Ax (AC prog w) A (DU t1 it v) (fun _ s1=>Ax (AC prog w) A (KD t1 env v) (fun _ s₂ =>
     Ax (AC prog w) A (eval i2 env) (fun x s₃=>Ax (AC prog w) A (Jj x) (fun it2 s₄ =>
      Ef (AC prog w) A (.compStart (.ListComp elt [⟨t1,i1,[],0⟩,⟨t2,i2,[],0⟩] scope pos) 1 it2 acc env) (fun r s₅=>r=.ok .next/\∃ m,m < n/\I m s₅) s₄) (fun _ _=>False) s₃) (fun _ _=>False) s₂) (fun _ _=>False) s1) (fun _ _=>False) s₁) (fun _ _=>False) s)
  (n:Nat) (h:I n s) :
  Ef (AC prog w) A (.compLoop (.ListComp elt [⟨t1,i1,[],0⟩,⟨t2,i2,[],0⟩] scope pos) 0 it acc env) R s:=by
 refine LC rfl I (fun n s hI=>?_) n h
 show Ax _ A ((Md (.ListComp elt [⟨t1,i1,[],0⟩,⟨t2,i2,[],0⟩] scope pos) 0 it acc env).onRaise (fun x=>do Jr x env; Js x)) _ _ s
 refine Mn ?_
 rw [aBD]
 refine Aa (CT (Aa (BJ (turn n s hI) (fun r s₁ h₁=>?_) fun _ _ h'=>h'.elim)))
 cases r with
 | none=>exact Ab h₁
 | some v =>
  refine Aa (BJ h₁ (fun _ s1 h1=>Aa (BJ h1 (fun _ s₂ h₂=>Aa (BJ h₂ (fun x s₃ h₃=>?_) fun _ _ h'=>h'.elim)) fun _ _ h'=>h'.elim)) fun _ _ h'=>h'.elim)
  refine Aa (CT (Aa (He (hs x) (Aa (BE (BJ h₃ (fun it2 s₄ h₄=>?_) fun _ _ h'=>h'.elim))))))
  refine Aa (wpAny_runOwn (Ey h₄ fun r s₅ hr=>?_))
  obtain ⟨rfl,hm⟩:=hr
  exact Ab ⟨rfl,hm⟩
theorem aBG {elt t1 i1 t2 i2:Expr} {scope:Scope} {pos:Pos} {it acc:Value} {env:Env} (I:Nat->Ad->Prop)
  (turn:∀ n s,I n s->Ax (AC prog w) A (EU it) (fun r s₁=>match r with
   | none=>R (.ok .next) s₁
   | some v=>Ax (AC prog w) A (DU t2 it v) (fun _ s1=>Ax (AC prog w) A (KD t2 env v) (fun _ s₂ =>
     Ax (AC prog w) A (eval elt env) (fun x s₄ =>
       Ax (AC prog w) A (call (.builtin "list.append") [acc,x]) (fun _ s₅=>∃ m,m < n/\I m s₅) (fun _ _=>False) s₄) (fun _ _=>False) s₂) (fun _ _=>False) s1) (fun _ _=>False) s₁) (fun _ _=>False) s)
  (n:Nat) (h:I n s) :
  Ef (AC prog w) A (.compLoop (.ListComp elt [⟨t1,i1,[],0⟩,⟨t2,i2,[],0⟩] scope pos) 1 it acc env) R s:=by
 refine LC rfl I (fun n s hI=>?_) n h
 show Ax _ A ((Md (.ListComp elt [⟨t1,i1,[],0⟩,⟨t2,i2,[],0⟩] scope pos) 1 it acc env).onRaise (fun x=>do Jr x env; Js x)) _ _ s
 refine Mn ?_
 rw [aBE]
 refine Aa (CT (Aa (BJ (turn n s hI) (fun r s₁ h₁=>?_) fun _ _ h'=>h'.elim)))
 cases r with
 | none=>exact Ab h₁
 | some v =>
  refine Aa (BJ h₁ (fun _ s1 h1=>Aa (BJ h1 (fun _ s₂ h₂=>?_) fun _ _ h'=>h'.elim)) fun _ _ h'=>h'.elim)
  exact Aa (Aa (BJ h₂ (fun x s₄ h₄=>Aa (BJ h₄ (fun _ s₅ h₅=>Ab (Ab ⟨rfl,h₅⟩)) fun _ _ h'=>h'.elim)) fun _ _ h'=>h'.elim))
end
noncomputable def tIn (D:Addr) (wi:TI) (g:TG) (te:TE) (NX:St->Hp->Prop) (σ:St) (H:Hp):Prop:=wi σ H fun J H1=>∃ W:Nat->Nat->St->Hp->Prop,(∃ m,W 0 m σ H1)/\∀ i m σ H,W i m σ H ->
 (J.stop i H/\NX σ H)\/(J.go i H/\∃ N:St->Hp->Prop,(∀ σ' H',N σ' H'->∃ m',m' < m/\W (i + 1) m' σ' H')/\∀ x H',J.yld i H x H'->g x σ H' fun σ2 H2=>te σ2 H2 fun y H5=>∃ xs,H5 D=some (.lst xs)/\xs.length < sizeLine/\N σ2 (upd H5 D (.lst (xs++[y]))))
noncomputable def aHR (mp:List (Option Nat)) (wi:TI) (g:Addr->Ad->Hp->List Addr->TG) (wi2:Addr->Ad->Hp->List Addr->TI) (g2:Addr->Ad->Hp->List Addr->TG) (te:Addr->Ad->Hp->List Addr->TE):TE:=fun σ H Q=>wi σ H fun J H1=>∀ (D:Addr),H1 D=none->∀ (C:Addr) (s2:Ad) (fp:List Addr),
 ∃ W:Nat->Nat->St->Hp->Prop,(∃ m,W 0 m (yT mp σ) (upd H1 D (.lst [])))/\∀ i m σ2 H2,W i m σ2 H2 ->
  (J.stop i H2/\Q (.ref D) H2)\/(J.go i H2/\∃ N:St->Hp->Prop,(∀ σ' H',N σ' H'->∃ m',m' < m/\W (i + 1) m' σ' H')/\∀ x H',J.yld i H2 x H'->g C s2 H1 fp x σ2 H' fun σ3 H3=>tIn D (wi2 C s2 H1 fp) (g2 C s2 H1 fp) (te C s2 H1 fp) N σ3 H3)
noncomputable def aKg (i:Nat) (t:TE):TS:=fun D σ H=>t σ H fun v H1=>D.nx (σ.set i (some v)) H1
section
variable {X:Cx}
theorem aJG {elt t1 i1 t2 i2:Expr} {scope:Scope} {pos:Pos} {wi:TI} {g:TG} {te:TE} {D:Addr} {NX:St->Hp->Prop} (hc:X.calm=true) (hx:X.xe=fun _ _=>False) (hi:PI X t2 i2 wi) (hg:PG X t2 g) (he:PE X elt te)
  {pins:List (Addr×Obj)} {s:Ad} {σ:St} {H:Hp} {R:Ad->Prop} (I:Inv X pins σ H s) (h:tIn D wi g te NX σ H) (fin:∀ σ' H' s',Inv X pins σ' H' s'->NX σ' H'->R s') :
  Ax (AC X.prog X.w) X.A (eval i2 X.env) (fun x s₃=>Ax (AC X.prog X.w) X.A (Jj x) (fun it2 s₄ =>
   Ef (AC X.prog X.w) X.A (.compStart (.ListComp elt [⟨t1,i1,[],0⟩,⟨t2,i2,[],0⟩] scope pos) 1 it2 (.ref D) X.env) (fun r s₅=>r=.ok .next/\R s₅) s₄) (fun _ _=>False) s₃) (fun _ _=>False) s:=by
 have h0:=hi pins s σ H _ I h
 rw [hx] at h0
 refine thn h0 fun v s1 h1=>thn h1 fun itv s2 h2=>?_
 obtain ⟨it,fp,tn,J,H2,e,I2,T,st2,f2,W,⟨m0,w0⟩,turn⟩:=h2
 subst e
 have stat:∀ {H':Hp},(∀ b∈fp,H' b=none)->∀ b∈fp,FpOk X pins H' b:=fun hn b hb=>⟨hn b hb,(f2 b hb).2⟩
 have loop:Ef (AC X.prog X.w) X.A (.compLoop (.ListComp elt [⟨t1,i1,[],0⟩,⟨t2,i2,[],0⟩] scope pos) 1 (.ref it) (.ref D) X.env) (fun r s₅=>r=.ok .next/\R s₅) s2:=by
  refine aBG (fun n s'=>∃ i σ' H',Inv X pins σ' H' s'/\tn i s'.heap/\(∀ b∈fp,H' b=none)/\W i n σ' H') ?_ m0 ⟨0,σ,H2,I2,st2,fun b hb=>(f2 b hb).1,w0⟩
  rintro n s3 ⟨i,σ3,H3,I3,st3,fr3,w3⟩
  rcases turn i n σ3 H3 w3 with ⟨stop,qn⟩ | ⟨go,N',hN,step⟩
  ·refine (thn (T.done X rfl rfl rfl hc i pins s3 σ3 H3 (fun _ _=>False) I3 (stat fr3) st3 stop) fun r s4 ⟨hr,I4'⟩=>?_)
   subst hr
   exact ⟨rfl,fin _ _ _ I4' qn⟩
  ·refine (thn (T.item X rfl rfl rfl hc i pins s3 σ3 H3 (fun _ _=>False) I3 (stat fr3) st3 go) fun r s4 ⟨u,hr,h4⟩=>?_)
   subst hr
   refine thn h4 fun _ s5 ⟨x,H5,I5,r5,y5,st5,fr5⟩=>?_
   have I5':=I5.pinned (stat fr5) (T.obj _ _ st5)
   have hg':=hg _ s5 σ3 H5 x u _ I5' r5 (step x H5 y5)
   rw [hx] at hg'
   refine (thn hg' fun _ s6 ⟨σ6,H6,I6,q6⟩=>?_)
   have KG:∀ {σ7:St} {H7:Hp} {s7:Ad},Inv X (pins++aAp fp s5.heap) σ7 H7 s7->N' σ7 H7->∃ m,m < n/\∃ i σ' H',Inv X pins σ' H' s7/\tn i s7.heap/\(∀ b∈fp,H' b=none)/\W i m σ' H':=fun {σ7 H7 s7} I7 n7=>by
    obtain ⟨m',hm,w7⟩:=hN σ7 H7 n7
    refine ⟨m',hm,i + 1,σ7,H7,I7.unpinned,T.keep _ _ _ st5 fun b hb o e=>(I7.pin (b,o) (Ay _ (Ay _ (yJ hb e)))).1,fun b hb=>?_,w7⟩
    obtain ⟨o,e,d⟩:=T.obj _ _ st5 b hb
    exact (I7.pin (b,o) (Ay _ (Ay _ (yJ hb e)))).2.1
   have he':=he _ s6 σ6 H6 _ I6 q6
   rw [hx] at he'
   refine (thn he' fun y s8 ⟨yv,H8,I8,ry,xs,hx8,hz,n8⟩=>?_)
   have ha:=yO (X:=X) _ s8 σ6 H8 (.ref D) [yv] (.ref D) [y] (fun _ H'=>N' σ6 H') I8 rfl (.cons ry .nil) ⟨_,xs,yv,rfl,rfl,hx8,hz,n8⟩
   rw [hx] at ha
   refine (thn ha fun _ s9 ⟨_,H9,I9,_,n9⟩=>?_)
   exact KG I9 n9
 exact aAk loop (T.self X.A 0 s2 _ _ st2 loop)
theorem aF5 {elt t1 i1 t2 i2:Expr} {scope:Scope} {pos:Pos} {N:List Str} {mp:List (Option Nat)} {cl:List (Str×Addr)} {wi:TI} {g:Addr->Ad->Hp->List Addr->TG} {wi2:Addr->Ad->Hp->List Addr->TI} {g2:Addr->Ad->Hp->List Addr->TG} {te:Addr->Ad->Hp->List Addr->TE}
  (hc:X.calm=true) (S:CompScopeC X N mp scope) (hcl:yh X.env.cells scope.names []=some cl) (hi:PI X t1 i1 wi)
  (hg:∀ C s2 H2 fp,PG (cxCC X N scope cl C s2 H2 fp) t1 (g C s2 H2 fp)) (hi2:∀ C s2 H2 fp,PI (cxCC X N scope cl C s2 H2 fp) t2 i2 (wi2 C s2 H2 fp)) (hg2:∀ C s2 H2 fp,PG (cxCC X N scope cl C s2 H2 fp) t2 (g2 C s2 H2 fp)) (he:∀ C s2 H2 fp,PE (cxCC X N scope cl C s2 H2 fp) elt (te C s2 H2 fp))
  (hs:∀ x,CI i1 X.env x=pure x) (hs2:∀ C x,CI i2 (Mc scope (CN (C + 1) scope.names cl) C X.env) x=pure x)
  {use:Option (Value->Sem Unit)} {PQ:Value->Ad->Prop} {pins:List (Addr×Obj)} {s:Ad} {σ:St} {H:Hp} {Q:VK} (I:Inv X pins σ H s) (h:aHR mp wi g wi2 g2 te σ H Q)
  (fin:∀ (H2:Hp) (s2:Ad) (fp:List Addr) (σ':St) (H':Hp) (s':Ad),Inv X pins σ H2 s2->(∀ b∈fp,FpOk X pins H2 b)->Inv (cxCC X N scope cl (s2.heap.objs.size + 1) s2 H2 fp) [] σ' H' s'->Q (.ref s2.heap.objs.size) H' ->
   Nf (AC X.prog X.w) X.A X.xe use PQ (.ref s2.heap.objs.size) (s2.heap.objs.size + 1) (.ok .next) s') :
  Ax (AC X.prog X.w) X.A (comprehension (.ListComp elt [⟨t1,i1,[],0⟩,⟨t2,i2,[],0⟩] scope pos) scope X.env (firstIterPos [⟨t1,i1,[],0⟩,⟨t2,i2,[],0⟩] pos) (Mr []) (firstAsync [⟨t1,i1,[],0⟩,⟨t2,i2,[],0⟩]) (firstIter [⟨t1,i1,[],0⟩,⟨t2,i2,[],0⟩] X.env) use) PQ X.xe s:=by
 refine Ib (use:=use) rfl hs (jc hcl) S.kind S.names (thn (hi pins s σ H _ I h) fun v s1 h1=>thn h1 fun itv s2 h2=>?_)
 obtain ⟨it,fp,tn,J,H2,e,I2,T,st2,f2,h3⟩:=h2
 subst e
 refine Bb (aAA ?_)
 dsimp only
 have hn2:H2 s2.heap.objs.size=none:=I2.hok.fresh (Ai _)
 generalize hH2:s2.heap.push { cls:=.type "list",dict:=none,data:=.seq ([]:List Value).toArray }=G2
 have hC:G2.objs.size=s2.heap.objs.size + 1:=by rw [<- hH2,BW]
 generalize hh1:Nu (G2.push PySem.W.emptyDict) scope.names=h₁
 have old1:∀ b o,G2.get? b=some o->h₁.get? b=some o:=fun b o e=>by rw [<- hh1]; exact Hk _ _ b o (Ac _ e)
 have old:∀ b o,s2.heap.get? b=some o->h₁.get? b=some o:=fun b o e=>old1 b o (hH2 ▸ Ac _ e)
 have hD1:h₁.get? s2.heap.objs.size=some { cls:=.type "list",data:=.seq ([]:List Value).toArray }:=old1 _ _ (hH2 ▸ Ak _ rfl)
 have hns₁:h₁.Ns (s2.heap.objs.size + 1) (fun _=>none):=by
  have e1:h₁.get? G2.objs.size=some PySem.W.emptyDict:=by rw [<- hh1]; exact Hk _ _ _ _ (Ak _ rfl)
  rw [hC] at e1
  exact ⟨_,#[],_,e1,rfl,fun e he=>absurd he (by simp),fun _=>rfl⟩
 have cok:NH h₁ (s2.heap.objs.size + 2) (aAU scope (s2.heap.objs.size + 1)):=by
  have:=cellsFrom_ok scope.names (G2.push PySem.W.emptyDict) (s2.heap.objs.size + 2) [] ⟨fun _ _ hm=>(nomatch hm),En⟩ (by rw [BW,hC]; exact Ai _)
  rw [BW,hC,hh1] at this
  exact this
 obtain ⟨W,⟨m0,w0⟩,turn⟩:=h3 s2.heap.objs.size hn2 (s2.heap.objs.size + 1) s2 fp
 have I4:=aBr (tk:=s2.toks) I2 S hcl f2 (fun b hb=>let ⟨o,e,_⟩:=T.obj _ _ st2 b hb; ⟨o,e⟩) old hD1 hns₁ cok
 have st4:tn 0 h₁:=T.keep _ _ _ st2 fun b hb o e=>old b o e
 have stat:∀ {pl:List (Addr×Obj)} {H':Hp},(∀ b∈fp,H' b=none)->(∀ p∈pl,p.1 ∉ fp)->∀ b∈fp,FpOk (cxCC X N scope cl (s2.heap.objs.size + 1) s2 H2 fp) pl H' b:=fun {pl H'} hn hp b hb =>
  ⟨hn b hb,(I4.ok.exf b hb).1,I4.ok.exfs b hb,.inl hb,(I4.ok.exf b hb).2,fun p z q=>hp p (by simpa [cxC,cxCC] using z) (by rw [q]; exact hb)⟩
 have fr0:∀ b∈fp,(upd H2 s2.heap.objs.size (.lst [])) b=none:=fun b hb=>by
  obtain ⟨o,e,_⟩:=T.obj _ _ st2 b hb
  rw [zI (AE (An e))]
  exact (f2 b hb).1
 have loop:Ef (AC X.prog X.w) X.A (.compLoop (.ListComp elt [⟨t1,i1,[],0⟩,⟨t2,i2,[],0⟩] scope pos) 0 (.ref it) (.ref s2.heap.objs.size) (Mc scope (CN (s2.heap.objs.size + 1 + 1) scope.names cl) (s2.heap.objs.size + 1) X.env))
   (Nf (AC X.prog X.w) X.A X.xe use PQ (.ref s2.heap.objs.size) (s2.heap.objs.size + 1)) { s2 with heap:=h₁,toks:=s2.toks }:=by
  refine aBF (fun n s'=>∃ i σ' H',Inv (cxCC X N scope cl (s2.heap.objs.size + 1) s2 H2 fp) [] σ' H' s'/\tn i s'.heap/\(∀ b∈fp,H' b=none)/\W i n σ' H') (hs2 _) ?_ m0 ⟨0,_,_,I4,st4,fr0,w0⟩
  rintro n s3 ⟨i,σ3,H3,I3,st3,fr3,w3⟩
  rcases turn i n σ3 H3 w3 with ⟨stop,qn⟩ | ⟨go,N',hN,step⟩
  ·refine (thn (T.done (cxCC X N scope cl (s2.heap.objs.size + 1) s2 H2 fp) rfl rfl rfl hc i [] s3 σ3 H3 (fun _ _=>False) I3 (stat fr3 (fun _ z=>nomatch z)) st3 stop) fun r s4 ⟨hr,I4'⟩=>?_)
   subst hr
   exact fin H2 s2 fp _ _ _ I2 f2 I4' qn
  ·refine (thn (T.item (cxCC X N scope cl (s2.heap.objs.size + 1) s2 H2 fp) rfl rfl rfl hc i [] s3 σ3 H3 (fun _ _=>False) I3 (stat fr3 (fun _ z=>nomatch z)) st3 go) fun r s4 ⟨u,hr,h4⟩=>?_)
   subst hr
   refine thn h4 fun _ s5 ⟨x,H5,I5,r5,y5,st5,fr5⟩=>?_
   have I5':=I5.pinned (pins:=[]) (stat fr5 (fun _ z=>nomatch z)) (T.obj _ _ st5)
   refine (thn (hg (s2.heap.objs.size + 1) s2 H2 fp _ s5 σ3 H5 x u _ I5' r5 (step x H5 y5)) fun _ s6 ⟨σ6,H6,I6,q6⟩=>?_)
   exact aJG (X:=cxCC X N scope cl (s2.heap.objs.size + 1) s2 H2 fp) hc rfl (hi2 (s2.heap.objs.size + 1) s2 H2 fp) (hg2 (s2.heap.objs.size + 1) s2 H2 fp) (he (s2.heap.objs.size + 1) s2 H2 fp) I6 q6 fun σ7 H7 s7 I7 n7=>by
    obtain ⟨m',hm,w7⟩:=hN σ7 H7 n7
    refine ⟨m',hm,i + 1,σ7,H7,I7.unpinned,T.keep _ _ _ st5 fun b hb o e=>(I7.pin (b,o) (Ay _ (Ay _ (yJ hb e)))).1,fun b hb=>?_,w7⟩
    obtain ⟨o,e,d⟩:=T.obj _ _ st5 b hb
    exact (I7.pin (b,o) (Ay _ (Ay _ (yJ hb e)))).2.1
 have goal:=Ja loop (T.self X.A 0 { s2 with heap:=h₁,toks:=s2.toks } _ _ st4 loop)
 rw [hC]
 exact goal
theorem aF6 {i:Nat} {x:Str} {pos' spos:Pos} {elt t1 i1 t2 i2:Expr} {scope:Scope} {pos:Pos} {N:List Str} {mp:List (Option Nat)} {cl:List (Str×Addr)} {wi:TI} {g:Addr->Ad->Hp->List Addr->TG} {wi2:Addr->Ad->Hp->List Addr->TI} {g2:Addr->Ad->Hp->List Addr->TG} {te:Addr->Ad->Hp->List Addr->TE}
  (hN:X.N.Nodup) (hx:X.N[i]?=some x) (hl:Loc X.env.scope x) (hc:X.calm=true) (S:CompScopeC X N mp scope) (hcl:yh X.env.cells scope.names []=some cl) (hi:PI X t1 i1 wi)
  (hg:∀ C s2 H2 fp,PG (cxCC X N scope cl C s2 H2 fp) t1 (g C s2 H2 fp)) (hi2:∀ C s2 H2 fp,PI (cxCC X N scope cl C s2 H2 fp) t2 i2 (wi2 C s2 H2 fp)) (hg2:∀ C s2 H2 fp,PG (cxCC X N scope cl C s2 H2 fp) t2 (g2 C s2 H2 fp)) (he:∀ C s2 H2 fp,PE (cxCC X N scope cl C s2 H2 fp) elt (te C s2 H2 fp))
  (hs:∀ x,CI i1 X.env x=pure x:=by intro _; rfl) (hs2:∀ C x,CI i2 (Mc scope (CN (C + 1) scope.names cl) C X.env) x=pure x:=by intro _ _; rfl)
  (hsw:Gr (.ListComp elt [⟨t1,i1,[],0⟩,⟨t2,i2,[],0⟩] scope pos) (some (.Name x pos')) spos.line X.env=pure true:=by rfl)
  (hf:X.fn x=true\/X.env.scope.names.lookup x=some .local:=by first | exact .inl rfl | exact .inr rfl | assumption) :
  PS X (.Assign [.Name x pos'] (.ListComp elt [⟨t1,i1,[],0⟩,⟨t2,i2,[],0⟩] scope pos) spos) (aKg i (aHR mp wi g wi2 g2 te)):=by
 intro pins s σ H D I h
 rw [Jw _ _ _ _ hsw]
 refine Aa (CT ?_)
 rw [Ic]
 refine Aa (Aa (thn (aF5 hc S hcl hi hg hi2 hg2 he hs hs2 (PQ:=fun _ s'=>SP X pins D .next s') I h fun H2 s2 fp σ' H' s' I2 f2 J' q=>?_) fun _ _ z=>Ab (Ab z)))
 ·obtain ⟨m,⟨oC,es,ep,ho,r⟩,_⟩:=id J'.loc
  have I3:Inv X pins σ H' s':=aAV (h'':=s'.heap) I2 f2 J' fun b o _ e=>e
  have nL:s2.heap.objs.size + 1≠X.env.locals:=Ci (AB I2.lt (Db _))
  have nf:s2.heap.objs.size + 1 ∉ X.fs:=I2.nofs (Db _)
  have fp:=Inv.fpOk (H':=H') I2 (Db _) (b:=s2.heap.objs.size + 1) J'.free
  have I4:Inv X (pins++[(s2.heap.objs.size + 1,oC)]) σ H' s':=I3.pins_of fun p hp=>by
   rcases Ar.mp hp with z | z
   ·exact I3.pin p (Ay _ z)
   ·have e:p=(s2.heap.objs.size + 1,oC):=by simpa using z
    subst e
    exact ⟨ho,J'.free,nL,nf,fun v z=>by rw [r.1] at z; cases z⟩
  show Ax _ _ (KD (.Name x pos') X.env _) _ _ _
  refine Aa (CT (wpAny_bindName (aAG I4 hN hx hl (show RelV (.ref s2.heap.objs.size) (.ref s2.heap.objs.size) from rfl) (fun s5 I5=>?_) hf)))
  obtain ⟨hC,_⟩:=I5.pin (s2.heap.objs.size + 1,oC) (Ay _ (Ay _ (by simp)))
  refine ⟨m,⟨oC,es,ep,hC,r⟩,fun h' sb=>⟨_,H',?_,q⟩⟩
  have I6:Inv X pins (σ.set i (some (.ref s2.heap.objs.size))) H' s5:=I5.pins_of fun p hp=>I5.pin p (Ay _ (CJ _ hp))
  exact I6.turned (t':=s5.toks) (it:=s2.heap.objs.size + 1) (fun b o hb e=>sb.extBut b o hb e) fp.1 fp.2.1 fp.2.2.2.1 fp.2.2.2.2.1 fp.2.2.2.2.2
end
theorem aHS {K:Ah} {a D:Addr} {zs:List V} {g:TG} {te:TE} {NX:St->Hp->Prop} {σ:St} {H:Hp} (Pv:Nat->St->Hp->Prop) (h0:Pv 0 σ H) (hl:∀ i σ H,Pv i σ H->SqT K H a zs)
  (hs:∀ i x σ H,zs[i]?=some x->Pv i σ H->g x σ H fun σ2 H2=>te σ2 H2 fun y H5=>∃ xs,H5 D=some (.lst xs)/\xs.length < sizeLine/\Pv (i + 1) σ2 (upd H5 D (.lst (xs++[y])))) (hd:∀ σ H,Pv zs.length σ H->NX σ H) :
  ∃ W:Nat->Nat->St->Hp->Prop,(∃ m,W 0 m σ H)/\∀ i m σ H,W i m σ H ->
   ((Itt K a).stop i H/\NX σ H)\/((Itt K a).go i H/\∃ N:St->Hp->Prop,(∀ σ' H',N σ' H'->∃ m',m' < m/\W (i + 1) m' σ' H')/\∀ x H',(Itt K a).yld i H x H'->g x σ H' fun σ2 H2=>te σ2 H2 fun y H5=>∃ xs,H5 D=some (.lst xs)/\xs.length < sizeLine/\N σ2 (upd H5 D (.lst (xs++[y])))):=by
 refine ⟨fun i m σ H=>m=zs.length - i/\i<=zs.length/\Pv i σ H,⟨zs.length,by simp,AS _,h0⟩,?_⟩
 rintro i m σ H ⟨rfl,hi,p⟩
 have q:=hl i σ H p
 by_cases hlt:i < zs.length
 ·refine .inr ⟨⟨zs,zs[i],q,by simp [hlt]⟩,Pv (i + 1),fun σ' H' p'=>⟨zs.length - (i + 1),by lia,rfl,hlt,p'⟩,fun x H' y=>?_⟩
  obtain ⟨e,y⟩:=y
  subst e
  exact hs i x σ _ (y zs q) p
 ·have e:i=zs.length:=by lia
  subst e
  exact .inl ⟨⟨zs,q,Ai _⟩,hd σ H p⟩
theorem aDM {K:Ah} {a D:Addr} {xs:List V} {g:TG} {wi:TI} {g2:TG} {te:TE} {R:Hp->Prop} {σ:St} {H:Hp} (Pv:Nat->St->Hp->Prop) (h0:Pv 0 σ H) (hl:∀ i σ H,Pv i σ H->SqL K H a xs)
  (hs:∀ i x σ H,xs[i]?=some x->Pv i σ H->g x σ H fun σ3 H3=>tIn D wi g2 te (Pv (i + 1)) σ3 H3) (hd:∀ σ H,Pv xs.length σ H->R H) :
  ∃ W:Nat->Nat->St->Hp->Prop,(∃ m,W 0 m σ H)/\∀ i m σ2 H2,W i m σ2 H2 ->
   ((Itl K a).stop i H2/\R H2)\/((Itl K a).go i H2/\∃ N:St->Hp->Prop,(∀ σ' H',N σ' H'->∃ m',m' < m/\W (i + 1) m' σ' H')/\∀ x H',(Itl K a).yld i H2 x H'->g x σ2 H' fun σ3 H3=>tIn D wi g2 te N σ3 H3):=by
 refine ⟨fun i m σ H=>m=xs.length - i/\i<=xs.length/\Pv i σ H,⟨xs.length,by simp,AS _,h0⟩,?_⟩
 rintro i m σ H ⟨rfl,hi,p⟩
 have q:=hl i σ H p
 by_cases hlt:i < xs.length
 ·refine .inr ⟨⟨xs,xs[i],q,by simp [hlt]⟩,Pv (i + 1),fun σ' H' p'=>⟨xs.length - (i + 1),by lia,rfl,hlt,p'⟩,fun x H' y=>?_⟩
  obtain ⟨e,y⟩:=y
  subst e
  exact hs i x σ _ (y xs q) p
 ·have e:i=xs.length:=by lia
  subst e
  exact .inl ⟨⟨xs,q,Ai _⟩,hd σ H p⟩
section
variable {P:Ap} {w:AT} {K:Ah} {mg:Str->Option Value} {base:Heap}
end
section
variable {X:Cx} {tg:Expr}
end
end L2
namespace L2
open PySem PySem.Spec PyProof.Rows PySem.Builtin.Str
variable {X:Cx}
theorem aHT:BR "max"=some (.builtin "max"):=by decide +kernel
theorem aJH:BR "min"=some (.builtin "min"):=by decide +kernel
end L2
namespace L2
open PySem PySem.Spec PyProof.Rows PySem.Builtin.Str
variable {X:Cx}
end L2
namespace L2
open PySem PySem.Spec PyProof.Rows PySem.Builtin.Str
variable {X:Cx}
end L2
namespace L2
open PySem PySem.Spec PyProof.Rows
structure Wr (p:Prop):Prop where
 un:p
section
variable {X:Cx} {e:Expr} {es:List Expr} {te:TE} {t:TA} {pos:Pos} {a b:Expr} {ta tb:TE}
theorem aKh {i:Int} {j:Nat}:Wr (PE X (.Constant (.int i) j pos) (tC (.int i))):=⟨zD⟩
theorem aAW:Wr (PA X [] tNil):=⟨zC⟩
theorem qD (ha:Wr (PE X e te)) (hr:Wr (PA X es t)) (hs:Bk (e :: es) X.env=(false,eval e X.env) :: Bk es X.env:=by rfl):Wr (PA X (e :: es) (aIx te t)):=⟨zA ha.un hr.un hs⟩
theorem aKi (h:Wr (PA X es t)):Wr (PE X (.List es pos) (tLst t)):=⟨yz h.un⟩
theorem aKj {i:Nat} {x:Str} {pos':Pos} (hN:X.N.Nodup) (hi:X.N[i]?=some x) (hx:Loc X.env.scope x) (he:Wr (PE X e te)) (hs:Gr e (some (.Name x pos')) pos.line X.env=pure false:=by rfl) (hf:X.fn x=true\/X.env.scope.names.lookup x=some .local:=by first | exact .inl rfl | exact .inr rfl | assumption) :
  Wr (PS X (.Assign [.Name x pos'] e pos) (tAsg te (jL i))):=⟨zS hN hi hx he.un hs hf⟩
theorem zR {st:Stmt} {rest:List Stmt} {t u:TS} (h1:Wr (PS X st t)) (h2:Wr (PSs X rest u)):Wr (PSs X (st :: rest) (tSeq t u)):=⟨zH h1.un h2.un⟩
theorem jy {st:Stmt} {t:TS} (h1:Wr (PS X st t)):Wr (PSs X [st] t):=⟨zN h1.un⟩
end
section
variable {P:Ap} {w:AT} {K:Ah} {mg:Str->Option Value} {base:Heap}
theorem Fun.okW {x qual:Str} {st:Stmt} {f:Addr} {fd:BL} {N ps:List Str} {k:Nat} {sp:Sp} (F:Fun K x qual st f fd) (S:FnScope N ps (zF st)) (len:∀ vs H Q E,sp vs H Q E->vs.length=ps.length)
  (hb:∀ (cdv:Value) (A:AR) (outer:List Env) (s:Ad) (H:Hp) (vs:List V) (Q:VK) (E:XK),Room k (A.deeper (Kc qual (zF st) s.heap.objs.size f cdv))->sp vs H Q E ->
   ∃ t,Wr (PSs (cxOf CX0 P w K mg base N qual (zF st) f cdv A outer s H E).nox (zV st) t)/\t { nx:=fun _ H'=>Q .non H',rt:=Q } (aAj N vs) H):FnOk P w K mg base CX0 (k + 1) f fd ps sp :=
 F.ok S len fun cdv A outer s H vs Q E hr h=>by
  obtain ⟨t,h1,q⟩:=hb cdv A outer s H vs Q E hr h
  exact ⟨t,h1.un,q⟩
end
end L2
namespace HT
open PySem PySem.Spec PyProof.Rows
theorem aI8 (n:Nat):CO none none (-1) (n:Int)=((n:Int) - 1,-1):=by
 unfold CO
 rfl
theorem aDx (n:Nat):Cc ((n:Int) - 1) (-1) (-1)=n:=by
 unfold Cc
 simp
 lia
theorem aDN {α β:Type} {f g:α->Option β}:∀ {l:List α},(∀ x∈l,f x=g x)->l.filterMap f=l.filterMap g
 | [],_=>rfl
 | a :: r,h=>by
  rw [Dq,Dq,h a (AL ..),aDN fun x hx=>h x (AI _ hx)]
theorem aGd (xs:List Value):((Bc xs.length).filterMap fun (m:Nat)=>xs.toArray[(((xs.length:Int) - 1) + (m:Int) * (-1)).toNat]?).toArray=xs.reverse.toArray:=by
 have e:=aDB xs.reverse.toArray 0 xs.length
 have e2:(xs.reverse.toArray.toList.drop 0).take xs.length=xs.reverse:=by
  show (xs.reverse.drop 0).take xs.length=xs.reverse
  rw [Ke,<- Cq,AZ]
 rw [e2] at e
 rw [<- e]
 refine congrArg List.toArray (aDN fun m hm=>?_)
 have hm':m < xs.length:=Cb.mp hm
 rw [show (((xs.length:Int) - 1) + (m:Int) * (-1)).toNat=xs.length - 1 - m by lia,show ((((0:Nat):Int)) + (m:Int) * 1).toNat=m by lia]
 rw [DA,DA,List.getElem?_reverse hm']
section
variable {prog:Ap} {w:AT} {A:AR} {E:Value->Ad->Prop} {s:Ad}
theorem aAF {sl:Addr} {vs:Value} {n:Nat} {Q:Int×Int×Nat->Ad->Prop} (hs:s.heap.IsSliceOf sl .none .none vs) (pv:Jn vs (some (-1))) (h:Q ((n:Int) - 1,-1,n) s):Ax (AC prog w) A (Ea (.ref sl) (pure (n:Int))) Q E s:=by
 obtain ⟨os,hos,hcs,hds⟩:=id hs
 unfold Ea HN
 refine Aa (Aa (Cd hos hds (x:=.none) rfl (Aa (Cd hos hds (x:=.none) rfl (Aa (Cd hos hds (x:=vs) rfl (Ab ?_)))))))
 refine Aa (js pv ?_)
 show Ax _ _ (if ((-1:Int) == 0)=true then _ else _) _ _ s
 rw [if_neg (by decide)]
 refine Aa (HM (Aa (HM (Aa (Ab ?_)))))
 show Ax _ _ (match CO none none (-1) (n:Int) with | (lo,hi)=>pure (lo,(-1:Int),Cc lo hi (-1))) _ _ s
 rw [aI8 n]
 show Ax _ _ (pure ((n:Int) - 1,(-1:Int),Cc ((n:Int) - 1) (-1) (-1))) _ _ s
 rw [aDx]
 exact Ab h
theorem getItem_tuple_rev {t sl:Addr} {us:List Value} {vs:Value} {Q:Value->Ad->Prop} (ht:NK s.heap t us.toArray) (hs:s.heap.IsSliceOf sl .none .none vs) (pv:Jn vs (some (-1)))
    (h:Q (.ref s.heap.objs.size) { s with heap:=s.heap.push { cls:=.type "tuple",data:=.seq us.reverse.toArray } }) (hsz:us.length<=sizeLine):Ax (AC prog w) A (Gk (.ref t) (.ref sl)) Q E s:=by
  obtain ⟨os,hos,hcs,hds⟩:=id hs
  have hTs:s.TypeIs (.ref sl) "slice":=⟨os,hos,hcs⟩
  unfold Gk
  try with_reducible refine BE ?_
  first | refine Aa (Ab ?_) | skip
  refine Aa (HY ht.typeIs (by decide) ?_)
  refine Aa (Bl (name:=CW "__getitem__") ht.typeIs BB
    (AU BB ht.typeIs Hc ?_ (Hv _ _)))
  show Ax _ _ (Fp (.ref t) >>= _) _ _ s
  refine Aa (KM ht ?_)
  refine Aa (DN hTs ?_)
  rw [if_pos (by decide)]
  rw [show us.toArray.size=us.length from AD ..]
  refine Aa (aAF hs pv ?_)
  show Ax _ _ (if (((us.length:Int) - 1) == 0 && (-1:Int) == 1 && us.length == us.length)=true then _ else _) _ _ s
  rw [if_neg (by simp),aGd]
  have hk:sizeOk (.seq us.reverse.toArray):=by show us.reverse.toArray.size<=sizeLine; rw [AD,Cq]; exact hsz
  first
    | exact Aa (m:=Ck _) (Bb (Ab ⟨_,rfl,Ab h⟩) hk)
    | exact Aa (m:=Ck _) (Bb (Aa (Ab (Ab ⟨_,rfl,Ab h⟩))) hk)
    | exact Aa (Aa (m:=Ck _) (Bb (Ab (Ab ⟨_,rfl,Ab h⟩)) hk))
    | exact Aa (Aa (m:=Ck _) (Bb (Ab ⟨_,rfl,Ab h⟩) hk))
end
end HT
namespace L2
open PySem PySem.Spec PyProof.Rows
variable {X:Cx}
theorem aCf {e:Expr} {te:TE} {j} {p2 p3 p4 pos:Pos} (he:PE X e te):PE X (.Subscript e (.Slice none none (some (.UnaryOp .USub (.Constant (.int 1) j p3) p4)) p2) pos) (fun σ H Q=>te σ H fun x H1=>∃ a xs,x=.ref a/\SqT X.K H1 a xs/\∀ p,H1 p=none->Q (.ref p) (upd H1 p (.tup xs.reverse))):=by
 intro pins s σ H Q I h
 refine JL (thn (he pins s σ H _ I h) fun v s1 ⟨x,H1,I1,r1,q1⟩=>?_)
 obtain ⟨a,xs,rfl,hx,q⟩:=q1
 obtain rfl:v=Value.ref a:=r1
 refine Mm ?_
 rw [Iz]
 refine Ab (Ab ?_)
 refine thn (yR (X:=X) (aDm aAq zD) pins s1 σ H1 (fun o H'=>o=some (-1)/\H'=H1) I1 ⟨1,rfl,-1,rfl,rfl,rfl⟩) fun vs s2 ⟨o,H2,I2,ip,eo,eH⟩=>?_
 subst eo eH
 obtain ⟨its,r,ht,hz⟩:=I2.tuple hx
 have hlen:=r.length
 have I4:Inv X pins σ H2 { s2 with heap:=s2.heap.push { cls:=.type "slice",data:=.fields #[.none,.none,vs] } }:=I2.kept (t':=s2.toks) fun b ob q=>Ac _ q
 obtain ⟨its4,r4,ht4,hz4⟩:=I4.tuple hx
 refine tail_any (ops:=[.ref a,.ref s2.heap.objs.size]) ht4.typeIs BB.lookup ?_ (by with_unfolding_all rfl)
 refine HT.getItem_tuple_rev ht4 (Hw ..) ip ?_ (by rw [<- r4.length]; exact hz4)
 refine ⟨.ref _,_,I4.laid (t':=s2.toks) (o:=.tup xs.reverse) (fun b ob q=>Ac _ q) (Ai _) ?_,rfl,q _ (I4.hok.fresh (Ai _))⟩
 exact ⟨by rw [Cq]; exact hz,its4.reverse,r4.reverse,KO _ _⟩
theorem qV:OpR X (DX .Add) (fun x y H Q=>∃ a b xs ys,x=.ref a/\y=.ref b/\H a=some (.tup xs)/\H b=some (.tup ys)/\xs.length + ys.length<=1000000/\∀ p H',Same H H'->H' p=some (.tup (xs++ys))->Q (.ref p) H'):=by
 intro pins s σ H x y v u Q I rx ry h
 obtain ⟨a,b,xs,ys,rfl,rfl,ha,hb,hz,q⟩:=h
 have szl:=AW
 by_cases hx:xs=[]
 ·subst hx
  cases rx
  cases ry
  obtain ⟨its,r1,⟨⟨cls,dd,data,sl⟩,ho,hc,n,hd⟩,_⟩:=I.tuple (SqT.of ha)
  obtain ⟨its2,r2,⟨⟨cls2,dd2,data2,sl2⟩,ho2,hc2,n2,hd2⟩,_⟩:=I.tuple (SqT.of hb)
  simp only at hc hd hc2 hd2
  subst hc hd hc2 hd2
  have e0:its=[]:=r1.nil_iff.mpr rfl
  exact Jm ⟨_,ho,rfl⟩ ⟨_,ho2,rfl⟩ GB Iy EQ EA (Em _ _)
   (tuple_addW0 a b its.toArray its2.toArray n n2 dd dd2 sl sl2 (by simp [e0])) ⟨ho,ho2,⟨.ref b,H,I,rfl,q b H (Same.refl H) hb⟩⟩
 ·exact aCU pins s σ H _ _ v u Q I rx ry ⟨a,b,xs,ys,rfl,rfl,SqT.of ha,SqT.of hb,hx,by lia,(fun e=>q a H (Same.refl H) (by rw [e,BD]; exact ha)),fun _ p hp=>q p _ (fun c o e=>by rw [zI (zE e hp)]; exact e) zB⟩
end L2
namespace L2
open PySem PySem.Spec PyProof.Rows
variable {X:Cx}
end L2
namespace HT
open PySem PySem.Spec PyProof.Rows
section
variable {prog:Ap} {w:AT} {A:AR} {E:Value->Ad->Prop} {s:Ad}
end
end HT
namespace L2
open PySem PySem.Spec PyProof.Rows
variable {X:Cx}
end L2
namespace L2
open PySem PySem.Spec PyProof.Rows
theorem zx {es:List Expr} {k:Nat} {pos:Pos} {r:List Expr} {env:Env}:Bk (.Tuple es k pos :: r) env=(false,eval (.Tuple es k pos) env) :: Bk r env:=rfl
theorem aAl {X:Cx} {es:List Expr} {t:TA} {k:Nat} {pos:Pos} (h:Wr (PA X es t)):Wr (PE X (.Tuple es k pos) (tTup t)):=⟨zv h.un⟩
section
variable {X:Cx} {pos:Pos}
end
noncomputable def tEx0 (K:Ah) (C:Addr) (ts:TS) (D:Ends):XS:=fun cls dx σ H=>(∃ Ce bm,cls=.ref Ce/\XCls K Ce bm/\(Value.ref Ce :: bm).contains (.ref C)=true)/\ts D σ H
noncomputable def aKk (K:Ah) (C:Addr) (tb:XS->TS) (ts:TS):TS:=fun D σ H=>tb (tEx0 K C ts D) D σ H
section
variable {X:Cx} {x:Str} {C:Addr} {bw:List Value} {body suite:List Stmt} {b0:Stmt} {np hp pos:Pos} {tb:XS->TS} {ts:TS}
theorem aI9 (hg:Gl X x) (hm:X.mg x=some (.ref C)) (hC:XCls X.K C bw) (hst:X.stack=X.env :: X.outer) (hf:X.env.frame=some X.env.locals)
  (hb:∀ EX pins,PSs ((X.pinTo pins).raises EX) body (tb EX)) (hs:∀ e pins,PSs (X.suite (.ref e) pins) (b0 :: suite) ts) (hd:(x == ("__debug__":Str))=false:=by decide) :
  PS X (.Try body [.ExceptHandler (some (.Name x np)) none (b0 :: suite) hp] [] [] pos) (aKk X.K C tb ts):=by
 intro pins s σ H D I h
 have ok:=I.ok
 refine wpAny_Try_except (BJ (hb (tEx0 X.K C ts D) pins [] s σ H D (I.pinTo.wish _) h) (fun f s1 q=>?_) fun ev s1 q=>?_)
 ·have q':=SP.unpin q
  cases f with
  | next =>
   show Ax _ _ (execs [] _) _ _ _
   exact (FP q':_)
  | _=>exact q'
 ·have q0:XIn (X.pinTo pins) (tEx0 X.K C ts D) ev s1:=q
  refine aHP (X:=X.pinTo pins) q0.frames hst hf q0 fun s2 q2=>aBB (X:=X.pinTo pins) (.inl rfl) q2 fun s3 q3=>?_
  obtain ⟨e,cls,dx,σ1,H1,rfl,I1,oe,ht,hE⟩:=id q3
  obtain ⟨⟨Ce,bm,rfl,hCe,hmro⟩,hgo⟩:=hE
  obtain ⟨hbB,nm',q',N',bs',hdct',sn',sub',ab',col',dd',l0,l1,l2,l3,l5,newId',lkW⟩:=hC
  obtain ⟨hbC,nm,qn,N,bs,hdct,sn,sub,ab,col,dd,k0,k1,k2,k3,k5,newId,lkC⟩:=hCe
  have ge:∃ oe,s3.heap.get? e=some oe/\oe.cls=.ref Ce:=by
   rcases ht with ⟨_,ob,vs,g1,g2,_⟩ | ⟨T,fl,⟨ob,vs,g1,g2,_⟩,_⟩
   ·exact ⟨ob,g1,g2⟩
   ·exact ⟨ob,g1,g2⟩
  obtain ⟨ob,ge,gc⟩:=ge
  have gW:=I1.kIn C _ lkW
  have gC:=I1.kIn Ce _ lkC
  refine wpAny_handleBy_cons (codeAny_handlers_test (aAN (X:=X.suite (.ref e) pins) (I1.insuite (X:=X) (ev:=.ref e)) hg hm ?_ hd)) (by intro z; cases z)
  obtain ⟨h3,g3,d3,t3,os3⟩:=s3
  refine aCc gC gW ge gc hbB hmro ?_
  refine codeAny_handlers_suite (aBB (X:=X.pinTo pins) (.inl rfl) q3 fun s4 q4=>?_)
  obtain ⟨e',cls4,dx4,σ4,H4,ee,I4,oe4,ht4,hE4⟩:=q4
  cases ee
  obtain ⟨_,hgo4⟩:=hE4
  refine BJ (hs e pins [] s4 _ _ _ (I4.insuite (X:=X) (ev:=.ref e)) hgo4) (fun f s6 q6=>?_) fun _ _ z=>z.elim
  match f,q6 with
  | .next,⟨σ6,H6,I6,z⟩=>exact ⟨_,H6,(I6.outsuite ok).unpinTo,z⟩
  | .brk,⟨σ6,H6,I6,z⟩=>exact ⟨_,H6,(I6.outsuite ok).unpinTo,z⟩
  | .cont,⟨σ6,H6,I6,z⟩=>exact ⟨_,H6,(I6.outsuite ok).unpinTo,z⟩
  | .ret u,⟨v,σ6,H6,I6,r,z⟩=>exact ⟨v,_,H6,(I6.outsuite ok).unpinTo,r,z⟩
end
section
variable {prog:Ap} {w:AT} {A:AR} {E:Value->Ad->Prop} {s:Ad}
end
section
variable {X:Cx}
theorem aF7 (bs:List Bool):(Bc bs.length).map (fun i=>bs.getD i false)=bs:=by
 apply Er
 intro i
 rw [Bh]
 by_cases h:i < bs.length
 ·rw [Hl h,Au h]
  show some (bs.getD i false)=_
  rw [Do,Au h]; rfl
 ·rw [CC (by simpa using h),CC (by lia)]; rfl
theorem aF8 (bs:List Bool):(Bc bs.length).any (fun i=>bs.getD i false)=bs.any id:=by
 have:=congrArg (fun l=>List.any l id) (aF7 bs)
 rw [List.any_map] at this
 exact this
theorem aF9:BR "any"=some (.builtin "any"):=by decide +kernel
end
section
variable {X:Cx} {es:List Expr} {kk:Nat} {tpos:Pos}
end
section
variable {prog:Ap} {w:AT} {A:AR} {E:Value->Ad->Prop} {s:Ad}
end
section
variable {X:Cx}
end
noncomputable def jf (xs:Array Nat):Prop:=∀ i j,i < j->j < xs.size->xs.getD i 0 < xs.getD j 0
theorem aGe {xs:Array Nat} {i d e:Nat} (h:i < xs.size):xs.getD i d=xs.getD i e:=by
 rw [Cn,Cn,Am h]
 rfl
theorem aBH {xs:Array Nat} {j:Nat} (hr:jf xs):∀ (fuel lo hi:Nat),lo<=hi->hi<=xs.size->hi - lo<=fuel->(∀ i,i < lo->xs.getD i 0 < j)->(∀ i,hi<=i->i < xs.size->j<=xs.getD i 0) ->
  Es xs j fuel lo hi<=xs.size/\(∀ i,i < Es xs j fuel lo hi->xs.getD i 0 < j)/\∀ i,Es xs j fuel lo hi<=i->i < xs.size->j<=xs.getD i 0
 | 0,lo,hi,h1,h2,h3,a,b=>by
  have e:Es xs j 0 lo hi=lo:=by unfold Es; rfl
  rw [e]
  exact ⟨by lia,a,fun i hi'=>b i (by lia)⟩
 | fuel + 1,lo,hi,h1,h2,h3,a,b=>by
  unfold Es
  by_cases hlt:lo < hi
  ·rw [if_pos hlt]
   have m1:(lo + hi) / 2 < hi:=by lia
   have m0:lo<=(lo + hi) / 2:=by lia
   have ms:(lo + hi) / 2 < xs.size:=by lia
   dsimp only
   rw [aGe (e:=0) ms]
   by_cases hc:xs.getD ((lo + hi) / 2) 0 < j
   ·rw [if_pos hc]
    refine aBH hr fuel _ _ (by lia) h2 (by lia) (fun i hi'=>?_) b
    rcases KY (Nat.lt_succ_iff.mp hi') with h | h
    ·exact HC (hr _ _ h ms) hc
    ·rw [h]; exact hc
   ·rw [if_neg hc]
    refine aBH hr fuel _ _ m0 (by lia) (by lia) a (fun i hi' his=>?_)
    rcases KY hi' with h | h
    ·exact At (IM hc) (FI (hr _ _ h his))
    ·rw [<- h]; exact IM hc
  ·rw [if_neg hlt]
   exact ⟨by lia,a,fun i hi'=>b i (by lia)⟩
theorem jE {xs:Array Nat} (hr:jf xs) (j:Nat):CH xs j<=xs.size/\(∀ i,i < CH xs j->xs.getD i 0 < j)/\∀ i,CH xs j<=i->i < xs.size->j<=xs.getD i 0 :=
 aBH hr xs.size 0 xs.size (AS _) (Ai _) (by lia) (fun i h=>absurd h (Ep _)) fun i h h'=>absurd h' (by lia)
theorem aDy {xs:Array Nat} (hr:jf xs):CH xs 0=0:=by
 obtain ⟨_,a,_⟩:=jE hr 0
 cases e:CH xs 0 with
 | zero=>rfl
 | succ n=>rw [e] at a; exact absurd (a 0 (LG _)) (Ep _)
theorem aDz {xs:Array Nat} (hr:jf xs) {i:Nat} (hi:i < xs.size):CH xs (xs.getD i 0 + 1)=i + 1:=by
 obtain ⟨p,a,b⟩:=jE hr (xs.getD i 0 + 1)
 rcases Ie (CH xs (xs.getD i 0 + 1)) (i + 1) with h | h | h
 ·have:=b i (by lia) hi; lia
 ·exact h
 ·have h1:=a (i + 1) h
  have h2:=hr i (i + 1) (Fx _) (by lia)
  lia
theorem aE0 {xs:Array Nat} (hr:jf xs) {j:Nat} (hj:∀ i,i < xs.size->xs.getD i 0≠j):jf (DR xs (CH xs j) j):=by
 obtain ⟨p,a,b⟩:=jE hr j
 generalize CH xs j=q at p a b ⊢
 have sz:(DR xs q j).size=xs.size + 1:=by unfold DR; simp; lia
 have at_:∀ i,i < xs.size + 1->(DR xs q j).getD i 0=if i < q then xs.getD i 0 else if i=q then j else xs.getD (i - 1) 0:=by
  intro i hi
  unfold DR
  simp only [Cn,Array.getElem?_append,Array.getElem?_push,Gg,Az,FY]
  have m:min q xs.size=q:=Eo p
  simp only [m,Gu,LD,Cj]
  rcases Ie i q with h | h | h
  ·rw [if_pos (show i < q + 1 by lia),if_neg (show ¬ i=q by lia),if_pos h,if_pos h]
  ·subst h
   rw [if_pos (Fx _),if_pos rfl,if_neg (BM _),if_pos rfl]
   rfl
  ·rw [if_neg (show ¬ i < q + 1 by lia),if_pos (show i - (q + 1) < xs.size - q by lia),if_neg (show ¬ i < q by lia),if_neg (show ¬ i=q by lia),show q + (i - (q + 1))=i - 1 by lia]
 intro i k hik hk
 rw [sz] at hk
 rw [at_ i (by lia),at_ k hk]
 by_cases h1:i < q
 ·rw [if_pos h1]
  by_cases h2:k < q
  ·rw [if_pos h2]; exact hr i k hik (by lia)
  ·rw [if_neg h2]
   by_cases h3:k=q
   ·rw [if_pos h3]; exact a i h1
   ·rw [if_neg h3]; exact AB (a i h1) (b (k - 1) (by lia) (by lia))
 ·rw [if_neg h1,if_neg (show ¬ k < q by lia),if_neg (show ¬ k=q by lia)]
  by_cases h3:i=q
  ·rw [if_pos h3]
   have:=b (k - 1) (by lia) (by lia)
   have:=hj (k - 1) (by lia)
   lia
  ·rw [if_neg h3]; exact hr (i - 1) (k - 1) (by lia) (by lia)
theorem aBs (n:Nat):jf (Array.range n):=by
 intro i j hij hj
 rw [Array.size_range] at hj
 simp [Cn,Array.getElem?_range,hj,show i < n by lia]
 lia
structure TabOk (t:Dp):Prop where
 dum:t.dummies=#[]
 rise:jf t.place
 mask:7<=t.mask
theorem aFA (j:Nat):LI #[] j=false:=by unfold LI; simp
theorem aFB {t:Dp} (o:TabOk t) {j:Nat} (h:t.slot j=.empty):∀ i,i < t.place.size->t.place.getD i 0≠j:=by
 intro i hi e
 have hb:CH t.place j=i:=by
  obtain ⟨p,a,b⟩:=jE o.rise j
  rcases Ie (CH t.place j) i with h | h | h
  ·have:=b _ (Ai _) (by lia)
   have:=o.rise _ _ h hi
   lia
  ·exact h
  ·have:=a i h; lia
 unfold Ng at h
 dsimp only at h
 rw [hb,if_pos] at h
 ·cases h
 ·rw [Cn,Am hi] at e
  rw [Am hi,<- e]
  simp
theorem aFC (t:Dp) (p:MF):(t.advance p).dummy=p.dummy:=by
 unfold SetTable.advance
 split <;> rfl
theorem aAX {t:Dp} (hd:t.dummies=#[]) {h:Int} {j:Nat} {d:Option Nat}:∀ (fuel:Nat) (p:MF),p.dummy=none->Ig t (fun _=>h + 1) h fuel p=some (.empty j d)->t.slot j=.empty/\d=none
 | 0,p,_,e=>by unfold Ig at e; cases e
 | fuel + 1,p,hp,e=>by
  unfold Ig at e
  cases es:t.slot p.j with
  | empty =>
   rw [es] at e
   dsimp only at e
   injection e with e
   injection e with e1 e2
   rw [<- e1,<- e2]
   exact ⟨es,hp⟩
  | dummy =>
   unfold Ng at es
   dsimp only at es
   rw [hd,aFA] at es
   split at es
   ·cases es
   ·simp at es
  | live i =>
   rw [es] at e
   dsimp only at e
   rw [if_neg (by simp; lia)] at e
   exact aAX hd fuel _ (by rw [aFC]; exact hp) e
theorem aE1 {t:Dp} (hd:t.dummies=#[]) {h:Int} {slot:Nat} {wd:Bool} (e:t.freeSlot h=some (slot,wd)):t.slot slot=.empty:=by
 unfold SetTable.freeSlot SetTable.probe at e
 split at e
 ·rename_i j d hq
  obtain ⟨a,b⟩:=aAX hd _ _ rfl hq
  rw [b] at e
  injection e with e
  injection e with e1 _
  rw [<- e1]
  exact a
 ·cases e
theorem jF {t:Dp} {n:Nat} (hn:1<=n):TabOk (t.standIn n):=⟨rfl,aBs n,by show 7<=4 * n + 4; lia⟩
theorem aFD {t:Dp} (o:TabOk t) (es:Array (Int×Value)) (h:Int) (x:Value):TabOk (layNew t es h x).2.1/\(layNew t es h x).2.1.led=t.led:=by
 unfold layNew
 cases e:t.freeSlot h with
 | none=>exact ⟨jF (LG _),rfl⟩
 | some q =>
  obtain ⟨slot,wd⟩:=q
  have hs:=aE1 o.dum e
  have ok':TabOk (t.put slot).1:=by
   refine ⟨?_,aE0 o.rise (aFB o hs),o.mask⟩
   show (if LI t.dummies slot then _ else t.dummies)=#[]
   rw [o.dum,aFA]
   rfl
  dsimp only
  have sz:1<=(DR es (t.put slot).2 (h,x)).size:=by unfold DR; simp; lia
  unfold SetTable.orStandIn
  split
  ·exact ⟨ok',rfl⟩
  ·exact ⟨jF sz,rfl⟩
noncomputable def byT (w:AT):Bool:=w.params.followText "set-order"
section
variable {prog:Ap} {w:AT} {A:AR} {E:Value->Ad->Prop} {s:Ad}
end
section
variable {prog:Ap} {w:AT} {A:AR} {R:Ka->Ad->Prop} {I:Addr} {fp wr:List Addr} {G:Array GP->Array GP->Prop} {n:Nat} {P:Nat->Value->Prop} {St:Nat->Ad->Prop}
end
section
variable {prog:Ap} {w:AT} {A:AR} {E:Value->Ad->Prop} {s:Ad}
noncomputable def newS (w:AT):Obj:={ cls:=.type "set",dict:=none,data:=.set #[] 0 (.fresh 0 0 (!byT w)) }
end
noncomputable def aCg:Bool->Keyed->Array Keyed->Nat->Nat->Nat->StateT SortSt Sem (Option Nat):=sortPriv% PySem.Builtin.gallop
structure Cm (M:HL) (A:AR) (E:Value->Ad->Prop) (s:Ad) {O:KeyOrd} (κ:Keyed->O.α) (ok:Keyed->Prop) (kd:SortKind):Prop where
 lt:∀ {st:SortSt} {x y:Keyed} {Q:Option Bool->SortSt->Prop},Gs st=kd->FV st=none->ok x->ok y->Q (some (O.blt (κ x) (κ y))) st->wpS M A E s (lt' x y) Q st
noncomputable def Sx (kd:SortKind) (st:SortSt):Prop:=Gs st=kd/\FV st=none
section
variable {prog:Ap} {w:AT} {A:AR} {E:Value->Ad->Prop} {s:Ad} {O:KeyOrd} {κ:Keyed->O.α} {ok:Keyed->Prop} {kd:SortKind}
theorem zL {M:HL} {arr:Array Keyed} {i:Nat} {x:Keyed} {Q:Keyed->SortSt->Prop} {st:SortSt} (h:arr[i]?=some x) (q:Q x st):wpS M A E s (NQ arr i) Q st:=by
 rw [elem'_eq,h]; exact Aj q
noncomputable def pb (κ:Keyed->O.α) (left:Bool) (key:Keyed) (arr:Array Keyed) (base i:Nat):Bool:=match arr[base + i]? with
 | some x=>if left then O.blt (κ x) (κ key) else !(O.blt (κ key) (κ x))
 | none=>false
theorem qp (C:Cm (AC prog w) A E s κ ok kd) {st:SortSt} (hs:Sx kd st) {left:Bool} {key:Keyed} {arr:Array Keyed} {base i:Nat} {Q:Option Bool->SortSt->Prop} (hk:ok key) (ha:∀ x∈arr,ok x) (hi:base + i < arr.size)
  (q:Q (some (pb κ left key arr base i)) st):wpS (AC prog w) A E s (do
  let x <- NQ arr (base + i)
  if left then lt' x key else return (<- lt' key x).map (!·)) Q st:=by
 have hx:arr[base + i]?=some arr[base + i]:=Am hi
 have hok:ok arr[base + i]:=ha _ (DS hi)
 refine Ag (zL hx ?_)
 unfold pb at q
 rw [hx] at q
 cases left with
 | true =>
  simp only [if_true] at q ⊢
  exact C.lt hs.1 hs.2 hok hk q
 | false =>
  simp only [Bz,if_false] at q ⊢
  exact Ag (C.lt hs.1 hs.2 hk hok (Aj q))
theorem aBt (C:Cm (AC prog w) A E s κ ok kd) {st:SortSt} (hs:Sx kd st) {left:Bool} {key:Keyed} {arr:Array Keyed} {base n hint:Nat} {Q:Option Nat->SortSt->Prop} (hk:ok key) (ha:∀ x∈arr,ok x) (hsz:base + n<=arr.size) (hh:hint < n)
  (mono:∀ i j,i<=j->j < n->pb κ left key arr base j=true->pb κ left key arr base i=true)
  (q:∀ k,k<=n->(∀ i,i < k->pb κ left key arr base i=true)->(∀ i,k<=i->i < n->pb κ left key arr base i=false)->Q (some k) st):wpS (AC prog w) A E s (aCg left key arr base n hint) Q st:=by
 refine Ag (qp C hs hk ha (by lia) ?_)
 dsimp only
 cases e0:pb κ left key arr base hint with
 | true =>
  rw [if_pos rfl]
  refine Ag (DL (BK (fun x c st'=>st'=st/\∃ l o,c=(none,l,o)/\l < o/\x + 1<=o/\l < n - hint/\pb κ left key arr base (hint + l)=true)
   (Q:=fun c st'=>st'=st/\∃ l o,c=(none,l,o)/\l < o/\l < n - hint/\pb κ left key arr base (hint + l)=true/\(o >= n - hint\/pb κ left key arr base (hint + o)=false)) (fun x c st' _ hx hI=>?_) (fun c st' hI=>?_) ⟨rfl,0,1,rfl,by lia,by lia,by lia,e0⟩) ?_)
  ·obtain ⟨rfl,l,o,rfl,a1,a2,a3,a4⟩:=hI
   dsimp only
   by_cases c:o >= n - hint
   ·rw [if_pos c]; exact Aj ⟨rfl,l,o,rfl,a1,a3,a4,.inl c⟩
   rw [if_neg c]
   refine Ag (qp C hs hk ha (by lia) ?_)
   dsimp only
   cases e:pb κ left key arr base (hint + o) with
   | false =>
    rw [if_pos (by simp)]
    exact Aj ⟨rfl,l,o,rfl,a1,a3,a4,.inr e⟩
   | true =>
    rw [if_neg (by simp)]
    exact Aj ⟨rfl,o,_,rfl,by lia,by lia,by lia,e⟩
  ·obtain ⟨rfl,l,o,rfl,a1,a2,a3,a4⟩:=hI
   exact ⟨rfl,l,o,rfl,a1,a3,a4,.inl (by lia)⟩
  ·rintro c st' ⟨rfl,l,o,rfl,a1,a3,a4,a5⟩
   dsimp only
   obtain ⟨lo,hlo⟩:∃ lo,lo=hint + l + 1:=⟨_,rfl⟩
   obtain ⟨hi,hhi⟩:∃ hi,hi=hint + min o (n - hint):=⟨_,rfl⟩
   rw [<- hlo,<- hhi]
   have h1:lo<=hi:=by lia
   have h2:hi<=n:=by lia
   have h3:∀ i,i < lo->pb κ left key arr base i=true:=fun i ci=>mono i (hint + l) (by lia) (by lia) a4
   have h4:∀ i,hi<=i->i < n->pb κ left key arr base i=false:=fun i c1 c2=>by
    rcases a5 with a5 | a5
    ·lia
    ·by_cases co:o >= n - hint
     ·lia
     cases e2:pb κ left key arr base i with
     | false=>rfl
     | true=>rw [mono _ i (by lia) c2 e2] at a5; cases a5
   clear hlo hhi a1 a3 a4 a5
   refine Ag (DL (BK (fun x c st2=>st2=st'/\∃ lo hi,c=(none,lo,hi)/\lo<=hi/\hi<=n/\hi - lo<=n - x/\(∀ i,i < lo->pb κ left key arr base i=true)/\∀ i,hi<=i->i < n->pb κ left key arr base i=false)
    (Q:=fun c st2=>st2=st'/\∃ lo hi,c=(none,lo,hi)/\hi<=lo/\hi<=n/\(∀ i,i < lo->pb κ left key arr base i=true)/\∀ i,hi<=i->i < n->pb κ left key arr base i=false) (fun x c st2 _ hx hI=>?_) (fun c st2 hI=>?_) ⟨rfl,lo,hi,rfl,h1,h2,by lia,h3,h4⟩) ?_)
   ·obtain ⟨rfl,lo,hi,rfl,a1,a2,a3,a4,a5⟩:=hI
    dsimp only
    by_cases c:lo >= hi
    ·rw [if_pos c]; exact Aj ⟨rfl,lo,hi,rfl,c,a2,a4,a5⟩
    rw [if_neg c]
    refine Ag (qp C hs hk ha (by lia) ?_)
    dsimp only
    cases e:pb κ left key arr base (lo + (hi - lo) / 2) with
    | true =>
     rw [if_pos rfl]
     exact Aj ⟨rfl,_,hi,rfl,by lia,a2,by lia,fun i ci=>mono i (lo + (hi - lo) / 2) (by lia) (by lia) e,a5⟩
    | false =>
     rw [if_neg As]
     refine Aj ⟨rfl,lo,_,rfl,by lia,by lia,by lia,a4,fun i c1 c2=>?_⟩
     cases e2:pb κ left key arr base i with
     | false=>rfl
     | true=>rw [mono _ i c1 c2 e2] at e; cases e
   ·obtain ⟨rfl,lo,hi,rfl,a1,a2,a3,a4,a5⟩:=hI
    exact ⟨rfl,lo,hi,rfl,by lia,a2,a4,a5⟩
   ·rintro c st2 ⟨rfl,lo,hi,rfl,a1,a2,a4,a5⟩
    exact Aj (q hi a2 (fun i ci=>a4 i (by lia)) a5)
 | false =>
  rw [if_neg As]
  refine Ag (DL (BK (fun x c st'=>st'=st/\∃ l o,c=(none,l,o)/\l < o/\x + 1<=o/\l < hint + 1/\pb κ left key arr base (hint - l)=false)
   (Q:=fun c st'=>st'=st/\∃ l o,c=(none,l,o)/\l < o/\l < hint + 1/\pb κ left key arr base (hint - l)=false/\(o >= hint + 1\/pb κ left key arr base (hint - o)=true)) (fun x c st' _ hx hI=>?_) (fun c st' hI=>?_) ⟨rfl,0,1,rfl,by lia,by lia,by lia,e0⟩) ?_)
  ·obtain ⟨rfl,l,o,rfl,a1,a2,a3,a4⟩:=hI
   dsimp only
   by_cases c:o >= hint + 1
   ·rw [if_pos c]; exact Aj ⟨rfl,l,o,rfl,a1,a3,a4,.inl c⟩
   rw [if_neg c]
   refine Ag (qp C hs hk ha (by lia) ?_)
   dsimp only
   cases e:pb κ left key arr base (hint - o) with
   | true =>
    rw [if_pos rfl]
    exact Aj ⟨rfl,l,o,rfl,a1,a3,a4,.inr e⟩
   | false =>
    rw [if_neg (by simp)]
    exact Aj ⟨rfl,o,_,rfl,by lia,by lia,by lia,e⟩
  ·obtain ⟨rfl,l,o,rfl,a1,a2,a3,a4⟩:=hI
   exact ⟨rfl,l,o,rfl,a1,a3,a4,.inl (by lia)⟩
  ·rintro c st' ⟨rfl,l,o,rfl,a1,a3,a4,a5⟩
   dsimp only
   obtain ⟨lo,hlo⟩:∃ lo,lo=hint + 1 - min o (hint + 1):=⟨_,rfl⟩
   obtain ⟨hi,hhi⟩:∃ hi,hi=hint - l:=⟨_,rfl⟩
   rw [<- hlo,<- hhi]
   have h1:lo<=hi:=by lia
   have h2:hi<=n:=by lia
   have h3:∀ i,i < lo->pb κ left key arr base i=true:=fun i ci=>by
    rcases a5 with a5 | a5
    ·lia
    ·by_cases co:o >= hint + 1
     ·lia
     exact mono i (hint - o) (by lia) (by lia) a5
   have h4:∀ i,hi<=i->i < n->pb κ left key arr base i=false:=fun i c1 c2=>by
    cases e2:pb κ left key arr base i with
    | false=>rfl
    | true=>rw [mono (hint - l) i (by lia) c2 e2] at a4; cases a4
   clear hlo hhi a1 a3 a4 a5
   refine Ag (DL (BK (fun x c st2=>st2=st'/\∃ lo hi,c=(none,lo,hi)/\lo<=hi/\hi<=n/\hi - lo<=n - x/\(∀ i,i < lo->pb κ left key arr base i=true)/\∀ i,hi<=i->i < n->pb κ left key arr base i=false)
    (Q:=fun c st2=>st2=st'/\∃ lo hi,c=(none,lo,hi)/\hi<=lo/\hi<=n/\(∀ i,i < lo->pb κ left key arr base i=true)/\∀ i,hi<=i->i < n->pb κ left key arr base i=false) (fun x c st2 _ hx hI=>?_) (fun c st2 hI=>?_) ⟨rfl,lo,hi,rfl,h1,h2,by lia,h3,h4⟩) ?_)
   ·obtain ⟨rfl,lo,hi,rfl,a1,a2,a3,a4,a5⟩:=hI
    dsimp only
    by_cases c:lo >= hi
    ·rw [if_pos c]; exact Aj ⟨rfl,lo,hi,rfl,c,a2,a4,a5⟩
    rw [if_neg c]
    refine Ag (qp C hs hk ha (by lia) ?_)
    dsimp only
    cases e:pb κ left key arr base (lo + (hi - lo) / 2) with
    | true =>
     rw [if_pos rfl]
     exact Aj ⟨rfl,_,hi,rfl,by lia,a2,by lia,fun i ci=>mono i (lo + (hi - lo) / 2) (by lia) (by lia) e,a5⟩
    | false =>
     rw [if_neg As]
     refine Aj ⟨rfl,lo,_,rfl,by lia,by lia,by lia,a4,fun i c1 c2=>?_⟩
     cases e2:pb κ left key arr base i with
     | false=>rfl
     | true=>rw [mono _ i c1 c2 e2] at e; cases e
   ·obtain ⟨rfl,lo,hi,rfl,a1,a2,a3,a4,a5⟩:=hI
    exact ⟨rfl,lo,hi,rfl,by lia,a2,a4,a5⟩
   ·rintro c st2 ⟨rfl,lo,hi,rfl,a1,a2,a4,a5⟩
    exact Aj (q hi a2 (fun i ci=>a4 i (by lia)) a5)
end
noncomputable def aGf:Array Keyed->Array Keyed->StateT SortSt Sem (Array Keyed):=sortPriv% PySem.Builtin.mergeLo
noncomputable abbrev ya (st:SortSt) (g:Nat):SortSt:=MT (Gs st) (AF st) (Bt st) g (FV st)
section
variable {O:KeyOrd} (κ:Keyed->O.α)
noncomputable def Srd (l:List Keyed):Prop:=l.Pairwise fun x y=>O.kle (κ x) (κ y)
structure MI (L out a b:List Keyed):Prop where
 perm:(out++a++b).Perm L
 so:Srd κ out
 sa:Srd κ a
 sb:Srd κ b
 oa:∀ x∈out,∀ y∈a,O.kle (κ x) (κ y)
 ob:∀ x∈out,∀ y∈b,O.kle (κ x) (κ y)
variable {κ}
theorem Srd.app {l r:List Keyed}:Srd κ (l++r)↔Srd κ l/\Srd κ r/\∀ x∈l,∀ y∈r,O.kle (κ x) (κ y):=GM
theorem MI.takeA {L out c a b:List Keyed} (m:MI κ L out (c++a) b) (h:∀ x∈c,∀ y∈b,O.kle (κ x) (κ y)):MI κ L (out++c) a b:=by
 obtain ⟨s1,s2,s3⟩:=Srd.app.mp m.sa
 refine ⟨by rw [BN out c a]; exact m.perm,Srd.app.mpr ⟨m.so,s1,fun x hx y hy=>m.oa x hx y (CJ _ hy)⟩,s2,m.sb,fun x hx y hy=>?_,fun x hx y hy=>?_⟩
 ·rcases Ar.mp hx with hx | hx
  ·exact m.oa x hx y (Ay _ hy)
  ·exact s3 x hx y hy
 ·rcases Ar.mp hx with hx | hx
  ·exact m.ob x hx y hy
  ·exact h x hx y hy
theorem MI.swap {L out a b:List Keyed} (m:MI κ L out a b):MI κ L out b a :=
 ⟨((BN out b a ▸ Gw out Jx:(out++b++a).Perm (out++(a++b))).trans (BN out a b ▸ Dy _)).trans m.perm,m.so,m.sb,m.sa,m.ob,m.oa⟩
theorem MI.takeB {L out c a b:List Keyed} (m:MI κ L out a (c++b)) (h:∀ x∈c,∀ y∈a,O.kle (κ x) (κ y)):MI κ L (out++c) a b:=(m.swap.takeA h).swap
theorem MI.endA {L out a b:List Keyed} (m:MI κ L out a b) (h:∀ x∈a,∀ y∈b,O.kle (κ x) (κ y)):Srd κ (out++a++b)/\(out++a++b).Perm L :=
 ⟨Srd.app.mpr ⟨Srd.app.mpr ⟨m.so,m.sa,m.oa⟩,m.sb,fun x hx y hy=>by
  rcases Ar.mp hx with hx | hx
  ·exact m.ob x hx y hy
  ·exact h x hx y hy⟩,m.perm⟩
end
section
variable {O:KeyOrd} {κ:Keyed->O.α}
theorem aJI {a:Array Keyed} {i:Nat} (h:i < a.size):∃ x,a[i]?=some x/\a.toList.drop i=x :: a.toList.drop (i + 1)/\x∈a :=
 ⟨a[i],Am h,by rw [List.drop_eq_getElem_cons (by simpa using h)]; simp,DS h⟩
theorem qW {a:Array Keyed} {i:Nat} {P:Prop} (h:i < a.size) (k:∀ x,a[i]?=some x->a.toList.drop i=x :: a.toList.drop (i + 1)->x∈a->P):P:=by
 obtain ⟨x,h1,h2,h3⟩:=aJI h
 exact k x h1 h2 h3
theorem zJ {M:HL} {A:AR} {E:Value->Ad->Prop} {s:Ad} {τ α:Type} {c:Prop} [Decidable c] {x y:StateT τ Sem α} {Q:α->τ->Prop} {st:τ} (h:c) (k:wpS M A E s x Q st):wpS M A E s (if c then x else y) Q st:=by
 rw [if_pos h]; exact k
theorem zK {M:HL} {A:AR} {E:Value->Ad->Prop} {s:Ad} {τ α:Type} {c:Prop} [Decidable c] {x y:StateT τ Sem α} {Q:α->τ->Prop} {st:τ} (h:¬ c) (k:wpS M A E s y Q st):wpS M A E s (if c then x else y) Q st:=by
 rw [if_neg h]; exact k
theorem zq {M:HL} {A:AR} {E:Value->Ad->Prop} {s:Ad} {τ α:Type} {c:Prop} [Decidable c] {x y:StateT τ Sem α} {Q:α->τ->Prop} {st:τ} (h1:c->wpS M A E s x Q st) (h2:¬ c->wpS M A E s y Q st):wpS M A E s (if c then x else y) Q st:=by
 by_cases h:c
 ·exact zJ h (h1 h)
 ·exact zK h (h2 h)
theorem yp (a:Array Keyed) (i j:Nat):(a.extract i j).toList=(a.toList.drop i).take (j - i):=by
 rw [Array.toList_extract]
theorem aBI (a:Array Keyed) (i:Nat):(a.extract i).toList=a.toList.drop i:=by
 rw [yp]; exact ER (by simp)
theorem aAK {a:Array Keyed} {i k:Nat}:a.toList.drop i=(a.extract i (i + k)).toList++a.toList.drop (i + k):=by
 rw [yp,IG,<- List.drop_drop,Jy]
theorem jO {a:Array Keyed} {i k:Nat} {x:Keyed} (h:x∈(a.extract i (i + k)).toList):∃ j,j < k/\a[i + j]?=some x:=by
 rw [yp,IG] at h
 obtain ⟨j,hj⟩:=Gx.mp h
 rw [HD] at hj
 split at hj
 ·rename_i c
  refine ⟨j,c,?_⟩
  rw [HE] at hj
  simpa using hj
 ·cases hj
theorem zy {a:Array Keyed} {i:Nat} {x:Keyed} (h:x∈a.toList.drop i):∃ j,i + j < a.size/\a[i + j]?=some x:=by
 obtain ⟨j,hj⟩:=Gx.mp h
 rw [HE] at hj
 have hl:=(Ao.mp hj).1
 exact ⟨j,by simpa using hl,by simpa using hj⟩
theorem Srd.get {a:Array Keyed} (h:Srd κ a.toList) {i j:Nat} {x y:Keyed} (hij:i<=j) (hx:a[i]?=some x) (hy:a[j]?=some y):O.kle (κ x) (κ y):=by
 have hx':a.toList[i]?=some x:=by simpa using hx
 have hy':a.toList[j]?=some y:=by simpa using hy
 rcases Cv i j with c | c
 ·obtain ⟨l1,e1⟩:=Ao.mp hx'
  obtain ⟨l2,e2⟩:=Ao.mp hy'
  have:=Eg.mp h i j l1 l2 c
  rw [e1,e2] at this
  exact this
 ·have:i=j:=by lia
  subst this
  rw [hx] at hy; cases hy
  exact BZ _
noncomputable def Gd (κ:Keyed->O.α) (L:List Keyed) (r:Array Keyed):Prop:=Srd κ r.toList/\r.toList.Perm L
theorem MI.done {L:List Keyed} {out a b:Array Keyed} {ia ib:Nat} (m:MI κ L out.toList (a.toList.drop ia) (b.toList.drop ib)) (h:ib=b.size\/ia=a.size):Gd κ L (out++a.extract ia++b.extract ib):=by
 unfold Gd
 rw [Cg,Cg,aBI,aBI]
 refine m.endA fun x hx y hy=>?_
 rcases h with h | h
 ·rw [h,Jb (by simp)] at hy; cases hy
 ·rw [h,Jb (by simp)] at hx; cases hx
theorem MI.last {L:List Keyed} {out a b:Array Keyed} {ia ib:Nat} (m:MI κ L out.toList (a.toList.drop ia) (b.toList.drop ib)) (h:ia + 1=a.size) (h2:∀ y∈b,∀ x,a[a.size - 1]?=some x->O.kle (κ y) (κ x)):Gd κ L (out++b.extract ib++a.extract ia):=by
 unfold Gd
 rw [Cg,Cg,aBI,aBI]
 refine m.swap.endA fun y hy x hx=>?_
 obtain ⟨j,j1,j2⟩:=zy hx
 obtain ⟨k,k1,k2⟩:=zy hy
 exact h2 y (DB k2) x (by rw [<- j2]; congr 1; lia)
theorem MI.pushB {L:List Keyed} {out a b:Array Keyed} {ia ib:Nat} {y:Keyed} (m:MI κ L out.toList (a.toList.drop ia) (b.toList.drop ib)) (hy:b.toList.drop ib=y :: b.toList.drop (ib + 1)) (h:∀ x∈a.toList.drop ia,O.kle (κ y) (κ x)):MI κ L (out.push y).toList (a.toList.drop ia) (b.toList.drop (ib + 1)):=by
 rw [DT]
 rw [hy] at m
 exact MI.takeB (c:=[y]) m (fun x hx z hz=>by rw [Af.mp hx]; exact h z hz)
theorem MI.pushA {L:List Keyed} {out a b:Array Keyed} {ia ib:Nat} {y:Keyed} (m:MI κ L out.toList (a.toList.drop ia) (b.toList.drop ib)) (hy:a.toList.drop ia=y :: a.toList.drop (ia + 1)) (h:∀ x∈b.toList.drop ib,O.kle (κ y) (κ x)):MI κ L (out.push y).toList (a.toList.drop (ia + 1)) (b.toList.drop ib):=by
 rw [DT]
 rw [hy] at m
 exact MI.takeA (c:=[y]) m (fun x hx z hz=>by rw [Af.mp hx]; exact h z hz)
theorem MI.chunkA {L:List Keyed} {out a b:Array Keyed} {ia ib k:Nat} (m:MI κ L out.toList (a.toList.drop ia) (b.toList.drop ib)) (h:∀ x∈(a.extract ia (ia + k)).toList,∀ y∈b.toList.drop ib,O.kle (κ x) (κ y)):MI κ L (out++a.extract ia (ia + k)).toList (a.toList.drop (ia + k)) (b.toList.drop ib):=by
 rw [Cg]
 rw [aAK (a:=a) (i:=ia) (k:=k)] at m
 exact m.takeA h
theorem MI.chunkB {L:List Keyed} {out a b:Array Keyed} {ia ib k:Nat} (m:MI κ L out.toList (a.toList.drop ia) (b.toList.drop ib)) (h:∀ x∈(b.extract ib (ib + k)).toList,∀ y∈a.toList.drop ia,O.kle (κ x) (κ y)):MI κ L (out++b.extract ib (ib + k)).toList (a.toList.drop ia) (b.toList.drop (ib + k)):=by
 rw [Cg]
 rw [aAK (a:=b) (i:=ib) (k:=k)] at m
 exact m.takeB h
theorem MI.headA {L out b:List Keyed} {a:Array Keyed} {ia:Nat} {x:Keyed} (m:MI κ L out (a.toList.drop ia) b) (hx:a.toList.drop ia=x :: a.toList.drop (ia + 1)):∀ z∈a.toList.drop ia,O.kle (κ x) (κ z):=by
 have:=m.sa
 rw [hx] at this ⊢
 intro z hz
 rcases Aq.mp hz with rfl | hz
 ·exact BZ _
 ·exact (EW.mp this).1 z hz
theorem MI.headB {L out a:List Keyed} {b:Array Keyed} {ib:Nat} {x:Keyed} (m:MI κ L out a (b.toList.drop ib)) (hx:b.toList.drop ib=x :: b.toList.drop (ib + 1)):∀ z∈b.toList.drop ib,O.kle (κ x) (κ z):=m.swap.headA hx
theorem MI.size {L:List Keyed} {out a b:Array Keyed} {ia ib:Nat} (m:MI κ L out.toList (a.toList.drop ia) (b.toList.drop ib)):out.size + (a.size - ia) + (b.size - ib)=L.length:=by
 have:=m.perm.length_eq
 simp only [Al,GC,AA] at this
 exact this
end
section
variable {prog:Ap} {w:AT} {A:AR} {E:Value->Ad->Prop} {s:Ad} {O:KeyOrd} {κ:Keyed->O.α} {ok:Keyed->Prop} {kd:SortKind}
theorem Sx.gal {st:SortSt} {g:Nat} (h:Sx kd st):Sx kd (ya st g):=h
theorem jg (C:Cm (AC prog w) A E s κ ok kd) {st:SortSt} (hs:Sx kd st) {key:Keyed} {arr:Array Keyed} {base n hint:Nat} {Q:Option Nat->SortSt->Prop} (hk:ok key) (ha:∀ x∈arr,ok x) (hsz:base + n<=arr.size) (hh:hint < n)
  (srt:∀ i j x y,base<=i->i<=j->j < base + n->arr[i]?=some x->arr[j]?=some y->O.kle (κ x) (κ y))
  (q:∀ k,k<=n->(∀ j x,j < k->arr[base + j]?=some x->O.kle (κ x) (κ key))->(∀ j x,k<=j->j < n->arr[base + j]?=some x->O.klt (κ key) (κ x))->Q (some k) st):wpS (AC prog w) A E s (aCg false key arr base n hint) Q st:=by
 refine aBt C hs hk ha hsz hh (fun i j hij hj hp=>?_) fun k hk h1 h2=>q k hk (fun j x hj hx=>?_) (fun j x c1 c2 hx=>?_)
 ·have xi:arr[base + i]?=some arr[base + i]:=Am (by lia)
  have xj:arr[base + j]?=some arr[base + j]:=Am (by lia)
  unfold pb at hp ⊢
  rw [xj] at hp
  rw [xi]
  simp only [Bz,if_false,Bool.not_eq_true'] at hp ⊢
  exact AO (srt _ _ _ _ (by lia) (by lia) (by lia) xi xj) hp
 ·have:=h1 j hj
  unfold pb at this
  rw [hx] at this
  show O.blt (κ key) (κ x)=false
  simpa using this
 ·have:=h2 j c1 c2
  unfold pb at this
  rw [hx] at this
  show O.blt (κ key) (κ x)=true
  simpa using this
theorem qX (C:Cm (AC prog w) A E s κ ok kd) {st:SortSt} (hs:Sx kd st) {key:Keyed} {arr:Array Keyed} {base n hint:Nat} {Q:Option Nat->SortSt->Prop} (hk:ok key) (ha:∀ x∈arr,ok x) (hsz:base + n<=arr.size) (hh:hint < n)
  (srt:∀ i j x y,base<=i->i<=j->j < base + n->arr[i]?=some x->arr[j]?=some y->O.kle (κ x) (κ y))
  (q:∀ k,k<=n->(∀ j x,j < k->arr[base + j]?=some x->O.klt (κ x) (κ key))->(∀ j x,k<=j->j < n->arr[base + j]?=some x->O.kle (κ key) (κ x))->Q (some k) st):wpS (AC prog w) A E s (aCg true key arr base n hint) Q st:=by
 refine aBt C hs hk ha hsz hh (fun i j hij hj hp=>?_) fun k hk h1 h2=>q k hk (fun j x hj hx=>?_) (fun j x c1 c2 hx=>?_)
 ·have xi:arr[base + i]?=some arr[base + i]:=Am (by lia)
  have xj:arr[base + j]?=some arr[base + j]:=Am (by lia)
  unfold pb at hp ⊢
  rw [xj] at hp
  rw [xi]
  simp only [if_true] at hp ⊢
  exact KeyOrd.klt_of_kle_of_klt (srt _ _ _ _ (by lia) (by lia) (by lia) xi xj) hp
 ·have:=h1 j hj
  unfold pb at this
  rw [hx] at this
  show O.blt (κ x) (κ key)=true
  simpa using this
 ·have:=h2 j c1 c2
  unfold pb at this
  rw [hx] at this
  show O.blt (κ x) (κ key)=false
  simpa using this
theorem aE2 (C:Cm (AC prog w) A E s κ ok kd) {st:SortSt} (hs:Sx kd st) {a b:Array Keyed} {Q:Array Keyed->SortSt->Prop} (oka:∀ x∈a,ok x) (okb:∀ x∈b,ok x) (sa:Srd κ a.toList) (sb:Srd κ b.toList) (ha:1<=a.size) (hb:1<=b.size)
  (h1:∀ x∈a,∀ y,b[0]?=some y->O.kle (κ y) (κ x)) (h2:∀ y∈b,∀ x,a[a.size - 1]?=some x->O.kle (κ y) (κ x))
  (q:∀ out g,Gd κ (a.toList++b.toList) out->Q out (ya st g)):wpS (AC prog w) A E s (aGf a b) Q st:=by
 refine Ag (Gq (Cp ⟨rfl,?_⟩))
 dsimp only
 refine qW (a:=b) (i:=0) (by lia) fun y0 ey0 dy0 my0=>?_
 refine Ag (zL ey0 ?_)
 have M0:MI κ (a.toList++b.toList) (#[]:Array Keyed).toList (a.toList.drop 0) (b.toList.drop 0):=⟨by simp,En,by simpa using sa,by simpa using sb,by simp,by simp⟩
 have M1:MI κ (a.toList++b.toList) (#[y0]:Array Keyed).toList (a.toList.drop 0) (b.toList.drop 1):=M0.pushB dy0 (fun x hx=>by
  obtain ⟨j,_,j2⟩:=zy hx
  exact h1 x (DB j2) y0 ey0)
 by_cases c1:1=b.size
 ·refine zJ ((beq_iff_eq.mpr c1)) ?_
  exact Aj (q _ (KZ st) (M1.done (.inl c1)))
 refine zK ((fun z=>c1 (beq_iff_eq.mp z))) ?_
 by_cases c2:0 + 1=a.size
 ·refine zJ ((beq_iff_eq.mpr c2)) ?_
  exact Aj (q _ (KZ st) (M1.last c2 h2))
 refine zK ((fun z=>c2 (beq_iff_eq.mp z))) ?_
 refine Ag (EZ ?_)
 refine Ag (DL (BK (fun x c st'=>∃ out ia ib mg,c=(none,out,ia,ib,mg)/\(∃ g,st'=ya st g)/\MI κ (a.toList++b.toList) out.toList (a.toList.drop ia) (b.toList.drop ib)/\ia + 1 < a.size/\ib < b.size/\x + 1<=out.size)
  (Q:=fun c st'=>(∃ g,st'=ya st g)/\∃ r,c.1=some r/\Gd κ (a.toList++b.toList) r) ?step ?fin ⟨_,_,_,_,rfl,⟨KZ st,rfl⟩,M1,by lia,by lia,by simp⟩) ?post)
 case fin =>
  rintro c st' ⟨out,ia,ib,mg,rfl,⟨g,rfl⟩,m,i1,i2,sz⟩
  exfalso
  have:=m.size
  rw [Al,AA,AA] at this
  lia
 case post =>
  rintro ⟨c1,c2⟩ st' ⟨⟨g,rfl⟩,r,e,gd⟩
  cases e
  exact Aj (q _ g gd)
 case step =>
  rintro x c st' _ hx ⟨out,ia,ib,mg,rfl,⟨g,rfl⟩,m,i1,i2,sz⟩
  dsimp only
  refine Ag (DL (BK (fun y c st'=>∃ out ia ib ac bc,c=(none,out,ia,ib,ac,bc)/\st'=ya st g/\MI κ (a.toList++b.toList) out.toList (a.toList.drop ia) (b.toList.drop ib)/\ia + 1 < a.size/\ib < b.size/\x + 1 + y<=out.size)
   (Q:=fun c st'=>st'=ya st g/\((∃ r,c.1=some r/\Gd κ (a.toList++b.toList) r)\/∃ out ia ib ac bc,c=(none,out,ia,ib,ac,bc)/\MI κ (a.toList++b.toList) out.toList (a.toList.drop ia) (b.toList.drop ib)/\ia + 1 < a.size/\ib < b.size/\x + 2<=out.size)) ?step2 ?fin2 ⟨out,ia,ib,0,0,rfl,rfl,m,i1,i2,by lia⟩) ?post2)
  case fin2 =>
   rintro c st' ⟨out,ia,ib,ac,bc,rfl,rfl,m,i1,i2,sz⟩
   exact ⟨rfl,.inr ⟨_,_,_,_,_,rfl,m,i1,i2,by lia⟩⟩
  case step2 =>
   rintro y c st' _ hy ⟨out,ia,ib,ac,bc,rfl,rfl,m,i1,i2,sz⟩
   dsimp only
   refine qW (a:=b) (i:=ib) i2 fun yb eyb dyb myb=>?_
   refine qW (a:=a) (i:=ia) (by lia) fun xa exa dxa mxa=>?_
   refine Ag (zL eyb (Ag (zL exa (Ag (C.lt hs.1 hs.2 (okb _ myb) (oka _ mxa) ?_)))))
   dsimp only
   cases e:O.blt (κ yb) (κ xa) with
   | true =>
    refine zJ (rfl) ?_
    refine Ag (zL eyb ?_)
    have m2:=m.pushB dyb (fun z hz=>AO (AM e) (m.headA dxa z hz))
    by_cases c:ib + 1=b.size
    ·refine zJ ((beq_iff_eq.mpr c)) ?_
     exact Aj ⟨rfl,.inl ⟨_,rfl,m2.done (.inl c)⟩⟩
    refine zK ((fun z=>c (beq_iff_eq.mp z))) ?_
    refine zq (fun _=>?_) (fun _=>?_)
    ·exact Aj ⟨rfl,.inr ⟨_,_,_,_,_,rfl,m2,i1,by lia,by rw [Az]; lia⟩⟩
    ·exact Aj ⟨_,_,_,_,_,rfl,rfl,m2,i1,by lia,by rw [Az]; lia⟩
   | false =>
    refine zK (As) ?_
    refine Ag (zL exa ?_)
    have m2:=m.pushA dxa (fun z hz=>AO e (m.headB dyb z hz))
    by_cases c:ia + 1 + 1=a.size
    ·refine zJ ((beq_iff_eq.mpr c)) ?_
     exact Aj ⟨rfl,.inl ⟨_,rfl,m2.last c h2⟩⟩
    refine zK ((fun z=>c (beq_iff_eq.mp z))) ?_
    refine zq (fun _=>?_) (fun _=>?_)
    ·exact Aj ⟨rfl,.inr ⟨_,_,_,_,_,rfl,m2,by lia,i2,by rw [Az]; lia⟩⟩
    ·exact Aj ⟨_,_,_,_,_,rfl,rfl,m2,by lia,i2,by rw [Az]; lia⟩
  case post2 =>
   rintro c st' ⟨rfl,hq⟩
   rcases hq with ⟨r,e,gd⟩ | ⟨out,ia,ib,ac,bc,rfl,m,i1,i2,sz⟩
   ·obtain ⟨c1,c2⟩:=c
    cases e
    exact Aj ⟨⟨g,rfl⟩,r,rfl,gd⟩
   dsimp only
   refine Ag (Gq (Cp ⟨rfl,?_⟩))
   refine Ag (DL (BK (fun _ c st'=>∃ out ia ib mg ac bc,c=(none,out,ia,ib,mg,ac,bc)/\(∃ g,st'=ya st g)/\MI κ (a.toList++b.toList) out.toList (a.toList.drop ia) (b.toList.drop ib)/\ia + 1 < a.size/\ib < b.size/\x + 2<=out.size)
    (Q:=fun c st'=>(∃ g,st'=ya st g)/\((∃ r,c.1=some r/\Gd κ (a.toList++b.toList) r)\/∃ out ia ib mg ac bc,c=(none,out,ia,ib,mg,ac,bc)/\MI κ (a.toList++b.toList) out.toList (a.toList.drop ia) (b.toList.drop ib)/\ia + 1 < a.size/\ib < b.size/\x + 2<=out.size)) ?step3 ?fin3 ⟨_,_,_,_,_,_,rfl,⟨g,rfl⟩,m,i1,i2,sz⟩) ?post3)
   case fin3 =>
    rintro c st' ⟨out,ia,ib,mg,ac,bc,rfl,hg,m,i1,i2,sz⟩
    exact ⟨hg,.inr ⟨_,_,_,_,_,_,rfl,m,i1,i2,sz⟩⟩
   case post3 =>
    rintro c st' ⟨⟨g,rfl⟩,hq⟩
    rcases hq with ⟨r,e,gd⟩ | ⟨out,ia,ib,mg,ac,bc,rfl,m,i1,i2,sz⟩
    ·obtain ⟨c1,c2⟩:=c
     cases e
     exact Aj ⟨⟨g,rfl⟩,r,rfl,gd⟩
    dsimp only
    exact Ag (Di (Aj ⟨_,_,_,_,rfl,⟨_,rfl⟩,m,i1,i2,by lia⟩))
   case step3 =>
    rintro y c st' _ hy ⟨out,ia,ib,mg,ac,bc,rfl,⟨g,rfl⟩,m,i1,i2,sz⟩
    dsimp only
    by_cases cm:mg > 1
    ·refine zJ (cm) ?_
     refine Ag (Di ?_)
     refine qW (a:=b) (i:=ib) i2 fun yb eyb dyb myb=>?_
     refine Ag (zL eyb ?_)
     refine Ag (jg C (arr:=a) (base:=ia) (n:=a.size - ia) (hint:=0) hs.gal.gal (okb _ myb) oka (by lia) (by lia) (fun i j x y _ c2 _ ex ey=>sa.get c2 ex ey) fun k hk le gt=>?_)
     dsimp only
     have m2:=m.chunkA (k:=k) (fun x hx z hz=>by
      obtain ⟨j,j1,j2⟩:=jO hx
      exact AO (le j x j1 j2) (m.headB dyb z hz))
     have ng:∀ x∈a.toList.drop (ia + k),O.kle (κ yb) (κ x):=fun x hx=>by
      obtain ⟨j,j1,j2⟩:=zy hx
      exact AM (gt (k + j) x (by lia) (by lia) (by rw [<- ED]; exact j2))
     by_cases ck:k > 0
     ·refine zJ (ck) ?_
      by_cases c1:ia + k + 1=a.size
      ·refine zJ ((beq_iff_eq.mpr c1)) ?_
       exact Aj ⟨⟨_,rfl⟩,.inl ⟨_,rfl,m2.last c1 h2⟩⟩
      refine zK ((fun z=>c1 (beq_iff_eq.mp z))) ?_
      by_cases c2:ia + k=a.size
      ·refine zJ ((beq_iff_eq.mpr c2)) ?_
       exact Aj ⟨⟨_,rfl⟩,.inl ⟨_,rfl,m2.done (.inr c2)⟩⟩
      refine zK ((fun z=>c2 (beq_iff_eq.mp z))) ?_
      refine Ag (zL eyb ?_)
      have m3:=m2.pushB dyb ng
      by_cases c3:ib + 1=b.size
      ·refine zJ ((beq_iff_eq.mpr c3)) ?_
       exact Aj ⟨⟨_,rfl⟩,.inl ⟨_,rfl,m3.done (.inl c3)⟩⟩
      refine zK ((fun z=>c3 (beq_iff_eq.mp z))) ?_
      refine qW (a:=a) (i:=ia + k) (by lia) fun xa exa dxa mxa=>?_
      refine Ag (zL exa ?_)
      refine Ag (qX C (arr:=b) (base:=ib + 1) (n:=b.size - (ib + 1)) (hint:=0) hs.gal.gal (oka _ mxa) okb (by lia) (by lia) (fun i j x y _ c2 _ ex ey=>sb.get c2 ex ey) fun k2 hk2 lt2 ge2=>?_)
      dsimp only
      by_cases ck2:k2 > 0
      ·refine zJ (ck2) ?_
       have m4:=m3.chunkB (k:=k2) (fun x hx z hz=>by
        obtain ⟨j,j1,j2⟩:=jO hx
        exact AO (AM (lt2 j x j1 j2)) (m3.headA dxa z hz))
       by_cases c4:ib + 1 + k2=b.size
       ·refine zJ ((beq_iff_eq.mpr c4)) ?_
        exact Aj ⟨⟨_,rfl⟩,.inl ⟨_,rfl,m4.done (.inl c4)⟩⟩
       refine zK ((fun z=>c4 (beq_iff_eq.mp z))) ?_
       refine Ag (zL exa ?_)
       have m5:=m4.pushA dxa (fun z hz=>by
        obtain ⟨j,j1,j2⟩:=zy hz
        exact ge2 (k2 + j) z (by lia) (by lia) (by rw [<- ED]; exact j2))
       by_cases c5:ia + k + 1 + 1=a.size
       ·refine zJ ((beq_iff_eq.mpr c5)) ?_
        exact Aj ⟨⟨_,rfl⟩,.inl ⟨_,rfl,m5.last c5 h2⟩⟩
       refine zK ((fun z=>c5 (beq_iff_eq.mp z))) ?_
       refine zq (fun _=>?_) (fun _=>?_)
       ·exact Aj ⟨⟨_,rfl⟩,.inr ⟨_,_,_,_,_,_,rfl,m5,by lia,by lia,by simp only [Az,AG]; lia⟩⟩
       ·exact Aj ⟨_,_,_,_,_,_,rfl,⟨_,rfl⟩,m5,by lia,by lia,by simp only [Az,AG]; lia⟩
      ·refine zK (ck2) ?_
       refine Ag (zL exa ?_)
       have m5:=m3.pushA dxa (fun z hz=>by
        obtain ⟨j,j1,j2⟩:=zy hz
        exact ge2 j z (by lia) (by lia) j2)
       by_cases c5:ia + k + 1 + 1=a.size
       ·refine zJ ((beq_iff_eq.mpr c5)) ?_
        exact Aj ⟨⟨_,rfl⟩,.inl ⟨_,rfl,m5.last c5 h2⟩⟩
       refine zK ((fun z=>c5 (beq_iff_eq.mp z))) ?_
       refine zq (fun _=>?_) (fun _=>?_)
       ·exact Aj ⟨⟨_,rfl⟩,.inr ⟨_,_,_,_,_,_,rfl,m5,by lia,by lia,by simp only [Az,AG]; lia⟩⟩
       ·exact Aj ⟨_,_,_,_,_,_,rfl,⟨_,rfl⟩,m5,by lia,by lia,by simp only [Az,AG]; lia⟩
     ·refine zK (ck) ?_
      have k0:k=0:=by lia
      rw [k0] at ng
      refine Ag (zL eyb ?_)
      have m3:=m.pushB dyb ng
      by_cases c3:ib + 1=b.size
      ·refine zJ ((beq_iff_eq.mpr c3)) ?_
       exact Aj ⟨⟨_,rfl⟩,.inl ⟨_,rfl,m3.done (.inl c3)⟩⟩
      refine zK ((fun z=>c3 (beq_iff_eq.mp z))) ?_
      refine qW (a:=a) (i:=ia) (by lia) fun xa exa dxa mxa=>?_
      refine Ag (zL exa ?_)
      refine Ag (qX C (arr:=b) (base:=ib + 1) (n:=b.size - (ib + 1)) (hint:=0) hs.gal.gal (oka _ mxa) okb (by lia) (by lia) (fun i j x y _ c2 _ ex ey=>sb.get c2 ex ey) fun k2 hk2 lt2 ge2=>?_)
      dsimp only
      by_cases ck2:k2 > 0
      ·refine zJ (ck2) ?_
       have m4:=m3.chunkB (k:=k2) (fun x hx z hz=>by
        obtain ⟨j,j1,j2⟩:=jO hx
        exact AO (AM (lt2 j x j1 j2)) (m3.headA dxa z hz))
       by_cases c4:ib + 1 + k2=b.size
       ·refine zJ ((beq_iff_eq.mpr c4)) ?_
        exact Aj ⟨⟨_,rfl⟩,.inl ⟨_,rfl,m4.done (.inl c4)⟩⟩
       refine zK ((fun z=>c4 (beq_iff_eq.mp z))) ?_
       refine Ag (zL exa ?_)
       have m5:=m4.pushA dxa (fun z hz=>by
        obtain ⟨j,j1,j2⟩:=zy hz
        exact ge2 (k2 + j) z (by lia) (by lia) (by rw [<- ED]; exact j2))
       by_cases c5:ia + 1 + 1=a.size
       ·refine zJ ((beq_iff_eq.mpr c5)) ?_
        exact Aj ⟨⟨_,rfl⟩,.inl ⟨_,rfl,m5.last c5 h2⟩⟩
       refine zK ((fun z=>c5 (beq_iff_eq.mp z))) ?_
       refine zq (fun _=>?_) (fun _=>?_)
       ·exact Aj ⟨⟨_,rfl⟩,.inr ⟨_,_,_,_,_,_,rfl,m5,by lia,by lia,by simp only [Az,AG]; lia⟩⟩
       ·exact Aj ⟨_,_,_,_,_,_,rfl,⟨_,rfl⟩,m5,by lia,by lia,by simp only [Az,AG]; lia⟩
      ·refine zK (ck2) ?_
       refine Ag (zL exa ?_)
       have m5:=m3.pushA dxa (fun z hz=>by
        obtain ⟨j,j1,j2⟩:=zy hz
        exact ge2 j z (by lia) (by lia) j2)
       by_cases c5:ia + 1 + 1=a.size
       ·refine zJ ((beq_iff_eq.mpr c5)) ?_
        exact Aj ⟨⟨_,rfl⟩,.inl ⟨_,rfl,m5.last c5 h2⟩⟩
       refine zK ((fun z=>c5 (beq_iff_eq.mp z))) ?_
       refine zq (fun _=>?_) (fun _=>?_)
       ·exact Aj ⟨⟨_,rfl⟩,.inr ⟨_,_,_,_,_,_,rfl,m5,by lia,by lia,by simp only [Az,AG]; lia⟩⟩
       ·exact Aj ⟨_,_,_,_,_,_,rfl,⟨_,rfl⟩,m5,by lia,by lia,by simp only [Az,AG]; lia⟩
    ·refine zK (cm) ?_
     refine Ag (Di ?_)
     refine qW (a:=b) (i:=ib) i2 fun yb eyb dyb myb=>?_
     refine Ag (zL eyb ?_)
     refine Ag (jg C (arr:=a) (base:=ia) (n:=a.size - ia) (hint:=0) hs.gal.gal (okb _ myb) oka (by lia) (by lia) (fun i j x y _ c2 _ ex ey=>sa.get c2 ex ey) fun k hk le gt=>?_)
     dsimp only
     have m2:=m.chunkA (k:=k) (fun x hx z hz=>by
      obtain ⟨j,j1,j2⟩:=jO hx
      exact AO (le j x j1 j2) (m.headB dyb z hz))
     have ng:∀ x∈a.toList.drop (ia + k),O.kle (κ yb) (κ x):=fun x hx=>by
      obtain ⟨j,j1,j2⟩:=zy hx
      exact AM (gt (k + j) x (by lia) (by lia) (by rw [<- ED]; exact j2))
     by_cases ck:k > 0
     ·refine zJ (ck) ?_
      by_cases c1:ia + k + 1=a.size
      ·refine zJ ((beq_iff_eq.mpr c1)) ?_
       exact Aj ⟨⟨_,rfl⟩,.inl ⟨_,rfl,m2.last c1 h2⟩⟩
      refine zK ((fun z=>c1 (beq_iff_eq.mp z))) ?_
      by_cases c2:ia + k=a.size
      ·refine zJ ((beq_iff_eq.mpr c2)) ?_
       exact Aj ⟨⟨_,rfl⟩,.inl ⟨_,rfl,m2.done (.inr c2)⟩⟩
      refine zK ((fun z=>c2 (beq_iff_eq.mp z))) ?_
      refine Ag (zL eyb ?_)
      have m3:=m2.pushB dyb ng
      by_cases c3:ib + 1=b.size
      ·refine zJ ((beq_iff_eq.mpr c3)) ?_
       exact Aj ⟨⟨_,rfl⟩,.inl ⟨_,rfl,m3.done (.inl c3)⟩⟩
      refine zK ((fun z=>c3 (beq_iff_eq.mp z))) ?_
      refine qW (a:=a) (i:=ia + k) (by lia) fun xa exa dxa mxa=>?_
      refine Ag (zL exa ?_)
      refine Ag (qX C (arr:=b) (base:=ib + 1) (n:=b.size - (ib + 1)) (hint:=0) hs.gal.gal (oka _ mxa) okb (by lia) (by lia) (fun i j x y _ c2 _ ex ey=>sb.get c2 ex ey) fun k2 hk2 lt2 ge2=>?_)
      dsimp only
      by_cases ck2:k2 > 0
      ·refine zJ (ck2) ?_
       have m4:=m3.chunkB (k:=k2) (fun x hx z hz=>by
        obtain ⟨j,j1,j2⟩:=jO hx
        exact AO (AM (lt2 j x j1 j2)) (m3.headA dxa z hz))
       by_cases c4:ib + 1 + k2=b.size
       ·refine zJ ((beq_iff_eq.mpr c4)) ?_
        exact Aj ⟨⟨_,rfl⟩,.inl ⟨_,rfl,m4.done (.inl c4)⟩⟩
       refine zK ((fun z=>c4 (beq_iff_eq.mp z))) ?_
       refine Ag (zL exa ?_)
       have m5:=m4.pushA dxa (fun z hz=>by
        obtain ⟨j,j1,j2⟩:=zy hz
        exact ge2 (k2 + j) z (by lia) (by lia) (by rw [<- ED]; exact j2))
       by_cases c5:ia + k + 1 + 1=a.size
       ·refine zJ ((beq_iff_eq.mpr c5)) ?_
        exact Aj ⟨⟨_,rfl⟩,.inl ⟨_,rfl,m5.last c5 h2⟩⟩
       refine zK ((fun z=>c5 (beq_iff_eq.mp z))) ?_
       refine zq (fun _=>?_) (fun _=>?_)
       ·exact Aj ⟨⟨_,rfl⟩,.inr ⟨_,_,_,_,_,_,rfl,m5,by lia,by lia,by simp only [Az,AG]; lia⟩⟩
       ·exact Aj ⟨_,_,_,_,_,_,rfl,⟨_,rfl⟩,m5,by lia,by lia,by simp only [Az,AG]; lia⟩
      ·refine zK (ck2) ?_
       refine Ag (zL exa ?_)
       have m5:=m3.pushA dxa (fun z hz=>by
        obtain ⟨j,j1,j2⟩:=zy hz
        exact ge2 j z (by lia) (by lia) j2)
       by_cases c5:ia + k + 1 + 1=a.size
       ·refine zJ ((beq_iff_eq.mpr c5)) ?_
        exact Aj ⟨⟨_,rfl⟩,.inl ⟨_,rfl,m5.last c5 h2⟩⟩
       refine zK ((fun z=>c5 (beq_iff_eq.mp z))) ?_
       refine zq (fun _=>?_) (fun _=>?_)
       ·exact Aj ⟨⟨_,rfl⟩,.inr ⟨_,_,_,_,_,_,rfl,m5,by lia,by lia,by simp only [Az,AG]; lia⟩⟩
       ·exact Aj ⟨_,_,_,_,_,_,rfl,⟨_,rfl⟩,m5,by lia,by lia,by simp only [Az,AG]; lia⟩
     ·refine zK (ck) ?_
      have k0:k=0:=by lia
      rw [k0] at ng
      refine Ag (zL eyb ?_)
      have m3:=m.pushB dyb ng
      by_cases c3:ib + 1=b.size
      ·refine zJ ((beq_iff_eq.mpr c3)) ?_
       exact Aj ⟨⟨_,rfl⟩,.inl ⟨_,rfl,m3.done (.inl c3)⟩⟩
      refine zK ((fun z=>c3 (beq_iff_eq.mp z))) ?_
      refine qW (a:=a) (i:=ia) (by lia) fun xa exa dxa mxa=>?_
      refine Ag (zL exa ?_)
      refine Ag (qX C (arr:=b) (base:=ib + 1) (n:=b.size - (ib + 1)) (hint:=0) hs.gal.gal (oka _ mxa) okb (by lia) (by lia) (fun i j x y _ c2 _ ex ey=>sb.get c2 ex ey) fun k2 hk2 lt2 ge2=>?_)
      dsimp only
      by_cases ck2:k2 > 0
      ·refine zJ (ck2) ?_
       have m4:=m3.chunkB (k:=k2) (fun x hx z hz=>by
        obtain ⟨j,j1,j2⟩:=jO hx
        exact AO (AM (lt2 j x j1 j2)) (m3.headA dxa z hz))
       by_cases c4:ib + 1 + k2=b.size
       ·refine zJ ((beq_iff_eq.mpr c4)) ?_
        exact Aj ⟨⟨_,rfl⟩,.inl ⟨_,rfl,m4.done (.inl c4)⟩⟩
       refine zK ((fun z=>c4 (beq_iff_eq.mp z))) ?_
       refine Ag (zL exa ?_)
       have m5:=m4.pushA dxa (fun z hz=>by
        obtain ⟨j,j1,j2⟩:=zy hz
        exact ge2 (k2 + j) z (by lia) (by lia) (by rw [<- ED]; exact j2))
       by_cases c5:ia + 1 + 1=a.size
       ·refine zJ ((beq_iff_eq.mpr c5)) ?_
        exact Aj ⟨⟨_,rfl⟩,.inl ⟨_,rfl,m5.last c5 h2⟩⟩
       refine zK ((fun z=>c5 (beq_iff_eq.mp z))) ?_
       refine zq (fun _=>?_) (fun _=>?_)
       ·exact Aj ⟨⟨_,rfl⟩,.inr ⟨_,_,_,_,_,_,rfl,m5,by lia,by lia,by simp only [Az,AG]; lia⟩⟩
       ·exact Aj ⟨_,_,_,_,_,_,rfl,⟨_,rfl⟩,m5,by lia,by lia,by simp only [Az,AG]; lia⟩
      ·refine zK (ck2) ?_
       refine Ag (zL exa ?_)
       have m5:=m3.pushA dxa (fun z hz=>by
        obtain ⟨j,j1,j2⟩:=zy hz
        exact ge2 j z (by lia) (by lia) j2)
       by_cases c5:ia + 1 + 1=a.size
       ·refine zJ ((beq_iff_eq.mpr c5)) ?_
        exact Aj ⟨⟨_,rfl⟩,.inl ⟨_,rfl,m5.last c5 h2⟩⟩
       refine zK ((fun z=>c5 (beq_iff_eq.mp z))) ?_
       refine zq (fun _=>?_) (fun _=>?_)
       ·exact Aj ⟨⟨_,rfl⟩,.inr ⟨_,_,_,_,_,_,rfl,m5,by lia,by lia,by simp only [Az,AG]; lia⟩⟩
       ·exact Aj ⟨_,_,_,_,_,_,rfl,⟨_,rfl⟩,m5,by lia,by lia,by simp only [Az,AG]; lia⟩
end
noncomputable def aGg:Array Keyed->Array Keyed->StateT SortSt Sem (Array Keyed):=sortPriv% PySem.Builtin.mergeHi
section
variable {O:KeyOrd} (κ:Keyed->O.α)
structure MJ (L ro a b:List Keyed):Prop where
 perm:(a++b++ro).Perm L
 so:Srd κ ro
 sa:Srd κ a
 sb:Srd κ b
 oa:∀ x∈a,∀ y∈ro,O.kle (κ x) (κ y)
 ob:∀ x∈b,∀ y∈ro,O.kle (κ x) (κ y)
variable {κ}
theorem MJ.swap {L out a b:List Keyed} (m:MJ κ L out a b):MJ κ L out b a :=
 ⟨(Gh out Jx).trans m.perm,m.so,m.sb,m.sa,m.ob,m.oa⟩
theorem MJ.takeB {L ro c a b:List Keyed} (m:MJ κ L ro a (b++c)) (h:∀ x∈a,∀ y∈c,O.kle (κ x) (κ y)):MJ κ L (c++ro) a b:=by
 obtain ⟨s1,s2,s3⟩:=Srd.app.mp m.sb
 refine ⟨by have:=m.perm; simpa [BN] using this,Srd.app.mpr ⟨s2,m.so,fun x hx y hy=>m.ob x (Ay _ hx) y hy⟩,m.sa,s1,fun x hx y hy=>?_,fun x hx y hy=>?_⟩
 ·rcases Ar.mp hy with hy | hy
  ·exact h x hx y hy
  ·exact m.oa x hx y hy
 ·rcases Ar.mp hy with hy | hy
  ·exact s3 x hx y hy
  ·exact m.ob x (CJ _ hx) y hy
theorem MJ.takeA {L ro c a b:List Keyed} (m:MJ κ L ro (a++c) b) (h:∀ x∈b,∀ y∈c,O.kle (κ x) (κ y)):MJ κ L (c++ro) a b:=(m.swap.takeB h).swap
theorem MJ.endA {L ro a b:List Keyed} (m:MJ κ L ro a b) (h:∀ x∈a,∀ y∈b,O.kle (κ x) (κ y)):Srd κ (a++b++ro)/\(a++b++ro).Perm L :=
 ⟨Srd.app.mpr ⟨Srd.app.mpr ⟨m.sa,m.sb,h⟩,m.so,fun x hx y hy=>by
  rcases Ar.mp hx with hx | hx
  ·exact m.oa x hx y hy
  ·exact m.ob x hx y hy⟩,m.perm⟩
theorem aGh {a:Array Keyed} {j:Nat} (h:j + 1<=a.size):∃ x,a[j]?=some x/\a.toList.take (j + 1)=a.toList.take j++[x]/\x∈a :=
 ⟨a[j],Am (by lia),by
  rw [Et,Au (show j < a.toList.length by simpa using (show j < a.size by lia))]
  simp,DS (by lia)⟩
theorem aIA {a:Array Keyed} {i:Nat} (h1:1<=i) (h:i<=a.size):∃ x,a[i - 1]?=some x/\a.toList.take i=a.toList.take (i - 1)++[x]/\x∈a:=by
 obtain ⟨j,rfl⟩:∃ j,i=j + 1:=⟨i - 1,by lia⟩
 exact aGh h
theorem yn {a:Array Keyed} {i:Nat} {P:Prop} (h1:1<=i) (h:i<=a.size) (k:∀ x,a[i - 1]?=some x->a.toList.take i=a.toList.take (i - 1)++[x]->x∈a->P):P:=by
 obtain ⟨x,g1,g2,g3⟩:=aIA h1 h
 exact k x g1 g2 g3
theorem aAL (a:Array Keyed):a.toList.take a.size=a.toList:=ER (by simp)
theorem aBJ (a:Array Keyed) (i:Nat):(a.extract 0 i).toList=a.toList.take i:=by
 rw [yp,Ke,Gu]
theorem aDO {a:Array Keyed} {i j:Nat} (h:i<=j):a.toList.take j=a.toList.take i++(a.extract i j).toList:=by
 rw [yp,<- List.take_add]
 congr 1; lia
theorem qE {a:Array Keyed} {i j:Nat} {x:Keyed} (h:x∈(a.extract i j).toList):∃ k,i<=k/\k < j/\a[k]?=some x:=by
 rcases Cv i j with c | c
 ·have e:j=i + (j - i):=by lia
  rw [e] at h
  obtain ⟨k,k1,k2⟩:=jO h
  exact ⟨i + k,by lia,by lia,k2⟩
 ·rw [yp,show j - i=0 by lia,CQ] at h
  cases h
theorem yA {a:Array Keyed} {i:Nat} {x:Keyed} (h:x∈a.toList.take i):∃ j,j < i/\a[j]?=some x:=by
 obtain ⟨j,hj⟩:=Gx.mp h
 rw [HD] at hj
 split at hj
 ·rename_i c
  exact ⟨j,c,by simpa using hj⟩
 ·cases hj
theorem MJ.done {L:List Keyed} {out a b:Array Keyed} {na nb:Nat} (m:MJ κ L out.toList.reverse (a.toList.take na) (b.toList.take nb)) (h:nb=0\/na=0):Gd κ L (a.extract 0 na++b.extract 0 nb++out.reverse):=by
 unfold Gd
 rw [Cg,Cg,aBJ,aBJ,GN]
 refine m.endA fun x hx y hy=>?_
 rcases h with h | h
 ·rw [h,CQ] at hy; cases hy
 ·rw [h,CQ] at hx; cases hx
theorem MJ.first {L:List Keyed} {out a b:Array Keyed} {na nb:Nat} (m:MJ κ L out.toList.reverse (a.toList.take na) (b.toList.take nb)) (h:nb=1) (h1:∀ x∈a,∀ y,b[0]?=some y->O.kle (κ y) (κ x)):Gd κ L (b.extract 0 nb++a.extract 0 na++out.reverse):=by
 unfold Gd
 rw [Cg,Cg,aBJ,aBJ,GN]
 refine m.swap.endA fun y hy x hx=>?_
 obtain ⟨j,j1,j2⟩:=yA hx
 obtain ⟨k,k1,k2⟩:=yA hy
 exact h1 x (DB j2) y (by rw [<- k2]; congr 1; lia)
theorem MJ.pushA {L:List Keyed} {out a b:Array Keyed} {na nb:Nat} {x:Keyed} (m:MJ κ L out.toList.reverse (a.toList.take na) (b.toList.take nb)) (hx:a.toList.take na=a.toList.take (na - 1)++[x]) (h:∀ z∈b.toList.take nb,O.kle (κ z) (κ x)):MJ κ L (out.push x).toList.reverse (a.toList.take (na - 1)) (b.toList.take nb):=by
 rw [DT,Hm]
 rw [hx] at m
 exact m.takeA (c:=[x]) (fun z hz y hy=>by rw [Af.mp hy]; exact h z hz)
theorem MJ.pushB {L:List Keyed} {out a b:Array Keyed} {na nb:Nat} {x:Keyed} (m:MJ κ L out.toList.reverse (a.toList.take na) (b.toList.take nb)) (hx:b.toList.take nb=b.toList.take (nb - 1)++[x]) (h:∀ z∈a.toList.take na,O.kle (κ z) (κ x)):MJ κ L (out.push x).toList.reverse (a.toList.take na) (b.toList.take (nb - 1)):=by
 rw [DT,Hm]
 rw [hx] at m
 exact m.takeB (c:=[x]) (fun z hz y hy=>by rw [Af.mp hy]; exact h z hz)
theorem aBu (out c:Array Keyed):(out++c.reverse).toList.reverse=c.toList++out.toList.reverse:=by
 rw [Cg,Hm,GN,List.reverse_reverse]
theorem MJ.chunkA {L:List Keyed} {out a b:Array Keyed} {na nb k:Nat} (m:MJ κ L out.toList.reverse (a.toList.take na) (b.toList.take nb)) (hk:k<=na) (h:∀ x∈b.toList.take nb,∀ y∈(a.extract k na).toList,O.kle (κ x) (κ y)):MJ κ L (out++(a.extract k na).reverse).toList.reverse (a.toList.take k) (b.toList.take nb):=by
 rw [aBu]
 rw [aDO (a:=a) hk] at m
 exact m.takeA h
theorem MJ.chunkB {L:List Keyed} {out a b:Array Keyed} {na nb k:Nat} (m:MJ κ L out.toList.reverse (a.toList.take na) (b.toList.take nb)) (hk:k<=nb) (h:∀ x∈a.toList.take na,∀ y∈(b.extract k nb).toList,O.kle (κ x) (κ y)):MJ κ L (out++(b.extract k nb).reverse).toList.reverse (a.toList.take na) (b.toList.take k):=by
 rw [aBu]
 rw [aDO (a:=b) hk] at m
 exact m.takeB h
theorem MJ.lastA {L ro b:List Keyed} {a:Array Keyed} {na:Nat} {x:Keyed} (m:MJ κ L ro (a.toList.take na) b) (hx:a.toList.take na=a.toList.take (na - 1)++[x]):∀ z∈a.toList.take na,O.kle (κ z) (κ x):=by
 have:=m.sa
 rw [hx] at this ⊢
 intro z hz
 rcases Ar.mp hz with hz | hz
 ·exact (Srd.app.mp this).2.2 z hz x (Af.mpr rfl)
 ·rw [Af.mp hz]; exact BZ _
theorem MJ.lastB {L ro a:List Keyed} {b:Array Keyed} {nb:Nat} {x:Keyed} (m:MJ κ L ro a (b.toList.take nb)) (hx:b.toList.take nb=b.toList.take (nb - 1)++[x]):∀ z∈b.toList.take nb,O.kle (κ z) (κ x):=m.swap.lastA hx
theorem MJ.size {L:List Keyed} {out a b:Array Keyed} {na nb:Nat} (m:MJ κ L out.toList.reverse (a.toList.take na) (b.toList.take nb)):min na a.size + min nb b.size + out.size=L.length:=by
 have:=m.perm.length_eq
 simp only [Al,Bd,Cq,AA] at this
 exact this
end
section
variable {prog:Ap} {w:AT} {A:AR} {E:Value->Ad->Prop} {s:Ad} {O:KeyOrd} {κ:Keyed->O.α} {ok:Keyed->Prop} {kd:SortKind}
theorem aE3 (C:Cm (AC prog w) A E s κ ok kd) {st:SortSt} (hs:Sx kd st) {a b:Array Keyed} {Q:Array Keyed->SortSt->Prop} (oka:∀ x∈a,ok x) (okb:∀ x∈b,ok x) (sa:Srd κ a.toList) (sb:Srd κ b.toList) (ha:1<=a.size) (hb:1<=b.size)
  (h1:∀ x∈a,∀ y,b[0]?=some y->O.kle (κ y) (κ x)) (h2:∀ y∈b,∀ x,a[a.size - 1]?=some x->O.kle (κ y) (κ x))
  (q:∀ out g,Gd κ (a.toList++b.toList) out->Q out (ya st g)):wpS (AC prog w) A E s (aGg a b) Q st:=by
 refine Ag (Gq (Cp ⟨rfl,?_⟩))
 dsimp only
 refine yn (a:=a) (i:=a.size) (by lia) (Ai _) fun y0 ey0 dy0 my0=>?_
 refine Ag (zL ey0 ?_)
 have M0:MJ κ (a.toList++b.toList) (#[]:Array Keyed).toList.reverse (a.toList.take a.size) (b.toList.take b.size):=⟨by rw [aAL,aAL]; simp,En,by rw [aAL]; exact sa,by rw [aAL]; exact sb,by simp,by simp⟩
 have M1:MJ κ (a.toList++b.toList) (#[y0]:Array Keyed).toList.reverse (a.toList.take (a.size - 1)) (b.toList.take b.size):=M0.pushA dy0 (fun x hx=>by
  obtain ⟨j,_,j2⟩:=yA hx
  exact h2 x (DB j2) y0 ey0)
 by_cases c1:a.size - 1=0
 ·refine zJ ((beq_iff_eq.mpr c1)) ?_
  exact Aj (q _ (KZ st) (M1.done (.inr c1)))
 refine zK ((fun z=>c1 (beq_iff_eq.mp z))) ?_
 by_cases c2:b.size=1
 ·refine zJ ((beq_iff_eq.mpr c2)) ?_
  exact Aj (q _ (KZ st) (M1.first c2 h1))
 refine zK ((fun z=>c2 (beq_iff_eq.mp z))) ?_
 refine Ag (EZ ?_)
 refine Ag (DL (BK (fun x c st'=>∃ na nb out mg,c=(none,na,nb,out,mg)/\(∃ g,st'=ya st g)/\MJ κ (a.toList++b.toList) out.toList.reverse (a.toList.take na) (b.toList.take nb)/\(1<=na/\na<=a.size/\2<=nb/\nb<=b.size)/\x + 1<=out.size)
  (Q:=fun c st'=>(∃ g,st'=ya st g)/\∃ r,c.1=some r/\Gd κ (a.toList++b.toList) r) ?step ?fin ⟨_,_,_,_,rfl,⟨KZ st,rfl⟩,M1,⟨by lia,by lia,by lia,by lia⟩,by simp⟩) ?post)
 case fin =>
  rintro c st' ⟨na,nb,out,mg,rfl,⟨g,rfl⟩,m,⟨i1,i2,i3,i4⟩,sz⟩
  exfalso
  have:=m.size
  rw [Al,AA,AA] at this
  lia
 case post =>
  rintro ⟨c1,c2⟩ st' ⟨⟨g,rfl⟩,r,e,gd⟩
  cases e
  exact Aj (q _ g gd)
 case step =>
  rintro x c st' _ hx ⟨na,nb,out,mg,rfl,⟨g,rfl⟩,m,⟨i1,i2,i3,i4⟩,sz⟩
  dsimp only
  refine Ag (DL (BK (fun y c st'=>∃ na nb out ac bc,c=(none,na,nb,out,ac,bc)/\st'=ya st g/\MJ κ (a.toList++b.toList) out.toList.reverse (a.toList.take na) (b.toList.take nb)/\(1<=na/\na<=a.size/\2<=nb/\nb<=b.size)/\x + 1 + y<=out.size)
   (Q:=fun c st'=>st'=ya st g/\((∃ r,c.1=some r/\Gd κ (a.toList++b.toList) r)\/∃ na nb out ac bc,c=(none,na,nb,out,ac,bc)/\MJ κ (a.toList++b.toList) out.toList.reverse (a.toList.take na) (b.toList.take nb)/\(1<=na/\na<=a.size/\2<=nb/\nb<=b.size)/\x + 2<=out.size)) ?step2 ?fin2 ⟨na,nb,out,0,0,rfl,rfl,m,⟨i1,i2,i3,i4⟩,by lia⟩) ?post2)
  case fin2 =>
   rintro c st' ⟨na,nb,out,ac,bc,rfl,rfl,m,i,sz⟩
   exact ⟨rfl,.inr ⟨_,_,_,_,_,rfl,m,i,by lia⟩⟩
  case step2 =>
   rintro y c st' _ hy ⟨na,nb,out,ac,bc,rfl,rfl,m,⟨i1,i2,i3,i4⟩,sz⟩
   dsimp only
   refine yn (a:=b) (i:=nb) (by lia) (by lia) fun yb eyb dyb myb=>?_
   refine yn (a:=a) (i:=na) (by lia) (by lia) fun xa exa dxa mxa=>?_
   refine Ag (zL eyb (Ag (zL exa (Ag (C.lt hs.1 hs.2 (okb _ myb) (oka _ mxa) ?_)))))
   dsimp only
   cases e:O.blt (κ yb) (κ xa) with
   | true =>
    refine zJ (rfl) ?_
    refine Ag (zL exa ?_)
    have m2:=m.pushA dxa (fun z hz=>AO (m.lastB dyb z hz) (AM e))
    by_cases c:na - 1=0
    ·refine zJ ((beq_iff_eq.mpr c)) ?_
     exact Aj ⟨rfl,.inl ⟨_,rfl,m2.done (.inr c)⟩⟩
    refine zK ((fun z=>c (beq_iff_eq.mp z))) ?_
    refine zq (fun _=>?_) (fun _=>?_)
    ·exact Aj ⟨rfl,.inr ⟨_,_,_,_,_,rfl,m2,⟨by lia,by lia,i3,i4⟩,by rw [Az]; lia⟩⟩
    ·exact Aj ⟨_,_,_,_,_,rfl,rfl,m2,⟨by lia,by lia,i3,i4⟩,by rw [Az]; lia⟩
   | false =>
    refine zK (As) ?_
    refine Ag (zL eyb ?_)
    have m2:=m.pushB dyb (fun z hz=>AO (m.lastA dxa z hz) e)
    by_cases c:nb - 1=1
    ·refine zJ ((beq_iff_eq.mpr c)) ?_
     exact Aj ⟨rfl,.inl ⟨_,rfl,m2.first c h1⟩⟩
    refine zK ((fun z=>c (beq_iff_eq.mp z))) ?_
    refine zq (fun _=>?_) (fun _=>?_)
    ·exact Aj ⟨rfl,.inr ⟨_,_,_,_,_,rfl,m2,⟨i1,i2,by lia,by lia⟩,by rw [Az]; lia⟩⟩
    ·exact Aj ⟨_,_,_,_,_,rfl,rfl,m2,⟨i1,i2,by lia,by lia⟩,by rw [Az]; lia⟩
  case post2 =>
   rintro c st' ⟨rfl,hq⟩
   rcases hq with ⟨r,e,gd⟩ | ⟨na,nb,out,ac,bc,rfl,m,⟨i1,i2,i3,i4⟩,sz⟩
   ·obtain ⟨c1,c2⟩:=c
    cases e
    exact Aj ⟨⟨g,rfl⟩,r,rfl,gd⟩
   dsimp only
   refine Ag (Gq (Cp ⟨rfl,?_⟩))
   refine Ag (DL (BK (fun _ c st'=>∃ na nb out mg ac bc,c=(none,na,nb,out,mg,ac,bc)/\(∃ g,st'=ya st g)/\MJ κ (a.toList++b.toList) out.toList.reverse (a.toList.take na) (b.toList.take nb)/\1<=na/\na<=a.size/\2<=nb/\nb<=b.size/\x + 2<=out.size)
    (Q:=fun c st'=>(∃ g,st'=ya st g)/\((∃ r,c.1=some r/\Gd κ (a.toList++b.toList) r)\/∃ na nb out mg ac bc,c=(none,na,nb,out,mg,ac,bc)/\MJ κ (a.toList++b.toList) out.toList.reverse (a.toList.take na) (b.toList.take nb)/\1<=na/\na<=a.size/\2<=nb/\nb<=b.size/\x + 2<=out.size)) ?step3 ?fin3 ⟨_,_,_,_,_,_,rfl,⟨g,rfl⟩,m,i1,i2,i3,i4,sz⟩) ?post3)
   case fin3 =>
    rintro c st' ⟨na,nb,out,mg,ac,bc,rfl,hg,m,i⟩
    exact ⟨hg,.inr ⟨_,_,_,_,_,_,rfl,m,i⟩⟩
   case post3 =>
    rintro c st' ⟨⟨g,rfl⟩,hq⟩
    rcases hq with ⟨r,e,gd⟩ | ⟨na,nb,out,mg,ac,bc,rfl,m,i1,i2,i3,i4,sz⟩
    ·obtain ⟨c1,c2⟩:=c
     cases e
     exact Aj ⟨⟨g,rfl⟩,r,rfl,gd⟩
    dsimp only
    exact Ag (Di (Aj ⟨_,_,_,_,rfl,⟨_,rfl⟩,m,⟨i1,i2,i3,i4⟩,by lia⟩))
   case step3 =>
    rintro y c st' _ hy ⟨na,nb,out,mg,ac,bc,rfl,⟨g,rfl⟩,m,i1,i2,i3,i4,sz⟩
    dsimp only
    by_cases cm:mg > 1
    ·refine zJ (cm) ?_
     refine Ag (Di ?_)
     refine yn (a:=b) (i:=nb) (by lia) (by lia) fun yb eyb dyb myb=>?_
     refine Ag (zL eyb ?_)
     refine Ag (jg C (arr:=a) (base:=0) (n:=na) (hint:=na - 1) hs.gal.gal (okb _ myb) oka (by lia) (by lia) (fun i j x y _ c2 _ ex ey=>sa.get c2 ex ey) fun k hk le gt=>?_)
     dsimp only
     have ng:∀ x∈a.toList.take k,O.kle (κ x) (κ yb):=fun x hx=>by
      obtain ⟨j,j1,j2⟩:=yA hx
      exact le j x j1 (by rw [Cj]; exact j2)
     by_cases ck:na - k > 0
     ·refine zJ (ck) ?_
      have m2:=m.chunkA (k:=k) hk (fun x hx z hz=>by
       obtain ⟨j,j1,j2,j3⟩:=qE hz
       exact AO (m.lastB dyb x hx) (AM (gt j z j1 j2 (by rw [Cj]; exact j3))))
      by_cases c1:k=0
      ·refine zJ ((beq_iff_eq.mpr c1)) ?_
       exact Aj ⟨⟨_,rfl⟩,.inl ⟨_,rfl,m2.done (.inr c1)⟩⟩
      refine zK ((fun z=>c1 (beq_iff_eq.mp z))) ?_
      refine Ag (zL eyb ?_)
      have m3:=m2.pushB dyb (ng)
      by_cases c3:nb - 1=1
      ·refine zJ ((beq_iff_eq.mpr c3)) ?_
       exact Aj ⟨⟨_,rfl⟩,.inl ⟨_,rfl,m3.first c3 h1⟩⟩
      refine zK ((fun z=>c3 (beq_iff_eq.mp z))) ?_
      refine yn (a:=a) (i:=k) (by lia) (by lia) fun xa exa dxa mxa=>?_
      refine Ag (zL exa ?_)
      refine Ag (qX C (arr:=b) (base:=0) (n:=nb - 1) (hint:=nb - 1 - 1) hs.gal.gal (oka _ mxa) okb (by lia) (by lia) (fun i j x y _ c2 _ ex ey=>sb.get c2 ex ey) fun k2 hk2 lt2 ge2=>?_)
      dsimp only
      by_cases ck2:nb - 1 - k2 > 0
      ·refine zJ (ck2) ?_
       have m4:=m3.chunkB (k:=k2) hk2 (fun x hx z hz=>by
        obtain ⟨j,j1,j2,j3⟩:=qE hz
        exact AO (m3.lastA dxa x hx) (ge2 j z j1 j2 (by rw [Cj]; exact j3)))
       by_cases c4:k2=1
       ·refine zJ ((beq_iff_eq.mpr c4)) ?_
        exact Aj ⟨⟨_,rfl⟩,.inl ⟨_,rfl,m4.first c4 h1⟩⟩
       refine zK ((fun z=>c4 (beq_iff_eq.mp z))) ?_
       by_cases c6:k2=0
       ·refine zJ ((beq_iff_eq.mpr c6)) ?_
        exact Aj ⟨⟨_,rfl⟩,.inl ⟨_,rfl,m4.done (.inl c6)⟩⟩
       refine zK ((fun z=>c6 (beq_iff_eq.mp z))) ?_
       refine Ag (zL exa ?_)
       have m5:=m4.pushA dxa (fun z hz=>by
        obtain ⟨j,j1,j2⟩:=yA hz
        exact AM (lt2 j z j1 (by rw [Cj]; exact j2)))
       by_cases c5:k - 1=0
       ·refine zJ ((beq_iff_eq.mpr c5)) ?_
        exact Aj ⟨⟨_,rfl⟩,.inl ⟨_,rfl,m5.done (.inr c5)⟩⟩
       refine zK ((fun z=>c5 (beq_iff_eq.mp z))) ?_
       refine zq (fun _=>?_) (fun _=>?_)
       ·exact Aj ⟨⟨_,rfl⟩,.inr ⟨_,_,_,_,_,_,rfl,m5,by lia,by lia,by lia,by lia,by simp only [Az,AG]; lia⟩⟩
       ·exact Aj ⟨_,_,_,_,_,_,rfl,⟨_,rfl⟩,m5,by lia,by lia,by lia,by lia,by simp only [Az,AG]; lia⟩
      ·refine zK (ck2) ?_
       refine Ag (zL exa ?_)
       have m5:=m3.pushA dxa (fun z hz=>by
        obtain ⟨j,j1,j2⟩:=yA hz
        exact AM (lt2 j z (by lia) (by rw [Cj]; exact j2)))
       by_cases c5:k - 1=0
       ·refine zJ ((beq_iff_eq.mpr c5)) ?_
        exact Aj ⟨⟨_,rfl⟩,.inl ⟨_,rfl,m5.done (.inr c5)⟩⟩
       refine zK ((fun z=>c5 (beq_iff_eq.mp z))) ?_
       refine zq (fun _=>?_) (fun _=>?_)
       ·exact Aj ⟨⟨_,rfl⟩,.inr ⟨_,_,_,_,_,_,rfl,m5,by lia,by lia,by lia,by lia,by simp only [Az,AG]; lia⟩⟩
       ·exact Aj ⟨_,_,_,_,_,_,rfl,⟨_,rfl⟩,m5,by lia,by lia,by lia,by lia,by simp only [Az,AG]; lia⟩
     ·refine zK (ck) ?_
      have k0:k=na:=by lia
      rw [k0] at ng
      refine Ag (zL eyb ?_)
      have m3:=m.pushB dyb (ng)
      by_cases c3:nb - 1=1
      ·refine zJ ((beq_iff_eq.mpr c3)) ?_
       exact Aj ⟨⟨_,rfl⟩,.inl ⟨_,rfl,m3.first c3 h1⟩⟩
      refine zK ((fun z=>c3 (beq_iff_eq.mp z))) ?_
      refine yn (a:=a) (i:=na) (by lia) (by lia) fun xa exa dxa mxa=>?_
      refine Ag (zL exa ?_)
      refine Ag (qX C (arr:=b) (base:=0) (n:=nb - 1) (hint:=nb - 1 - 1) hs.gal.gal (oka _ mxa) okb (by lia) (by lia) (fun i j x y _ c2 _ ex ey=>sb.get c2 ex ey) fun k2 hk2 lt2 ge2=>?_)
      dsimp only
      by_cases ck2:nb - 1 - k2 > 0
      ·refine zJ (ck2) ?_
       have m4:=m3.chunkB (k:=k2) hk2 (fun x hx z hz=>by
        obtain ⟨j,j1,j2,j3⟩:=qE hz
        exact AO (m3.lastA dxa x hx) (ge2 j z j1 j2 (by rw [Cj]; exact j3)))
       by_cases c4:k2=1
       ·refine zJ ((beq_iff_eq.mpr c4)) ?_
        exact Aj ⟨⟨_,rfl⟩,.inl ⟨_,rfl,m4.first c4 h1⟩⟩
       refine zK ((fun z=>c4 (beq_iff_eq.mp z))) ?_
       by_cases c6:k2=0
       ·refine zJ ((beq_iff_eq.mpr c6)) ?_
        exact Aj ⟨⟨_,rfl⟩,.inl ⟨_,rfl,m4.done (.inl c6)⟩⟩
       refine zK ((fun z=>c6 (beq_iff_eq.mp z))) ?_
       refine Ag (zL exa ?_)
       have m5:=m4.pushA dxa (fun z hz=>by
        obtain ⟨j,j1,j2⟩:=yA hz
        exact AM (lt2 j z j1 (by rw [Cj]; exact j2)))
       by_cases c5:na - 1=0
       ·refine zJ ((beq_iff_eq.mpr c5)) ?_
        exact Aj ⟨⟨_,rfl⟩,.inl ⟨_,rfl,m5.done (.inr c5)⟩⟩
       refine zK ((fun z=>c5 (beq_iff_eq.mp z))) ?_
       refine zq (fun _=>?_) (fun _=>?_)
       ·exact Aj ⟨⟨_,rfl⟩,.inr ⟨_,_,_,_,_,_,rfl,m5,by lia,by lia,by lia,by lia,by simp only [Az,AG]; lia⟩⟩
       ·exact Aj ⟨_,_,_,_,_,_,rfl,⟨_,rfl⟩,m5,by lia,by lia,by lia,by lia,by simp only [Az,AG]; lia⟩
      ·refine zK (ck2) ?_
       refine Ag (zL exa ?_)
       have m5:=m3.pushA dxa (fun z hz=>by
        obtain ⟨j,j1,j2⟩:=yA hz
        exact AM (lt2 j z (by lia) (by rw [Cj]; exact j2)))
       by_cases c5:na - 1=0
       ·refine zJ ((beq_iff_eq.mpr c5)) ?_
        exact Aj ⟨⟨_,rfl⟩,.inl ⟨_,rfl,m5.done (.inr c5)⟩⟩
       refine zK ((fun z=>c5 (beq_iff_eq.mp z))) ?_
       refine zq (fun _=>?_) (fun _=>?_)
       ·exact Aj ⟨⟨_,rfl⟩,.inr ⟨_,_,_,_,_,_,rfl,m5,by lia,by lia,by lia,by lia,by simp only [Az,AG]; lia⟩⟩
       ·exact Aj ⟨_,_,_,_,_,_,rfl,⟨_,rfl⟩,m5,by lia,by lia,by lia,by lia,by simp only [Az,AG]; lia⟩
    ·refine zK (cm) ?_
     refine Ag (Di ?_)
     refine yn (a:=b) (i:=nb) (by lia) (by lia) fun yb eyb dyb myb=>?_
     refine Ag (zL eyb ?_)
     refine Ag (jg C (arr:=a) (base:=0) (n:=na) (hint:=na - 1) hs.gal.gal (okb _ myb) oka (by lia) (by lia) (fun i j x y _ c2 _ ex ey=>sa.get c2 ex ey) fun k hk le gt=>?_)
     dsimp only
     have ng:∀ x∈a.toList.take k,O.kle (κ x) (κ yb):=fun x hx=>by
      obtain ⟨j,j1,j2⟩:=yA hx
      exact le j x j1 (by rw [Cj]; exact j2)
     by_cases ck:na - k > 0
     ·refine zJ (ck) ?_
      have m2:=m.chunkA (k:=k) hk (fun x hx z hz=>by
       obtain ⟨j,j1,j2,j3⟩:=qE hz
       exact AO (m.lastB dyb x hx) (AM (gt j z j1 j2 (by rw [Cj]; exact j3))))
      by_cases c1:k=0
      ·refine zJ ((beq_iff_eq.mpr c1)) ?_
       exact Aj ⟨⟨_,rfl⟩,.inl ⟨_,rfl,m2.done (.inr c1)⟩⟩
      refine zK ((fun z=>c1 (beq_iff_eq.mp z))) ?_
      refine Ag (zL eyb ?_)
      have m3:=m2.pushB dyb (ng)
      by_cases c3:nb - 1=1
      ·refine zJ ((beq_iff_eq.mpr c3)) ?_
       exact Aj ⟨⟨_,rfl⟩,.inl ⟨_,rfl,m3.first c3 h1⟩⟩
      refine zK ((fun z=>c3 (beq_iff_eq.mp z))) ?_
      refine yn (a:=a) (i:=k) (by lia) (by lia) fun xa exa dxa mxa=>?_
      refine Ag (zL exa ?_)
      refine Ag (qX C (arr:=b) (base:=0) (n:=nb - 1) (hint:=nb - 1 - 1) hs.gal.gal (oka _ mxa) okb (by lia) (by lia) (fun i j x y _ c2 _ ex ey=>sb.get c2 ex ey) fun k2 hk2 lt2 ge2=>?_)
      dsimp only
      by_cases ck2:nb - 1 - k2 > 0
      ·refine zJ (ck2) ?_
       have m4:=m3.chunkB (k:=k2) hk2 (fun x hx z hz=>by
        obtain ⟨j,j1,j2,j3⟩:=qE hz
        exact AO (m3.lastA dxa x hx) (ge2 j z j1 j2 (by rw [Cj]; exact j3)))
       by_cases c4:k2=1
       ·refine zJ ((beq_iff_eq.mpr c4)) ?_
        exact Aj ⟨⟨_,rfl⟩,.inl ⟨_,rfl,m4.first c4 h1⟩⟩
       refine zK ((fun z=>c4 (beq_iff_eq.mp z))) ?_
       by_cases c6:k2=0
       ·refine zJ ((beq_iff_eq.mpr c6)) ?_
        exact Aj ⟨⟨_,rfl⟩,.inl ⟨_,rfl,m4.done (.inl c6)⟩⟩
       refine zK ((fun z=>c6 (beq_iff_eq.mp z))) ?_
       refine Ag (zL exa ?_)
       have m5:=m4.pushA dxa (fun z hz=>by
        obtain ⟨j,j1,j2⟩:=yA hz
        exact AM (lt2 j z j1 (by rw [Cj]; exact j2)))
       by_cases c5:k - 1=0
       ·refine zJ ((beq_iff_eq.mpr c5)) ?_
        exact Aj ⟨⟨_,rfl⟩,.inl ⟨_,rfl,m5.done (.inr c5)⟩⟩
       refine zK ((fun z=>c5 (beq_iff_eq.mp z))) ?_
       refine zq (fun _=>?_) (fun _=>?_)
       ·exact Aj ⟨⟨_,rfl⟩,.inr ⟨_,_,_,_,_,_,rfl,m5,by lia,by lia,by lia,by lia,by simp only [Az,AG]; lia⟩⟩
       ·exact Aj ⟨_,_,_,_,_,_,rfl,⟨_,rfl⟩,m5,by lia,by lia,by lia,by lia,by simp only [Az,AG]; lia⟩
      ·refine zK (ck2) ?_
       refine Ag (zL exa ?_)
       have m5:=m3.pushA dxa (fun z hz=>by
        obtain ⟨j,j1,j2⟩:=yA hz
        exact AM (lt2 j z (by lia) (by rw [Cj]; exact j2)))
       by_cases c5:k - 1=0
       ·refine zJ ((beq_iff_eq.mpr c5)) ?_
        exact Aj ⟨⟨_,rfl⟩,.inl ⟨_,rfl,m5.done (.inr c5)⟩⟩
       refine zK ((fun z=>c5 (beq_iff_eq.mp z))) ?_
       refine zq (fun _=>?_) (fun _=>?_)
       ·exact Aj ⟨⟨_,rfl⟩,.inr ⟨_,_,_,_,_,_,rfl,m5,by lia,by lia,by lia,by lia,by simp only [Az,AG]; lia⟩⟩
       ·exact Aj ⟨_,_,_,_,_,_,rfl,⟨_,rfl⟩,m5,by lia,by lia,by lia,by lia,by simp only [Az,AG]; lia⟩
     ·refine zK (ck) ?_
      have k0:k=na:=by lia
      rw [k0] at ng
      refine Ag (zL eyb ?_)
      have m3:=m.pushB dyb (ng)
      by_cases c3:nb - 1=1
      ·refine zJ ((beq_iff_eq.mpr c3)) ?_
       exact Aj ⟨⟨_,rfl⟩,.inl ⟨_,rfl,m3.first c3 h1⟩⟩
      refine zK ((fun z=>c3 (beq_iff_eq.mp z))) ?_
      refine yn (a:=a) (i:=na) (by lia) (by lia) fun xa exa dxa mxa=>?_
      refine Ag (zL exa ?_)
      refine Ag (qX C (arr:=b) (base:=0) (n:=nb - 1) (hint:=nb - 1 - 1) hs.gal.gal (oka _ mxa) okb (by lia) (by lia) (fun i j x y _ c2 _ ex ey=>sb.get c2 ex ey) fun k2 hk2 lt2 ge2=>?_)
      dsimp only
      by_cases ck2:nb - 1 - k2 > 0
      ·refine zJ (ck2) ?_
       have m4:=m3.chunkB (k:=k2) hk2 (fun x hx z hz=>by
        obtain ⟨j,j1,j2,j3⟩:=qE hz
        exact AO (m3.lastA dxa x hx) (ge2 j z j1 j2 (by rw [Cj]; exact j3)))
       by_cases c4:k2=1
       ·refine zJ ((beq_iff_eq.mpr c4)) ?_
        exact Aj ⟨⟨_,rfl⟩,.inl ⟨_,rfl,m4.first c4 h1⟩⟩
       refine zK ((fun z=>c4 (beq_iff_eq.mp z))) ?_
       by_cases c6:k2=0
       ·refine zJ ((beq_iff_eq.mpr c6)) ?_
        exact Aj ⟨⟨_,rfl⟩,.inl ⟨_,rfl,m4.done (.inl c6)⟩⟩
       refine zK ((fun z=>c6 (beq_iff_eq.mp z))) ?_
       refine Ag (zL exa ?_)
       have m5:=m4.pushA dxa (fun z hz=>by
        obtain ⟨j,j1,j2⟩:=yA hz
        exact AM (lt2 j z j1 (by rw [Cj]; exact j2)))
       by_cases c5:na - 1=0
       ·refine zJ ((beq_iff_eq.mpr c5)) ?_
        exact Aj ⟨⟨_,rfl⟩,.inl ⟨_,rfl,m5.done (.inr c5)⟩⟩
       refine zK ((fun z=>c5 (beq_iff_eq.mp z))) ?_
       refine zq (fun _=>?_) (fun _=>?_)
       ·exact Aj ⟨⟨_,rfl⟩,.inr ⟨_,_,_,_,_,_,rfl,m5,by lia,by lia,by lia,by lia,by simp only [Az,AG]; lia⟩⟩
       ·exact Aj ⟨_,_,_,_,_,_,rfl,⟨_,rfl⟩,m5,by lia,by lia,by lia,by lia,by simp only [Az,AG]; lia⟩
      ·refine zK (ck2) ?_
       refine Ag (zL exa ?_)
       have m5:=m3.pushA dxa (fun z hz=>by
        obtain ⟨j,j1,j2⟩:=yA hz
        exact AM (lt2 j z (by lia) (by rw [Cj]; exact j2)))
       by_cases c5:na - 1=0
       ·refine zJ ((beq_iff_eq.mpr c5)) ?_
        exact Aj ⟨⟨_,rfl⟩,.inl ⟨_,rfl,m5.done (.inr c5)⟩⟩
       refine zK ((fun z=>c5 (beq_iff_eq.mp z))) ?_
       refine zq (fun _=>?_) (fun _=>?_)
       ·exact Aj ⟨⟨_,rfl⟩,.inr ⟨_,_,_,_,_,_,rfl,m5,by lia,by lia,by lia,by lia,by simp only [Az,AG]; lia⟩⟩
       ·exact Aj ⟨_,_,_,_,_,_,rfl,⟨_,rfl⟩,m5,by lia,by lia,by lia,by lia,by simp only [Az,AG]; lia⟩
end
section
variable {O:KeyOrd} {κ:Keyed->O.α}
noncomputable def SegU (κ:Keyed->O.α) (arr:Array Keyed) (lo hi:Nat):Prop:=∀ i j x y,lo<=i->i<=j->j < hi->arr[i]?=some x->arr[j]?=some y->O.kle (κ x) (κ y)
noncomputable def putAt (arr:Array Keyed) (sa:Nat) (l:List Keyed) (n:Nat):Array Keyed:=(l.zipIdx n).foldl (fun a (p,j)=>a.setIfInBounds (sa + j) p) arr
theorem aAY:∀ (l:List Keyed) (arr:Array Keyed) (sa n k:Nat),sa + n + l.length<=arr.size->(putAt arr sa l n)[k]?=if sa + n<=k/\k < sa + n + l.length then l[k - sa - n]? else arr[k]?
 | [],arr,sa,n,k,h=>by
  show arr[k]?=_
  rw [if_neg (by simp)]
 | x :: r,arr,sa,n,k,h=>by
  show (putAt (arr.setIfInBounds (sa + n) x) sa r (n + 1))[k]?=_
  rw [AY] at h ⊢
  rw [aAY r _ sa (n + 1) k (by rw [Ih]; lia),Array.getElem?_setIfInBounds]
  by_cases c:sa + n=k
  ·rw [if_neg (by lia),if_pos c,if_pos (by lia),if_pos (by lia),show k - sa - n=0 by lia]
   rfl
  ·rw [if_neg c]
   by_cases c2:sa + (n + 1)<=k/\k < sa + (n + 1) + r.length
   ·rw [if_pos c2,if_pos (by lia),show k - sa - n=(k - sa - (n + 1)) + 1 by lia,List.getElem?_cons_succ]
   ·rw [if_neg c2,if_neg (by lia)]
theorem aE4 {l:List Keyed} {arr:Array Keyed} {sa:Nat} (h:sa + l.length<=arr.size):(putAt arr sa l 0).toList=arr.toList.take sa++(l++arr.toList.drop (sa + l.length)):=by
 apply Er
 intro k
 have e:=aAY l arr sa 0 k (by lia)
 have hl:(arr.toList.take sa).length=sa:=by
  rw [Bd]
  have:arr.toList.length=arr.size:=AA
  lia
 rw [Br,e,JT,JT,hl,HD,HE]
 by_cases c1:k < sa
 ·rw [if_neg (by lia),if_pos c1,if_pos c1,Br]
 ·rw [if_neg c1]
  by_cases c2:k - sa < l.length
  ·rw [if_pos (by lia),if_pos c2,show k - sa - 0=k - sa by lia]
  ·rw [if_neg (by lia),if_neg c2,show sa + l.length + (k - sa - l.length)=k by lia,Br]
theorem SegU.srd {arr:Array Keyed} {lo hi:Nat} (h:SegU κ arr lo hi) (hs:hi<=arr.size):Srd κ (arr.extract lo hi).toList:=by
 refine Eg.mpr fun i j l1 l2 hij=>?_
 rw [AA,FY] at l1 l2
 refine h (lo + i) (lo + j) _ _ (by lia) (by lia) (by lia) ?_ ?_
 ·rw [JU,Jz]; exact Am _
 ·rw [JU,Jz]; exact Am _
theorem SegU.mono {arr:Array Keyed} {lo hi lo' hi':Nat} (h:SegU κ arr lo hi) (h1:lo<=lo') (h2:hi'<=hi):SegU κ arr lo' hi':=fun i j x y a b c=>h i j x y (by lia) b (by lia)
theorem SegU.same {arr arr':Array Keyed} {lo hi:Nat} (h:SegU κ arr lo hi) (e:∀ i,lo<=i->i < hi->arr'[i]?=arr[i]?):SegU κ arr' lo hi:=fun i j x y a b c hx hy=>h i j x y a b c (by rw [<- e i a (by lia)]; exact hx) (by rw [<- e j (by lia) c]; exact hy)
theorem SegU.join {arr:Array Keyed} {lo mid hi:Nat} (h1:SegU κ arr lo mid) (h2:SegU κ arr mid hi) (h:∀ i j x y,lo<=i->i < mid->mid<=j->j < hi->arr[i]?=some x->arr[j]?=some y->O.kle (κ x) (κ y)):SegU κ arr lo hi:=fun i j x y a b c hx hy=>by
 rcases Cv j mid with d | d
 ·exact h1 i j x y a b d hx hy
 ·rcases Cv i mid with d2 | d2
  ·exact h i j x y a d2 d c hx hy
  ·exact h2 i j x y d2 b c hx hy
end
section
variable {prog:Ap} {w:AT} {A:AR} {E:Value->Ad->Prop} {s:Ad} {O:KeyOrd} {κ:Keyed->O.α} {ok:Keyed->Prop} {kd:SortKind}
theorem aIB {M:HL} {x:SortSt} {Q:PUnit->SortSt->Prop} {st:SortSt} (h:Q ⟨⟩ x):wpS M A E s (set x:StateT SortSt Sem PUnit) Q st:=by
 unfold wpS; rw [StateT.run_set]; exact Ab ⟨rfl,h⟩
theorem aGi {l:List Keyed} (h:Srd κ l) {i j:Nat} {x y:Keyed} (hij:i<=j) (hx:l[i]?=some x) (hy:l[j]?=some y):O.kle (κ x) (κ y):=by
 have:=Srd.get (κ:=κ) (a:=l.toArray) h hij (by simpa using hx) (by simpa using hy)
 exact this
structure Mg (κ:Keyed->O.α) (kd:SortKind) (arr:Array Keyed) (lo hi:Nat) (p:Array (Nat×Nat×Nat)) (st':SortSt):Prop where
 sx:Sx kd st'
 perm:(AF st').toList.Perm arr.toList
 pend:Bt st'=p
 out:∀ k,(k < lo\/hi<=k)->(AF st')[k]?=arr[k]?
 seg:SegU κ (AF st') lo hi
theorem aE5 (C:Cm (AC prog w) A E s κ ok kd) {st:SortSt} (hs:Sx kd st) (hok:∀ x∈AF st,ok x) {i sa na pw nb pw2:Nat} {Q:Bool->SortSt->Prop} (e1:(Bt st)[i]?=some (sa,na,pw)) (e2:(Bt st)[i + 1]?=some (sa + na,nb,pw2))
  (n1:1<=na) (n2:1<=nb) (hz:sa + na + nb<=(AF st).size) (s1:SegU κ (AF st) sa (sa + na)) (s2:SegU κ (AF st) (sa + na) (sa + na + nb))
  (q:∀ st',Mg κ kd (AF st) sa (sa + na + nb) (((Bt st).setIfInBounds i (sa,na + nb,pw)).eraseIdxIfInBounds (i + 1)) st'->Q true st'):wpS (AC prog w) A E s (mergeAt' i) Q st:=by
 refine Ag (EZ ?_)
 rw [e1,e2]
 dsimp only
 refine Ag (aIB ?_)
 have hs1:Sx kd (FL st (((Bt st).setIfInBounds i (sa,na + nb,pw)).eraseIdxIfInBounds (i + 1))):=hs
 generalize ((Bt st).setIfInBounds i (sa,na + nb,pw)).eraseIdxIfInBounds (i + 1)=P at q hs1 ⊢
 have eb:(AF st)[sa + na]?=some (AF st)[sa + na]:=Am (by lia)
 have okb:ok (AF st)[sa + na]:=hok _ (DS (by lia))
 generalize (AF st)[sa + na]=xb at eb okb
 have el:(AF st)[sa + na - 1]?=some (AF st)[sa + na - 1]:=Am (by lia)
 have okl:ok (AF st)[sa + na - 1]:=hok _ (DS (by lia))
 generalize (AF st)[sa + na - 1]=xl at el okl
 refine Ag (zL eb ?_)
 refine Ag (jg C (arr:=AF st) (base:=sa) (n:=na) (hint:=0) hs1 okb hok (by lia) (by lia) s1 fun k hk le gt=>?_)
 dsimp only
 have leA:∀ i x,sa<=i->i < sa + k->(AF st)[i]?=some x->O.kle (κ x) (κ xb):=fun i x a1 a2 ex=>le (i - sa) x (by lia) (by rw [show sa + (i - sa)=i by lia]; exact ex)
 have gtA:∀ i x,sa + k<=i->i < sa + na->(AF st)[i]?=some x->O.kle (κ xb) (κ x):=fun i x a1 a2 ex=>AM (gt (i - sa) x (by lia) (by lia) (by rw [show sa + (i - sa)=i by lia]; exact ex))
 by_cases c1:na - k=0
 ·rw [if_pos (beq_iff_eq.mpr c1)]
  refine Aj (q _ ⟨hs1,Dy _,rfl,fun _ _=>rfl,s1.join s2 fun i j x y a1 a2 a3 a4 ex ey=>?_⟩)
  exact AO (leA i x a1 (by lia) ex) (s2 (sa + na) j xb y (by lia) a3 a4 eb ey)
 rw [if_neg (fun z=>c1 (beq_iff_eq.mp z))]
 rw [show sa + k + (na - k) - 1=sa + na - 1 by lia]
 refine Ag (zL el ?_)
 refine Ag (qX C (arr:=AF st) (base:=sa + na) (n:=nb) (hint:=nb - 1) hs1 okl hok (by lia) (by lia) s2 fun k2 hk2 lt2 ge2=>?_)
 dsimp only
 have ltB:∀ i x,sa + na<=i->i < sa + na + k2->(AF st)[i]?=some x->O.kle (κ x) (κ xl):=fun i x a1 a2 ex=>AM (lt2 (i - (sa + na)) x (by lia) (by rw [show sa + na + (i - (sa + na))=i by lia]; exact ex))
 have geB:∀ i x,sa + na + k2<=i->i < sa + na + nb->(AF st)[i]?=some x->O.kle (κ xl) (κ x):=fun i x a1 a2 ex=>ge2 (i - (sa + na)) x (by lia) (by lia) (by rw [show sa + na + (i - (sa + na))=i by lia]; exact ex)
 clear le gt lt2 ge2
 by_cases c2:k2=0
 ·rw [if_pos (beq_iff_eq.mpr c2)]
  refine Aj (q _ ⟨hs1,Dy _,rfl,fun _ _=>rfl,s1.join s2 fun i j x y a1 a2 a3 a4 ex ey=>?_⟩)
  exact AO (s1 i (sa + na - 1) x xl a1 (by lia) (by lia) ex el) (geB j y (by lia) a4 ey)
 rw [if_neg (fun z=>c2 (beq_iff_eq.mp z))]
 obtain ⟨X,hX⟩:∃ X,X=(AF st).extract (sa + k) (sa + na):=⟨_,rfl⟩
 obtain ⟨Y,hY⟩:∃ Y,Y=(AF st).extract (sa + na) (sa + na + k2):=⟨_,rfl⟩
 rw [<- hX,<- hY]
 have zX:X.size=na - k:=by rw [hX,FY]; lia
 have zY:Y.size=k2:=by rw [hY,FY]; lia
 have mX:∀ x∈X.toList,∃ j,sa + k<=j/\j < sa + na/\(AF st)[j]?=some x:=fun x hx=>qE (by rw [<- hX]; exact hx)
 have mY:∀ x∈Y.toList,∃ j,sa + na<=j/\j < sa + na + k2/\(AF st)[j]?=some x:=fun x hx=>qE (by rw [<- hY]; exact hx)
 have okX:∀ x∈X,ok x:=fun x hx=>by
  obtain ⟨j,_,_,e⟩:=mX x (by simpa using hx)
  exact hok x (DB e)
 have okY:∀ x∈Y,ok x:=fun x hx=>by
  obtain ⟨j,_,_,e⟩:=mY x (by simpa using hx)
  exact hok x (DB e)
 have sX:Srd κ X.toList:=by rw [hX]; exact (s1.mono (by lia) (Ai _)).srd (by lia)
 have sY:Srd κ Y.toList:=by rw [hY]; exact (s2.mono (Ai _) (by lia)).srd (by lia)
 have b0:Y[0]?=some xb:=by
  rw [hY,Gg,if_pos (by lia)]
  exact eb
 have al:X[X.size - 1]?=some xl:=by
  rw [zX,hX,Gg,if_pos (by lia),show sa + k + (na - k - 1)=sa + na - 1 by lia]
  exact el
 have p1:∀ x∈X,∀ y,Y[0]?=some y->O.kle (κ y) (κ x):=fun x hx y hy=>by
  rw [b0] at hy; cases hy
  obtain ⟨j,j1,j2,e⟩:=mX x (by simpa using hx)
  exact gtA j x j1 j2 e
 have p2:∀ y∈Y,∀ x,X[X.size - 1]?=some x->O.kle (κ y) (κ x):=fun y hy x hx=>by
  rw [al] at hx; cases hx
  obtain ⟨j,j1,j2,e⟩:=mY y (by simpa using hy)
  exact ltB j y j1 j2 e
 have fin:∀ out g,Gd κ (X.toList++Y.toList) out->Mg κ kd (AF st) sa (sa + na + nb) P (Mq (ya (FL st P) g) (putAt (AF st) (sa + k) out.toList 0)):=by
  intro out g gd
  have zo:out.toList.length=na - k + k2:=by
   have:=gd.2.length_eq
   have l1:X.toList.length=X.size:=AA
   have l2:Y.toList.length=Y.size:=AA
   rw [Al] at this
   lia
  have hfit:sa + k + out.toList.length<=(AF st).size:=by lia
  have gt':=fun j=>aAY out.toList (AF st) (sa + k) 0 j (by lia)
  have cls:∀ i x,(putAt (AF st) (sa + k) out.toList 0)[i]?=some x->(i < sa + k/\(AF st)[i]?=some x)\/(sa + k<=i/\i < sa + na + k2/\out.toList[i - (sa + k) - 0]?=some x)\/(sa + na + k2<=i/\(AF st)[i]?=some x):=by
   intro i x e
   rw [gt' i] at e
   split at e
   ·rename_i c; exact .inr (.inl ⟨by lia,by lia,e⟩)
   ·rename_i c
    by_cases d:i < sa + k
    ·exact .inl ⟨d,e⟩
    ·exact .inr (.inr ⟨by lia,e⟩)
  have mO:∀ x∈out.toList,(∃ j,sa + k<=j/\j < sa + na/\(AF st)[j]?=some x)\/∃ j,sa + na<=j/\j < sa + na + k2/\(AF st)[j]?=some x:=fun x hx=>by
   rcases Ar.mp (gd.2.mem_iff.mp hx) with h | h
   ·exact .inl (mX x h)
   ·exact .inr (mY x h)
  refine ⟨hs1,?_,rfl,fun j hj=>?_,?_⟩
  ·show (putAt (AF st) (sa + k) out.toList 0).toList.Perm _
   rw [aE4 hfit]
   have e3:(AF st).toList=(AF st).toList.take (sa + k)++(X.toList++Y.toList++(AF st).toList.drop (sa + na + k2)):=by
    have d1:=aAK (a:=AF st) (i:=sa + k) (k:=na - k)
    have d2:=aAK (a:=AF st) (i:=sa + na) (k:=k2)
    rw [show sa + k + (na - k)=sa + na by lia,<- hX] at d1
    rw [<- hY] at d2
    rw [BN,<- d2,<- d1,Jy]
   rw [show sa + k + out.toList.length=sa + na + k2 by lia]
   have e4:((AF st).toList.take (sa + k)++(out.toList++(AF st).toList.drop (sa + na + k2))).Perm ((AF st).toList.take (sa + k)++(X.toList++Y.toList++(AF st).toList.drop (sa + na + k2))):=Gw _ (Gh _ gd.2)
   rw [<- e3] at e4
   exact e4
  ·show (putAt (AF st) (sa + k) out.toList 0)[j]?=_
   rw [gt' j,if_neg (by lia)]
  ·intro i j x y a1 a2 a3 ex ey
   have ex':(putAt (AF st) (sa + k) out.toList 0)[i]?=some x:=ex
   have ey':(putAt (AF st) (sa + k) out.toList 0)[j]?=some y:=ey
   rcases cls i x ex' with ⟨q1,q2⟩ | ⟨q1,q2,q3⟩ | ⟨q1,q2⟩
   ·have xl1:=leA i x a1 q1 q2
    rcases cls j y ey' with ⟨r1,r2⟩ | ⟨r1,r2,r3⟩ | ⟨r1,r2⟩
    ·exact s1 i j x y a1 a2 (by lia) q2 r2
    ·rcases mO y (Av r3) with ⟨l,l1,l2,l3⟩ | ⟨l,l1,l2,l3⟩
     ·exact s1 i l x y a1 (by lia) l2 q2 l3
     ·exact AO xl1 (s2 (sa + na) l xb y (by lia) l1 (by lia) eb l3)
    ·exact AO xl1 (s2 (sa + na) j xb y (by lia) (by lia) a3 eb r2)
   ·rcases cls j y ey' with ⟨r1,r2⟩ | ⟨r1,r2,r3⟩ | ⟨r1,r2⟩
    ·lia
    ·exact aGi gd.1 (by lia) q3 r3
    ·rcases mO x (Av q3) with ⟨l,l1,l2,l3⟩ | ⟨l,l1,l2,l3⟩
     ·exact AO (s1 l (sa + na - 1) x xl (by lia) (by lia) (by lia) l3 el) (geB j y r1 a3 r2)
     ·exact s2 l j x y l1 (by lia) a3 l3 r2
   ·rcases cls j y ey' with ⟨r1,r2⟩ | ⟨r1,r2,r3⟩ | ⟨r1,r2⟩
    ·lia
    ·lia
    ·exact s2 i j x y (by lia) a2 a3 q2 r2
 have fin2:∀ out g,Gd κ (X.toList++Y.toList) out->wpS (AC prog w) A E s (do
    modify fun s=>Mq s (List.foldl (fun a x=>a.setIfInBounds (sa + k + x.snd) x.fst) (AF s) out.toList.zipIdx)
    let __do_lift <- get
    pure (FV __do_lift).isNone) Q (ya (FL st P) g):=by
  intro out g gd
  refine Ag (Di (Ag (EZ ?_)))
  have hf:FV st=none:=hs.2
  show wpS _ _ _ _ (pure (FV st).isNone) _ _
  rw [hf]
  exact Aj (q _ (fin out g gd))
 by_cases c3:na - k<=k2
 ·rw [if_pos c3]
  exact Ag (aE2 C hs1 okX okY sX sY (by lia) (by lia) p1 p2 fin2)
 ·rw [if_neg c3]
  exact Ag (aE3 C hs1 okX okY sX sY (by lia) (by lia) p1 p2 fin2)
end
section
variable {O:KeyOrd} (κ:Keyed->O.α) (d:O.α) (lo:Nat)
noncomputable def fs (xs:Array Keyed) (i:Nat):O.α:=fk κ d xs (lo + i)
theorem aFE {xs:Array Keyed} {i j:Nat} (hj:lo + j<=xs.size) (k:Nat):fs κ d lo (IP xs (lo + i) (lo + j) ((lo + j - (lo + i)) / 2)) k=if i<=k/\k < j then fs κ d lo xs (i + j - 1 - k) else fs κ d lo xs k:=by
 unfold fs
 rw [aB9 κ d hj]
 by_cases c:i<=k/\k < j
 ·rw [if_pos (by lia),if_pos c,show lo + i + (lo + j) - 1 - (lo + k)=lo + (i + j - 1 - k) by lia]
 ·rw [if_neg (by lia),if_neg c]
theorem aBK {xs:Array Keyed} {i j:Nat} (hj:lo + j<=xs.size) (h:∀ k,i<=k->k < j->fs κ d lo xs k=fs κ d lo xs (j - 1)) (k:Nat):fs κ d lo (IP xs (lo + i) (lo + j) ((lo + j - (lo + i)) / 2)) k=fs κ d lo xs k:=by
 rw [aFE κ d lo hj]
 split
 ·rename_i c
  rw [h _ (by lia) (by lia),<- h k c.1 c.2]
 ·rfl
theorem aFF {xs:Array Keyed} {x l:Nat} (ha:lo + x < xs.size) (hb:l<=x) (k:Nat):fs κ d lo (MR xs (lo + x) (lo + x - (lo + l))) k=if k=l then fs κ d lo xs x else if l < k/\k<=x then fs κ d lo xs (k - 1) else fs κ d lo xs k:=by
 unfold fs
 rw [aCa κ d ha (by lia),show lo + x - (lo + x - (lo + l))=lo + l by lia]
 by_cases c1:k=l
 ·rw [if_pos (by lia),if_pos c1]
 ·rw [if_neg (by lia),if_neg c1]
  by_cases c2:l < k/\k<=x
  ·rw [if_pos (by lia),if_pos c2,show lo + k - 1=lo + (k - 1) by lia]
  ·rw [if_neg (by lia),if_neg c2]
theorem aGj {xs:Array Keyed} {i j k:Nat} (hj:lo + j<=xs.size) (h:k < lo):(IP xs (lo + i) (lo + j) ((lo + j - (lo + i)) / 2))[k]?=xs[k]?:=by
 rw [Kt hj,if_neg (by lia)]
theorem aGk {xs:Array Keyed} {x l k:Nat} (ha:lo + x < xs.size) (hb:l<=x) (h:k < lo):(MR xs (lo + x) (lo + x - (lo + l)))[k]?=xs[k]?:=by
 rw [getElem?_bubble ha _ (by lia),if_neg (by lia),if_neg (by lia)]
variable {κ d lo}
theorem aHU {xs:Array Keyed} {n:Nat} (h:Up (fs κ d lo xs) n):SegU κ xs lo (lo + n):=fun i j x y a b c ex ey=>by
 have:=h (i - lo) (j - lo) (by lia) (by lia)
 unfold fs fk at this
 rw [show lo + (i - lo)=i by lia,show lo + (j - lo)=j by lia,ex,ey] at this
 exact this
end
structure Rl (kd:SortKind) (lo:Nat) (st st':SortSt):Prop where
 sx:Sx kd st'
 perm:(AF st').Perm (AF st)
 pend:Bt st'=Bt st
 out:∀ k,k < lo->(AF st')[k]?=(AF st)[k]?
section
variable {prog:Ap} {w:AT} {A:AR} {E:Value->Ad->Prop} {s:Ad} {O:KeyOrd} {κ:Keyed->O.α} {ok:Keyed->Prop} {kd:SortKind} {d:O.α} {lo n:Nat} {st0:SortSt}
theorem Rl.refl {st:SortSt} (h:Sx kd st):Rl kd lo st st:=⟨h,JA _,rfl,fun _ _=>rfl⟩
theorem Rl.put {st:SortSt} (h:Rl kd lo st0 st) {xs:Array Keyed} (p:xs.Perm (AF st)) (o:∀ k,k < lo->xs[k]?=(AF st)[k]?):Rl kd lo st0 (Mq st xs):=⟨h.sx,p.trans h.perm,h.pend,fun k hk=>(o k hk).trans (h.out k hk)⟩
structure Mkr (M:HL) (A:AR) (E:Value->Ad->Prop) (s:Ad) (κ:Keyed->O.α) (ok:Keyed->Prop) (kd:SortKind) (lo n:Nat) (st0:SortSt):Prop where
 C:Cm M A E s κ ok kd
 ok:∀ x∈AF st0,ok x
 sz:lo + n<=(AF st0).size
theorem Mkr.size (S:Mkr (AC prog w) A E s κ ok kd lo n st0) {st:SortSt} (h:Rl kd lo st0 st):lo + n<=(AF st).size:=by rw [h.perm.size_eq]; exact S.sz
theorem Mkr.lt (S:Mkr (AC prog w) A E s κ ok kd lo n st0) {st:SortSt} (h:Rl kd lo st0 st) {i j:Nat} {Q:Option Bool->SortSt->Prop} (hi:i < n) (hj:j < n) (q:Q (some (O.blt (fs κ d lo (AF st) i) (fs κ d lo (AF st) j))) st):wpS (AC prog w) A E s (ltAt' (lo + i) (lo + j)) Q st:=by
 have z:=S.size h
 have ei:(AF st)[lo + i]?=some (AF st)[lo + i]:=Am (by lia)
 have ej:(AF st)[lo + j]?=some (AF st)[lo + j]:=Am (by lia)
 have oi:ok (AF st)[lo + i]:=S.ok _ (h.perm.mem_iff.mp (DS (by lia)))
 have oj:ok (AF st)[lo + j]:=S.ok _ (h.perm.mem_iff.mp (DS (by lia)))
 rw [ltAt'_eq]
 refine Ag (EZ ?_)
 show wpS _ _ _ _ (do let x <- NQ (AF st) (lo + i); let y <- NQ (AF st) (lo + j); lt' x y) Q st
 refine Ag (zL ei (Ag (zL ej (S.C.lt h.sx.1 h.sx.2 oi oj ?_))))
 unfold fs fk at q
 rw [ei,ej] at q
 exact q
end
section
variable {prog:Ap} {w:AT} {A:AR} {E:Value->Ad->Prop} {s:Ad} {O:KeyOrd} {κ:Keyed->O.α} {ok:Keyed->Prop} {kd:SortKind} {lo n:Nat} {st0:SortSt} (d:O.α)
theorem Rl.turn {st:SortSt} (h:Rl kd lo st0 st) {i j:Nat} (hj:lo + j<=(AF st).size):Rl kd lo st0 (Mq st (IP (AF st) (lo + i) (lo + j) ((lo + j - (lo + i)) / 2))):=h.put (ID _ _ _ _) fun k hk=>aGj lo hj hk
theorem aAZ (S:Mkr (AC prog w) A E s κ ok kd lo n st0) {st:SortSt} (hb:Rl kd lo st0 st) {a m:Nat} (h1:1<=a) (ham:a<=m) (hmn:m<=n) (up:Up (fs κ d lo (AF st)) a) {f:Nat->NP->StateT SortSt Sem (ForInStep NP)}
  (hf:∀ x k b (R:ForInStep NP->SortSt->Prop),(∀ T:Option Bool->SortSt->Prop,T (some b) st->wpS (AC prog w) A E s (ltAt' (lo + k) (lo + k - 1)) T st)->R (if b then .done (none,k) else .yield (none,k + 1)) st->wpS (AC prog w) A E s (f x (none,k)) R st) {Q:NP->SortSt->Prop}
  (q:∀ k,a<=k->k<=m->Up (fs κ d lo (AF st)) k->(k=m\/O.klt (fs κ d lo (AF st) k) (fs κ d lo (AF st) (k - 1)))->Q (none,k) st):wpS (AC prog w) A E s (NL [a:m] ((none,a):NP) f) Q st:=by
 refine BK (fun x c st'=>st'=st/\c=(none,x)/\Up (fs κ d lo (AF st)) x) (fun x c st' hx hm hI=>?_) (fun c st' hI=>?_) ⟨rfl,rfl,up⟩
 ·obtain ⟨e1,e2,u⟩:=hI
  subst e1 e2
  refine hf x x (O.blt (fs κ d lo (AF st') x) (fs κ d lo (AF st') (x - 1))) _ (fun T hT=>?_) ?_
  ·rw [show lo + x - 1=lo + (x - 1) by lia]
   exact S.lt (d:=d) hb (show x < n by lia) (show x - 1 < n by lia) hT
  ·cases e:O.blt (fs κ d lo (AF st') x) (fs κ d lo (AF st') (x - 1)) with
   | true=>exact q x hx (by lia) u (.inr e)
   | false=>exact ⟨rfl,rfl,u.snoc e⟩
 ·obtain ⟨e1,e2,u⟩:=hI
  subst e1 e2
  rw [GD ham] at u ⊢
  exact q m ham (Ai m) u (.inl rfl)
theorem aDP (S:Mkr (AC prog w) A E s κ ok kd lo n st0) {st:SortSt} (hb:Rl kd lo st0 st) {a m:Nat} (h1:1<=a) (ham:a<=m) (hmn:m<=n) (dn:Dn (fs κ d lo (AF st)) a) {f:Nat->Nr->StateT SortSt Sem (ForInStep Nr)}
  (hf:∀ x k e b1 b2 (st:SortSt) (R:ForInStep Nr->SortSt->Prop),(∀ T:Option Bool->SortSt->Prop,T (some b1) st->wpS (AC prog w) A E s (ltAt' (lo + k) (lo + k - 1)) T st)->(∀ T:Option Bool->SortSt->Prop,T (some b2) st->wpS (AC prog w) A E s (ltAt' (lo + k - 1) (lo + k)) T st) ->
   (b1=true->e > 0->R (.yield (none,k + 1,0)) (Mq st (IP (AF st) (lo + k - (e + 1)) (lo + k) ((lo + k - (lo + k - (e + 1))) / 2))))->(b1=true->¬ e > 0->R (.yield (none,k + 1,0)) st)->(b1=false->b2=true->R (.done (none,k,e)) st)->(b1=false->b2=false->R (.yield (none,k + 1,e + 1)) st)->wpS (AC prog w) A E s (f x (none,k,e)) R st) {Q:Nr->SortSt->Prop}
  (q:∀ k e st',Rl kd lo st0 st'->a<=k->k<=m->Dn (fs κ d lo (AF st')) k->e + 1<=k->(∀ i,k - (e + 1)<=i->i < k->fs κ d lo (AF st') i=fs κ d lo (AF st') (k - 1))->Q (none,k,e) st'):wpS (AC prog w) A E s (NL [a:m] ((none,a,0):Nr) f) Q st:=by
 have one:∀ (xs:Array Keyed) (x:Nat),1<=x->∀ i,x - (0 + 1)<=i->i < x->fs κ d lo xs i=fs κ d lo xs (x - 1):=fun xs x hx i c1 c2=>by rw [show i=x - 1 by lia]
 refine BK (fun x c st'=>∃ e,c=(none,x,e)/\Rl kd lo st0 st'/\Dn (fs κ d lo (AF st')) x/\e + 1<=x/\∀ i,x - (e + 1)<=i->i < x->fs κ d lo (AF st') i=fs κ d lo (AF st') (x - 1)) (fun x c st' hx hm hI=>?_) (fun c st' hI=>?_) ⟨0,rfl,hb,dn,h1,one _ a h1⟩
 ·obtain ⟨e,rfl,b,u,le,fl⟩:=hI
  have z:lo + x<=(AF st').size:=by have:=S.size b; lia
  refine hf x x e (O.blt (fs κ d lo (AF st') x) (fs κ d lo (AF st') (x - 1))) (O.blt (fs κ d lo (AF st') (x - 1)) (fs κ d lo (AF st') x)) st' _ (fun T hT=>?_) (fun T hT=>?_) (fun e1 c=>?_) (fun e1 c=>?_) (fun e1 e2=>?_) (fun e1 e2=>?_)
  ·rw [show lo + x - 1=lo + (x - 1) by lia]
   exact S.lt (d:=d) b (show x < n by lia) (show x - 1 < n by lia) hT
  ·rw [show lo + x - 1=lo + (x - 1) by lia]
   exact S.lt (d:=d) b (show x - 1 < n by lia) (show x < n by lia) hT
  ·rw [show lo + x - (e + 1)=lo + (x - (e + 1)) by lia]
   exact ⟨0,rfl,b.turn z,(u.snoc (AM e1)).congr (aBK κ d lo z fl),by lia,one _ (x + 1) (by lia)⟩
  ·exact ⟨0,rfl,b,u.snoc (AM e1),by lia,one _ (x + 1) (by lia)⟩
  ·exact q x e st' b hx (by lia) u le fl
  ·have same:fs κ d lo (AF st') x=fs κ d lo (AF st') (x - 1):=FC e2 e1
   refine ⟨e + 1,rfl,b,u.snoc (by rw [same]; exact BZ _),by lia,fun i c1 c2=>?_⟩
   rw [FU]
   rcases Cv i x with c3 | c3
   ·rw [same]; exact fl i (by lia) c3
   ·rw [show i=x by lia]
 ·obtain ⟨e,rfl,b,u,le,fl⟩:=hI
  rw [GD ham] at u le fl ⊢
  exact q m e st' b ham (Ai m) u le fl
theorem aBL {st:SortSt} {a:Nat} (z:lo + a<=(AF st).size) (dn:Dn (fs κ d lo (AF st)) a):Up (fs κ d lo (IP (AF st) lo (lo + a) ((lo + a - lo) / 2))) a:=fun i j c1 c2=>by
 have t:=aFE κ d lo (i:=0) z
 rw [Nat.add_zero] at t
 rw [t,t,if_pos ⟨AS _,by lia⟩,if_pos ⟨AS _,c2⟩]
 exact dn _ _ (by lia) (by lia)
theorem aFG (S:Mkr (AC prog w) A E s κ ok kd lo n st0) {st:SortSt} (hb:Rl kd lo st0 st) {m:Nat} (h1:1<=m) (hmn:m<=n) {Q:Option Nat->SortSt->Prop}
  (q:∀ k st',Rl kd lo st0 st'->1<=k->k<=m->Up (fs κ d lo (AF st')) k->Q (some k) st'):wpS (AC prog w) A E s (countRun' lo m) Q st:=by
 rw [countRun'_eq]
 refine Ag (aAZ d S hb (Ai 1) h1 hmn (Up.one _) (fun x k b R hl hr=>by refine Ag (hl _ ?_); dsimp only; cases b <;> exact Aj hr) fun k0 k01 k02 u0 ends=>?_)
 have z:lo + k0<=(AF st).size:=by have:=S.size hb; lia
 dsimp only
 by_cases c:k0=m
 ·rw [if_pos (beq_iff_eq.mpr c)]
  exact Aj (q k0 st hb k01 k02 u0)
 rw [if_neg (fun z=>c (beq_iff_eq.mp z))]
 have fall:=ends.resolve_left c
 by_cases c1:k0 > 1
 ·rw [if_pos c1,show lo + k0 - 1=lo + (k0 - 1) by lia]
  refine Ag (S.lt (d:=d) (i:=0) hb (show 0 < n by lia) (show k0 - 1 < n by lia) ?_)
  dsimp only
  cases e:O.blt (fs κ d lo (AF st) 0) (fs κ d lo (AF st) (k0 - 1)) with
  | true=>rw [if_pos rfl]; exact Aj (q k0 st hb k01 k02 u0)
  | false =>
   rw [if_neg As]
   have flat:∀ i,0<=i->i < k0->fs κ d lo (AF st) i=fs κ d lo (AF st) (k0 - 1):=fun i _ ci =>
    FC (u0 i (k0 - 1) (by lia) (by lia)) (AO e (u0 0 i (AS _) ci))
   have dn:Dn (fs κ d lo (AF st)) (k0 + 1):=by
    refine Dn.snoc (fun i j a b=>?_) (AM fall)
    rw [flat i (AS _) (by lia),flat j (AS _) b]
    exact BZ _
   refine Ag (DH ?_)
   refine Ag (Gq (Cp ⟨rfl,?_⟩))
   refine Ag (aDP d S (hb.turn (i:=0) z) (a:=k0 + 1) (by lia) (by lia) hmn (dn.congr (aBK κ d lo (i:=0) z flat)) (fun x k e b1 b2 st R l1 l2 r1 r2 r3 r4=>by
     refine Ag (l1 _ ?_)
     dsimp only
     cases b1 with
     | true =>
      rw [if_pos rfl]
      by_cases c:e > 0
      ·rw [if_pos c]
       exact Ag (DH (Aj (r1 rfl c)))
      ·rw [if_neg c]
       exact Aj (r2 rfl c)
     | false =>
      rw [if_neg As]
      refine Ag (l2 _ ?_)
      dsimp only
      cases b2 with
      | true=>exact Aj (r3 rfl rfl)
      | false=>exact Aj (r4 rfl rfl)) fun k e st' b k1 k2 u le fl=>?_)
   have z:lo + k<=(AF st').size:=by have:=S.size b; lia
   dsimp only
   by_cases c:e > 0
   ·rw [if_pos c,show lo + k - (e + 1)=lo + (k - (e + 1)) by lia]
    refine Ag (DH ?_)
    have b':=b.turn (i:=k - (e + 1)) z
    have u':Dn (fs κ d lo (IP (AF st') (lo + (k - (e + 1))) (lo + k) ((lo + k - (lo + (k - (e + 1)))) / 2))) k:=u.congr (aBK κ d lo z fl)
    have z:lo + k<=(AF (Mq st' (IP (AF st') (lo + (k - (e + 1))) (lo + k) ((lo + k - (lo + (k - (e + 1)))) / 2)))).size:=by have:=S.size b'; lia
    refine Ag (DH ?_)
    have hb9:=Rl.turn (i:=0) (b') z
    refine Ag (aAZ d S hb9 (by lia) k2 hmn (aBL d z (u')) (fun x k b R hl hr=>by refine Ag (hl _ ?_); dsimp only; cases b <;> exact Aj hr) fun k9 k91 k92 u9 _=>?_)
    exact Aj (q k9 _ hb9 (by lia) k92 u9)
   ·rw [if_neg c]
    refine Ag (DH ?_)
    have hb9:=Rl.turn (i:=0) (b) z
    refine Ag (aAZ d S hb9 (by lia) k2 hmn (aBL d z (u)) (fun x k b R hl hr=>by refine Ag (hl _ ?_); dsimp only; cases b <;> exact Aj hr) fun k9 k91 k92 u9 _=>?_)
    exact Aj (q k9 _ hb9 (by lia) k92 u9)
 ·rw [if_neg c1]
  have e1:k0=1:=by lia
  subst e1
  refine Ag (Gq (Cp ⟨rfl,?_⟩))
  refine Ag (aDP d S (hb) (a:=1 + 1) (by lia) (by lia) hmn (Dn.snoc (Dn.one _) (AM fall)) (fun x k e b1 b2 st R l1 l2 r1 r2 r3 r4=>by
    refine Ag (l1 _ ?_)
    dsimp only
    cases b1 with
    | true =>
     rw [if_pos rfl]
     by_cases c:e > 0
     ·rw [if_pos c]
      exact Ag (DH (Aj (r1 rfl c)))
     ·rw [if_neg c]
      exact Aj (r2 rfl c)
    | false =>
     rw [if_neg As]
     refine Ag (l2 _ ?_)
     dsimp only
     cases b2 with
     | true=>exact Aj (r3 rfl rfl)
     | false=>exact Aj (r4 rfl rfl)) fun k e st' b k1 k2 u le fl=>?_)
  have z:lo + k<=(AF st').size:=by have:=S.size b; lia
  dsimp only
  by_cases c:e > 0
  ·rw [if_pos c,show lo + k - (e + 1)=lo + (k - (e + 1)) by lia]
   refine Ag (DH ?_)
   have b':=b.turn (i:=k - (e + 1)) z
   have u':Dn (fs κ d lo (IP (AF st') (lo + (k - (e + 1))) (lo + k) ((lo + k - (lo + (k - (e + 1)))) / 2))) k:=u.congr (aBK κ d lo z fl)
   have z:lo + k<=(AF (Mq st' (IP (AF st') (lo + (k - (e + 1))) (lo + k) ((lo + k - (lo + (k - (e + 1)))) / 2)))).size:=by have:=S.size b'; lia
   refine Ag (DH ?_)
   have hb9:=Rl.turn (i:=0) (b') z
   refine Ag (aAZ d S hb9 (by lia) k2 hmn (aBL d z (u')) (fun x k b R hl hr=>by refine Ag (hl _ ?_); dsimp only; cases b <;> exact Aj hr) fun k9 k91 k92 u9 _=>?_)
   exact Aj (q k9 _ hb9 (by lia) k92 u9)
  ·rw [if_neg c]
   refine Ag (DH ?_)
   have hb9:=Rl.turn (i:=0) (b) z
   refine Ag (aAZ d S hb9 (by lia) k2 hmn (aBL d z (u)) (fun x k b R hl hr=>by refine Ag (hl _ ?_); dsimp only; cases b <;> exact Aj hr) fun k9 k91 k92 u9 _=>?_)
   exact Aj (q k9 _ hb9 (by lia) k92 u9)
theorem aE6 (S:Mkr (AC prog w) A E s κ ok kd lo n st0) {st:SortSt} (hb:Rl kd lo st0 st) {a m:Nat} (ham:a<=m) (hmn:m<=n) (up:Up (fs κ d lo (AF st)) a) {Q:Bool->SortSt->Prop}
  (q:∀ st',Rl kd lo st0 st'->Up (fs κ d lo (AF st')) m->Q true st'):wpS (AC prog w) A E s (binarySort' lo m a) Q st:=by
 rw [binarySort'_eq]
 refine Ag (DL (BK (fun x c st'=>c=(none,())/\Rl kd lo st0 st'/\Up (fs κ d lo (AF st')) (min x m)) (Q:=fun c st'=>c=(none,())/\Rl kd lo st0 st'/\Up (fs κ d lo (AF st')) m) (fun x c st' hx hxn hI=>?_) (fun c st' hI=>?_) ⟨rfl,hb,?_⟩) ?_)
 ·obtain ⟨rfl,b,u⟩:=hI
  rw [Eo (by lia)] at u
  refine Ag (DL (BK (fun y c st2=>st2=st'/\∃ l r,c=(none,l,r)/\l<=r/\r<=x/\r - l<=x - y/\(∀ i,i < l->O.kle (fs κ d lo (AF st') i) (fs κ d lo (AF st') x))/\∀ i,r<=i->i < x->O.klt (fs κ d lo (AF st') x) (fs κ d lo (AF st') i))
   (Q:=fun c st2=>st2=st'/\∃ l r,c=(none,l,r)/\l<=x/\(∀ i,i < l->O.kle (fs κ d lo (AF st') i) (fs κ d lo (AF st') x))/\∀ i,l<=i->i < x->O.klt (fs κ d lo (AF st') x) (fs κ d lo (AF st') i))
   (fun y c st2 _ hy hJ=>?_) (fun c st2 hJ=>?_) ⟨rfl,0,x,rfl,AS _,Ai _,Ai _,(fun i hi=>absurd hi (Ep i)),fun i c1 c2=>absurd c2 (Nat.not_lt.mpr c1)⟩) ?_)
  ·obtain ⟨rfl,l,r,rfl,lr,rx,dist,lo',hi⟩:=hJ
   dsimp only
   by_cases c:l >= r
   ·rw [if_pos c]
    exact Aj ⟨rfl,l,r,rfl,by lia,lo',fun i c1 c2=>hi i (by lia) c2⟩
   rw [if_neg c]
   refine Ag (S.lt (d:=d) b (show x < n by lia) (show (l + r) / 2 < n by lia) ?_)
   dsimp only
   cases e:O.blt (fs κ d lo (AF st2) x) (fs κ d lo (AF st2) ((l + r) / 2)) with
   | true =>
    rw [if_pos rfl]
    exact Aj ⟨rfl,l,(l + r) / 2,rfl,by lia,by lia,by lia,lo',fun i c1 c2=>Ia e (u _ _ c1 c2)⟩
   | false =>
    rw [if_neg As]
    exact Aj ⟨rfl,(l + r) / 2 + 1,r,rfl,by lia,rx,by lia,fun i ci=>AO (u i ((l + r) / 2) (by lia) (by lia)) e,hi⟩
  ·obtain ⟨rfl,l,r,rfl,lr,rx,dist,lo',hi⟩:=hJ
   exact ⟨rfl,l,r,rfl,by lia,lo',fun i c1 c2=>hi i (by lia) c2⟩
  ·rintro c st2 ⟨rfl,l,r,rfl,lx,lo',hi⟩
   have z:lo + x < (AF st2).size:=by have:=S.size b; lia
   show wpS _ _ _ _ (moveDown' (lo + x) (lo + l) >>= fun _=>pure (Dz (none,()))) _ _
   rw [moveDown'_eq]
   refine Ag (Di (Aj ⟨rfl,b.put (bubble_perm _ _ _) (fun k hk=>aGk lo z lx hk),?_⟩))
   rw [Eo (by lia)]
   intro i j c1 c2
   show O.kle (fs κ d lo (MR (AF st2) (lo + x) (lo + x - (lo + l))) i) (fs κ d lo (MR (AF st2) (lo + x) (lo + x - (lo + l))) j)
   rw [aFF κ d lo z lx,aFF κ d lo z lx]
   by_cases a1:i=l
   ·rw [if_pos a1]
    by_cases a2:j=l
    ·rw [if_pos a2]; exact BZ _
    ·rw [if_neg a2,if_pos ⟨by lia,by lia⟩]; exact AM (hi _ (by lia) (by lia))
   ·rw [if_neg a1]
    by_cases a3:l < i/\i<=x
    ·rw [if_pos a3,if_neg (by lia),if_pos ⟨by lia,by lia⟩]
     exact u _ _ (by lia) (by lia)
    ·rw [if_neg a3]
     by_cases a2:j=l
     ·rw [if_pos a2]; exact lo' i (by lia)
     ·rw [if_neg a2]
      by_cases a4:l < j/\j<=x
      ·rw [if_pos a4]; exact u _ _ (by lia) (by lia)
      ·rw [if_neg a4]; exact u _ _ c1 (by lia)
 ·obtain ⟨rfl,b,u⟩:=hI
  rcases Cv m (max a 1) with c | c
  ·have:m=0:=by lia
   subst this
   exact ⟨rfl,b,fun i j _ h=>absurd h (Ep j)⟩
  ·rw [show min (max (max a 1) m) m=m by lia] at u
   exact ⟨rfl,b,u⟩
 ·intro i j c1 c2
  rcases Cv j a with c | c
  ·exact up i j c1 c
  ·have e:i=j:=by lia
   rw [e]; exact BZ _
 ·rintro c st' ⟨rfl,b,u⟩
  exact Aj (q st' b u)
end
section
variable {O:KeyOrd} {κ:Keyed->O.α}
noncomputable def Runs (κ:Keyed->O.α) (arr:Array Keyed):List (Nat×Nat×Nat)->Nat->Nat->Prop
 | [],b,e=>b=e
 | (s,n,_) :: r,b,e=>s=b/\1<=n/\SegU κ arr b (b + n)/\Runs κ arr r (b + n) e
theorem Runs.le {arr:Array Keyed}:∀ {l:List (Nat×Nat×Nat)} {b e:Nat},Runs κ arr l b e->b + l.length<=e
 | [],b,e,h=>by have:b=e:=h; simp; lia
 | (s,n,p) :: r,b,e,h=>by
  obtain ⟨_,h1,_,h2⟩:=h
  have:=Runs.le h2
  rw [AY]; lia
theorem Runs.same {arr arr':Array Keyed}:∀ {l:List (Nat×Nat×Nat)} {b e:Nat},Runs κ arr l b e->(∀ k,b<=k->k < e->arr'[k]?=arr[k]?)->Runs κ arr' l b e
 | [],b,e,h,_=>h
 | (s,n,p) :: r,b,e,h,hk=>by
  obtain ⟨h0,h1,h3,h2⟩:=h
  have:=h2.le
  exact ⟨h0,h1,h3.same fun k a c=>hk k a (by lia),Runs.same h2 fun k a c=>hk k (by lia) c⟩
theorem Runs.snoc {arr:Array Keyed} {n p:Nat}:∀ {l:List (Nat×Nat×Nat)} {b e:Nat},Runs κ arr l b e->1<=n->SegU κ arr e (e + n)->Runs κ arr (l++[(e,n,p)]) b (e + n)
 | [],b,e,h,h1,h2=>by
  have:b=e:=h
  subst this
  exact ⟨rfl,h1,h2,rfl⟩
 | (s,m,p) :: r,b,e,h,h1,h2=>⟨h.1,h.2.1,h.2.2.1,Runs.snoc h.2.2.2 h1 h2⟩
theorem Runs.modify {arr:Array Keyed} {f:Nat×Nat×Nat->Nat×Nat×Nat} (hf:∀ a b c,∃ c',f (a,b,c)=(a,b,c')):∀ {l:List (Nat×Nat×Nat)} {b e:Nat} (i:Nat),Runs κ arr l b e->Runs κ arr (l.modify i f) b e
 | [],b,e,i,h=>by rw [List.modify_nil]; exact h
 | (s,n,p) :: r,b,e,0,h=>by
  obtain ⟨c',e'⟩:=hf s n p
  show Runs κ arr (f (s,n,p) :: r) b e
  rw [e']; exact h
 | (s,n,p) :: r,b,e,i + 1,h=>by
  show Runs κ arr ((s,n,p) :: r.modify i f) b e
  exact ⟨h.1,h.2.1,h.2.2.1,Runs.modify hf i h.2.2.2⟩
theorem Runs.merge {arr:Array Keyed} {sa na pw sb nb pw2:Nat}:∀ {l:List (Nat×Nat×Nat)} {b e:Nat} (i:Nat),Runs κ arr l b e->l[i]?=some (sa,na,pw)->l[i + 1]?=some (sb,nb,pw2) ->
  sb=sa + na/\1<=na/\1<=nb/\b<=sa/\sa + na + nb<=e/\SegU κ arr sa (sa + na)/\SegU κ arr (sa + na) (sa + na + nb) /\
  ∀ arr':Array Keyed,(∀ k,(k < sa\/sa + na + nb<=k)->arr'[k]?=arr[k]?)->SegU κ arr' sa (sa + na + nb)->Runs κ arr' ((l.set i (sa,na + nb,pw)).eraseIdx (i + 1)) b e
 | [],b,e,i,h,e1,_=>by simp at e1
 | [x],b,e,0,h,e1,e2=>by simp at e2
 | (s,n,p) :: (s2,n2,p2) :: r,b,e,0,h,e1,e2=>by
  obtain ⟨rfl,h1,h2,rfl,h3,h4,h5⟩:=h
  simp at e1 e2
  obtain ⟨rfl,rfl,rfl⟩:=e1
  obtain ⟨rfl,rfl,rfl⟩:=e2
  have:=h5.le
  refine ⟨rfl,h1,h3,Ai _,by lia,h2,h4,fun arr' ho hs=>?_⟩
  refine ⟨rfl,by lia,by rw [<- ED]; exact hs,?_⟩
  rw [<- ED]
  exact h5.same fun k a _=>ho k (.inr a)
 | (s,n,p) :: r,b,e,i + 1,h,e1,e2=>by
  obtain ⟨rfl,h1,h2,h3⟩:=h
  obtain ⟨q1,q2,q3,q4,q5,q6,q7,q8⟩:=Runs.merge i h3 (by simpa using e1) (by simpa using e2)
  refine ⟨q1,q2,q3,by lia,q5,q6,q7,fun arr' ho hs=>?_⟩
  exact ⟨rfl,h1,h2.same fun k a c=>ho k (.inl (by lia)),q8 arr' ho hs⟩
theorem aBv (p:Array (Nat×Nat×Nat)) (i:Nat) (x:Nat×Nat×Nat) (h:i + 1 < p.size):((p.setIfInBounds i x).eraseIdxIfInBounds (i + 1)).toList=(p.toList.set i x).eraseIdx (i + 1):=by
 unfold Array.eraseIdxIfInBounds
 rw [dif_pos (by rw [Ih]; exact h),Array.toList_eraseIdx,Array.toList_setIfInBounds]
end
section
variable {prog:Ap} {w:AT} {A:AR} {E:Value->Ad->Prop} {s:Ad} {O:KeyOrd} {κ:Keyed->O.α} {ok:Keyed->Prop} {kd:SortKind} {a0:Array Keyed}
structure Pnd (κ:Keyed->O.α) (kd:SortKind) (a0:Array Keyed) (lo:Nat) (st:SortSt):Prop where
 sx:Sx kd st
 perm:(AF st).Perm a0
 runs:Runs κ (AF st) (Bt st).toList 0 lo
 le:lo<=a0.size
theorem Pnd.size {lo:Nat} {st:SortSt} (h:Pnd κ kd a0 lo st):(AF st).size=a0.size:=h.perm.size_eq
theorem Pnd.oks {lo:Nat} {st:SortSt} (h:Pnd κ kd a0 lo st) (h0:∀ x∈a0,ok x):∀ x∈AF st,ok x:=fun x hx=>h0 x (h.perm.mem_iff.mp hx)
theorem aBM (C:Cm (AC prog w) A E s κ ok kd) (h0:∀ x∈a0,ok x) {st:SortSt} {lo i:Nat} (h:Pnd κ kd a0 lo st) (hi:i + 1 < (Bt st).size) {Q:Bool->SortSt->Prop} (q:∀ st',Pnd κ kd a0 lo st'->(Bt st').size + 1=(Bt st).size->(∀ k,lo<=k->(AF st')[k]?=(AF st)[k]?)->Q true st'):wpS (AC prog w) A E s (mergeAt' i) Q st:=by
 obtain ⟨sa,na,pw,e1⟩:∃ a b c,(Bt st)[i]?=some (a,b,c):=⟨_,_,_,Am (by lia)⟩
 obtain ⟨sb,nb,pw2,e2⟩:∃ a b c,(Bt st)[i + 1]?=some (a,b,c):=⟨_,_,_,Am hi⟩
 obtain ⟨rfl,q2,q3,q4,q5,q6,q7,q8⟩:=h.runs.merge i (by rw [Br]; exact e1) (by rw [Br]; exact e2)
 refine aE5 C h.sx (h.oks h0) e1 e2 q2 q3 (by have:=h.size; have:=h.le; lia) q6 q7 fun st' m=>q st' ⟨m.sx,(Fq.mpr m.perm).trans h.perm,?_,h.le⟩ ?_ (fun k hk=>m.out k (.inr (by lia)))
 ·rw [m.pend,aBv _ _ _ hi]
  exact q8 _ m.out m.seg
 ·rw [m.pend]
  have l:=congrArg Ix (aBv (Bt st) i (sa,na + nb,pw) hi)
  rw [AA,Dj,List.length_set,AA,if_pos hi] at l
  lia
theorem Pnd.push {lo n:Nat} {st:SortSt} (h:Pnd κ kd a0 lo st) (h1:1<=n) (sg:SegU κ (AF st) lo (lo + n)) (hz:lo + n<=a0.size):Pnd κ kd a0 (lo + n) (FL st ((Bt st).push (lo,n,0))) :=
 ⟨h.sx,h.perm,by show Runs κ (AF st) ((Bt st).push (lo,n,0)).toList 0 (lo + n); rw [DT]; exact h.runs.snoc h1 sg,hz⟩
theorem Pnd.mod {lo:Nat} {st:SortSt} (h:Pnd κ kd a0 lo st) {f:Nat×Nat×Nat->Nat×Nat×Nat} (i:Nat) (hf:∀ a b c,∃ c',f (a,b,c)=(a,b,c')):Pnd κ kd a0 lo (FL st ((Bt st).modify i f)) :=
 ⟨h.sx,h.perm,by show Runs κ (AF st) ((Bt st).modify i f).toList 0 lo; rw [Array.toList_modify]; exact h.runs.modify hf i,h.le⟩
theorem Pnd.rl {lo:Nat} {st st':SortSt} (h:Pnd κ kd a0 lo st) (r:Rl kd lo st st'):Pnd κ kd a0 lo st' :=
 ⟨r.sx,r.perm.trans h.perm,by rw [r.pend]; exact h.runs.same fun k _ c=>r.out k c,h.le⟩
theorem aCh (d:O.α) (C:Cm (AC prog w) A E s κ ok kd) (h0:∀ x∈a0,ok x) {st:SortSt} (h:Pnd κ kd a0 0 st) {Q:Unit->SortSt->Prop}
  (q:∀ st',Sx kd st'->(AF st').Perm a0->SegU κ (AF st') 0 a0.size->Q () st'):wpS (AC prog w) A E s sortRuns' Q st:=by
 rw [sortRuns'_eq]
 refine Ag (EZ ?_)
 dsimp only
 have hsz:(AF st).size=a0.size:=h.size
 rw [hsz]
 generalize minRun' a0.size a0.size 0=mr
 refine Ag (DL (BK (fun x c st'=>∃ lo,c=(none,lo)/\Pnd κ kd a0 lo st'/\(x<=lo\/a0.size<=lo)) (Q:=fun c st'=>c=(none,a0.size)/\Pnd κ kd a0 a0.size st') ?step ?fin ⟨0,rfl,h,.inl (Ai _)⟩) ?post)
 case fin =>
  rintro c st' ⟨lo,rfl,P,hp⟩
  have e:lo=a0.size:=by have:=P.le; lia
  subst e
  exact ⟨rfl,P⟩
 case step =>
  rintro x c st' _ hx ⟨lo,rfl,P,hp⟩
  dsimp only
  by_cases c1:lo >= a0.size
  ·rw [if_pos c1]
   have e:lo=a0.size:=by have:=P.le; lia
   subst e
   exact Aj ⟨rfl,P⟩
  rw [if_neg c1]
  have S:Mkr (AC prog w) A E s κ ok kd lo (a0.size - lo) st':=⟨C,P.oks h0,by rw [P.size]; lia⟩
  refine Ag (aFG d S (Rl.refl P.sx) (by lia) (Ai _) fun k st1 R1 k1 k2 u1=>?_)
  dsimp only
  by_cases c2:k < mr
  ·rw [if_pos c2]
   refine Ag (Gq (Cp ⟨rfl,?_⟩))
   refine Ag (aE6 d S R1 (m:=min (a0.size - lo) mr) (by lia) (by lia) u1 fun st2 R2 u2=>?_)
   rw [if_neg (by simp)]
   have P2:=P.rl R2
   have sg:=aHU u2
   refine Ag (EZ ?_)
   cases eb:(Bt st2).back? with
   | none =>
    dsimp only
    exact Ag (Di (Aj ⟨_,rfl,P2.push (by lia) sg (by lia),by lia⟩))
   | some r =>
    obtain ⟨s1,n1,p1⟩:=r
    dsimp only
    refine Ag (DL (BK (fun _ c st'=>c=(none,())/\Pnd κ kd a0 lo st'/\SegU κ (AF st') lo (lo + min (a0.size - lo) mr)) (Q:=fun c st'=>c=(none,())/\Pnd κ kd a0 lo st'/\SegU κ (AF st') lo (lo + min (a0.size - lo) mr)) (fun y c st' _ _ hI=>?_) (fun c st' hI=>hI) ⟨rfl,P2,sg⟩) ?_)
    ·obtain ⟨rfl,P3,sg3⟩:=hI
     refine Ag (EZ ?_)
     by_cases c5:(Bt st').size > 1
     ·obtain ⟨u1,u2,u3,eu⟩:∃ a b c,(Bt st')[(Bt st').size - 2]?=some (a,b,c):=⟨_,_,_,Am (by lia)⟩
      rw [if_pos c5,eu]
      dsimp only
      split
      ·exact Aj ⟨rfl,P3,sg3⟩
      ·refine Ag (aBM C h0 P3 (by lia) fun st4 P4 _ o4=>?_)
       rw [if_neg (by simp)]
       exact Aj ⟨rfl,P4,sg3.same fun k a c=>o4 k a⟩
     ·rw [if_neg c5]
      exact Aj ⟨rfl,P3,sg3⟩
    ·rintro c st' ⟨rfl,P3,sg3⟩
     dsimp only
     refine Ag (Di (Ag (Di (Aj ⟨_,rfl,(P3.mod (f:=fun x=>(x.fst,x.2.fst,_)) _ (fun a b c=>⟨_,rfl⟩)).push (by lia) sg3 (by lia),by lia⟩))))
  ·rw [if_neg c2]
   have P2:=P.rl R1
   have sg:=aHU u1
   refine Ag (EZ ?_)
   cases eb:(Bt st1).back? with
   | none =>
    dsimp only
    exact Ag (Di (Aj ⟨_,rfl,P2.push (by lia) sg (by lia),by lia⟩))
   | some r =>
    obtain ⟨s1,n1,p1⟩:=r
    dsimp only
    refine Ag (DL (BK (fun _ c st'=>c=(none,())/\Pnd κ kd a0 lo st'/\SegU κ (AF st') lo (lo + k)) (Q:=fun c st'=>c=(none,())/\Pnd κ kd a0 lo st'/\SegU κ (AF st') lo (lo + k)) (fun y c st' _ _ hI=>?_) (fun c st' hI=>hI) ⟨rfl,P2,sg⟩) ?_)
    ·obtain ⟨rfl,P3,sg3⟩:=hI
     refine Ag (EZ ?_)
     by_cases c5:(Bt st').size > 1
     ·obtain ⟨u1,u2,u3,eu⟩:∃ a b c,(Bt st')[(Bt st').size - 2]?=some (a,b,c):=⟨_,_,_,Am (by lia)⟩
      rw [if_pos c5,eu]
      dsimp only
      split
      ·exact Aj ⟨rfl,P3,sg3⟩
      ·refine Ag (aBM C h0 P3 (by lia) fun st4 P4 _ o4=>?_)
       rw [if_neg (by simp)]
       exact Aj ⟨rfl,P4,sg3.same fun k a c=>o4 k a⟩
     ·rw [if_neg c5]
      exact Aj ⟨rfl,P3,sg3⟩
    ·rintro c st' ⟨rfl,P3,sg3⟩
     dsimp only
     refine Ag (Di (Ag (Di (Aj ⟨_,rfl,(P3.mod (f:=fun x=>(x.fst,x.2.fst,_)) _ (fun a b c=>⟨_,rfl⟩)).push (by lia) sg3 (by lia),by lia⟩))))
 case post =>
  rintro c st' ⟨rfl,P⟩
  dsimp only
  refine Ag (DL (BK (fun x c st''=>c=(none,())/\Pnd κ kd a0 a0.size st''/\((Bt st'').size<=1\/(Bt st'').size + x<=a0.size)) (Q:=fun c st''=>c=(none,())/\Pnd κ kd a0 a0.size st''/\(Bt st'').size<=1) ?step2 ?fin2 ⟨rfl,P,.inr (by have:=P.runs.le; rw [AA] at this; lia)⟩) ?post2)
  case fin2 =>
   rintro c st'' ⟨rfl,P2,hz⟩
   exact ⟨rfl,P2,by lia⟩
  case step2 =>
   rintro x c st'' _ hx ⟨rfl,P2,hz⟩
   refine Ag (EZ ?_)
   by_cases c1:(Bt st'').size<=1
   ·rw [if_pos c1]
    exact Aj ⟨rfl,P2,c1⟩
   rw [if_neg c1]
   refine Ag (aBM C h0 P2 (by split <;> first | lia | (split <;> lia)) fun st4 P4 z4 _=>?_)
   rw [if_neg (by simp)]
   exact Aj ⟨rfl,P4,by lia⟩
  case post2 =>
   rintro c st'' ⟨rfl,P2,hz⟩
   dsimp only
   refine Aj (q st'' P2.sx P2.perm ?_)
   have r:=P2.runs
   have l:(Bt st'').toList.length<=1:=by rw [AA]; exact hz
   generalize (Bt st'').toList=pl at r l
   match pl,r,l with
   | [],r,_ =>
    have e:0=a0.size:=r
    rw [<- e]
    exact fun i j x y _ _ c=>absurd c (Ep j)
   | [(s1,n1,p1)],r,_ =>
    obtain ⟨_,_,r3,r4⟩:=r
    have e:0 + n1=a0.size:=r4
    rw [<- e]; exact r3
   | _ :: _ :: _,_,l=>simp at l
end
noncomputable def intO:KeyOrd where
 α:=Int
 blt a b:=decide (a < b)
 irrefl a:=by simp
 trans a b c h1 h2:=by
  have:=of_decide_eq_true h1
  have:=of_decide_eq_true h2
  exact decide_eq_true (by lia)
 negTrans a b c h:=by
  have:=of_decide_eq_true h
  by_cases c1:a < b
  ·exact .inl (decide_eq_true c1)
  ·exact .inr (decide_eq_true (by lia))
 total a b h1 h2:=by
  have:=of_decide_eq_false h1
  have:=of_decide_eq_false h2
  lia
noncomputable def intK (p:Keyed):intO.α:=numOf p.1
noncomputable def aKl (p:Keyed):Prop:=∃ n t,p.1=Ha n t
section
variable {prog:Ap} {w:AT} {A:AR} {E:Value->Ad->Prop} {s:Ad}
theorem aJJ:Cm (AC prog w) A E s intK aKl oneType':=⟨fun {st x y Q} hk hf ⟨a,t,hx⟩ ⟨b,u,hy⟩ q=>by
 obtain ⟨x1,x2⟩:=x
 obtain ⟨y1,y2⟩:=y
 simp only at hx hy
 subst hx hy
 rw [lt'_eq]
 refine Ag (EZ ?_)
 rw [hk,keyLt'_oneType]
 refine Ag (Gq (Dx (oneLt_int ⟨rfl,?_⟩)))
 exact Aj q⟩
theorem aE7 {xs:Array Keyed} {n:Nat} (hn:n=xs.size) (h:SegU intK xs 0 n):SortedTo xs n:=fun i j hij hj=>by
 subst hn
 have e1:xs[i]?=some xs[i]:=Am (by lia)
 have e2:xs[j]?=some xs[j]:=Am hj
 have:=h i j _ _ (AS _) hij hj e1 e2
 have h2:¬ (numOf xs[j].1 < numOf xs[i].1):=of_decide_eq_false this
 unfold K
 rw [e1,e2]
 show numOf xs[i].1<=numOf xs[j].1
 lia
theorem aBw {a:Addr} {vs:List Value} {ns:List Int} {n:Nat} {P:Fin->Ad->Prop} (ho:s.heap.get? a=some (BX "list" vs.toArray n)) (hI:Gm vs ns) (hz:vs.length<=1000000)
  (h:∀ (out:Array Value) (ns':List Int),Gm out.toList ns'->ns'.Perm ns->ns'.Pairwise (·<=·)->P (.done (.ret .none)) { s with heap:=GY s.heap a vs out }) :
  Ax (AC prog w) A (Builtin.«list.sort» ⟨[.ref a],[]⟩) P E s:=by
 by_cases h64:vs.length < 64
 ·exact list_sort_tree ho hI h64 h
 have szl:=AW
 have hsz:vs.toArray.size=vs.length:=by simp
 rw [list_sort_plain]
 have ha:a < s.heap.objs.size:=An ho
 refine Aa (Ez ho rfl (Aa (Fi ho rfl ?_ (by rw [hsz]; lia))))
 have ho1:=Jv ho (fun _=>#[])
 generalize (if (#[]:Array Value).size == vs.toArray.size then n else n + 1)=e1 at ho1
 refine Aa (IH ho1 rfl (Aa (HP (Aa (Ed (BE ?_))) (by show vs.length<=sizeLine; lia))))
 have ho6:(((s.heap.update a (Dr fun _=>#[])).push (BX "tuple" vs.toArray 0)).push (BX "list" #[] 0)).get? a=some (BX "list" #[] e1):=by
  have z:a < (s.heap.update a (Dr fun _=>#[])).objs.size:=by rw [GE]; exact ha
  rw [Ac _ (Ac _ ho1)]
 show Ax (AC prog w) A _ P E { s with heap:=((s.heap.update a (Dr fun _=>#[])).push (BX "tuple" vs.toArray 0)).push (BX "list" #[] 0) }
 dsimp only
 have h2:¬ vs.toArray.size < 2:=by rw [hsz]; lia
 rw [if_neg h2,if_neg h2]
 obtain ⟨v1,v2,rest,rfl⟩:∃ v1 v2 rest,vs=v1 :: v2 :: rest:=by
  match vs,h64 with
  | [],h=>simp at h
  | [_],h=>simp at h
  | v1 :: v2 :: rest,_=>exact ⟨v1,v2,rest,rfl⟩
 rw [keyKind_ints hI]
 refine Aa (Ab ?_)
 refine Aa (BJ (aCh (0:Int) aJJ (a0:=pairsOf (v1 :: v2 :: rest)) (st:=MT oneType' ((v1 :: v2 :: rest).toArray.zip (v1 :: v2 :: rest).toArray) #[] 7 none)
  (Q:=fun _ st'=>Sx oneType' st'/\(AF st').Perm (pairsOf (v1 :: v2 :: rest))/\SegU intK (AF st') 0 (pairsOf (v1 :: v2 :: rest)).size)
  (fun x hx=>hI.intKeys x (by simpa using hx)) ⟨⟨rfl,rfl⟩,JA _,rfl,AS _⟩ fun st' a1 a2 a3=>⟨a1,a2,a3⟩) ?_ fun _ _ e=>e)
 rintro ⟨⟨⟩,st'⟩ s' ⟨rfl,hx,hp,hs⟩
 dsimp only
 refine Aa (IH ho6 rfl (Aa (Fi ho6 rfl ?_ (AS _) (by rw [Kf,hp.size_eq,pairsOf_size]; lia))))
 obtain ⟨ns',g1,g2,g3⟩:=sorted_out hI hp (aE7 hp.size_eq.symm hs)
 rw [hx.2]
 simp only [bne_self_eq_false,Bz,if_false]
 exact Ab (h _ ns' g1 g2 g3)
end
theorem aFH:∀ (fuel size n:Nat),size<=Gy n fuel size
 | 0,size,n=>by unfold Gy; exact Ai _
 | fuel + 1,size,n=>by
  unfold Gy
  split
  ·have:=aFH fuel (size * 2) n; lia
  ·exact Ai _
theorem aE8 (n:Nat):8<=HF n:=aFH 64 8 n
theorem aCi {l:List Nat} (h:l.Pairwise (· < ·)):jf l.toArray:=by
 intro i j hij hj
 have hj':j < l.length:=by simpa using hj
 have:=Eg.mp h i j (by lia) hj' hij
 simp only [Cn,DA]
 rw [Au (show i < l.length by lia),Au hj']
 exact this
theorem aAa {α:Type} (f:Nat->Option α):∀ {l:List Nat},l.Pairwise (· < ·)->((l.filterMap fun j=>(f j).map (j,·)).map (·.1)).Pairwise (· < ·)
 | [],_=>En
 | x :: r,h=>by
  obtain ⟨h1,h2⟩:=EW.mp h
  rw [Dq]
  cases f x with
  | none=>exact aAa f h2
  | some y =>
   dsimp only [NM]
   rw [Aw]
   refine EW.mpr ⟨fun z hz=>?_,aAa f h2⟩
   obtain ⟨p,hp,rfl⟩:=AJ.mp hz
   obtain ⟨j,hj,e⟩:=EV.mp hp
   cases hf:f j with
   | none=>rw [hf] at e; cases e
   | some u=>rw [hf] at e; cases e; exact h1 j hj
theorem aFI {t t':Dp} {hs:Array Int} {n:Nat} {ord:Array Nat} (e:t.relaid hs n=some (t',ord)):TabOk t'/\t'.led=t.led:=by
 unfold SetTable.relaid SetTable.laid at e
 have h8:=aE8 n
 cases c:SetTable.layClean (HF n - 1) hs with
 | none=>rw [c] at e; cases e
 | some owner =>
  rw [c] at e
  cases e
  refine ⟨⟨rfl,aCi (aAa _ ?_),by show 7<=HF n - 1; lia⟩,rfl⟩
  exact List.pairwise_lt_range
theorem aCj {t:Dp} {es:Array (Int×Value)} (h1:1<=es.size) (n:Nat):TabOk (JM t es n).2.1/\(JM t es n).2.1.led=t.led:=by
 unfold JM
 split
 ·rename_i t' ord e
  dsimp only
  split
  ·exact aFI e
  ·exact ⟨jF h1,rfl⟩
 ·exact ⟨jF h1,rfl⟩
noncomputable def SetG (prog:Ap) (w:AT) (h:Heap) (a:Addr) (ks:List Int):Prop :=
 ∃ o es ep t,h.get? a=some o/\o.ExactSet/\o.data=.set es ep t/\ElemsOf (FO prog w) es.toList/\(∃ ms:List Int,Vals (ms.map V.int) (es.toList.map (·.2))/\ms.Perm ks)/\ks.Nodup/\es.size < JB/\t.fits es.size=true/\TabOk t/\t.led=!byT w
section
variable {prog:Ap} {w:AT} {A:AR} {E:Value->Ad->Prop} {s:Ad}
theorem aFJ:∀ {ms:List Int} {vs:List Value} {k:Int},Vals (ms.map V.int) vs->(k∈ms↔∃ tk,Ha k tk∈vs)
 | [],_,k,h=>by cases h; simp
 | m :: r,_,k,h=>by
  cases h with
  | @cons _ u _ us a b =>
   obtain ⟨t,rfl⟩:=a
   rw [Aq,aFJ b]
   constructor
   ·rintro (rfl | ⟨tk,h⟩)
    ·exact ⟨t,AL ..⟩
    ·exact ⟨tk,AI _ h⟩
   ·rintro ⟨tk,h⟩
    rcases Aq.mp h with h | h
    ·cases h; exact .inl rfl
    ·exact .inr ⟨tk,h⟩
theorem jP {a b:List V} {u v:List Value}:Vals a u->Vals b v->Vals (a++b) (u++v)
 | .nil,h=>h
 | .cons x r,h=>.cons x (jP r h)
theorem aBx {us vs:List Value} (p:us.Perm vs):∀ {ms:List Int},Vals (ms.map V.int) vs->∃ ns:List Int,Vals (ns.map V.int) us/\ns.Perm ms:=by
 induction p with
 | nil=>intro ms h; exact ⟨ms,h,Dy _⟩
 | cons x _ ih =>
  intro ms h
  match ms,h with
  | [],h=>cases h
  | m :: r,.cons a b =>
   obtain ⟨ns,h1,h2⟩:=ih b
   exact ⟨m :: ns,.cons a h1,h2.cons m⟩
 | swap x y l =>
  intro ms h
  match ms,h with
  | [],h=>cases h
  | [m],h=>cases h with | cons a b=>cases b
  | m :: m2 :: r,.cons a (.cons b c)=>exact ⟨m2 :: m :: r,.cons b (.cons a c),MG m m2 r⟩
 | trans _ _ ih1 ih2 =>
  intro ms h
  obtain ⟨ns,h1,h2⟩:=ih2 h
  obtain ⟨ns',h3,h4⟩:=ih1 h1
  exact ⟨ns',h3,h4.trans h2⟩
theorem is_int {k:Int} {v:Value}:(FO prog w).is k v=true↔∃ tk,v=.int k tk:=by
 constructor
 ·intro h
  cases v with
  | int m t =>
   have:=(FO prog w).inj (.int m t) k m h (Ln _ _ _ _)
   exact ⟨t,by rw [this]⟩
  | _=>exact absurd h (by simp [FO,Mj])
 ·rintro ⟨tk,rfl⟩; exact Ln _ _ _ _
theorem SetG.keep {h h':Heap} {a:Addr} {ks:List Int} (x:SetG prog w h a ks) (k:∀ o,h.get? a=some o->h'.get? a=some o):SetG prog w h' a ks:=by
 obtain ⟨o,es,ep,t,ho,rest⟩:=x
 exact ⟨o,es,ep,t,k o ho,rest⟩
theorem SetG.len {h:Heap} {a:Addr} {ks:List Int} (x:SetG prog w h a ks):ks.length < 4096:=by
 obtain ⟨o,es,ep,t,ho,hex,hd,hel,⟨ms,hv,hp⟩,nd,hb,rest⟩:=x
 have l1:=hv.length
 simp only [Ae,AA] at l1
 have l2:=hp.length_eq
 have:JB=4096:=rfl
 lia
noncomputable def addK (ks:List Int) (k:Int):List Int:=if k∈ks then ks else ks++[k]
theorem jz {ks:List Int} {k:Int} (h:ks.Nodup):(addK ks k).Nodup:=by
 unfold addK
 split
 ·exact h
 ·rename_i c
  exact Fj.mpr ⟨h,by simp,fun a ha b hb=>by rw [Af.mp hb]; exact fun z=>c (z ▸ ha)⟩
theorem mem_addK {ks:List Int} {k m:Int}:m∈addK ks k↔m∈ks\/m=k:=by
 unfold addK
 split
 ·rename_i c
  exact ⟨.inl,fun h=>h.elim id fun z=>z ▸ c⟩
 ·rw [Ar,Af]
theorem aFK {g:Bool->Sem Unit} (hg:∀ (b:Bool) (s₁:Ad) (Q':Unit->Ad->Prop),Q' () s₁->Ax (AC prog w) A (g b) Q' E s₁) {a:Addr} {o:Obj} {es:Array (Int×Value)} {ep:Nat} {t:Dp} (ho:s.heap.get? a=some o) (hd:o.data=.set es ep t) {es1:Array (Int×Value)} {t2:Dp} (hz:es1.size < JB) (h1:1<=es1.size) (hf2:t2.fits es1.size=true) (ok:TabOk t2) {wasDummy:Bool}
  {R:Option Bool->Ad->Prop} (h:∀ (h':Heap) (es3:Array (Int×Value)) (t3:Dp) (ep3:Nat),Ch a s.heap h'->h'.get? a=some { o with data:=.set es3 ep3 t3 }->es3.toList.Perm es1.toList->t3.fits es3.size=true->TabOk t3->t3.led=t2.led->R (some true) { s with heap:=h' }) :
  Ax (AC prog w) A (do
   storeSet a es1 t2
   if (!wasDummy && t2.tooFull)=true then do
    g (JM t2 es1 (EN es1.size)).2.2
    storeSet a (JM t2 es1 (EN es1.size)).1 (JM t2 es1 (EN es1.size)).2.1
    pure (some true)
   else pure (some true)) R E s:=by
 have sl:=AW
 have sb:JB=4096:=rfl
 refine Aa (Lo ho hd ?_ (by lia))
 have hg1:(s.heap.update a (JN es1 t2)).get? a=some { o with data:=.set es1 (ep + 1) t2 }:=by
  have:=Ba (JN es1 t2) ho (by rw [Mu es1 t2 hd]; rfl)
  rw [Mu es1 t2 hd] at this
  exact this
 split
 ·have pm:=relayAll_perm t2 es1 (EN es1.size)
  have ft:=relayAll_fits t2 es1 (EN es1.size)
  obtain ⟨ok2,led2⟩:=aCj (t:=t2) h1 (EN es1.size)
  generalize JM t2 es1 (EN es1.size)=Rl at pm ft ok2 led2 ⊢
  obtain ⟨es2,t3,gave2⟩:=Rl
  dsimp only at pm ft ok2 led2 ⊢
  have sz:es2.size=es1.size:=by rw [<- AA,pm.length_eq,AA]
  refine Aa (hg _ _ _ (Aa (Lo hg1 rfl (Ab ?_) (by lia))))
  refine h _ es2 t3 (ep + 1 + 1) ((AX s.heap a (JN es1 t2)).trans (AX _ a _)) ?_ pm ft ok2 led2
  have:=Ba (JN es2 t3) hg1 (by rw [Mu es2 t3 rfl]; rfl)
  rw [Mu es2 t3 rfl] at this
  exact this
 ·exact Ab (h _ es1 t2 (ep + 1) (AX s.heap a (JN es1 t2)) hg1 (Dy _) hf2 ok rfl)
theorem aKm {a:Addr} {ks:List Int} {tk:Nat} {k:Int} {Q:Bool->Ad->Prop} (hS:SetG prog w s.heap a ks) (hn:ks.length + 1 < 4096)
  (h:∀ (h':Heap) (b:Bool),Ch a s.heap h'->SetG prog w h' a (addK ks k)->Q b { s with heap:=h' }) :
  Ax (AC prog w) A (setAddHashed a (.int k tk) ((FO prog w).hash k)) Q E s:=by
 obtain ⟨o,es,ep,t,ho,hex,hd,hel,⟨ms,hv,hp⟩,nd,hb,hf,ok,hled⟩:=hS
 have sb:JB=4096:=rfl
 have hsz:es.size=ks.length:=by
  have l1:=hv.length
  simp only [Ae,AA] at l1
  have l2:=hp.length_eq
  lia
 have hkey:(FO prog w).is k (.int k tk)=true:=Ln _ _ _ _
 have hsc:(Ha k tk).scannable=true:=rfl
 have mem:k∈ks↔∃ e∈es.toList,(FO prog w).is k e.2=true:=by
  rw [<- hp.mem_iff,aFJ hv]
  constructor
  ·rintro ⟨tk,h⟩
   obtain ⟨e,he,h⟩:=AJ.mp h
   exact ⟨e,he,is_int.mpr ⟨tk,h⟩⟩
  ·rintro ⟨e,he,h⟩
   obtain ⟨tk,h⟩:=is_int.mp h
   exact ⟨tk,AJ.mpr ⟨e,he,h⟩⟩
 unfold setAddHashed setAddHashedIn
 refine BE (Aa (Ct ho hd hf ?_))
 dsimp only
 rw [byScan_of hsc hb hel,if_pos rfl]
 unfold setAddByScan
 refine Aa (Aa (Cp (Aa (wpAny_setScan_of hkey ho hd hf hel ?_))))
 cases hr:List.findIdx? (fun e=>(FO prog w).is k e.2) es.toList with
 | some j =>
  dsimp only
  obtain ⟨hj,hpj,_⟩:=List.findIdx?_eq_some_iff_getElem.mp hr
  have hin:k∈ks:=mem.mpr ⟨_,GF hj,hpj⟩
  refine Ab (Ab ?_)
  refine h s.heap false (Ii a s.heap) ?_
  unfold addK
  rw [if_pos hin]
  exact ⟨o,es,ep,t,ho,hex,hd,hel,⟨ms,hv,hp⟩,nd,hb,hf,ok,hled⟩
 | none =>
  dsimp only
  have hout:k ∉ ks:=fun z=>by
   obtain ⟨e,he,h⟩:=mem.mp z
   have:=List.findIdx?_eq_none_iff.mp hr e he
   rw [h] at this; cases this
  have way:∀ (b:Bool) {s₁:Ad} {Q':Unit->Ad->Prop},Q' () s₁->Ax (AC prog w) A (match b with | true=>rule "set.scan.the-table-gave-way" | false=>pure ()) Q' E s₁:=fun b s₁ Q' hq=>by
   cases b
   ·exact Ab hq
   ·exact Cp hq
  have pm:=layNew_perm t es ((FO prog w).hash k) (.int k tk)
  have ft:=layNew_fits t es ((FO prog w).hash k) (.int k tk)
  obtain ⟨okL,ledL⟩:=aFD ok es ((FO prog w).hash k) (.int k tk)
  generalize layNew t es ((FO prog w).hash k) (.int k tk)=L at pm ft okL ledL ⊢
  obtain ⟨es1,t1,wasDummy,gave⟩:=L
  dsimp only at pm ft okL ledL ⊢
  rw [DT] at pm
  have sz1:es1.size=es.size + 1:=by rw [<- AA,pm.length_eq,Al,AA]; rfl
  have fin:∀ (t2:Dp),t2.led=t.led->∀ (h':Heap) (es3:Array (Int×Value)) (t3:Dp) (ep3:Nat),Ch a s.heap h'->h'.get? a=some { o with data:=.set es3 ep3 t3 }->es3.toList.Perm es1.toList->t3.fits es3.size=true->TabOk t3->t3.led=t2.led->Q true { s with heap:=h' }:=fun t2 l2 h' es3 t3 ep3 hs hg p3 f3 o3 l3=>by
   have p:=p3.trans pm
   refine h h' true hs ⟨_,es3,ep3,t3,hg,hex,rfl,(hel.push hkey hsc).perm p,?_,jz nd,?_,f3,o3,(l3.trans l2).trans hled⟩
   ·have v2:Vals ((ms++[k]).map V.int) ((es.toList++[((FO prog w).hash k,Ha k tk)]).map (·.2)):=by
     rw [AN,AN]
     exact jP hv (.cons ⟨tk,rfl⟩ .nil)
    obtain ⟨ns,n1,n2⟩:=aBx (p.map (·.2)) v2
    refine ⟨ns,n1,n2.trans ?_⟩
    unfold addK
    rw [if_neg hout]
    exact Gh _ hp
   ·rw [<- AA,p3.length_eq,AA,sz1,sb]; lia
  refine Aa (way _ ?_)
  have gw:∀ (b:Bool) (s₁:Ad) (Q':Unit->Ad->Prop),Q' () s₁->Ax (AC prog w) A (match b with | true=>rule "set.scan.the-table-gave-way" | false=>pure ()) Q' E s₁:=fun b s₁ Q' hq=>way b hq
  split
  ·refine Aa ?_
   rw [hashByValue_scannable 8 hsc]
   refine Ab ?_
   refine aFK gw ho hd (by lia) (by lia) ?_ ?_ fun h' es3 t3 ep3 hs hg p3 f3 o3 l3=>?_
   ·exact ft
   ·exact okL
   ·dsimp only
    exact Ab (fin _ ledL h' es3 t3 ep3 hs hg p3 f3 o3 l3)
  ·refine Aa (Ab ?_)
   simp only [↓reduceIte]
   refine aFK gw ho hd (by lia) (by lia) ft okL fun h' es3 t3 ep3 hs hg p3 f3 o3 l3=>?_
   dsimp only
   exact Ab (fin _ ledL h' es3 t3 ep3 hs hg p3 f3 o3 l3)
end
noncomputable def ddI (ns:List Int):List Int:=ns.foldl addK []
section
variable {prog:Ap} {w:AT} {A:AR} {R:Ka->Ad->Prop} {I:Addr} {fp wr:List Addr} {G:Array GP->Array GP->Prop} {n:Nat} {P:Nat->Value->Prop} {St:Nat->Ad->Prop}
end
section
variable {prog:Ap} {w:AT} {A:AR} {E:Value->Ad->Prop} {s:Ad}
theorem aJK {h:Heap} {a:Addr} (e:h.get? a=some (newS w)):SetG prog w h a (ddI []) :=
 ⟨_,#[],0,_,e,⟨rfl,rfl,rfl⟩,rfl,fun x hx=>by simp at hx,⟨[],.nil,Dy _⟩,CZ,by decide,rfl,⟨rfl,fun i j _ hj=>by simp [SetTable.fresh] at hj,Ai _⟩,rfl⟩
end
noncomputable def SIter (h:Heap) (it a:Addr) (first:Value) (i n ep:Nat):Prop:=∃ o,h.get? it=some o/\o.cls=.type "set_iterator"/\o.data=.fields #[first,.int i 0,.ref a,.int n 0,.int ep 0]
theorem SIter.typeIs {s:Ad} {it a:Addr} {first:Value} {i n ep:Nat} (x:SIter s.heap it a first i n ep):s.TypeIs (.ref it) "set_iterator":=by
 obtain ⟨o,h1,h2,_⟩:=x
 exact ⟨o,h1,h2⟩
theorem slot_si_next:Slot "set_iterator" "__next__" "set_iterator.__next__" :=
 .of (owner:="set_iterator") (n:="__next__") (by rw [Hn,Fb]; kernel_rfl) (by decide +kernel) (by decide +kernel) (by decide +kernel)
  (by first | exact .inl (by decide +kernel) | exact .inr (by decide +kernel)) (by rw [HS]; kernel_rfl)
theorem yP:Me table "set_iterator.__next__"=some Builtin.«set_iterator.__next__»:=entryFor_of_fast (by kernel_rfl)
theorem yc (a:Value):Nv "set_iterator.__next__" ⟨[a],[]⟩:=by unfold Nv; kernel_rfl
section
variable {prog:Ap} {w:AT} {A:AR} {E:Value->Ad->Prop} {s:Ad}
theorem aE9 {it a:Addr} {slot i n ep:Nat} {o:Obj} {es:Array (Int×Value)} {t:Dp} {x:Int×Value} {Q:Option Value->Ad->Prop} (hit:SIter s.heap it a (.int slot 0) i n ep) (ho:s.heap.get? a=some o) (hd:o.data=.set es ep t) (hf:t.fits es.size=true) (hn:es.size=n)
  (hbt:byT w=false) (hdr:(!t.plain && decide (es.size > 1))=false) (hled:t.led=true) (hx:es[i]?=some x) (hb:CH t.place slot=i)
  (hQ:∀ h',SIter h' it a (.int ((t.place.getD i 0 + 1:Nat):Int) 0) (i + 1) n ep->Ch it s.heap h'->Q (some x.2) { s with heap:=h' }):Ax (AC prog w) A (EU (.ref it)) Q E s:=by
 obtain ⟨oi,hoi,hci,hdi⟩:=id hit
 have hi:i < es.size:=(Dm.mp hx).1
 have hp:t.place.size=es.size:=by
  simp only [Nh,Bq,beq_iff_eq] at hf
  exact hf.1
 unfold EU
 refine Aa (Dx (Bl (name:=CW "__next__") hit.typeIs slot_si_next (AU slot_si_next hit.typeIs yP ?_ (yc _))))
 show Ax _ _ (Mf (.ref it) >>= _) _ _ s
 refine Aa (EO hoi hdi ?_)
 dsimp only
 refine Aa (Du ho hd hf ?_)
 rw [hn]
 simp only [bne_self_eq_false,Bz,if_false]
 unfold NI
 refine Aa (Aa (Ct ho hd hf ?_))
 dsimp only
 unfold Ij
 refine Aa (Aa (CG (Ab ?_)))
 rw [if_neg (fun e=>by have e2:byT w=true:=e; rw [hbt] at e2; cases e2)]
 rw [if_neg (fun e=>by have e2:(!t.plain && decide (es.size > 1))=true:=e; rw [hdr] at e2; cases e2)]
 refine Aa ?_
 show Ax _ _ (if (!t.led && !es.isEmpty)=true then IF "set:maker-not-led" else pure ()) _ _ _
 rw [hled,if_neg (by simp)]
 refine Ab ?_
 have hpi:t.place[i]?=some (t.place.getD i 0):=by
  have:i < t.place.size:=by lia
  rw [Cn,Am this]
  rfl
 simp only [BH,hb,hx,hpi]
 refine Ab ?_
 dsimp only
 refine Aa (CF hoi hdi (by simp) ?_)
 have ho2:=Ba (EC fun vs=>vs.setIfInBounds 0 (CL ((t.place.getD i 0 + 1:Nat):Int))) hoi (Co (BF hdi _))
 have hd2:(EC (fun vs=>vs.setIfInBounds 0 (CL ((t.place.getD i 0 + 1:Nat):Int))) oi).data=.fields #[.int ((t.place.getD i 0 + 1:Nat):Int) 0,.int i 0,.ref a,.int n 0,.int ep 0]:=by
  rw [BF hdi]
  rfl
 refine Aa (CF ho2 hd2 (by simp) (Ab ⟨_,rfl,Ab (hQ _ ?_ ((AX ..).trans (AX ..)))⟩))
 exact ⟨_,Ba _ ho2 (Co (BF hd2 _)),(DP ..).trans ((DP ..).trans hci),by rw [BF hd2]; rfl⟩
end
theorem aFL {α:Type} (next:Nat->Nat):∀ (fuel k:Nat) (left:List α) (out:Array α),left.length=fuel->(Dl next fuel k left out).size=out.size + left.length/\∀ x∈Dl next fuel k left out,x∈out\/x∈left
 | 0,k,left,out,h=>by
  have e:Dl next 0 k left out=out:=by unfold Dl; rfl
  rw [e]
  exact ⟨by lia,fun x hx=>.inl hx⟩
 | fuel + 1,k,left,out,h=>by
  have lt:next k % left.length < left.length:=MU _ (by lia)
  have e:Dl next (fuel + 1) k left out=Dl next fuel (k + 1) (left.eraseIdx (next k % left.length)) (out.push left[next k % left.length]):=by
   rw [Dl,Au lt]
  have le:(left.eraseIdx (next k % left.length)).length=fuel:=by rw [Fs lt]; lia
  obtain ⟨a,b⟩:=aFL next fuel (k + 1) (left.eraseIdx (next k % left.length)) (out.push left[next k % left.length]) le
  rw [e]
  refine ⟨by rw [a,Az]; lia,fun x hx=>?_⟩
  rcases b x hx with h | h
  ·rcases Array.mem_push.mp h with h | h
   ·exact .inl h
   ·exact .inr (by rw [h]; exact GF lt)
  ·exact .inr (Ik h)
theorem aFM {α:Type} (next:Nat->Nat) (xs:Array α):(FZ next xs).size=xs.size/\∀ x∈FZ next xs,x∈xs.toList:=by
 unfold FZ
 obtain ⟨a,b⟩:=aFL next xs.size 0 xs.toList #[] (by simp)
 refine ⟨by rw [a]; simp,fun x hx=>?_⟩
 rcases b x hx with h | h
 ·simp at h
 ·exact h
section
variable {prog:Ap} {w:AT} {A:AR} {E:Value->Ad->Prop} {s:Ad}
theorem aFN {M:HL} {α:Type} {c:Prop} [Decidable c] {p q:Sem α} {R:α->Ad->Prop} (h:c) (k:Ax M A p R E s):Ax M A (if c then p else q) R E s:=by rw [if_pos h]; exact k
theorem aAb {M:HL} {α:Type} {c:Prop} [Decidable c] {p q:Sem α} {R:α->Ad->Prop} (h:¬ c) (k:Ax M A q R E s):Ax M A (if c then p else q) R E s:=by rw [if_neg h]; exact k
theorem aEA {it a tp:Addr} {i n ep p nt:Nat} {o ot:Obj} {es:Array (Int×Value)} {t:Dp} {x:Int×Value} {places:Array Value} {Q:Option Value->Ad->Prop} (hit:SIter s.heap it a (.ref tp) i n ep) (ho:s.heap.get? a=some o) (hd:o.data=.set es ep t) (hf:t.fits es.size=true) (hn:es.size=n)
  (hot:s.heap.get? tp=some ot) (hdt:ot.data=.seq places nt) (hp:places[i]?=some (.int p 0)) (hx:es[p]?=some x)
  (hQ:∀ h',SIter h' it a (.ref tp) (i + 1) n ep->Ch it s.heap h'->Q (some x.2) { s with heap:=h' }):Ax (AC prog w) A (EU (.ref it)) Q E s:=by
 obtain ⟨oi,hoi,hci,hdi⟩:=id hit
 unfold EU
 refine Aa (Dx (Bl (name:=CW "__next__") hit.typeIs slot_si_next (AU slot_si_next hit.typeIs yP ?_ (yc _))))
 show Ax _ _ (Mf (.ref it) >>= _) _ _ s
 refine Aa (EO hoi hdi ?_)
 dsimp only
 refine Aa (Du ho hd hf ?_)
 rw [hn]
 simp only [bne_self_eq_false,Bz,if_false]
 refine Aa (Dw hot hdt ?_)
 simp only [BH,hp]
 unfold setNextDrawn
 refine Aa (Aa (Ct ho hd hf ?_))
 dsimp only
 refine aAb (by simp) ?_
 rw [hx]
 refine Ab ?_
 refine Aa (CF hoi hdi (by simp) (Ab ⟨_,rfl,Ab (hQ _ ?_ (AX ..))⟩))
 exact ⟨_,Ba _ hoi (Co (BF hdi _)),(DP ..).trans hci,by rw [BF hdi]; rfl⟩
theorem aJL {it a:Addr} {first:Value} {i n ep:Nat} {o:Obj} {es:Array (Int×Value)} {t:Dp} {Q:Option Value->Ad->Prop} (hh:A.handled=none) (hit:SIter s.heap it a (.int first' 0) i n ep) (ho:s.heap.get? a=some o) (hd:o.data=.set es ep t) (hf:t.fits es.size=true) (hn:es.size=n)
  (hnone:∀ R:Option (Value×Nat)->Ad->Prop,R none s->Ax (AC prog w) A.in1 (NI a (first':Int).toNat (i:Int).toNat (ep:Int).toNat) R (fun e s'=>Ax (AC prog w) A (do if (<- MS e (.type "StopIteration")) then pure none else throw e) Q E s') s)
  (hQ:∀ h',Kq it s.heap h'->Q none { s with heap:=h' }):Ax (AC prog w) A (EU (.ref it)) Q E s:=by
 obtain ⟨oi,hoi,hci,hdi⟩:=id hit
 unfold EU
 refine Aa (Dx (Bl (name:=CW "__next__") hit.typeIs slot_si_next (AU slot_si_next hit.typeIs yP ?_ (yc _))))
 show Ax _ _ (Mf (.ref it) >>= _) _ _ s
 refine Aa (EO hoi hdi ?_)
 dsimp only
 refine Aa (Du ho hd hf ?_)
 rw [hn]
 simp only [bne_self_eq_false,Bz,if_false]
 refine Aa (hnone _ ?_)
 dsimp only
 refine Aa (CF hoi hdi (by simp) ?_)
 show Ax _ _ (MQ (.type "StopIteration") [] >>= _) _ _ _
 refine Aa ?_
 simp only [MQ,Na]
 refine Aa (Bb ?_ (by size_fits))
 refine Aa (m:=EL _ _) (He (a:=Cy) (by first | rfl | (simp only [EL]; rfl)) ?_)
 refine Bb ?_ (by size_fits)
 simp only [Nb]
 refine Aa (IB ?_)
 rw [show A.in1.handled=none from hh]
 refine Aa (Ab (Kr ?_))
 refine Aa (DG (T:="StopIteration") (b:=true) ⟨_,Ak _ rfl,rfl⟩ HQ ?_)
 exact Ab (hQ _ (((AX ..).extBut.push _).push _))
end
theorem qF:Slot "set_iterator" "__iter__" "set_iterator.__iter__" :=
 .of (owner:="set_iterator") (n:="__iter__") (by rw [Hn,Fb]; kernel_rfl) (by decide +kernel) (by decide +kernel) (by decide +kernel)
  (by first | exact .inl (by decide +kernel) | exact .inr (by decide +kernel)) (by rw [HS]; kernel_rfl)
theorem jh:Me table "set_iterator.__iter__"=some Builtin.«dict_keyiterator.__iter__» :=
 entryFor_alias (id':="dict_keyiterator.__iter__") (by kernel_rfl) rfl (by decide +kernel) (by kernel_rfl)
theorem aAB (a:Value):Nv "set_iterator.__iter__" ⟨[a],[]⟩:=by unfold Nv; kernel_rfl
theorem jK:Me table "set.__iter__"=some Builtin.«frozenset.__iter__» :=
 entryFor_alias (id':="frozenset.__iter__") (by kernel_rfl) rfl (by decide +kernel) (by kernel_rfl)
theorem ji (a:Value):Nv "set.__iter__" ⟨[a],[]⟩:=by unfold Nv; kernel_rfl
section
variable {prog:Ap} {w:AT} {A:AR} {E:Value->Ad->Prop} {s:Ad}
theorem aHV {r:Addr} {Q:Bool->Ad->Prop} (hT:s.TypeIs (.ref r) "set") (h:Q false s):Ax (AC prog w) A (Fc (.ref r)) Q E s:=by
 unfold Fc
 refine Aa (Fd hT PySem.F.slot_set_len.lookup ?_)
 generalize hid:("set.__len__":String)=id0
 wp_delta
 rw [show splitId id0=some ("set","__len__") from by subst hid; decide +kernel]
 subst hid
 refine Aa (DG (T:="set") (b:=true) hT (by rw [HS]; kernel_rfl) ?_)
 refine JC (fun hab=>absurd hab (by decide)) (fun _=>?_)
 refine JC (fun _=>?_) (fun hab=>absurd (by decide +kernel) hab)
 refine Aa (DN hT ?_)
 exact Ab h
noncomputable def aKn (a:Addr) (n ep:Nat):Obj:={ cls:=.type "set_iterator",data:=.fields #[.int ((0:Nat):Int) 0,.int ((0:Nat):Int) 0,.ref a,.int n 0,.int ep 0] }
end
end L2
namespace L2
open PySem PySem.Spec PyProof.Rows PySem.W
section
variable {prog:Ap} {w:AT} {A:AR} {E:Value->Ad->Prop} {s:Ad}
theorem aHW {R:Ka->Ad->Prop} {T:String} {S r d:Addr} {n:Nat} {P:Nat->Value->Prop} {OK:Heap->Prop} (K:KdlSrc prog w T r d n P OK) (hh:A.handled=none) (hok:OK s.heap) (hSr:S≠r) (hSd:S≠d) (hS:s.heap.get? S=some { cls:=.type "list",data:=.seq #[] 0 }) (hn:n<=sizeLine)
  (hR:∀ h' tk acc' c',(∀ b o,b≠S->s.heap.get? b=some o->h'.get? b=some o)->h'.get? S=some { cls:=.type "list",dict:=none,data:=.seq acc' c',slots:=#[] }->ItemsOf P acc' n->R (.ok (.ret (.ref S))) { s with heap:=h',toks:=tk }) :
  Ef (AC prog w) A (.builtin "list.__iadd__" ⟨[.ref S,.ref r],[]⟩) R s:=by
 refine Cr IQ ?_
 rw [Dk II _]
 exact kdl_extend K hh hok S hSr hSd (.ref S) 0 hS hR hn
end
theorem erase_perm {α:Type}:∀ (l:List α) (i:Nat) (h:i < l.length),(l[i] :: l.eraseIdx i).Perm l
 | x :: r,0,h=>Dy _
 | x :: r,i + 1,h=>(MG x _ _).trans ((erase_perm r i (by simpa using h)).cons x)
theorem aDQ {α:Type} (next:Nat->Nat):∀ (fuel k:Nat) (left:List α) (out:Array α),left.length=fuel->(Dl next fuel k left out).toList.Perm (out.toList++left)
 | 0,k,left,out,h=>by
  have e:Dl next 0 k left out=out:=by unfold Dl; rfl
  have el:left=[]:=EI h
  rw [e,el,BD]
 | fuel + 1,k,left,out,h=>by
  have lt:next k % left.length < left.length:=MU _ (by lia)
  have e:Dl next (fuel + 1) k left out=Dl next fuel (k + 1) (left.eraseIdx (next k % left.length)) (out.push left[next k % left.length]):=by
   rw [Dl,Au lt]
  have le:(left.eraseIdx (next k % left.length)).length=fuel:=by rw [Fs lt]; lia
  have p:=aDQ next fuel (k + 1) (left.eraseIdx (next k % left.length)) (out.push left[next k % left.length]) le
  rw [e]
  refine p.trans ?_
  rw [DT,BN]
  exact Gw _ (erase_perm _ _ lt)
theorem aFO {α:Type} (next:Nat->Nat) (xs:Array α):(FZ next xs).toList.Perm xs.toList:=by
 unfold FZ
 have:=aDQ next xs.size 0 xs.toList #[] (by simp)
 simpa using this
section
variable {prog:Ap} {w:AT} {A:AR} {E:Value->Ad->Prop} {s:Ad}
theorem aEB {M:HL} {src:Source} {n:Nat} {Q:Nat->Ad->Prop} (hn:n≠0) (h:∀ i d',i < n->Q i { s with drawn:=d' }):Ax M A (choose src n) Q E s :=
 fun Γ p hΓ=>⟨hn,h _ _ (MU _ (Nat.pos_of_ne_zero hn))⟩
theorem aDR {M:HL} {α:Type}:∀ (n:Nat) (xs:List α) {s:Ad} {Q:List α->Ad->Prop},xs.length=n->(∀ ys d',ys.Perm xs->Q ys { s with drawn:=d' })->Ax M A (Nw n xs) Q E s
 | 0,xs,s,Q,hl,h=>by
  have:xs=[]:=EI hl
  subst this
  unfold Nw
  exact Ab (h [] s.drawn (Dy _))
 | n + 1,[],s,Q,hl,h=>by simp at hl
 | n + 1,x :: r,s,Q,hl,h=>by
  unfold Nw
  refine Aa (aEB (by simp) fun i d' hi=>?_)
  rw [Au hi]
  dsimp only
  refine Aa (aDR n ((x :: r).eraseIdx i) (s:={ s with drawn:=d' }) (by rw [Fs hi]; lia) fun ys d2 p=>?_)
  exact Ab (h _ d2 ((p.cons _).trans (erase_perm _ _ hi)))
theorem aEC {it a:Addr} {slot i n ep:Nat} {o:Obj} {es:Array (Int×Value)} {t:Dp} {x:Int×Value} {Q:Option Value->Ad->Prop} (hit:SIter s.heap it a (.int slot 0) i n ep) (ho:s.heap.get? a=some o) (hd:o.data=.set es ep t) (hf:t.fits es.size=true) (hn:es.size=n)
  (hbt:byT w=true) (hx:(FZ (w.params.setOrder a ep) es)[i]?=some x)
  (hQ:∀ h',SIter h' it a (.int slot 0) (i + 1) n ep->Ch it s.heap h'->Q (some x.2) { s with heap:=h' }):Ax (AC prog w) A (EU (.ref it)) Q E s:=by
 obtain ⟨oi,hoi,hci,hdi⟩:=id hit
 unfold EU
 refine Aa (Dx (Bl (name:=CW "__next__") hit.typeIs slot_si_next (AU slot_si_next hit.typeIs yP ?_ (yc _))))
 show Ax _ _ (Mf (.ref it) >>= _) _ _ s
 refine Aa (EO hoi hdi ?_)
 dsimp only
 refine Aa (Du ho hd hf ?_)
 rw [hn]
 simp only [bne_self_eq_false,Bz,if_false]
 unfold NI setWalk
 refine Aa (Aa (Ct ho hd hf ?_))
 dsimp only
 unfold Ij
 refine Aa (Aa (CG (Ab ?_)))
 refine aFN hbt (aAb (by simp) ?_)
 refine Aa (Aa (Ct ho hd hf ?_))
 dsimp only
 refine Aa (Aa (CG (Ab ?_)))
 refine aFN hbt ?_
 refine Aa (CG (Ab ?_))
 have hx':(FZ ((AC prog w).w.params.setOrder a ep) es)[i]?=some x:=hx
 simp only [BH]
 rw [hx']
 refine Ab ?_
 dsimp only [NM]
 refine Aa (CF hoi hdi (by simp) ?_)
 have ho2:=Ba (EC fun vs=>vs.setIfInBounds 0 (CL (slot:Int))) hoi (Co (BF hdi _))
 have hd2:(EC (fun vs=>vs.setIfInBounds 0 (CL (slot:Int))) oi).data=.fields #[.int slot 0,.int i 0,.ref a,.int n 0,.int ep 0]:=by
  rw [BF hdi]
  rfl
 refine Aa (CF ho2 hd2 (by simp) (Ab ⟨_,rfl,Ab (hQ _ ?_ ((AX ..).trans (AX ..)))⟩))
 exact ⟨_,Ba _ ho2 (Co (BF hd2 _)),(DP ..).trans ((DP ..).trans hci),by rw [BF hd2]; rfl⟩
noncomputable def aAm (w:AT) (a:Addr) (ep:Nat) (es:Array (Int×Value)):Array (Int×Value):=if byT w then FZ (w.params.setOrder a ep) es else es
theorem aDS (w:AT) (a:Addr) (ep:Nat) (es:Array (Int×Value)):(aAm w a ep es).toList.Perm es.toList:=by
 unfold aAm
 split
 ·exact aFO _ _
 ·exact Dy _
theorem aJM {a I:Addr} (hne:a≠I) {ep n:Nat} {o:Obj} {es:Array (Int×Value)} {t:Dp} (hh:A.handled=none) (hd:o.data=.set es ep t) (hf:t.fits es.size=true) (hn:es.size=n) (ok:TabOk t) (hdr:byT w=true\/(!t.plain && decide (es.size > 1))=false) (hled:t.led=!byT w) :
  Walks prog w A I [I,a] [I] n (fun i v=>∃ e,(aAm w a ep es)[i]?=some e/\v=e.2) (fun i h=>(∃ slot:Nat,(byT w=false->CH t.place slot=i)/\SIter h I a (.int slot 0) i n ep)/\h.get? a=some o) where
 sub:=fun b hb=>by simp at hb; simp [hb]
 frame:=fun i h h' st hk=>by
  obtain ⟨⟨slot,hb,oi,h1,h2⟩,h3⟩:=st
  exact ⟨⟨slot,hb,oi,hk I (by simp) _ h1,h2⟩,hk a (by simp) _ h3⟩
 item:=fun i s Q E hi st hQ=>by
  obtain ⟨⟨slot,hb,hit⟩,ho⟩:=st
  have keep:∀ h',Ch I s.heap h'->h'.get? a=some o:=fun h' sb=>by rw [sb.2 a hne]; exact ho
  have kept:∀ h',Ch I s.heap h'->∀ b o,b ∉ [I]->s.heap.get? b=some o->h'.get? b=some o:=fun h' sb b o hb e=>by rw [sb.2 b (fun z=>hb (by simp [z]))]; exact e
  have zo:(aAm w a ep es).size=n:=by rw [<- hn,<- AA,(aDS w a ep es).length_eq,AA]
  have ex:(aAm w a ep es)[i]?=some (aAm w a ep es)[i]:=Am (by lia)
  generalize (aAm w a ep es)[i]=x at ex
  cases hbt:byT w with
  | true =>
   have ex':(FZ (w.params.setOrder a ep) es)[i]?=some x:=by unfold aAm at ex; rw [hbt] at ex; exact ex
   exact aEC hit ho hd hf hn hbt ex' fun h' it' sb=>hQ x.2 h' s.toks ⟨x,ex,rfl⟩ ⟨⟨slot,fun z=>absurd (hbt.symm.trans z) (by decide),it'⟩,keep h' sb⟩ (kept h' sb)
  | false =>
   have ex':es[i]?=some x:=by unfold aAm at ex; rw [hbt] at ex; exact ex
   have hps:t.place.size=es.size:=by
    simp only [Nh,Bq,beq_iff_eq] at hf
    exact hf.1
   refine aE9 hit ho hd hf hn hbt (hdr.resolve_left (by rw [hbt]; decide)) (by rw [hled,hbt]; rfl) ex' (hb hbt) fun h' it' sb=>hQ _ h' s.toks ⟨x,ex,rfl⟩ ⟨⟨t.place.getD i 0 + 1,fun _=>aDz ok.rise (by lia),it'⟩,keep h' sb⟩ (kept h' sb)
 done:=fun s Q E st hQ=>by
  obtain ⟨⟨slot,hb,hit⟩,ho⟩:=st
  refine aJL (first:=.none) hh hit ho hd hf hn (fun R hR=>?_) fun h' eb=>hQ h' s.toks fun b o hb e=>eb b o (fun z=>hb (by simp [z])) e
  unfold NI
  refine Aa (Ct ho hd hf ?_)
  dsimp only
  unfold Ij
  refine Aa (Aa (CG (Ab ?_)))
  cases hbt:byT w with
  | true =>
   refine aFN hbt (aAb (by simp) ?_)
   unfold setWalk
   refine Aa (Aa (Ct ho hd hf ?_))
   dsimp only
   unfold Ij
   refine Aa (Aa (CG (Ab ?_)))
   refine aFN hbt ?_
   refine Aa (CG (Ab ?_))
   obtain ⟨sz,_⟩:=aFM ((AC prog w).w.params.setOrder a ep) es
   have hx:(FZ ((AC prog w).w.params.setOrder a ep) es)[n]?=none:=Cw (by lia)
   simp only [BH]
   rw [hx]
   exact Ab hR
  | false =>
   have hdr':=hdr.resolve_left (by rw [hbt]; decide)
   refine aAb (fun e=>by have e2:byT w=true:=e; rw [hbt] at e2; cases e2) ?_
   refine aAb (fun e=>by have e2:(!t.plain && decide (es.size > 1))=true:=e; rw [hdr'] at e2; cases e2) ?_
   refine Aa ?_
   show Ax _ _ (if (!t.led && !es.isEmpty)=true then IF "set:maker-not-led" else pure ()) _ _ _
   refine aAb (by rw [hled,hbt]; simp) (Ab ?_)
   simp only [BH,hb hbt]
   rw [Cw (show es.size<=n by lia)]
   exact Ab hR
 self:=fun i s Q E st hQ=>by
  obtain ⟨⟨slot,hb,hit⟩,ho⟩:=st
  refine Eu hit.typeIs qF (AU qF hit.typeIs jh ?_ (aAB _))
  show Ax _ _ (ret (.ref I)) _ _ s
  exact Ab ⟨_,rfl,"set_iterator",_,hit.typeIs,slot_si_next.lookup,hQ⟩
theorem aJN {a:Addr} {ep n:Nat} {o:Obj} {es:Array (Int×Value)} {t:Dp} {Q:Value->Ad->Prop} (ho:s.heap.get? a=some o) (hc:o.cls=.type "set") (hd:o.data=.set es ep t) (hf:t.fits es.size=true) (hn:es.size=n) (hdr:byT w=true\/(!t.plain && decide (es.size > 1))=false)
  (hQ:Q (.ref s.heap.objs.size) { s with heap:=s.heap.push (aKn a n ep) }):Ax (AC prog w) A (Jj (.ref a)) Q E s:=by
 have hT:s.TypeIs (.ref a) "set":=⟨o,ho,hc⟩
 refine Eu hT Fe (AU Fe hT jK ?_ (ji _))
 show Ax _ _ (Ev a >>= _) _ _ s
 unfold Ev
 refine Aa (Aa (Du ho hd hf (Ab ?_)))
 refine Aa ?_
 unfold setDrawn
 refine Aa (Ct ho hd hf ?_)
 dsimp only
 unfold Ij
 refine Aa (Aa (CG (Ab (Ab ?_))))
 refine aAb (fun e=>by
  have e2:(!(byT w) && (!t.plain && decide (es.size > 1)))=true:=e
  rcases hdr with h | h
  ·rw [h] at e2; simp at e2
  ·rw [h] at e2; simp at e2) (Aa (Ab ?_))
 unfold setEpoch
 refine Aa (Aa (Ct ho hd hf (Ab ?_)))
 unfold Nt
 refine Aa (Bb (Ab ⟨_,rfl,"set_iterator",_,⟨_,Ak _ rfl,rfl⟩,slot_si_next.lookup,?_⟩))
 rw [<- hn] at hQ
 exact hQ
noncomputable def aFP (a tp:Addr) (n ep:Nat):Obj:={ cls:=.type "set_iterator",data:=.fields #[.ref tp,.int ((0:Nat):Int) 0,.ref a,.int n 0,.int ep 0] }
theorem aJO {a:Addr} {ep n:Nat} {o:Obj} {es:Array (Int×Value)} {t:Dp} {Q:Value->Ad->Prop} (ho:s.heap.get? a=some o) (hc:o.cls=.type "set") (hd:o.data=.set es ep t) (hf:t.fits es.size=true) (hn:es.size=n) (hz:n<=5000) (hbt:byT w=false) (hdr:(!t.plain && decide (es.size > 1))=true)
  (hQ:∀ (ys:List Nat) (d':MX),ys.Perm (Bc n)->Q (.ref (s.heap.objs.size + 1)) { s with heap:=(s.heap.push (BX "tuple" (ys.map fun (i:Nat)=>CL i).toArray 0)).push (aFP a s.heap.objs.size n ep),drawn:=d' }):Ax (AC prog w) A (Jj (.ref a)) Q E s:=by
 have hT:s.TypeIs (.ref a) "set":=⟨o,ho,hc⟩
 have szl:=AW
 refine Eu hT Fe (AU Fe hT jK ?_ (ji _))
 show Ax _ _ (Ev a >>= _) _ _ s
 unfold Ev
 refine Aa (Aa (Du ho hd hf (Ab ?_)))
 refine Aa ?_
 unfold setDrawn
 refine Aa (Ct ho hd hf ?_)
 dsimp only
 unfold Ij
 refine Aa (Aa (CG (Ab (Ab ?_))))
 refine aFN (by
  show (!(byT w) && (!t.plain && decide (es.size > 1)))=true
  rw [hbt,hdr]; rfl) ?_
 rw [hn]
 refine Aa (aDR n (Bc n) (by simp) fun ys d' hp=>?_)
 have hl:ys.length=n:=by rw [hp.length_eq,Fk]
 refine Aa (HP ?_ (by rw [Ae]; lia))
 have ho1:(s.heap.push (BX "tuple" (ys.map fun (i:Nat)=>CL i).toArray 0)).get? a=some o:=Ac _ ho
 unfold setEpoch
 refine Aa (Aa (Ct (s:={ s with heap:=s.heap.push (BX "tuple" (ys.map fun (i:Nat)=>CL i).toArray 0),drawn:=d' }) ho1 hd hf (Ab ?_)))
 unfold Nt
 refine Aa (Bb (Ab ⟨_,rfl,"set_iterator",_,⟨_,Ak _ rfl,rfl⟩,slot_si_next.lookup,?_⟩))
 have:=hQ ys d' hp
 have z:(s.heap.push (BX "tuple" (ys.map fun (i:Nat)=>CL i).toArray 0)).objs.size=s.heap.objs.size + 1:=GZ _ _
 rw [<- z] at this
 exact this
theorem aJP {it a tp:Addr} {i n ep nt:Nat} {o ot:Obj} {es:Array (Int×Value)} {t:Dp} {places:Array Value} {Q:Option Value->Ad->Prop} (hh:A.handled=none) (hit:SIter s.heap it a (.ref tp) i n ep) (ho:s.heap.get? a=some o) (hd:o.data=.set es ep t) (hf:t.fits es.size=true) (hn:es.size=n)
  (hot:s.heap.get? tp=some ot) (hdt:ot.data=.seq places nt) (hp:places[i]?=none)
  (hQ:∀ h',Kq it s.heap h'->Q none { s with heap:=h' }):Ax (AC prog w) A (EU (.ref it)) Q E s:=by
 obtain ⟨oi,hoi,hci,hdi⟩:=id hit
 unfold EU
 refine Aa (Dx (Bl (name:=CW "__next__") hit.typeIs slot_si_next (AU slot_si_next hit.typeIs yP ?_ (yc _))))
 show Ax _ _ (Mf (.ref it) >>= _) _ _ s
 refine Aa (EO hoi hdi ?_)
 dsimp only
 refine Aa (Du ho hd hf ?_)
 rw [hn]
 simp only [bne_self_eq_false,Bz,if_false]
 refine Aa (Dw hot hdt ?_)
 simp only [BH,hp]
 refine Aa (CF hoi hdi (by simp) ?_)
 have ho2:=Ba (EC fun vs=>vs.setIfInBounds 0 (CL 0)) hoi (Co (BF hdi _))
 have hd2:(EC (fun vs=>vs.setIfInBounds 0 (CL 0)) oi).data=.fields #[CL 0,.int i 0,.ref a,.int n 0,.int ep 0]:=by
  rw [BF hdi]
  rfl
 refine Aa (CF ho2 hd2 (by simp) ?_)
 show Ax _ _ (MQ (.type "StopIteration") [] >>= _) _ _ _
 refine Aa ?_
 simp only [MQ,Na]
 refine Aa (Bb ?_ (by size_fits))
 refine Aa (m:=EL _ _) (He (a:=Cy) (by first | rfl | (simp only [EL]; rfl)) ?_)
 refine Bb ?_ (by size_fits)
 simp only [Nb]
 refine Aa (IB ?_)
 rw [show A.in1.handled=none from hh]
 refine Aa (Ab (Kr ?_))
 refine Aa (DG (T:="StopIteration") (b:=true) ⟨_,Ak _ rfl,rfl⟩ HQ ?_)
 exact Ab (hQ _ ((((AX ..).trans (AX ..)).extBut.push _).push _))
noncomputable def ordD (es:Array (Int×Value)) (ys:List Nat):List (Int×Value):=ys.map fun j=>es[j]?.getD (0,.none)
theorem aFQ (es:Array (Int×Value)):ordD es (Bc es.size)=es.toList:=by
 unfold ordD
 apply Er
 intro k
 have e2:es.toList[k]?=es[k]?:=Br ..
 rw [Bh,e2]
 by_cases h:k < es.size
 ·rw [Hl h,Am h]; simp [h]
 ·rw [CC (by simpa using h),Cw (by lia)]; rfl
theorem aFR {es:Array (Int×Value)} {ys:List Nat} (h:ys.Perm (Bc es.size)):(ordD es ys).Perm es.toList:=by
 rw [<- aFQ es]
 exact h.map _
theorem aJQ {a tp I:Addr} (h1:a≠I) (h2:tp≠I) {ep n nt:Nat} {o ot:Obj} {es:Array (Int×Value)} {t:Dp} {ys:List Nat} (hh:A.handled=none) (hd:o.data=.set es ep t) (hf:t.fits es.size=true) (hn:es.size=n) (hdt:ot.data=.seq (ys.map fun (i:Nat)=>CL i).toArray nt) (hy:ys.Perm (Bc n)) :
  Walks prog w A I [I,a,tp] [I] n (fun i v=>∃ e,(ordD es ys)[i]?=some e/\v=e.2) (fun i h=>SIter h I a (.ref tp) i n ep/\h.get? a=some o/\h.get? tp=some ot) where
 sub:=fun b hb=>by simp at hb; simp [hb]
 frame:=fun i h h' st hk=>by
  obtain ⟨⟨oi,q1,q2⟩,q3,q4⟩:=st
  exact ⟨⟨oi,hk I (by simp) _ q1,q2⟩,hk a (by simp) _ q3,hk tp (by simp) _ q4⟩
 item:=fun i s Q E hi st hQ=>by
  obtain ⟨hit,ho,hot⟩:=st
  have hl:ys.length=n:=by rw [hy.length_eq,Fk]
  obtain ⟨p,hp⟩:∃ p,ys[i]?=some p:=⟨ys[i],Au (by lia)⟩
  have hpn:p < n:=by simpa using hy.mem_iff.mp (Av hp)
  obtain ⟨x,hx⟩:∃ x,es[p]?=some x:=⟨es[p],Am (by lia)⟩
  refine aEA hit ho hd hf hn hot hdt (p:=p) (x:=x) ?_ hx fun h' it' sb=>hQ x.2 h' s.toks ⟨x,?_,rfl⟩ ⟨it',?_,?_⟩ fun b ob hb e=>?_
  ·rw [DA,Bh,hp]; rfl
  ·unfold ordD; rw [Bh,hp]; simp [hx]
  ·rw [sb.2 a h1]; exact ho
  ·rw [sb.2 tp h2]; exact hot
  ·rw [sb.2 b (fun z=>hb (by simp [z]))]; exact e
 done:=fun s Q E st hQ=>by
  obtain ⟨hit,ho,hot⟩:=st
  have hl:ys.length=n:=by rw [hy.length_eq,Fk]
  exact aJP hh hit ho hd hf hn hot hdt (by rw [DA]; exact CC (by rw [Ae]; lia)) fun h' eb=>hQ h' s.toks fun b o hb e=>eb b o (fun z=>hb (by simp [z])) e
 self:=fun i s Q E st hQ=>by
  obtain ⟨hit,ho⟩:=st
  refine Eu hit.typeIs qF (AU qF hit.typeIs jh ?_ (aAB _))
  show Ax _ _ (ret (.ref I)) _ _ s
  exact Ab ⟨_,rfl,"set_iterator",_,hit.typeIs,slot_si_next.lookup,hQ⟩
theorem aJR {R:Ka->Ad->Prop} {T:String} {S r:Addr} {n:Nat} {OkP:(Nat->Value->Prop)->Prop} (hT:∀ s':Ad,(∀ b o,s.heap.get? b=some o->s'.heap.get? b=some o)->s'.TypeIs (.ref r) T) (nl:(DD T == DD "list")=false) (nt:(DD T == DD "tuple")=false)
  (hint:∀ (E:Value->Ad->Prop) (s':Ad) (Q:Bool->Ad->Prop),s'.TypeIs (.ref r) T->Q false s'->Ax (AC prog w) A.in1 (Fc (.ref r)) Q E s')
  (hS:s.heap.get? S=some { cls:=.type "list",data:=.seq #[] 0 }) (hSr:S≠r) (hn:n<=sizeLine)
  (hit:∀ (E:Value->Ad->Prop) (Q:Value->Ad->Prop),(∀ I h1 d1 fp St P,OkP P->Walks prog w A.in1 I fp [I] n P St->St 0 h1->S ∉ fp->s.heap.objs.size<=I->(∀ b o,s.heap.get? b=some o->h1.get? b=some o)->Q (.ref I) { s with heap:=h1,drawn:=d1 })->Ax (AC prog w) A.in1 (Jj (.ref r)) Q E s)
  (hR:∀ P h' tk d' acc' c',OkP P->(∀ b o,b≠S->s.heap.get? b=some o->h'.get? b=some o)->h'.get? S=some { cls:=.type "list",dict:=none,data:=.seq acc' c',slots:=#[] }->ItemsOf P acc' n->R (.ok (.ret (.ref S))) { s with heap:=h',toks:=tk,drawn:=d' }) :
  Ef (AC prog w) A (.builtin "list.__iadd__" ⟨[.ref S,.ref r],[]⟩) R s:=by
 refine Cr IQ ?_
 rw [Dk II _]
 show Ax _ _ (DW (.ref S) (.ref r) (.ref S)) _ _ s
 unfold DW
 refine Aa (DN (hT s fun _ _ e=>e) ?_)
 have e1:Il (.ref S) (.ref r)=false:=by simp [Il,hSr]
 simp only [e1,nl,nt,Bool.or_false,Bz,if_false]
 refine Aa (hit _ _ fun I h1 d1 fp St P okP W st hSf hI k1=>?_)
 have hSI:S≠I:=fun z=>BM _ (AB (An hS) (by rw [z]; exact hI))
 have loop:∀ (h:Heap) (c tk:Nat),St 0 h->(∀ b o,b≠S->h1.get? b=some o->h.get? b=some o)->h.get? S=some { cls:=.type "list",data:=.seq #[] c } ->
   Ef (AC prog w) A (.builtin "list.extend.loop" ⟨[.ref S,.ref I,.ref S],[]⟩) R { s with heap:=h,toks:=tk,drawn:=d1 }:=fun h c tk hst hk hS1=>by
  refine codeAny_extend_loopS W.toS hn S hSf (.ref S) n 0 _ #[] c rfl (AS _) hst hS1 (ItemsOf.nil _) fun s' acc' c' hm hS' hacc=>?_
  rw [Moved.eq_with hm]
  refine hR P s'.heap s'.toks d1 acc' c' okP (fun b o hb e=>hm.heap b o (fun hmem=>?_) (hk b o hb (k1 b o e))) hS' hacc
  rcases Aq.mp hmem with z | z
  ·exact hb z
  ·rw [Af.mp z] at e
   exact BM _ (AB (An e) hI)
 have hS1:=k1 S _ hS
 refine Aa (BE (hint _ _ _ (hT _ k1) ?_))
 refine JC (fun _=>?_) (fun _=>Ab ⟨Fl HU _,loop h1 0 s.toks st (fun b o _ e=>e) hS1⟩)
 refine Aa (Cp (Aa ?_))
 show Ax _ _ (updateSeq S (·.push .none) >>= fun _=>updateSeq S (·.pop)) _ _ _
 refine Aa (wpAny_updateSeq hS1 rfl ?_)
 have hS2:=Ba (Dr (·.push Cy)) hS1 rfl
 refine wpAny_updateSeq (hz:=by seq_fits) hS2 rfl ?_
 have hS3:=Ba (Dr (·.pop)) hS2 rfl
 have oth:∀ b o,b≠S->h1.get? b=some o->((h1.update S (Dr (·.push Cy))).update S (Dr (·.pop))).get? b=some o:=fun b o hb e=>by
  rw [Bv _ _ (CB hb),Bv _ _ (CB hb)]; exact e
 exact Ab ⟨Fl HU _,loop _ _ _ (W.frame 0 _ _ st fun b hb o e=>oth b o (fun z=>hSf (z ▸ hb)) e) oth hS3⟩
theorem aFS {a:Addr} {ks:List Int} {Q:List Value->Ad->Prop} (hh:A.handled=none) (hS:SetG prog w s.heap a ks)
  (q:∀ (vs:List Value) (ms:List Int) (g:Heap) (tk:Nat) (d':MX),Gm vs ms->ms.Perm ks->(∀ b o,s.heap.get? b=some o->g.get? b=some o)->s.heap.objs.size < g.objs.size->Q vs { s with heap:=g,toks:=tk,drawn:=d' }) :
  Ax (AC prog w) A (Ju (.ref a)) Q E s:=by
 have hlen:=hS.len
 obtain ⟨o,es,ep,t,ho,hex,hd,hel,⟨ms,hv,hp⟩,nd,hb,hf,ok,hled⟩:=hS
 have szl:=AW
 have sb:JB=4096:=rfl
 have hb':es.size < 4096:=by rw [<- sb]; exact hb
 unfold Ju
 refine Aa (HR (Cr Ft ?_))
 show Ax _ _ (do KG (.builtin "list.__iadd__" ⟨[<- Mr [],.ref a],[]⟩)) _ _ s
 have hlt:=An ho
 have ne:s.heap.objs.size≠a:=Ci hlt
 have ho1:(s.heap.push (BX "list" #[] 0)).get? a=some o:=Ac _ ho
 have z1:(s.heap.push (BX "list" #[] 0)).objs.size=s.heap.objs.size + 1:=GZ _ _
 refine Aa (Ed (Ab ⟨DF _ (by decide +kernel),?_⟩))
 have fin:∀ (ord:List (Int×Value)),ord.Perm es.toList->∀ h' tk d' acc' c',(∀ b ob,b≠s.heap.objs.size->(s.heap.push (BX "list" #[] 0)).get? b=some ob->h'.get? b=some ob)->h'.get? s.heap.objs.size=some { cls:=.type "list",dict:=none,data:=.seq acc' c',slots:=#[] }->ItemsOf (fun i v=>∃ e,ord[i]?=some e/\v=e.2) acc' es.size->Q acc'.toList { s with heap:=h',toks:=tk,drawn:=d' }:=fun ord po h' tk d' acc' c' k hS' hacc=>by
  obtain ⟨sz,it⟩:=hacc
  have el:acc'.toList=ord.map (·.2):=by
   apply Er
   intro j
   have ea:acc'.toList[j]?=acc'[j]?:=Br ..
   rw [ea,Bh]
   have lo:ord.length=es.size:=by rw [po.length_eq,AA]
   by_cases hj:j < es.size
   ·have ev:acc'[j]?=some acc'[j]:=Am (by lia)
    obtain ⟨e,h1,h2⟩:=it j _ ev
    rw [ev,h1,h2]; rfl
   ·rw [Cw (by lia),CC (by lia)]; rfl
  obtain ⟨ns,n1,n2⟩:=aBx (po.map (·.2)) hv
  rw [<- el] at n1
  refine q acc'.toList ns h' tk d' (jt n1) (n2.trans hp) (fun b ob e=>k b ob (fun z=>?_) (Ac _ e)) (An hS')
  rw [z] at e
  exact absurd (An e) (BM _)
 by_cases hmode:byT w=true\/(!t.plain && decide (es.size > 1))=false
 ·refine aJR (T:="set") (s:={ s with heap:=s.heap.push (BX "list" #[] 0) }) (n:=es.size) (OkP:=fun P=>P=fun i v=>∃ e,(aAm w a ep es)[i]?=some e/\v=e.2) (fun s' k=>⟨o,k a o ho1,hex.1⟩) (by decide) (by decide) (fun E s' Q hT h=>aHV hT h) (Ak _ rfl) ne (by lia) (fun E Q hQ=>?_) fun P h' tk d' acc' c' okP k hS' hacc=>?_
  ·refine aJN ho1 hex.1 hd hf rfl hmode ?_
   refine hQ _ _ s.drawn [_,a] _ _ rfl (aJM (A:=A.in1) (AE (An ho1)) hh hd hf rfl ok hmode hled) ⟨⟨0,fun _=>aDy ok.rise,_,Ak _ rfl,rfl,rfl⟩,Ac _ ho1⟩ ?_ (Ai _) fun b ob e=>Ac _ e
   simp only [Aq,BI,or_false,not_or]
   exact ⟨by show s.heap.objs.size≠(s.heap.push (BX "list" #[] 0)).objs.size; lia,ne⟩
  ·subst okP
   show Ax _ _ (load s.heap.objs.size >>= _) Q E _
   refine Aa (GW hS' (Ab ?_))
   exact fin _ (aDS w a ep es) h' tk d' acc' c' k hS' ⟨hacc.1,fun j v hj=>by obtain ⟨e,h1,h2⟩:=hacc.2 j v hj; exact ⟨e,by rw [Br]; exact h1,h2⟩⟩
 ·have hbt:byT w=false:=by
   cases e:byT w with
   | false=>rfl
   | true=>exact absurd (.inl e) hmode
  have hdr:(!t.plain && decide (es.size > 1))=true:=by
   cases e:(!t.plain && decide (es.size > 1)) with
   | true=>rfl
   | false=>exact absurd (.inr e) hmode
  refine aJR (T:="set") (s:={ s with heap:=s.heap.push (BX "list" #[] 0) }) (n:=es.size) (OkP:=fun P=>∃ ys:List Nat,ys.Perm (Bc es.size)/\P=fun i v=>∃ e,(ordD es ys)[i]?=some e/\v=e.2) (fun s' k=>⟨o,k a o ho1,hex.1⟩) (by decide) (by decide) (fun E s' Q hT h=>aHV hT h) (Ak _ rfl) ne (by lia) (fun E Q hQ=>?_) fun P h' tk d' acc' c' okP k hS' hacc=>?_
  ·refine aJO ho1 hex.1 hd hf rfl (by lia) hbt hdr fun ys d' hy=>?_
   have ho2:=fun ob=>Ac ob (Ac (BX "tuple" (ys.map fun (i:Nat)=>CL i).toArray 0) ho1)
   have z2:((s.heap.push (BX "list" #[] 0)).push (BX "tuple" (ys.map fun (i:Nat)=>CL i).toArray 0)).objs.size=s.heap.objs.size + 1 + 1:=by rw [GZ,z1]
   have z3:(s.heap.push (BX "list" #[] 0)).objs.size + 1=((s.heap.push (BX "list" #[] 0)).push (BX "tuple" (ys.map fun (i:Nat)=>CL i).toArray 0)).objs.size:=by rw [z1,z2]
   have na:a≠(s.heap.push (BX "list" #[] 0)).objs.size + 1:=by rw [z1]; exact AE (HC hlt (Dt (Fx _)))
   refine hQ _ _ d' [_,a,(s.heap.push (BX "list" #[] 0)).objs.size] _ _ ⟨ys,hy,rfl⟩ (aJQ (A:=A.in1) (tp:=(s.heap.push (BX "list" #[] 0)).objs.size) (ot:=BX "tuple" (ys.map fun (i:Nat)=>CL i).toArray 0) na (AE (Fx _)) hh hd hf rfl rfl hy) ⟨⟨aFP a (s.heap.push (BX "list" #[] 0)).objs.size es.size ep,?_,rfl,rfl⟩,ho2 _,?_⟩ ?_ (Db _) fun b ob e=>Ac _ (Ac _ e)
   ·show _=some (aFP a (s.heap.push (BX "list" #[] 0)).objs.size es.size ep)
    rw [z3]
    exact Ak _ rfl
   ·exact Ac _ (Ak _ rfl)
   ·simp only [Aq,BI,or_false,not_or]
    refine ⟨?_,ne,?_⟩
    ·show s.heap.objs.size≠(s.heap.push (BX "list" #[] 0)).objs.size + 1
     lia
    ·show s.heap.objs.size≠(s.heap.push (BX "list" #[] 0)).objs.size
     lia
  ·obtain ⟨ys,hy,rfl⟩:=okP
   show Ax _ _ (load s.heap.objs.size >>= _) Q E _
   refine Aa (GW hS' (Ab ?_))
   exact fin _ (aFR hy) h' tk d' acc' c' k hS' hacc
end
end L2
namespace L2
open PySem PySem.Spec PyProof.Rows
section
variable {prog:Ap} {w:AT} {A:AR} {E:Value->Ad->Prop} {s:Ad}
end
theorem aJS:BR "set"=some (.type "set"):=by decide +kernel
section
variable {X:Cx}
end
end L2
namespace L2
open PySem PySem.Spec PyProof.Rows PySem.W
theorem aBy {ms:List Int} (h1:ms.Pairwise (·<=·)) (h2:ms.Nodup):ms.Pairwise (· < ·) :=
 List.Pairwise.imp₂ (fun a b hle hne=>by lia) h1 h2
theorem jk:∀ {a b:List Int},a.Pairwise (· < ·)->b.Pairwise (· < ·)->(∀ m,m∈a↔m∈b)->a=b
 | [],[],_,_,_=>rfl
 | [],y :: t,_,_,h=>by have:=(h y).mpr (AL ..); cases this
 | x :: r,[],_,_,h=>by have:=(h x).mp (AL ..); cases this
 | x :: r,y :: t,ha,hb,h=>by
  have h1:=EW.mp ha
  have h2:=EW.mp hb
  have e:x=y:=by
   rcases Aq.mp ((h x).mp (AL ..)) with e | m1
   ·exact e
   ·rcases Aq.mp ((h y).mpr (AL ..)) with e | m2
    ·exact e.symm
    ·have:=h1.1 y m2; have:=h2.1 x m1; lia
  subst e
  rw [jk h1.2 h2.2 fun m=>?_]
  constructor
  ·intro hm
   rcases Aq.mp ((h m).mp (AI _ hm)) with e | q
   ·have:=h1.1 m hm; lia
   ·exact q
  ·intro hm
   rcases Aq.mp ((h m).mpr (AI _ hm)) with e | q
   ·have:=h2.1 m hm; lia
   ·exact q
section
variable {prog:Ap} {w:AT} {A:AR} {E:Value->Ad->Prop} {s:Ad}
theorem aAc {a:Addr} {C:List Int->Prop} {Q:Value->Ad->Prop} (hc:∀ (Q2:List Value->Ad->Prop) (E2:Value->Ad->Prop),(∀ (vs:List Value) (ms:List Int) (g:Heap) (tk:Nat) (d':MX),Gm vs ms->C ms->(∀ b o,s.heap.get? b=some o->g.get? b=some o)->s.heap.objs.size < g.objs.size->Q2 vs { s with heap:=g,toks:=tk,drawn:=d' })->Ax (AC prog w) A.in1 (Ju (.ref a)) Q2 E2 s) (hz:∀ ms,C ms->ms.length<=900000)
  (h:∀ (out:Array Value) (ms ms':List Int) (g:Heap) (e tk:Nat) (d':MX) (p:Addr),C ms->Gm out.toList ms'->ms'.Perm ms->ms'.Pairwise (·<=·)->(∀ b o,s.heap.get? b=some o->g.get? b=some o)->s.heap.objs.size<=p->g.get? p=some (BX "list" out e)->Q (.ref p) { s with heap:=g,toks:=tk,drawn:=d' }) :
  Ax (AC prog w) A (call (.builtin "sorted") [.ref a]) Q E s:=by
 refine Fv Mv LJ LK (LL _) ?_
 unfold Builtin.«sorted»
 refine Aa (m:=MV "sorted" 1 1 _) (Ab ?_)
 refine Aa (hc _ _ fun vs ms g1 tk d' hI hC k1 z1=>?_)
 have hlen:vs.length=ms.length:=by have:=(qP hI).length; rw [Ae] at this; exact this.symm
 have hlz:=hz ms hC
 have szl:=AW
 refine Aa (Ed ?_ (by lia))
 have gL:(g1.push (BX "list" vs.toArray 0)).get? g1.objs.size=some (BX "list" vs.toArray 0):=Ak _ rfl
 refine Aa (BE (AU Kg ⟨_,gL,rfl⟩ JD (aBw gL hI (by lia) fun out ns' a1 a2 a3=>⟨_,rfl,?_⟩) (Kh _)))
 obtain ⟨e,at1⟩:=La (out:=out) gL
 have old:∀ b o,s.heap.get? b=some o->(GY (g1.push (BX "list" vs.toArray 0)) g1.objs.size vs out).get? b=some o:=fun b o hb=>by
  have hlt:b < g1.objs.size:=An (k1 b o hb)
  rw [Ki (AE hlt) (by rw [GZ]; exact Dt hlt),Fm _ _ _ (AE hlt)]
  exact k1 b o hb
 exact Ab ⟨_,rfl,h out ms ns' _ e tk d' g1.objs.size hC a1 a2 a3 old (FI z1) at1⟩
end
section
variable {X:Cx}
theorem Inv.drew {pins:List (Addr×Obj)} {σ:St} {H:Hp} {s:Ad} (I:Inv X pins σ H s) (d':MX):Inv X pins σ H { s with drawn:=d' }:=⟨I.ok,I.os,I.bare,I.base,I.loc,I.cell,I.free,I.freeC,I.pin,I.hok,I.len⟩
end
end L2
namespace Law
open PySem L2
inductive Mix:List Int->List Int->List Int->Prop
 | nil:Mix [] [] []
 | l {xs ys zs:List Int} (n:Int):Mix xs ys zs->Mix (n :: xs) ys (n :: zs)
 | r {xs ys zs:List Int} (n:Int):Mix xs ys zs->Mix xs (n :: ys) (n :: zs)
theorem Mix.len {xs ys zs:List Int} (h:Mix xs ys zs):zs.length=xs.length + ys.length:=by
 induction h with
 | nil=>rfl
 | l n _ ih=>simp only [AY,ih]; lia
 | r n _ ih=>simp only [AY,ih]; lia
theorem Mix.mem {xs ys zs:List Int} (h:Mix xs ys zs):∀ m,m∈zs↔m∈xs\/m∈ys:=by
 induction h with
 | nil=>simp
 | l n _ ih=>intro m; simp only [Aq,ih]; exact or_assoc.symm
 | r n _ ih=>intro m; simp only [Aq,ih]; exact or_left_comm
theorem Mix.swap {xs ys zs:List Int} (h:Mix xs ys zs):Mix ys xs zs:=by
 induction h with
 | nil=>exact .nil
 | l n _ ih=>exact .r n ih
 | r n _ ih=>exact .l n ih
noncomputable def Deed (a b w:Int):Prop:=w=a + b\/(b < a/\w=a - b)\/w=a * b\/(a % b=0/\w=a / b)
inductive MetL:List Int->Int->Prop
 | one {n:Int}:1<=n->MetL [n] n
 | two {xs ys zs:List Int} {a b w:Int}:Mix xs ys zs->xs≠[]->ys≠[]->MetL xs a->MetL ys b->Deed a b w->MetL zs w
theorem Deed.pos {a b w:Int} (h:Deed a b w) (ha:1<=a) (hb:1<=b):1<=w:=by
 rcases h with rfl | ⟨h,rfl⟩ | rfl | ⟨h,rfl⟩
 ·lia
 ·lia
 ·exact Int.le_trans ha (by have:=GG hb (show 0<=a by lia); lia)
 ·have e:=Int.ediv_mul_cancel_of_emod_eq_zero h
  have h2:0<=a / b:=JE (by lia) (by lia)
  rcases Int.lt_or_le (a / b) 1 with h3 | h3
  ·have z:a / b=0:=by lia
   rw [z,Int.zero_mul] at e; lia
  ·exact h3
theorem MetL.pos {zs:List Int} {w:Int} (h:MetL zs w):1<=w:=by
 induction h with
 | one h=>exact h
 | two _ _ _ _ _ d ha hb=>exact d.pos ha hb
theorem Deed.le {a b w:Int} (h:Deed a b w) (ha:1<=a) (hb:1<=b):w<=2 * (a * b):=by
 have h1:a<=a * b:=by have:=GG hb (show 0<=a by lia); lia
 have h2:b<=a * b:=by have:=Int.mul_le_mul_of_nonneg_right ha (show 0<=b by lia); lia
 rcases h with rfl | ⟨h,rfl⟩ | rfl | ⟨h,rfl⟩
 ·lia
 ·lia
 ·lia
 ·have:=LR b (show 0<=a by lia); lia
theorem MetL.big {zs:List Int} {w:Int} (h:MetL zs w) (hz:∀ n∈zs,n<=1000000):2 * w<=2 ^ (21 * zs.length):=by
 induction h with
 | @one n h =>
  have:=hz n (by simp)
  show 2 * n<=2 ^ 21
  have:(2:Int) ^ 21=2097152:=by decide
  lia
 | @two xs ys zs a b w m _ _ h1 h2 d ia ib =>
  have a1:=h1.pos
  have b1:=h2.pos
  have ia:=ia fun n hn=>hz n ((m.mem n).mpr (.inl hn))
  have ib:=ib fun n hn=>hz n ((m.mem n).mpr (.inr hn))
  have l:=d.le a1 b1
  have e:(2:Int) ^ (21 * zs.length)=2 ^ (21 * xs.length) * 2 ^ (21 * ys.length):=by
   rw [m.len,Nat.mul_add,Int.pow_add]
  rw [e]
  have p:=Int.mul_le_mul ia ib (by lia) (by lia)
  have e2:2 * a * (2 * b)=2 * (2 * (a * b)):=by rw [Int.mul_assoc,Int.mul_left_comm a 2 b]
  lia
theorem MetL.small {zs:List Int} {w:Int} (h:MetL zs w) (hl:zs.length<=4) (hz:∀ n∈zs,n<=1000000):w < 2 ^ 90:=by
 have h1:=h.big hz
 have h2:(2:Nat) ^ (21 * zs.length)<=2 ^ 84:=JV (by decide) (by lia)
 have h3:(2:Int) ^ (21 * zs.length)<=2 ^ 84:=by exact_mod_cast h2
 have h4:(2:Int) ^ 84 < 2 ^ 90:=by decide
 have h5:=h.pos
 lia
theorem MetL.ne {zs:List Int} {w:Int} (h:MetL zs w):zs≠[]:=by
 intro e
 cases h with
 | one _=>cases e
 | @two xs ys _ _ _ _ m x y _ _ _ =>
  subst e
  have:=m.len
  cases xs with
  | nil=>exact x rfl
  | cons _ _=>simp at this; lia
theorem aFT {n w:Int}:MetL [n] w↔w=n/\1<=n:=by
 constructor
 ·intro h
  cases h with
  | one h=>exact ⟨rfl,h⟩
  | @two xs ys _ _ _ _ m x y _ _ _ =>
   have:=m.len
   cases xs with
   | nil=>exact absurd rfl x
   | cons _ _=>cases ys with
    | nil=>exact absurd rfl y
    | cons _ _=>simp at this; lia
 ·rintro ⟨rfl,h⟩; exact .one h
noncomputable def aDT:List Int->List (List Int×List Int)
 | []=>[([],[])]
 | n :: r=>(aDT r).flatMap fun p=>[(n :: p.1,p.2),(p.1,n :: p.2)]
theorem aAw {xs ys zs:List Int} (h:Mix xs ys zs):(xs,ys)∈aDT zs:=by
 induction h with
 | nil=>simp [aDT]
 | l n _ ih=>exact BP.mpr ⟨_,ih,by simp⟩
 | r n _ ih=>exact BP.mpr ⟨_,ih,by simp⟩
noncomputable def aFU:List Int->List (List Int×List Int)
 | []=>[]
 | n :: r=>((aDT r).map fun p=>(n :: p.1,p.2)).filter fun p=>!p.2.isEmpty
theorem aFV {xs ys zs:List Int} (h:Mix xs ys zs) (hx:xs≠[]) (hy:ys≠[]):(xs,ys)∈aFU zs\/(ys,xs)∈aFU zs:=by
 cases h with
 | nil=>exact absurd rfl hx
 | l n h =>
  refine .inl (BS.mpr ⟨AJ.mpr ⟨_,aAw h,rfl⟩,?_⟩)
  cases ys with
  | nil=>exact absurd rfl hy
  | cons _ _=>rfl
 | r n h =>
  refine .inr (BS.mpr ⟨AJ.mpr ⟨_,aAw h.swap,rfl⟩,?_⟩)
  cases xs with
  | nil=>exact absurd rfl hx
  | cons _ _=>rfl
noncomputable def qh (a b:Int):List Int:=[a + b,a - b,b - a,a * b,a / b,b / a]
theorem aKo {a b w:Int} (h:Deed a b w):w∈qh a b/\w∈qh b a:=by
 rcases h with rfl | ⟨_,rfl⟩ | rfl | ⟨_,rfl⟩
 ·exact ⟨by simp [qh],by simp [qh,Nx]⟩
 ·exact ⟨by simp [qh],by simp [qh]⟩
 ·exact ⟨by simp [qh],by simp [qh,Ny]⟩
 ·exact ⟨by simp [qh],by simp [qh]⟩
noncomputable def both (f:List Int->List Int) (p:List Int×List Int):List Int:=(f p.1).flatMap fun x=>(f p.2).flatMap fun y=>qh x y
noncomputable def aA0:Nat->List Int->List Int
 | 0,_=>[]
 | k + 1,zs=>if zs.length=1 then zs else (aFU zs).flatMap (both (aA0 k))
theorem aDU {zs:List Int} {w:Int} (h:MetL zs w):∀ k,zs.length<=k->w∈aA0 k zs:=by
 induction h with
 | one _ =>
  intro k hk
  match k,hk with
  | k + 1,_=>simp [aA0]
 | @two xs ys zs a b w m hx hy h1 h2 d ia ib =>
  intro k hk
  have l:=m.len
  have lx:0 < xs.length:=BQ.mpr hx
  have ly:0 < ys.length:=BQ.mpr hy
  match k,hk with
  | 0,hk=>lia
  | k + 1,hk =>
   rw [aA0,if_neg (by lia)]
   obtain ⟨d1,d2⟩:=aKo d
   rcases aFV m hx hy with q | q
   ·exact BP.mpr ⟨_,q,BP.mpr ⟨a,ia k (by lia),BP.mpr ⟨b,ib k (by lia),d1⟩⟩⟩
   ·exact BP.mpr ⟨_,q,BP.mpr ⟨b,ib k (by lia),BP.mpr ⟨a,ia k (by lia),d2⟩⟩⟩
theorem aBN (f:List Int->List Int) (p:List Int×List Int):(both f p).length=(f p.1).length * ((f p.2).length * 6):=by
 unfold both
 have h1:∀ (x:Int) (l:List Int),(l.flatMap fun y=>qh x y).length=l.length * 6:=by
  intro x l
  induction l with
  | nil=>rfl
  | cons y l ih=>rw [Dv,Al,ih,AY,HG]; show 6 + _=_; lia
 generalize f p.1=l
 induction l with
 | nil=>simp
 | cons x l ih=>rw [Dv,Al,ih,h1,AY,HG]; lia
theorem qQ (k:Nat) (a:Int):(aA0 (k + 1) [a]).length=1:=rfl
theorem qr (k:Nat) (a b:Int):(aA0 (k + 2) [a,b]).length=6:=by
 show ((both (aA0 (k + 1)) ([a],[b]))++[]).length=6
 rw [BD,aBN,qQ,qQ]
theorem aBz (k:Nat) (a b c:Int):(aA0 (k + 3) [a,b,c]).length=108:=by
 rw [aA0,if_neg (by simp),show aFU [a,b,c]=[([a,c],[b]),([a,b],[c]),([a],[b,c])] from rfl]
 simp only [Dv,IR,Al,aBN]
 rw [qQ (k + 1),qQ (k + 1),qQ (k + 1),qr k,qr k,qr k]
 rfl
theorem aFW (k:Nat) (a b c d:Int):(aA0 (k + 4) [a,b,c,d]).length=3240:=by
 rw [aA0,if_neg (by simp),show aFU [a,b,c,d]=[([a,c,d],[b]),([a,b,d],[c]),([a,d],[b,c]),([a,b,c],[d]),([a,c],[b,d]),([a,b],[c,d]),([a],[b,c,d])] from rfl]
 simp only [Dv,IR,Al,aBN]
 simp only [qQ (k + 2),qr (k + 1),aBz k]
 rfl
noncomputable def bnd:Nat->Nat
 | 0=>0
 | 1=>1
 | 2=>6
 | 3=>108
 | _=>3240
theorem aGl {zs:List Int} (h:zs.length<=4):(aA0 4 zs).length<=bnd zs.length:=by
 match zs,h with
 | [],_=>exact Ai _
 | [a],_=>exact Ai _
 | [a,b],_=>exact Hz (qr 2 a b)
 | [a,b,c],_=>exact Hz (aBz 1 a b c)
 | [a,b,c,d],_=>exact Hz (aFW 0 a b c d)
 | _ :: _ :: _ :: _ :: _ :: _,h=>simp at h
theorem aC0:∀ {a b:List Int},a.Nodup->(∀ x∈a,x∈b)->a.length<=b.length
 | [],b,_,_=>AS _
 | x :: a,b,nd,h=>by
  have hx:x∈b:=h x (by simp)
  have nd':=BY.mp nd
  have:=aC0 (a:=a) (b:=b.erase x) nd'.2 fun y hy=>by
   have:y≠x:=fun e=>nd'.1 (e ▸ hy)
   exact (List.mem_erase_of_ne this).mpr (h y (by simp [hy]))
  rw [List.length_erase_of_mem hx] at this
  have hp:0 < b.length:=List.length_pos_of_mem hx
  rw [AY]; lia
theorem aBO {zs ks:List Int} (hl:zs.length<=4) (nd:ks.Nodup) (h:∀ k∈ks,MetL zs k):ks.length<=bnd zs.length :=
 At (aC0 nd fun x hx=>aDU (h x hx) 4 hl) (aGl hl)
theorem aC1 {r:List Int} (h:r.Pairwise (· < ·)):r.Nodup:=h.imp fun h=>Int.ne_of_lt h
theorem aHX (Pd:Int->Prop):∀ L:List Int,∃ r:List Int,r.Pairwise (· < ·)/\∀ m,m∈r↔m∈L/\Pd m
 | []=>⟨[],.nil,by simp⟩
 | x :: L=>by
  obtain ⟨r,h1,h2⟩:=aHX Pd L
  by_cases hp:Pd x
  ·refine ⟨r.filter (· < x)++([x]++r.filter (x < ·)),?_,fun m=>?_⟩
   ·refine GM.mpr ⟨h1.filter _,GM.mpr ⟨Ga _ _,h1.filter _,?_⟩,?_⟩
    ·intro a ha b hb
     rw [Af.mp ha]
     simpa using (BS.mp hb).2
    ·intro a ha b hb
     have ha':a < x:=by simpa using (BS.mp ha).2
     rcases Ar.mp hb with hb | hb
     ·rw [Af.mp hb]; exact ha'
     ·have:x < b:=by simpa using (BS.mp hb).2
      lia
   ·simp only [Ar,BS,Aq,BI,or_false,h2,decide_eq_true_eq]
    constructor
    ·rintro (⟨⟨a,b⟩,_⟩ | e | ⟨⟨a,b⟩,_⟩)
     ·exact ⟨.inr a,b⟩
     ·exact ⟨.inl e,e ▸ hp⟩
     ·exact ⟨.inr a,b⟩
    ·rintro ⟨rfl | a,b⟩
     ·exact .inr (.inl rfl)
     ·rcases Int.lt_trichotomy m x with q | q | q
      ·exact .inl ⟨⟨a,b⟩,q⟩
      ·exact .inr (.inl q)
      ·exact .inr (.inr ⟨⟨a,b⟩,q⟩)
  ·refine ⟨r,h1,fun m=>?_⟩
   rw [h2,Aq]
   constructor
   ·rintro ⟨a,b⟩; exact ⟨.inr a,b⟩
   ·rintro ⟨rfl | a,b⟩
    ·exact absurd b hp
    ·exact ⟨a,b⟩
noncomputable def RowOf (Pd:Int->Prop) (r:List Int):Prop:=r.Pairwise (· < ·)/\∀ m,m∈r↔Pd m
theorem RowOf.one {Pd:Int->Prop} {a b:List Int} (h:RowOf Pd a) (g:RowOf Pd b):a=b:=jk h.1 g.1 fun m=>(h.2 m).trans (g.2 m).symm
theorem aJT (zs:List Int) (h:zs.length<=4):∃ r,RowOf (MetL zs) r:=by
 obtain ⟨r,h1,h2⟩:=aHX (MetL zs) (aA0 4 zs)
 exact ⟨r,h1,fun m=>⟨fun q=>((h2 m).mp q).2,fun q=>(h2 m).mpr ⟨aDU q 4 h,q⟩⟩⟩
open Classical in
noncomputable def rowF (zs:List Int):List Int:=if h:∃ r,RowOf (MetL zs) r then h.choose else []
theorem qG {zs:List Int} (h:zs.length<=4):RowOf (MetL zs) (rowF zs):=by
 have e:=aJT zs h
 unfold rowF
 rw [dif_pos e]
 exact e.choose_spec
theorem aCk {zs:List Int} (h:zs.length<=4):(rowF zs).length<=bnd zs.length :=
 aBO h (aC1 (qG h).1) fun k hk=>((qG h).2 k).mp hk
theorem aIC {n:Int} (h:1<=n):rowF [n]=[n]:=(qG (by simp)).one ⟨Ga _ _,fun m=>by rw [aFT,Af]; exact ⟨fun e=>⟨e,h⟩,fun e=>e.1⟩⟩
noncomputable def zG:List Int->List Bool->List Int
 | n :: ns,b :: bs=>if b=true then n :: zG ns bs else zG ns bs
 | _,_=>[]
theorem jG (n:Int) (ns:List Int) (bs:List Bool):zG (n :: ns) (true :: bs)=n :: zG ns bs:=rfl
theorem qH (n:Int) (ns:List Int) (bs:List Bool):zG (n :: ns) (false :: bs)=zG ns bs:=rfl
theorem aAx:∀ {ns:List Int} {c:List Bool},ns.length=c.length->(zG ns c).length=c.count true
 | [],[],_=>rfl
 | n :: ns,b :: c,h=>by
  have ih:=aAx (ns:=ns) (c:=c) (by simpa using h)
  cases b
  ·rw [qH,ih]; simp
  ·rw [jG,AY,ih]; simp
theorem jH:∀ {ns:List Int} {c:List Bool} {m:Int},m∈zG ns c->m∈ns
 | [],_,_,h=>by unfold zG at h; simp at h
 | _ :: _,[],_,h=>by unfold zG at h; simp at h
 | n :: ns,b :: c,m,h=>by
  cases b
  ·exact AI _ (jH (c:=c) h)
  ·rcases Aq.mp h with h | h
   ·rw [h]; exact AL
   ·exact AI _ (jH (c:=c) h)
theorem yG (ns:List Int) (c:List Bool):(zG ns c).length<=ns.length:=by
 induction ns generalizing c with
 | nil=>cases c <;> exact Ai _
 | cons n ns ih =>
  cases c with
  | nil=>exact AS _
  | cons b c =>
   cases b
   ·exact At (ih c) (by simp)
   ·exact CS (ih c)
theorem aFX (c:List Bool):c.any id=true↔0 < c.count true:=by
 induction c with
 | nil=>simp
 | cons b c ih=>cases b <;> simp_all
theorem qB {ns:List Int} {c:List Bool} (h:ns.length=c.length):zG ns c≠[]↔c.any id=true:=by
 rw [aFX,<- aAx h,BQ]
inductive Spl:List Bool->List Bool->List Bool->Prop
 | nil:Spl [] [] []
 | t1 {a b c:List Bool}:Spl a b c->Spl (true :: a) (false :: b) (true :: c)
 | t2 {a b c:List Bool}:Spl a b c->Spl (false :: a) (true :: b) (true :: c)
 | f {a b c:List Bool}:Spl a b c->Spl (false :: a) (false :: b) (false :: c)
theorem Spl.len {a b c:List Bool} (h:Spl a b c):a.length=c.length/\b.length=c.length:=by
 induction h <;> simp_all
theorem Spl.mix {a b c:List Bool} (h:Spl a b c):∀ ns:List Int,ns.length=c.length->Mix (zG ns a) (zG ns b) (zG ns c):=by
 induction h with
 | nil=>intro ns h; cases ns with
  | nil=>exact .nil
  | cons _ _=>cases h
 | t1 _ ih=>intro ns h; cases ns with
  | nil=>cases h
  | cons n ns=>exact .l n (ih ns (by simpa using h))
 | t2 _ ih=>intro ns h; cases ns with
  | nil=>cases h
  | cons n ns=>exact .r n (ih ns (by simpa using h))
 | f _ ih=>intro ns h; cases ns with
  | nil=>cases h
  | cons n ns=>exact ih ns (by simpa using h)
theorem aBP:∀ {c:List Bool} {ns xs ys:List Int},ns.length=c.length->Mix xs ys (zG ns c)->∃ a b,Spl a b c/\zG ns a=xs/\zG ns b=ys
 | [],[],xs,ys,_,m=>by
  unfold zG at m
  cases m
  exact ⟨[],[],.nil,rfl,rfl⟩
 | true :: c,n :: ns,xs,ys,h,m=>by
  rw [jG] at m
  cases m with
  | l _ m =>
   obtain ⟨a,b,h1,h2,h3⟩:=aBP (by simpa using h) m
   exact ⟨true :: a,false :: b,.t1 h1,by rw [jG,h2],by rw [qH,h3]⟩
  | r _ m =>
   obtain ⟨a,b,h1,h2,h3⟩:=aBP (by simpa using h) m
   exact ⟨false :: a,true :: b,.t2 h1,by rw [qH,h2],by rw [jG,h3]⟩
 | false :: c,n :: ns,xs,ys,h,m=>by
  rw [qH] at m
  obtain ⟨a,b,h1,h2,h3⟩:=aBP (by simpa using h) m
  exact ⟨false :: a,false :: b,.f h1,by rw [qH,h2],by rw [qH,h3]⟩
noncomputable def jQ (t:Bool):List (Bool×Bool):=if t=true then [(true,false),(false,true)] else [(false,false)]
noncomputable def qI (acc:List (List Bool×List Bool)) (t:Bool):List (List Bool×List Bool):=acc.flatMap fun p=>(jQ t).map fun e=>(p.1++[e.1],p.2++[e.2])
noncomputable def splS (c:List Bool):List (List Bool×List Bool):=c.foldl qI [([],[])]
theorem aFY (c:List Bool) (t:Bool):splS (c++[t])=qI (splS c) t:=by unfold splS; rw [Lp]; rfl
theorem aDV:∀ (c:List Bool) (acc:List (List Bool×List Bool)) (p:List Bool×List Bool),p∈c.foldl qI acc↔∃ q∈acc,∃ a b,Spl a b c/\p=(q.1++a,q.2++b)
 | [],acc,p=>by
  show p∈acc↔_
  constructor
  ·intro h; exact ⟨p,h,[],[],.nil,by simp⟩
  ·rintro ⟨q,hq,a,b,h,rfl⟩
   cases h
   simpa using hq
 | t :: c,acc,p=>by
  rw [Mw,aDV c]
  constructor
  ·rintro ⟨q,hq,a,b,h,rfl⟩
   obtain ⟨r,hr,h2⟩:=BP.mp hq
   obtain ⟨e,he,rfl⟩:=AJ.mp h2
   refine ⟨r,hr,e.1 :: a,e.2 :: b,?_,by simp⟩
   cases t
   ·simp [jQ] at he; subst he; exact .f h
   ·simp [jQ] at he
    rcases he with rfl | rfl
    ·exact .t1 h
    ·exact .t2 h
  ·rintro ⟨q,hq,a,b,h,rfl⟩
   have put:∀ (e:Bool×Bool) (a b:List Bool),e∈jQ t->Spl a b c->∃ q'∈qI acc t,∃ a' b',Spl a' b' c/\(q.1++e.1 :: a,q.2++e.2 :: b)=(q'.1++a',q'.2++b'):=fun e a b he h =>
    ⟨(q.1++[e.1],q.2++[e.2]),BP.mpr ⟨q,hq,AJ.mpr ⟨e,he,rfl⟩⟩,a,b,h,by simp⟩
   cases h with
   | t1 h=>exact put (true,false) _ _ (by simp [jQ]) h
   | t2 h=>exact put (false,true) _ _ (by simp [jQ]) h
   | f h=>exact put (false,false) _ _ (by simp [jQ]) h
theorem mem_splS {c:List Bool} {p:List Bool×List Bool}:p∈splS c↔Spl p.1 p.2 c:=by
 unfold splS
 rw [aDV]
 constructor
 ·rintro ⟨q,hq,a,b,h,rfl⟩
  rw [Af.mp hq]
  exact h
 ·intro h
  exact ⟨([],[]),by simp,p.1,p.2,h,rfl⟩
theorem aGm (c:List Bool):(splS c).length<=2 ^ c.length:=by
 have:∀ (c:List Bool) (acc:List (List Bool×List Bool)),(c.foldl qI acc).length<=acc.length * 2 ^ c.length:=by
  intro c
  induction c with
  | nil=>intro acc; simp
  | cons t c ih =>
   intro acc
   rw [Mw]
   have h1:(qI acc t).length<=acc.length * 2:=by
    unfold qI
    induction acc with
    | nil=>simp
    | cons p acc ih2 =>
     rw [Dv,Al,Ae,AY,HG]
     have:(jQ t).length<=2:=by cases t <;> decide
     lia
   refine At (ih _) ?_
   rw [AY,Nz,Nat.mul_comm (2 ^ c.length) 2,<- Nat.mul_assoc]
   exact Nat.mul_le_mul_right _ h1
 have h:=this c [([],[])]
 rw [Jo,Nat.one_mul] at h
 exact h
noncomputable def yQ (c:List Bool):List (List Bool×List Bool):=(splS c).filter fun p=>p.1.any id && p.2.any id
theorem mem_splits {c:List Bool} {p:List Bool×List Bool}:p∈yQ c↔Spl p.1 p.2 c/\p.1.any id=true/\p.2.any id=true:=by
 unfold yQ
 rw [BS,mem_splS,Bq]
theorem aA1 {ns:List Int} {c:List Bool} {m:Int} (h:ns.length=c.length) (h1:(zG ns c).length≠1) :
  MetL (zG ns c) m↔∃ p∈yQ c,∃ x y,MetL (zG ns p.1) x/\MetL (zG ns p.2) y/\Deed x y m:=by
 constructor
 ·intro q
  generalize hz:zG ns c=zs at q
  cases q with
  | one _=>rw [hz] at h1; exact absurd rfl h1
  | two mx hx hy m1 m2 d =>
   subst hz
   obtain ⟨a,b,hs,rfl,rfl⟩:=aBP h mx
   have l:=hs.len
   have la:ns.length=a.length:=by lia
   have lb:ns.length=b.length:=by lia
   exact ⟨(a,b),mem_splits.mpr ⟨hs,(qB la).mp hx,(qB lb).mp hy⟩,_,_,m1,m2,d⟩
 ·rintro ⟨p,hp,x,y,m1,m2,d⟩
  obtain ⟨hs,h2,h3⟩:=mem_splits.mp hp
  exact .two (hs.mix ns h) m1.ne m2.ne m1 m2 d
noncomputable def chL:Nat->List (List Bool)
 | 0=>[[]]
 | n + 1=>(chL n).flatMap fun c=>[c++[false],c++[true]]
theorem yq:∀ n,(chL n).length=2 ^ n
 | 0=>rfl
 | n + 1=>by
  have:∀ l:List (List Bool),(l.flatMap fun c=>[c++[false],c++[true]]).length=l.length * 2:=by
   intro l
   induction l with
   | nil=>rfl
   | cons x l ih=>rw [Dv,Al,ih]; show 2 + _=(l.length + 1) * 2; lia
  rw [chL,this,yq n,Nz]
theorem aCl:∀ n,∀ c∈chL n,c.length=n
 | 0,c,h=>by rw [Af.mp h]; rfl
 | n + 1,c,h=>by
  obtain ⟨d,hd,h⟩:=BP.mp h
  have:=aCl n d hd
  simp only [Aq,BI,or_false] at h
  rcases h with rfl | rfl <;> simp [this]
theorem aFZ:∀ (n:Nat) (c:List Bool),c.length=n->c∈chL n
 | 0,c,h=>by rw [EI h]; simp [chL]
 | n + 1,c,h=>by
  have hc:c≠[]:=by intro e; rw [e] at h; cases h
  refine BP.mpr ⟨c.dropLast,aFZ n _ (by simp [h]),?_⟩
  have e:=(GS hc).symm
  cases hb:c.getLast hc
  ·rw [hb] at e; exact Aq.mpr (.inl e)
  ·rw [hb] at e; exact Aq.mpr (.inr (Af.mpr e))
noncomputable def aJU (n:Nat):Bool:=(Bc (2 ^ n)).all fun i=>(yQ ((chL n).getD i [])).all fun p=>((chL n).take i).contains p.1 && ((chL n).take i).contains p.2
theorem aFa:∀ n,n<=4->aJU n=true:=by
 intro n h
 have:n=0\/n=1\/n=2\/n=3\/n=4:=by lia
 rcases this with rfl | rfl | rfl | rfl | rfl <;> decide +kernel
theorem aKp {n i:Nat} {c:List Bool} {p:List Bool×List Bool} (hn:n<=4) (hc:(chL n)[i]?=some c) (hp:p∈yQ c):p.1∈(chL n).take i/\p.2∈(chL n).take i:=by
 have h:=aFa n hn
 have hi:i < 2 ^ n:=by rw [<- yq]; exact (Ao.mp hc).1
 have h2:=CU.mp h i (Cb.mpr hi)
 rw [Do,hc] at h2
 have h3:=CU.mp h2 p hp
 rw [Bq] at h3
 exact ⟨JF.mp h3.1,JF.mp h3.2⟩
theorem aFb:∀ n,n<=4->(chL n).Nodup:=by
 intro n h
 have:n=0\/n=1\/n=2\/n=3\/n=4:=by lia
 rcases this with rfl | rfl | rfl | rfl | rfl <;> decide +kernel
noncomputable def chB (n b:Nat):List Bool:=(Bc n).map fun k=>decide (b / 2 ^ k % 2=1)
theorem jR (n b:Nat):(chB n b).length=n:=by simp [chB]
noncomputable def yI (b:Nat):List Nat:=(Bc b).filter fun m=>decide (0 < m) && decide (m &&& b=m) && decide (m < b - m)
noncomputable def okB (n:Nat):Bool:=(Bc (2 ^ n)).all fun b =>
 ((yQ (chB n b)).all fun p=>(yI b).any fun m=>(decide (p=(chB n m,chB n (b - m))) || decide (p=(chB n (b - m),chB n m)))) &&
 ((yI b).all fun m=>decide ((chB n m,chB n (b - m))∈yQ (chB n b)) && decide (b - m < b))
theorem aFc:∀ n,n<=4->okB n=true:=by
 intro n h
 have:n=0\/n=1\/n=2\/n=3\/n=4:=by lia
 rcases this with rfl | rfl | rfl | rfl | rfl <;> decide +kernel
theorem aGn {n b:Nat} (hn:n<=4) (hb:b < 2 ^ n) {p:List Bool×List Bool} (hp:p∈yQ (chB n b)):∃ m∈yI b,p=(chB n m,chB n (b - m))\/p=(chB n (b - m),chB n m):=by
 have h:=CU.mp (aFc n hn) b (Cb.mpr hb)
 rw [Bq] at h
 have h2:=CU.mp h.1 p hp
 obtain ⟨m,hm,h3⟩:=Fy.mp h2
 rw [Mo,decide_eq_true_eq,decide_eq_true_eq] at h3
 exact ⟨m,hm,h3⟩
theorem aBQ {n b m:Nat} (hn:n<=4) (hb:b < 2 ^ n) (hm:m∈yI b):(chB n m,chB n (b - m))∈yQ (chB n b):=by
 have h:=CU.mp (aFc n hn) b (Cb.mpr hb)
 rw [Bq] at h
 have h2:=CU.mp h.2 m hm
 rw [Bq,decide_eq_true_eq] at h2
 exact h2.1
theorem Spl.swap {a b c:List Bool} (h:Spl a b c):Spl b a c:=by
 induction h with
 | nil=>exact .nil
 | t1 _ ih=>exact .t2 ih
 | t2 _ ih=>exact .t1 ih
 | f _ ih=>exact .f ih
theorem aGo {ns:List Int} {n b:Nat} {m:Int} (hn:n<=4) (hl:ns.length=n) (hb:b < 2 ^ n) (h1:(zG ns (chB n b)).length≠1) :
  MetL (zG ns (chB n b)) m↔∃ v∈yI b,∃ x y,MetL (zG ns (chB n v)) x/\MetL (zG ns (chB n (b - v))) y/\(Deed x y m\/Deed y x m):=by
 rw [aA1 (by rw [jR,hl]) h1]
 constructor
 ·rintro ⟨p,hp,x,y,m1,m2,d⟩
  obtain ⟨v,hv,rfl | rfl⟩:=aGn hn hb hp
  ·exact ⟨v,hv,x,y,m1,m2,.inl d⟩
  ·exact ⟨v,hv,y,x,m2,m1,.inr d⟩
 ·rintro ⟨v,hv,x,y,m1,m2,d | d⟩
  ·exact ⟨_,aBQ hn hb hv,x,y,m1,m2,d⟩
  ·have:=aBQ hn hb hv
   refine ⟨(chB n (b - v),chB n v),?_,y,x,m2,m1,d⟩
   obtain ⟨h1,h2,h3⟩:=mem_splits.mp this
   exact mem_splits.mpr ⟨h1.swap,h3,h2⟩
noncomputable def Keep (S:List Addr) (H H':Hp):Prop:=∀ b o,H b=some o->b ∉ S->H' b=some o
theorem Keep.refl (S:List Addr) (H:Hp):Keep S H H:=fun _ _ h _=>h
theorem Keep.same {S:List Addr} {H H':Hp} (a:Same H H'):Keep S H H':=fun b o h _=>a b o h
theorem Same.new {H:Hp} {p:Addr} {o:HO} (h:H p=none):Same H (L2.upd H p o):=fun b u q=>by rw [zI (zE q h)]; exact q
noncomputable def KT (H H':Hp):Prop:=∀ p xs,H p=some (.tup xs)->H' p=some (.tup xs)
theorem KT.trans {H H1 H2:Hp} (a:KT H H1) (b:KT H1 H2):KT H H2:=fun p xs h=>b p xs (a p xs h)
theorem KT.same {H H':Hp} (a:Same H H'):KT H H':=fun p xs h=>a p _ h
theorem KT.upd {H:Hp} {p:Addr} {o:HO} {ys:List V} (h:H p=some (.lst ys)):KT H (L2.upd H p o):=fun b xs q=>by
 rw [zI]; · exact q
 ·intro e; subst e; rw [h] at q; cases q
theorem qY {α:Type} {xs:List α} {r:Int} (h0:0<=r) (h1:r < (xs.length:Int)):∃ v,atI xs r=some v/\v∈xs:=by
 have hl:r.toNat < xs.length:=by lia
 have e:r=((r.toNat:Nat):Int):=by lia
 have h:atI xs ((r.toNat:Nat):Int)=some xs[r.toNat]:=aHt (Au hl)
 rw [<- e] at h
 exact ⟨xs[r.toNat],h,GF hl⟩
structure Blt (mg:Str->Option Value):Prop where
 len:mg "len"=none
 sum:mg "sum"=none
 range:mg "range"=none
 isinstance:mg "isinstance"=none
 int:mg "int"=none
 str:mg "str"=none
 bool:mg "bool"=none
 tuple:mg "tuple"=none
 zip:mg "zip"=none
noncomputable def aAy (w:Str):Prop:=w="plus"\/w="less"\/w="times"\/w="share"
noncomputable def byE (w:Str) (a b:Int):Sum Str Int :=
 if w="plus" then .inr (a + b) else if w="times" then .inr (a * b) else if w="less" then (if b < a then .inr (a - b) else .inl w) else (if a % b=0 then .inr (a / b) else .inl w)
noncomputable def aGp (K:Ah):Sp:=fun vs H Q _=>∃ (a:Addr) (ns:List Int),vs=[.ref a]/\SqL K H a (ns.map V.int)/\ns.length<=63/\∀ H',Q (.bl true) H'
theorem qi {P:Ap} {w:AT} {K:Ah} {mg:Str->Option Value} {base:Heap} {CX:CXT} {k:Nat} {x:Str} {sp:Sp} {f:Addr} {fd:BL} {ps:List Str} (a:FnOk P w K mg base CX k f fd ps sp) (b:Binds K fd ps []) (c:mg x=some (.ref f)) (d:AQ K (.ref f)=true):Def P w K mg base CX k x sp:=⟨f,fd,ps,a,b,c,d⟩
end Law
namespace L2
open PySem PySem.Spec PyProof.Rows
end L2
namespace Law
open PySem L2 PySem.NumText PyProof.Rows
theorem aFd {α β:Type} (f:α->List β) (m:Nat):∀ l:List α,(∀ x∈l,(f x).length=m)->(l.flatMap f).length=l.length * m
 | [],_=>by simp
 | x :: r,h=>by
  rw [Dv,Al,h x (AL ..),aFd f m r (fun y hy=>h y (AI _ hy)),AY,HG,Nat.add_comm]
theorem aCm {H H':Hp} {α:Type} {R:Hp->V->α->Prop} (kk:∀ v x,R H v x->R H' v x) {vs:List V} {xs:List α} (h:Bm (R H) vs xs):Bm (R H') vs xs:=Paired.mapP h kk
theorem yU {α β:Type} {R:α->β->Prop}:∀ {a:List α} {b:List β} {x:α} {y:β},Bm R a b->R x y->Bm R (a++[x]) (b++[y])
 | _,_,_,_,.nil,h=>.cons h .nil
 | _,_,_,_,.cons p r,h=>.cons p (yU r h)
theorem jl {α β:Type} {R:α->β->Prop}:∀ {a:List α} {b:List β} {i:Nat} {x:α},Bm R a b->a[i]?=some x->∃ y,b[i]?=some y/\R x y
 | _,_,_,_,.nil,e=>by simp at e
 | _,_,0,_,.cons p r,e=>by simp at e; subst e; exact ⟨_,rfl,p⟩
 | _,_,i + 1,x,.cons p r,e=>by
  obtain ⟨y,h1,h2⟩:=jl (i:=i) (x:=x) r (by simpa using e)
  exact ⟨y,by simpa using h1,h2⟩
theorem zT {α:Type} {l:List α} {i:Nat} {x:α} (h:l[i]?=some x):l.take (i + 1)=l.take i++[x]:=by
 rw [Et,h]; rfl
end Law
namespace L2
open PySem PySem.Spec PyProof.Rows
section
variable {κ:Type} [DecidableEq κ]
noncomputable def valV (kvs:List (κ×V)) (k:κ):Option V:=(kvs.find? fun kv=>decide (kv.1=k)).map (·.2)
noncomputable def putK (kvs:List (κ×V)) (k:κ) (v:V):List (κ×V) :=
 if (kvs.any fun kv=>decide (kv.1=k))=true then kvs.map (fun kv=>if kv.1=k then (kv.1,v) else kv) else kvs++[(k,v)]
theorem qJ {p:κ×V} {r:List (κ×V)} {k:κ} (e:p.1=k):valV (p :: r) k=some p.2:=by simp [valV,Cs,e]
theorem qK {p:κ×V} {r:List (κ×V)} {k:κ} (e:¬ p.1=k):valV (p :: r) k=valV r k:=by simp [valV,Cs,e]
theorem aAM (k:κ):∀ kvs:List (κ×V),(kvs.any fun kv=>decide (kv.1=k))=(valV kvs k).isSome
 | []=>rfl
 | p :: r=>by
  rw [GT]
  by_cases e:p.1=k
  ·simp only [qJ e,decide_eq_true e,Bool.true_or,KW]
  ·rw [qK e,decide_eq_false e,Bool.false_or]; exact aAM k r
theorem qZ (kvs:List (κ×V)) (k:κ) (v:V):(putK kvs k v).length<=kvs.length + 1:=by
 unfold putK
 split
 ·rw [Ae]; lia
 ·rw [Al,AY,Fa]; lia
theorem RelO.isSome_eq {o:Option V} {u:Option Value} (r:RelO o u):o.isSome=u.isSome:=by
 cases o with
 | none=>cases u with
  | none=>rfl
  | some _=>exact (show False from r).elim
 | some _=>cases u with
  | none=>exact (show False from r).elim
  | some _=>rfl
theorem KV.val {kvs:List (κ×V)} {vs:List (κ×Value)} (r:KV kvs vs) (k:κ):RelO (valV kvs k) (Lq vs k):=by
 unfold KV at r
 induction r with
 | nil=>exact Dh
 | @cons p q ps qs h t ih =>
  obtain ⟨h1,h2⟩:=h
  by_cases e:p.1=k
  ·have e':q.1=k:=h1.symm.trans e
   have b:Lq (q :: qs) k=some q.2:=by simp [Lq,Cs,e']
   rw [qJ e,b]; exact h2
  ·have e':¬ q.1=k:=fun z=>e (h1.trans z)
   have b:Lq (q :: qs) k=Lq qs k:=by simp [Lq,Cs,e']
   rw [qK e,b]; exact ih
theorem KV.any {kvs:List (κ×V)} {vs:List (κ×Value)} (r:KV kvs vs) (k:κ):(kvs.any fun kv=>decide (kv.1=k))=vs.any fun kv=>decide (kv.1=k):=by
 unfold KV at r
 induction r with
 | nil=>rfl
 | cons h t ih=>rw [GT,GT,ih,h.1]
theorem KV.repl {kvs:List (κ×V)} {vs:List (κ×Value)} (r:KV kvs vs) (k:κ) {y:V} {u:Value} (ry:RelV y u) :
  KV (kvs.map fun kv=>if kv.1=k then (kv.1,y) else kv) (vs.map fun kv=>if kv.1=k then (kv.1,u) else kv):=by
 unfold KV at r ⊢
 induction r with
 | nil=>exact .nil
 | @cons p q ps qs h t ih =>
  rw [Aw,Aw]
  refine .cons ?_ ih
  obtain ⟨h1,h2⟩:=h
  by_cases e:p.1=k
  ·rw [if_pos e,if_pos (h1.symm.trans e)]; exact ⟨h1,ry⟩
  ·rw [if_neg e,if_neg (fun z=>e (h1.trans z))]; exact ⟨h1,h2⟩
theorem KV.put {kvs:List (κ×V)} {vs:List (κ×Value)} (r:KV kvs vs) (k:κ) {y:V} {u:Value} (ry:RelV y u):KV (putK kvs k y) (stored vs k u):=by
 unfold putK stored
 rw [r.any k]
 by_cases e:(vs.any fun kv=>decide (kv.1=k))=true
 ·rw [if_pos e,if_pos e]; exact r.repl k ry
 ·rw [if_neg e,if_neg e]; exact Kx r ⟨rfl,ry⟩
theorem KV.keys {kvs:List (κ×V)} {vs:List (κ×Value)} (r:KV kvs vs):kvs.map (·.1)=vs.map (·.1):=by
 unfold KV at r
 induction r with
 | nil=>rfl
 | cons h t ih=>rw [Aw,Aw,ih,h.1]
theorem KV.length {kvs:List (κ×V)} {vs:List (κ×Value)} (r:KV kvs vs):kvs.length=vs.length:=DK r
end
theorem aID {P:Ap} {w:AT} {k:Key} {u:Value} (r:RelV (kV k) u):(zt P w).is k u=true:=by
 cases k with
 | inl i=>obtain ⟨t,e⟩:=(show ∃ t,u=Ha i t from r); subst e; exact aCP P w i t
 | inr x=>obtain ⟨t,e⟩:=(show ∃ t,u=Mk x t from r); subst e; exact aCQ P w x t
theorem aC2 {P:Ap} {w:AT}:∀ {ks:List Key} {us:List Value},Vals (ks.map kV) us->ItemsAre (zt P w) ks us
 | [],_,r=>by rw [Cu] at r; cases r; exact .nil
 | k :: ks,_,r=>by
  rw [Aw] at r
  cases r with
  | cons h t=>exact .cons (aID h) (aC2 t)
noncomputable abbrev KTd (H:Hp):List (List Key×V)->List (List Key×Addr×Value)->Prop:=Bm fun p q=>p.1=q.1/\H q.2.1=some (.tup (p.1.map kV))/\RelV p.2 q.2.2
theorem KTd.val {H:Hp} {kvs:List (List Key×V)} {xs:List (List Key×Addr×Value)} (r:KTd H kvs xs) (k:List Key):RelO (valV kvs k) ((Gb xs k).map (·.2)):=by
 induction r with
 | nil=>exact Dh
 | @cons p q ps qs h t ih =>
  obtain ⟨h1,_,h2⟩:=h
  by_cases e:p.1=k
  ·have e':q.1=k:=h1.symm.trans e
   have b:Gb (q :: qs) k=some q.2:=by simp [Gb,Cs,e']
   rw [qJ e,b]; exact h2
  ·have e':¬ q.1=k:=fun z=>e (h1.trans z)
   have b:Gb (q :: qs) k=Gb qs k:=by simp [Gb,Cs,e']
   rw [qK e,b]; exact ih
theorem KTd.repl {H:Hp} {kvs:List (List Key×V)} {xs:List (List Key×Addr×Value)} (r:KTd H kvs xs) (k:List Key) {y:V} {u:Value} (ry:RelV y u) :
  KTd H (kvs.map fun kv=>if kv.1=k then (kv.1,y) else kv) (xs.map (IJ k u)):=by
 induction r with
 | nil=>exact .nil
 | @cons p q ps qs h t ih =>
  rw [Aw,Aw]
  refine .cons ?_ ih
  obtain ⟨h1,h2,h3⟩:=h
  unfold IJ
  by_cases e:p.1=k
  ·rw [if_pos e,if_pos (h1.symm.trans e)]; exact ⟨h1,h2,ry⟩
  ·rw [if_neg e,if_neg (fun z=>e (h1.trans z))]; exact ⟨h1,h2,h3⟩
theorem KTd.put {H:Hp} {kvs:List (List Key×V)} {xs:List (List Key×Addr×Value)} (r:KTd H kvs xs) (k:List Key) {b:Addr} {y:V} {u:Value} (hb:H b=some (.tup (k.map kV))) (ry:RelV y u) :
  KTd H (putK kvs k y) (ES xs k b u):=by
 have e:(kvs.any fun kv=>decide (kv.1=k))=(Gb xs k).isSome:=by
  rw [aAM,(r.val k).isSome_eq,Im]
 unfold putK ES
 rw [e]
 by_cases q:(Gb xs k).isSome=true
 ·rw [if_pos q,if_pos q]; exact r.repl k ry
 ·rw [if_neg q,if_neg q]; exact Kx r ⟨rfl,hb,ry⟩
theorem KTd.keeps {H H':Hp} {kvs:List (List Key×V)} {xs:List (List Key×Addr×Value)} (r:KTd H kvs xs) (ht:∀ b ys,H b=some (.tup ys)->H' b=some (.tup ys)):KTd H' kvs xs :=
 Paired.mapP r fun _ _ z=>⟨z.1,ht _ _ z.2.1,z.2.2⟩
section
variable {P:Ap} {w:AT} {H:Hp} {h:Heap} {a:Addr}
theorem aJV {u:HO} (ok:HOk P w H h) (e:Rd H a u):ObjOk P w H h a u:=e.ok ok
theorem aFe {kvs:List (Key×V)} (ok:HOk P w H h) (e:Rd H a (.dK kvs)):kvs.length<=sizeLine/\(a == Bx)=false/\∃ vs,KV kvs vs/\h.DictOf (zt P w) a vs :=
 show ObjOk P w H h a (.dK kvs) from aJV ok e
theorem aKq {kvs:List (Key×V)} (ok:HOk P w H h) (e:H a=some (.dK kvs)):kvs.length<=sizeLine/\(a == Bx)=false/\∃ vs,KV kvs vs/\h.DictOf (zt P w) a vs:=aFe ok (.inl e)
theorem aFf {ks:List Key} (ok:HOk P w H h) (e:H a=some (.tup (ks.map kV))):(BV (zt P w)).is h ks a:=by
 obtain ⟨_,its,r,o,h1,h2,n,h3⟩:=(show ObjOk P w H h a (.tup (ks.map kV)) from ok a _ e)
 exact ⟨o,its.toArray,n,h1,h2,h3,by simpa using aC2 r⟩
theorem aIE {kvs:List (List Key×V)} (ok:HOk P w H h) (e:Rd H a (.dT kvs)):kvs.length<=sizeLine/\(a == Bx)=false /\
  ∃ xs,KTd H kvs xs/\h.DictOfH (BV (zt P w)) a xs:=by
 obtain ⟨z,y,xs,r,o,es,ep,h1,h2,h3,h4,h5⟩:=(show ObjOk P w H h a (.dT kvs) from aJV ok e)
 refine ⟨z,y,xs,r,o,es,ep,h1,h2,h3,h4,fun x hx=>?_,h5⟩
 have all:∀ {l:List (List Key×V)} {m:List (List Key×Addr×Value)},KTd H l m->∀ x∈m,(BV (zt P w)).is h x.1 x.2.1:=by
  intro l m q
  induction q with
  | nil=>intro x hx; exact nomatch hx
  | @cons p q ps qs hq t ih =>
   intro x hx
   rcases Aq.mp hx with e | hx
   ·subst e
    exact aFf ok (by rw [<- hq.1]; exact hq.2.1)
   ·exact ih x hx
 exact all r x hx
theorem aKr {kvs:List (List Key×V)} (ok:HOk P w H h) (e:H a=some (.dT kvs)):kvs.length<=sizeLine/\(a == Bx)=false /\
  ∃ xs,KTd H kvs xs/\h.DictOfH (BV (zt P w)) a xs:=aIE ok (.inl e)
end
noncomputable def DGet (H:Hp) (a:Addr) (y:V) (r:Option V):Prop :=
 (∃ kvs k,Rd H a (.dK kvs)/\y=kV k/\r=valV kvs k)\/∃ kvs k b,Rd H a (.dT kvs)/\y=.ref b/\H b=some (.tup (k.map kV))/\r=valV kvs k
noncomputable def DPut (H:Hp) (a:Addr) (y v:V) (H':Hp):Prop :=
 (∃ kvs k,H a=some (.dK kvs)/\y=kV k/\kvs.length < sizeLine/\H'=upd H a (.dK (putK kvs k v))) \/
 ∃ kvs k b,H a=some (.dT kvs)/\y=.ref b/\H b=some (.tup (k.map kV))/\kvs.length < sizeLine/\H'=upd H a (.dT (putK kvs k v))
theorem DGet.k {H:Hp} {a:Addr} {kvs:List (Key×V)} {k:Key} (e:H a=some (.dK kvs)):DGet H a (kV k) (valV kvs k):=.inl ⟨kvs,k,.inl e,rfl,rfl⟩
theorem DPut.k {H:Hp} {a:Addr} {kvs:List (Key×V)} {k:Key} {v:V} (e:H a=some (.dK kvs)) (hl:kvs.length < sizeLine):DPut H a (kV k) v (upd H a (.dK (putK kvs k v))):=.inl ⟨kvs,k,e,rfl,hl,rfl⟩
section
variable {X:Cx} {pins:List (Addr×Obj)} {σ:St} {H:Hp} {s:Ad} {a:Addr} {y v:V} {u r:Value} {o:Option V} {A:AR} {E:Value->Ad->Prop}
theorem Inv.big (I:Inv X pins σ H s):Bx < s.heap.objs.size:=by
 have h:AK < s.heap.objs.size:=(I.mod.glob.keeps I.bk).lt
 exact HC (by decide) h
theorem aFg {Q:Value->Ad->Prop} (hu:A.units + 1 < cLine) (I:Inv X pins σ H s) (g:DGet H a y (some v)) (ry:RelV y u) (h:∀ w' s',Inv X pins σ H s'->RelV v w'->Q w' s') :
  Ax (AC X.prog X.w) A (Gk (.ref a) u) Q E s:=by
 rcases g with ⟨kvs,k,e,ey,l⟩ | ⟨kvs,k,b,e,ey,eb,l⟩
 ·subst ey
  obtain ⟨z,hd,vs,rel,dd⟩:=aFe I.hok e
  obtain ⟨w',hw,rw'⟩:=RelO.some_of (v:=v) (o:=Lq vs k) (by rw [l]; exact rel.val k)
  exact wpAny_getItem_of (aID ry) dd.mapOf hw (h w' _ (I.tok _) rw')
 ·subst ey
  cases (show u=Value.ref b from ry)
  obtain ⟨z,hd,xs,rel,dd⟩:=aIE I.hok e
  obtain ⟨w',hw,rw'⟩:=RelO.some_of (v:=v) (o:=(Gb xs k).map (·.2)) (by rw [l]; exact rel.val k)
  obtain ⟨p,hp,hp2⟩:=DZ.mp hw
  refine HH (Dg hu) (aFf I.hok eb) dd hp ?_
  rw [hp2]
  exact h w' _ (I.tok _) rw'
theorem aFh {h':Heap} {t':Nat} {ob:HO} (I:Inv X pins σ H s) (mu:Mut (H a)) (hs:Ch a s.heap h') (he:∃ q,h'.get? a=some q) (new:ObjOk X.prog X.w (upd H a ob) h' a ob) :
  Inv X pins σ (upd H a ob) { s with heap:=h',toks:=t' } :=
 I.write (x:=a) (e:=a) mu (.inl rfl) (fun b q hb z=>(hs.2 b hb).trans z) he new
theorem aJW {P:Ap} {w:AT} {H':Hp} {h':Heap} {kvs:List (Key×V)} {vs:List (Key×Value)} (z:kvs.length<=sizeLine) (hd:(a == Bx)=false) (rel:KV kvs vs) (dd:h'.DictOf (zt P w) a vs) :
  ObjOk P w H' h' a (.dK kvs):=⟨z,hd,vs,rel,dd⟩
theorem aFi {H':Hp} {Q:Unit->Ad->Prop} (hu:A.units + 1 < cLine) (I:Inv X pins σ H s) (g:DPut H a y v H') (ry:RelV y u) (rv:RelV v r) (h:∀ s',Inv X pins σ H' s'->Q () s') :
  Ax (AC X.prog X.w) A (setItem (.ref a) u r) Q E s:=by
 rcases g with ⟨kvs,k,e,ey,l,eH⟩ | ⟨kvs,k,b,e,ey,eb,l,eH⟩
 ·subst ey eH
  obtain ⟨z,hd,vs,rel,dd⟩:=aKq I.hok e
  have hz:vs.length<=sizeLine:=by rw [<- rel.length]; exact z
  have hl:(putK kvs k v).length<=sizeLine:=by have:=qZ kvs k v; lia
  refine wpAny_setItem_pairs (hsz:=hz) (aID ry) dd fun h' dd' hs=>h _ ?_
  have he:∃ q,h'.get? a=some q:=let ⟨q,_,_,hq,_⟩:=dd'; ⟨q,hq⟩
  exact aFh I (by rw [e]; exact Dh) hs he (aJW hl hd (rel.put k rv) dd')
 ·subst ey eH
  cases (show u=Value.ref b from ry)
  obtain ⟨z,hd,xs,rel,dd⟩:=aKr I.hok e
  have hz:xs.length<=sizeLine:=by rw [<- DK rel]; exact z
  have hl:(putK kvs k v).length<=sizeLine:=by have:=qZ kvs k v; lia
  refine HI (hsz:=hz) (Dg hu) (aFf I.hok eb) dd fun h' dd' hs=>h _ ?_
  obtain ⟨q,es,ep,hq,h2,h3,h4,_,h5⟩:=dd'
  refine aFh I (by rw [e]; exact Dh) hs ⟨q,hq⟩ ⟨hl,hd,_,(rel.put k eb rv).keeps fun c ys ec=>?_,q,es,ep,hq,h2,h3,h4,h5⟩
  rw [zI (aKQ ec e (fun z=>nomatch z))]
  exact ec
end
section
variable {X:Cx} {pins:List (Addr×Obj)} {σ:St} {H:Hp} {s:Ad} {a:Addr} {kvs:List (Key×V)} {k:Key} {u:Value} {A:AR} {E:Value->Ad->Prop}
end
noncomputable def NoSl (i:Expr):Prop:=∀ ov iv,Ko i false ov iv=operate [ov,iv] (Gk ov iv)
theorem aCn {prog:Ap} {w:AT} {A:AR} {E:Value->Ad->Prop} {s:Ad} {env:Env} {value slice:Expr} {pos:Pos} {T id:String} {Q:Value->Ad->Prop}
    (hl:HZ (.type T) "__getitem__"=pure (some (.builtin id))) (hs:NoSl slice)
    (h:Ax (AC prog w) A (eval value env) (fun o s₁=>Ax (AC prog w) A (eval slice env) (fun i s₂=>s₂.TypeIs o T/\Ax (AC prog w) A (Gk o i) Q E s₂) E s₁) E s) :
    Ax (AC prog w) A (eval (.Subscript value slice pos) env) Q E s:=by
  refine JL (BJ h (fun o s₁ h₁=>BJ h₁ (fun i s₂ h₂=>?_) fun _ _ x=>x) fun _ _ x=>x)
  obtain ⟨hT,h₂⟩:=h₂
  unfold KN
  refine Aa ?_
  rw [getitemInPython_of_ne hT.not_modules]
  refine Aa (Fd hT hl ?_)
  have fin:Ax (AC prog w) A (Ko slice false o i) (fun r s₃=>Ax (AC prog w) A (letTemporaryGo value o r >>= fun _=>pure r) Q E s₃) E s₂:=by
    rw [hs o i]
    exact wpAny_operating (BJ h₂ (fun r s₃ h₃=>Aa (wpAny_letTemporaryGo (Ab h₃))) fun _ _ x=>x)
  first
    | exact Ab (Aa fin)
    | exact Aa (Ab (Aa fin))
    | exact Aa fin
theorem aCo {X:Cx} {pins:List (Addr×Obj)} {σ:St} {H:Hp} {s:Ad} {a:Addr} {y:V} {o:Option V} (I:Inv X pins σ H s) (g:DGet H a y o):s.TypeIs (.ref a) "dict":=by
 rcases g with ⟨kvs,k,e,_,_⟩ | ⟨kvs,k,b,e,_,_,_⟩
 ·obtain ⟨_,_,vs,_,dd⟩:=aFe I.hok e
  exact dd.typeIs
 ·obtain ⟨_,_,xs,_,dd⟩:=aIE I.hok e
  exact dd.typeIs
noncomputable def aKs (td ty:TE):TE:=fun σ H Q=>td σ H fun x H1=>ty σ H1 fun y H2=>∃ a v,x=.ref a/\DGet H2 a y (some v)/\Q v H2
noncomputable def aKt (td ty tv:TE):TS:=fun D σ H=>tv σ H fun v H1=>td σ H1 fun x H2=>ty σ H2 fun y H3=>∃ a H4,x=.ref a/\DPut H3 a y v H4/\D.nx σ H4
section
variable {X:Cx} {o i e value:Expr} {pos pos' tpos:Pos} {td ty tv:TE}
theorem aCp (hu:X.A.units + 1 < cLine) (ho:PE X o td) (hi:PE X i ty) (hs:NoSl i):PE X (.Subscript o i pos) (aKs td ty):=by
 intro pins s σ H Q I h
 refine aCn Fw.lookup hs (thn (ho pins s σ H _ I h) fun u s1 ⟨x,H1,I1,rx,q1⟩=>thn (hi pins s1 σ H1 _ I1 q1) fun iv s2 ⟨y,H2,I2,ry,a,v,ex,g,q2⟩=>?_)
 subst ex
 obtain rfl:u=Value.ref a:=rx
 exact ⟨aCo I2 g,aFg hu I2 g ry fun w' s3 I3 rw'=>⟨v,H2,I3,rw',q2⟩⟩
theorem aCq (hu:X.A.units + 1 < cLine) (ho:PE X o td) (hi:PE X i ty) (hv:PE X value tv) (hs:Gr value (some (.Subscript o i pos')) pos.line X.env=pure false) :
  PS X (.Assign [.Subscript o i pos'] value pos) (aKt td ty tv):=by
 intro pins s σ H D I h
 refine Gi (thn (hv pins s σ H _ I h) fun r s1 ⟨v,H1,I1,rv,q1⟩=>thn (ho pins s1 σ H1 _ I1 q1) fun u s2 ⟨x,H2,I2,rx,q2⟩=>thn (hi pins s2 σ H2 _ I2 q2) fun iv s3 ⟨y,H3,I3,ry,a,H4,ex,g,q3⟩=>?_) hs
 subst ex
 obtain rfl:u=Value.ref a:=rx
 exact aFi hu I3 g ry rv fun s4 I4=>⟨σ,H4,I4,q3⟩
end
theorem aGq {P:Ap} {w:AT} {H:Hp} (h:Heap) (hb:Bx < h.objs.size):ObjOk P w H (h.push { cls:=.type "dict",data:=.dict #[] }) h.objs.size (.dK []) :=
 ⟨AS _,beq_eq_false_iff_ne.mpr (CB (AE hb)),[],.nil,Heap.DictOf.new h⟩
noncomputable def aJX:TE:=fun _ H Q=>∀ p,H p=none->Q (.ref p) (upd H p (.dK []))
section
variable {X:Cx} {pos:Pos}
theorem aDW:PE X (.Dict [] [] pos) aJX:=fun pins s σ H Q I h =>
 LS ⟨.ref s.heap.objs.size,_,I.laid (a:=s.heap.objs.size) (o:=.dK []) (t':=s.toks) (fun _ _ q=>Ac _ q) (Ai _) (aGq s.heap I.big),rfl,h _ (I.hok.fresh (Ai _))⟩
end
structure M1 (X:Cx) (o:Expr) (m:Str) (apos:Pos) (e:Expr) (cpos:Pos):Prop where
 base:IA o m X.env (eval o X.env)=eval o X.env
 few:((FJ cpos (Bk [e] X.env)).all (fun x=>!x.1) && (MY cpos (Kp [] X.env)).all (fun x=>x.1.isSome)
  && decide (([e]:List Expr).length + ([]:List Jk).length + (if ([]:List Jk).isEmpty then 0 else 1) < 30))=true
 line:(apos.endLine == cpos.line)=true
 trees:FJ cpos (Bk [e] X.env)=[(false,eval e X.env)]
section
variable {X:Cx} {pins:List (Addr×Obj)} {σ:St} {H:Hp} {s:Ad} {a:Addr} {y d:V} {u r:Value} {o:Option V} {A:AR} {E:Value->Ad->Prop}
end
section
variable {X:Cx} {o e f:Expr} {apos cpos:Pos} {td ty tx:TE}
end
section
variable {X:Cx} {pins:List (Addr×Obj)} {σ:St} {H:Hp} {s:Ad} {a:Addr} {kvs:List (Key×V)} {A:AR} {E:Value->Ad->Prop}
end
section
variable {X:Cx} {pins:List (Addr×Obj)} {σ:St} {H:Hp} {s:Ad} {a:Addr} {y:V} {u:Value} {A:AR} {E:Value->Ad->Prop}
end
section
variable {κ:Type} [DecidableEq κ]
end
theorem aFj {k:Key} {u:Value} (h:aCO k u=true):RelV (kV k) u:=by
 rcases zp h with ⟨i,t,rfl,rfl⟩ | ⟨x,t,rfl,rfl⟩
 ·exact ⟨t,rfl⟩
 ·exact ⟨t,rfl⟩
section
variable {X:Cx} {pins:List (Addr×Obj)} {σ:St} {H:Hp} {s:Ad}
theorem Inv.frozen {d:Addr} {o:Obj} {kvs:List (Key×V)} (I:Inv X pins σ H s) (e:H d=some (.dK kvs)) (ho:s.heap.get? d=some o):Inv X pins σ (upd H d (.frz o (.dK kvs))) s:=by
 have ne:∀ b u,H b=some u->u≠.dK kvs->b≠d:=fun b u eb hu z=>by rw [z,e] at eb; cases eb; exact hu rfl
 refine I.step (h':=s.heap) (g':=s.gens) (d':=s.drawn) (t':=s.toks) (ch:=[]) (fun _ z=>nomatch z) (fun b o _ _ _ e _=>e) (fun b o _ _ _ e _=>⟨o.slots,e⟩) (fun b ob _ _ n=>?_) (fun b o _ e=>⟨o,e⟩) (fun b xs eb=>?_) (fun b ob u eb=>?_) (fun b ps eb=>⟨#[],?_⟩) (fun m hm=>hm) (fun b u eb=>?_) I.bare
 ·rw [zI (fun z=>by rw [z,e] at n; cases n)]; exact n
 ·rw [zI (ne b _ eb (by intro z; cases z))]; exact eb
 ·rw [zI (ne b _ eb (by intro z; cases z))]; exact eb
 ·rw [zI (ne b _ eb (by intro z; cases z)),eb]; simp
 ·by_cases hb:b=d
  ·subst hb
   rw [zB] at eb
   cases eb
   exact ⟨ho,I.hok b _ e⟩
  ·rw [zI hb] at eb
   refine (I.hok b u eb).stay (fun c v' _ r=>r) (fun c r=>?_) fun c xs r=>?_
   ·rw [zI (ne c _ r (by intro z; cases z))]; exact r
   ·rw [zI (ne c _ r (by intro z; cases z))]; exact r
end
theorem KV.get {kvs:List (Key×V)} {vs:List (Key×Value)} (r:KV kvs vs) {i:Nat} {k:Key} {x:V} (h:kvs[i]?=some (k,x)):∃ u,vs[i]?=some (k,u)/\RelV x u:=by
 unfold KV at r
 revert i
 induction r with
 | nil=>intro i h; simp at h
 | cons a b ih =>
  intro i h
  cases i with
  | zero =>
   simp at h
   subst h
   obtain ⟨a1,a2⟩:=a
   rename_i y _ _
   obtain ⟨y1,y2⟩:=y
   simp only at a1 a2
   subst a1
   exact ⟨y2,rfl,a2⟩
  | succ i =>
   obtain ⟨u,h1,h2⟩:=ih (by simpa using h)
   exact ⟨u,by simpa using h1,h2⟩
section
variable {X:Cx}
end
end L2
namespace L2
open PySem PySem.Spec PyProof.Rows PySem.W
section
variable {prog:Ap} {w:AT} {A:AR} {E:Value->Ad->Prop} {s:Ad}
theorem aFk {a:Addr} {vs:List (Key×Value)} {ks:List Int} {Q:List Value->Ad->Prop} (hh:A.handled=none) (hsys:(a == Bx)=false) (hd:s.heap.DictOf (zt prog w) a vs) (hk:vs.map (·.1)=ks.map Sum.inl) (hz:vs.length<=900000)
  (q:∀ (us:List Value) (ms:List Int) (g:Heap) (tk:Nat) (d':MX),Gm us ms->ms.Perm ks->(∀ b o,s.heap.get? b=some o->g.get? b=some o)->s.heap.objs.size < g.objs.size->Q us { s with heap:=g,toks:=tk,drawn:=d' }) :
  Ax (AC prog w) A (Ju (.ref a)) Q E s:=by
 obtain ⟨o,es,ep,ho,rest⟩:=hd
 have szl:=AW
 unfold Ju
 refine Aa (HR (Cr Ft ?_))
 show Ax _ _ (do KG (.builtin "list.__iadd__" ⟨[<- Mr [],.ref a],[]⟩)) _ _ s
 have ne:s.heap.objs.size≠a:=Ci (An ho)
 refine Aa (Ed (Ab ⟨DF _ (by decide +kernel),aHW (s:={ s with heap:=s.heap.push (BX "list" #[] 0) }) (kdl_dict (knd:=zt prog w) (kvs:=vs) (ep:=ep) hsys) hh ⟨o,es,Ac _ ho,rest⟩ ne ne (Ak _ rfl) (by lia) fun h' tk acc' c' k hS' hacc=>?_⟩))
 show Ax _ _ (load s.heap.objs.size >>= _) Q E _
 refine Aa (GW hS' (Ab ?_))
 obtain ⟨sz,it⟩:=hacc
 have hl:vs.length=ks.length:=by have:=congrArg Ix hk; simpa using this
 have v1:∀ (n:Nat),n<=ks.length->Vals ((ks.take n).map V.int) (acc'.toList.take n):=by
  intro n
  induction n with
  | zero=>intro _; rw [CQ,CQ]; exact .nil
  | succ n ih =>
   intro hn
   have en:acc'[n]?=some acc'[n]:=Am (by lia)
   obtain ⟨ky,x,e1,e2⟩:=it n _ en
   obtain ⟨kn,hkn⟩:∃ kn,ks[n]?=some kn:=⟨ks[n],Au (by lia)⟩
   have e3:(vs.map (·.1))[n]?=(ks.map Sum.inl)[n]?:=by rw [hk]
   rw [Bh,Bh,e1,hkn] at e3
   have e4:ky=Sum.inl kn:=by simpa using e3
   subst e4
   have r:=aFj (k:=Sum.inl kn) e2
   have en':acc'.toList[n]?=some acc'[n]:=by rw [Br]; exact en
   rw [Et,Et,hkn,en',AN]
   exact jP (ih (by lia)) (.cons r .nil)
 have v2:=v1 ks.length (Ai _)
 have al:acc'.toList.length=ks.length:=by rw [AA]; lia
 rw [AZ,ER (by lia)] at v2
 refine q acc'.toList ks h' tk s.drawn (jt v2) (Dy _) (fun b ob e=>k b ob (fun z=>?_) (Ac _ e)) (An hS')
 rw [z] at e
 exact absurd (An e) (BM _)
end
section
variable {X:Cx}
theorem aCr (hc:X.calm=true):qL X (.builtin "sorted") (fun xs H Q=>∃ (d:Addr) (kvs:List (Key×V)) (ks:List Int),xs=[.ref d]/\Rd H d (.dK kvs)/\kvs.map (·.1)=ks.map Sum.inl/\kvs.length<=900000 /\
  ∀ (p:Addr) (ms:List Int) (H':Hp),Same H H'->H' p=some (.lst (ms.map V.int))->ms.Pairwise (· < ·)->(∀ m,m∈ms↔m∈ks)->Q (.ref p) H'):=by
 intro pins s σ H xs us Q I r h
 obtain ⟨d,kvs,ks,rfl,rd,hk,hz,q⟩:=h
 obtain ⟨u,rfl,rx⟩:=qm r
 cases rx
 obtain ⟨z,hsys,vs,rel,dd⟩:=aFe I.hok rd
 have hk':vs.map (·.1)=ks.map Sum.inl:=by rw [<- rel.keys]; exact hk
 have hl:kvs.length=vs.length:=rel.length
 have hkl:vs.length=ks.length:=by have:=congrArg Ix hk'; simpa using this
 have hnd:ks.Nodup:=by
  obtain ⟨_,_,_,_,_,_,_,_,nd⟩:=dd
  rw [hk'] at nd
  exact (List.pairwise_map.mp nd).imp fun hne z=>hne (by rw [z])
 refine aAc (C:=fun ms=>ms.Perm ks) (fun Q2 E2 hq=>aFk (I.ok.hd hc) hsys dd hk' (by lia) hq) (fun ms hp=>by have:=hp.length_eq; lia) fun out ms ms' g e tk2 d' pp hC a1 a2 a3 k1 hp at1=>?_
 have hf:H pp=none:=I.hok.fresh hp
 have hpm:=a2.trans hC
 have l2:=hpm.length_eq
 have I3:Inv X pins σ (upd H pp (.lst (ms'.map V.int))) { s with heap:=g,toks:=tk2 }:=I.laid (t':=tk2) k1 hp ⟨by rw [Ae,AW]; lia,out.toList,e,qP a1,at1⟩
 refine ⟨.ref pp,upd H pp (.lst (ms'.map V.int)),I3.drew d',rfl,q _ ms' _ (fun b o e=>by rw [zI (zE e hf)]; exact e) zB (aBy a3 (hpm.nodup_iff.mpr hnd)) fun m=>hpm.mem_iff⟩
end
end L2
namespace HT
open PySem PySem.Spec PyProof.Rows
section
variable {prog:Ap} {w:AT} {A:AR} {E:Value->Ad->Prop} {s:Ad}
end
end HT
namespace L2
open PySem PySem.Spec PyProof.Rows
variable {X:Cx}
end L2
namespace L2
open PySem PySem.Spec PyProof.Rows
noncomputable def Itk (d:Addr) (o:Obj) (kvs:List (Key×V)):It :=
  ⟨fun i H=>H d=some (.frz o (.dK kvs))/\i < kvs.length,
   fun i H v H'=>H'=H/\∃ k x,v=kV k/\kvs[i]?=some (k,x),
   fun i H=>H d=some (.frz o (.dK kvs))/\kvs.length<=i⟩
theorem qN {prog:Ap} {w:AT} {A:AR} {E:Value->Ad->Prop} {s:Ad} {it d:Addr} {i n ep:Nat} {Q:Value->Ad->Prop} (hit:s.heap.IsKeyIter it d i n ep) (h:Q (.ref it) s):Ax (AC prog w) A (Jj (.ref it)) Q E s:=by
 refine Eu hit.typeIs FN (AU FN hit.typeIs PySem.F.entry_dict_keyiterator_iter ?_ (PySem.F.args_dict_keyiterator_iter_1 _))
 show Ax _ _ (ret (.ref it)) _ _ s
 exact Ab ⟨_,rfl,"dict_keyiterator",_,hit.typeIs,PySem.F.slot_dict_keyiterator_next.lookup,h⟩
theorem aFl {P:Ap} {w:AT} {K:Ah} {tg:Expr} {d it:Addr} {o:Obj} {kvs:List (Key×V)} {de:Array CP} {ep:Nat} (hd:o.data=.dict de ep) (hne:d≠it) :
  Turn P w K tg (Itk d o kvs) [it] it (fun i h=>h.IsKeyIter it d i kvs.length ep) where
 mem:=by simp
 obj:=fun i h st b hb=>by
  obtain ⟨oi,a1,a2,a3⟩:=st
  rw [Af.mp hb]
  exact ⟨_,a1,fun v e=>by rw [a3] at e; cases e⟩
 keep:=fun i h h' st kp=>by
  obtain ⟨oi,a1,a2⟩:=st
  exact ⟨oi,kp it (by simp) _ a1,a2⟩
 item:=by
  intro X hP hw hK hc k pins s σ H E I hf st hg
  subst hP hw hK
  obtain ⟨hfz,hlt⟩:=hg
  obtain ⟨hgo,z,hsm,vs,rel,o2,es2,ep2,e2,c2,d2,k2,p2,n2⟩:=I.hok d _ hfz
  rw [hgo] at e2; cases e2
  rw [hd] at d2; cases d2
  obtain ⟨⟨ky,x⟩,hx⟩:∃ p,kvs[k]?=some p:=⟨kvs[k],Au hlt⟩
  obtain ⟨u,hu,ru⟩:=rel.get hx
  have hl:kvs.length=vs.length:=rel.length
  rw [hl] at st
  refine Jc (knd:=zt X.prog X.w) st ⟨_,_,hgo,c2,hd,k2,p2,n2⟩ hu fun key g hk hit' sb=>⟨_,rfl,?_⟩
  have fi:=hf it (by simp)
  obtain ⟨o3,q1,q2,q3⟩:=id hit'
  refine aET q1 q2 q3 (by decide) ?_
  refine ⟨kV ky,H,I.turned (t':=s.toks) (fun b o nb e=>by rw [sb.2 b nb]; exact e) fi.1 fi.2.1 fi.2.2.2.1 fi.2.2.2.2.1 fi.2.2.2.2.2,aFj hk,⟨rfl,ky,x,rfl,hx⟩,by rw [hl]; exact hit',fun b hb=>?_⟩
  rw [Af.mp hb]; exact fi.1
 done:=by
  intro X hP hw hK hc k pins s σ H E I hf st hg
  subst hP hw hK
  obtain ⟨hfz,hend⟩:=hg
  obtain ⟨hgo,z,hsm,vs,rel,o2,es2,ep2,e2,c2,d2,k2,p2,n2⟩:=I.hok d _ hfz
  rw [hgo] at e2; cases e2
  rw [hd] at d2; cases d2
  have hl:kvs.length=vs.length:=rel.length
  rw [hl] at st
  refine JG (knd:=zt X.prog X.w) (I.ok.hd hc) st ⟨_,_,hgo,c2,hd,k2,p2,n2⟩ (CC (by lia)) fun g eb=>⟨rfl,?_⟩
  have fi:=hf it (by simp)
  exact I.turned (t':=s.toks) (fun b o nb e=>eb b o nb e) fi.1 fi.2.1 fi.2.2.2.1 fi.2.2.2.2.1 fi.2.2.2.2.2
 self:=fun A i s Q E st h=>qN st h
section
variable {X:Cx} {tg:Expr}
noncomputable def aJY (to:TE):TI:=fun σ H R=>to σ H fun x H1=>∃ (d:Addr) (kvs:List (Key×V)),x=.ref d/\((H1 d=some (.dK kvs)/\∀ o,R (Itk d o kvs) (upd H1 d (.frz o (.dK kvs))))\/∃ o,H1 d=some (.frz o (.dK kvs))/\R (Itk d o kvs) H1)
theorem aGr {e:Expr} {te:TE} (he:PE X e te):PI X tg e (aJY te):=by
 intro pins s σ H R I h
 refine thn (he pins s σ H _ I h) fun v s1 ⟨y,H1,I1,r1,d,kvs,ey,q⟩=>?_
 subst ey
 cases r1
 have rd:Rd H1 d (.dK kvs):=by
  rcases q with ⟨q,_⟩ | ⟨o,q,_⟩
  ·exact .inl q
  ·exact .inr ⟨o,q⟩
 obtain ⟨z,hsys,vs,rel,o,es1,ep,e1,ex,e2,e3⟩:=aFe I1.hok rd
 obtain ⟨H2,I2,fz,r⟩:∃ H2,Inv X pins σ H2 s1/\H2 d=some (.frz o (.dK kvs))/\R (Itk d o kvs) H2:=by
  rcases q with ⟨q,r⟩ | ⟨o',q,r⟩
  ·exact ⟨_,I1.frozen q e1,zB,r o⟩
  ·have:o'=o:=by
    have:=(I1.hok d _ q).1
    rw [e1] at this; cases this; rfl
   subst this
   exact ⟨H1,I1,q,r⟩
 refine Lr (knd:=zt X.prog X.w) (kvs:=vs) (ep:=ep) hsys ⟨o,es1,e1,ex,e2,e3⟩ ?_
 refine ⟨_,_,_,_,H2,rfl,I2.kept (t':=s1.toks) fun b o e=>Ac _ e,aFl (o:=o) (kvs:=kvs) e2 (AE (An e1)),⟨_,Ak _ rfl,rfl,?_⟩,fun b hb=>?_,r⟩
 ·rw [rel.length]; rfl
 ·have e:b=s1.heap.objs.size:=by simpa using hb
  subst e
  exact I2.fpOk (Ai _) (I2.hok.fresh (Ai _))
end
noncomputable def isBl (b:Bool) (v:Value):Bool:=match v with | .bool c=>c == b | _=>false
theorem yr {b:Bool} {v:Value} (h:isBl b v=true):v=.bool b:=by
 cases v <;> simp_all [isBl]
theorem aIF (b:Bool):isBl b (.bool b)=true:=by simp [isBl]
theorem aGs (v:Value) (a b:Bool) (ha:isBl a v=true) (hb:isBl b v=true):a=b:=by
 have h1:=yr ha
 have h2:=yr hb
 rw [h1] at h2
 injection h2
section
variable {prog:Ap} {w:AT} {A:AR} {E:Value->Ad->Prop} {s:Ad}
theorem aFm {b:Bool} {Q:Int->Ad->Prop} (h:Q (if b=true then 1 else 0) { s with toks:=s.toks + 1 }):Ax (AC prog w) A (pyHash (.bool b)) Q E s:=by
 have hT:s.TypeIs (.bool b) "bool":=rfl
 unfold pyHash
 have hv:[Value.bool b].any Value.onHeap=false:=rfl
 refine Aa ?_
 rw [cRoomFor,if_neg (by rw [hv]; exact As)]; refine Ab ?_
 refine Aa (Fd hT ET.lookup ?_)
 show Ax _ _ (if (some (Ni "int.__hash__") == some Cy)=true then _ else _) Q E s
 rw [if_neg (by rw [beq_builtin_none]; exact As)]
 refine Aa (Fd hT ET.lookup ?_)
 show Ax _ _ (callSpecialIfBoundUnlessNone? (.bool b) "__hash__" _ >>= _) Q E s
 refine Aa (wpAny_callSpecialIfBoundUnlessNone?_slot hT ET
  (AU ET hT entry_int_hash ?_ (args_int_hash _)))
 cases b
 ·exact (show Ax _ _ (do ret (<- mkInt 0)) _ _ s from Aa (wpAny_mkInt (Ab ⟨_,rfl,Ab h⟩)))
 ·exact (show Ax _ _ (do ret (<- mkInt 1)) _ _ s from Aa (wpAny_mkInt (Ab ⟨_,rfl,Ab h⟩)))
theorem aC3 {a b:Bool} {Q:Bool->Ad->Prop} (h:Q (decide (a=b)) s):Ax (AC prog w) A (eqBool (.bool a) (.bool b)) Q E s:=by
 refine JQ a b _ _ _ _ ?_
 have e:(a == b)=decide (a=b):=by cases a <;> cases b <;> rfl
 rw [e]; exact h
end
noncomputable def zb (prog:Ap) (w:AT):KeyKind prog w Bool where
 is:=isBl
 hash:=fun b=>if b=true then 1 else 0
 inj:=aGs
 byValue:=fun k v h=>by rw [yr h]; rfl
 pyHash:=fun hv h=>by rw [yr hv]; exact aFm h
 eqBool:=fun hu hv h=>by rw [yr hu,yr hv]; exact aC3 h
 «strs»:=fun k x t v h=>by simp [isBl] at h
noncomputable def Kb (H:Hp) (q:Addr) (bs:List Bool):Prop:=∃ o:Obj,H q=some (.frz o (.tup (bs.map V.bl)))/\o.dict=none
theorem Kb.rd {H:Hp} {q:Addr} {bs:List Bool} (h:Kb H q bs):Rd H q (.tup (bs.map V.bl)):=let ⟨o,e,_⟩:=h; .inr ⟨o,e⟩
theorem Kb.same {H H':Hp} {q:Addr} {bs:List Bool} (s:Same H H') (h:Kb H q bs):Kb H' q bs:=let ⟨o,e,d⟩:=h; ⟨o,s _ _ e,d⟩
noncomputable abbrev KTB (H:Hp):List (List Bool×V)->List (List Bool×Addr×Value)->Prop:=Bm fun p q=>p.1=q.1/\Kb H q.2.1 p.1/\RelV p.2 q.2.2
theorem KTB.val {H:Hp} {kvs:List (List Bool×V)} {xs:List (List Bool×Addr×Value)} (r:KTB H kvs xs) (k:List Bool):RelO (valV kvs k) ((Gb xs k).map (·.2)):=by
 induction r with
 | nil=>exact Dh
 | @cons p q ps qs h t ih =>
  obtain ⟨h1,_,h2⟩:=h
  by_cases e:p.1=k
  ·have b:Gb (q :: qs) k=some q.2:=by simp [Gb,Cs,h1.symm.trans e]
   rw [qJ e,b]; exact h2
  ·have b:Gb (q :: qs) k=Gb qs k:=by
    have e':¬ q.1=k:=fun z=>e (h1.trans z)
    simp [Gb,Cs,e']
   rw [qK e,b]; exact ih
theorem KTB.put {H:Hp} {kvs:List (List Bool×V)} {xs:List (List Bool×Addr×Value)} (r:KTB H kvs xs) (k:List Bool) {b:Addr} {y:V} {u:Value} (hb:Kb H b k) (ry:RelV y u):KTB H (putK kvs k y) (ES xs k b u):=by
 have e:(kvs.any fun kv=>decide (kv.1=k))=(Gb xs k).isSome:=by
  rw [aAM,(r.val k).isSome_eq,Im]
 unfold putK ES
 rw [e]
 by_cases q:(Gb xs k).isSome=true
 ·rw [if_pos q,if_pos q]
  clear e q
  induction r with
  | nil=>exact .nil
  | @cons p q ps qs h t ih =>
   rw [Aw,Aw]
   refine .cons ?_ ih
   obtain ⟨h1,h2,h3⟩:=h
   unfold IJ
   by_cases e:p.1=k
   ·rw [if_pos e,if_pos (h1.symm.trans e)]; exact ⟨h1,h2,ry⟩
   ·rw [if_neg e,if_neg (fun z=>e (h1.trans z))]; exact ⟨h1,h2,h3⟩
 ·rw [if_neg q,if_neg q]; exact Kx r ⟨rfl,hb,ry⟩
theorem KTB.keeps {H H':Hp} {kvs:List (List Bool×V)} {xs:List (List Bool×Addr×Value)} (r:KTB H kvs xs) (ht:∀ b o ys,H b=some (.frz o (.tup ys))->H' b=some (.frz o (.tup ys))):KTB H' kvs xs :=
 Paired.mapP r fun _ _ z=>⟨z.1,(let ⟨o,e,d⟩:=z.2.1; ⟨o,ht _ _ _ e,d⟩),z.2.2⟩
theorem aDX {P:Ap} {w:AT}:∀ {ks:List Bool} {us:List Value},Vals (ks.map V.bl) us->ItemsAre (zb P w) ks us
 | [],_,r=>by rw [Cu] at r; cases r; exact .nil
 | k :: ks,_,r=>by
  rw [Aw] at r
  cases r with
  | cons h t =>
   cases h
   exact .cons (aIF k) (aDX t)
section
variable {P:Ap} {w:AT} {H:Hp} {h:Heap} {a:Addr}
theorem qw {ks:List Bool} (ok:HOk P w H h) (e:Rd H a (.tup (ks.map V.bl))):(BV (zb P w)).is h ks a:=by
 obtain ⟨_,its,r,o,h1,h2,n,h3⟩:=(show ObjOk P w H h a (.tup (ks.map V.bl)) from e.ok ok)
 exact ⟨o,its.toArray,n,h1,h2,h3,by simpa using aDX r⟩
end
noncomputable def DbO (P:Ap) (w:AT) (a:Addr) (xs:List (List Bool×Addr×Value)):HO :=
 .ext fun h=>∃ o es ep,h.get? a=some o/\o.ExactDict/\o.data=.dict es ep/\es.toList=xs.map (CK (BV (zb P w)))
noncomputable def Tb (P:Ap) (w:AT) (H:Hp) (a:Addr) (kvs:List (List Bool×V)):Prop :=
 ∃ xs,H a=some (DbO P w a xs)/\kvs.length<=sizeLine/\(a == Bx)=false/\KTB H kvs xs/\(xs.map (·.1)).Nodup
section
variable {P:Ap} {w:AT} {H H':Hp} {h:Heap} {a:Addr} {kvs:List (List Bool×V)}
theorem aC4 {xs:List (List Bool×Addr×Value)} (e:∃ o es ep,h.get? a=some o/\o.ExactDict/\o.data=.dict es ep/\es.toList=xs.map (CK (BV (zb P w)))):ObjOk P w H h a (DbO P w a xs):=by
 obtain ⟨o,es,ep,h1,h2,h3,h4⟩:=id e
 exact ⟨e,⟨o,h1⟩,fun g1 g2 ⟨o,es,ep,h1,h2,h3,h4⟩ k=>⟨o,es,ep,k o h1,h2,h3,h4⟩⟩
theorem Tb.same (s:Same H H') (t:Tb P w H a kvs):Tb P w H' a kvs:=by
 obtain ⟨xs,h1,h2,h3,h4,h5⟩:=t
 exact ⟨xs,s _ _ h1,h2,h3,h4.keeps fun b o ys e=>s _ _ e,h5⟩
theorem Tb.new {p:Addr} (hp:(p == Bx)=false):Tb P w (upd H p (DbO P w p [])) p [] :=
 ⟨[],zB,AS _,hp,.nil,CZ⟩
end
section
variable {X:Cx} {pins:List (Addr×Obj)} {σ:St} {H:Hp} {s:Ad} {a b:Addr} {kvs:List (List Bool×V)} {k:List Bool} {A:AR} {E:Value->Ad->Prop}
theorem aIG (I:Inv X pins σ H s) (t:Tb X.prog X.w H a kvs):(a == Bx)=false/\kvs.length<=sizeLine/\∃ xs,KTB H kvs xs/\s.heap.DictOfH (BV (zb X.prog X.w)) a xs:=by
 obtain ⟨xs,h1,h2,h3,h4,h5⟩:=t
 obtain ⟨⟨o,es,ep,g1,g2,g3,g4⟩,_⟩:=(show ObjOk X.prog X.w H s.heap a (DbO X.prog X.w a xs) from I.hok a _ h1)
 refine ⟨h3,h2,xs,h4,o,es,ep,g1,g2,g3,g4,fun x hx=>?_,h5⟩
 have all:∀ {l:List (List Bool×V)} {m:List (List Bool×Addr×Value)},KTB H l m->∀ x∈m,(BV (zb X.prog X.w)).is s.heap x.1 x.2.1:=by
  intro l m q
  induction q with
  | nil=>intro x hx; exact nomatch hx
  | @cons p q ps qs hq t ih =>
   intro x hx
   rcases Aq.mp hx with e | hx
   ·subst e
    exact qw I.hok (by rw [<- hq.1]; exact hq.2.1.rd)
   ·exact ih x hx
 exact all h4 x hx
theorem aFn {v:V} {Q:Value->Ad->Prop} (hu:A.units + 1 < cLine) (I:Inv X pins σ H s) (t:Tb X.prog X.w H a kvs) (eb:Rd H b (.tup (k.map V.bl))) (l:valV kvs k=some v) (h:∀ w' s',Inv X pins σ H s'->RelV v w'->Q w' s') :
  Ax (AC X.prog X.w) A (Gk (.ref a) (.ref b)) Q E s:=by
 obtain ⟨_,_,xs,rel,dd⟩:=aIG I t
 obtain ⟨w',hw,rw'⟩:=RelO.some_of (v:=v) (o:=(Gb xs k).map (·.2)) (by rw [<- l]; exact rel.val k)
 obtain ⟨p,hp,hp2⟩:=DZ.mp hw
 refine HH (Dg hu) (qw I.hok eb) dd hp ?_
 rw [hp2]
 exact h w' _ (I.tok _) rw'
theorem aFo {v:V} {r:Value} {Q:Unit->Ad->Prop} (hu:A.units + 1 < cLine) (I:Inv X pins σ H s) (t:Tb X.prog X.w H a kvs) (eb:Kb H b k) (hl:kvs.length < sizeLine) (rv:RelV v r)
  (h:∀ s' H',Inv X pins σ H' s'->(∀ c,c≠a->H' c=H c)->Tb X.prog X.w H' a (putK kvs k v)->Q () s'):Ax (AC X.prog X.w) A (setItem (.ref a) (.ref b) r) Q E s:=by
 obtain ⟨hsys,hz0,xs,rel,dd⟩:=aIG I t
 have hz:xs.length<=sizeLine:=by rw [<- DK rel]; exact hz0
 have hl2:(putK kvs k v).length<=sizeLine:=by have:=qZ kvs k v; lia
 refine HI (hsz:=hz) (Dg hu) (qw I.hok eb.rd) dd fun h' dd' hs=>?_
 obtain ⟨q,es,ep,hq,h2,h3,h4,_,h5⟩:=dd'
 obtain ⟨xs0,e0,_⟩:=t
 have I2:Inv X pins σ (upd H a (DbO X.prog X.w a (ES xs k b r))) { s with heap:=h',toks:=s.toks + (BV (zb X.prog X.w)).draws k } :=
  I.write (x:=a) (e:=a) (by rw [e0]; exact Dh) (.inl rfl) (fun c q hb z=>(hs.2 c hb).trans z) ⟨q,hq⟩ (aC4 ⟨q,es,ep,hq,h2,h3,h4⟩)
 refine h _ _ I2 (fun c hc=>zI hc) ⟨_,zB,hl2,hsys,(rel.put k eb rv).keeps fun c oc ys ec=>?_,h5⟩
 rw [zI (fun z=>by rw [z,e0] at ec; cases ec)]
 exact ec
end
section
variable {X:Cx} {o i value:Expr} {td ty tv tx:TE} {pos pos':Pos}
theorem aBR:PE X (.Dict [] [] pos) (fun _ H Q=>∀ p,H p=none->(p == Bx)=false->Q (.ref p) (upd H p (DbO X.prog X.w p []))):=fun pins s σ H Q I h =>
 LS ⟨.ref s.heap.objs.size,_,I.laid (a:=s.heap.objs.size) (o:=DbO X.prog X.w s.heap.objs.size []) (t':=s.toks) (fun _ _ q=>Ac _ q) (Ai _) (aC4 ⟨_,#[],0,Ak _ rfl,⟨rfl,rfl,rfl⟩,rfl,rfl⟩),rfl,
  h _ (I.hok.fresh (Ai _)) (beq_eq_false_iff_ne.mpr (CB (AE I.big)))⟩
noncomputable def aJZ (P:Ap) (w:AT) (td ty:TE):TE:=fun σ H Q=>td σ H fun x H1=>ty σ H1 fun y H2=>∃ a b kvs k v,x=.ref a/\y=.ref b/\Tb P w H2 a kvs/\Rd H2 b (.tup (k.map V.bl))/\valV kvs k=some v/\Q v H2
theorem aDY (hu:X.A.units + 1 < cLine) (ho:PE X o td) (hi:PE X i ty) (hs:NoSl i):PE X (.Subscript o i pos) (aJZ X.prog X.w td ty):=by
 intro pins s σ H Q I h
 refine aCn Fw.lookup hs (thn (ho pins s σ H _ I h) fun u s1 ⟨x,H1,I1,rx,q1⟩=>thn (hi pins s1 σ H1 _ I1 q1) fun iv s2 ⟨y,H2,I2,ry,a,b,kvs,k,v,ex,ey,t,eb,l,q2⟩=>?_)
 subst ex ey
 obtain rfl:u=Value.ref a:=rx
 obtain rfl:iv=Value.ref b:=ry
 obtain ⟨_,_,xs,_,dd⟩:=aIG I2 t
 exact ⟨dd.typeIs,aFn hu I2 t eb l fun w' s3 I3 rw'=>⟨v,H2,I3,rw',q2⟩⟩
noncomputable def aJa (P:Ap) (w:AT) (td ty tv:TE):TS:=fun D σ H=>tv σ H fun v H1=>td σ H1 fun x H2=>ty σ H2 fun y H3=>∃ a b kvs k,x=.ref a/\y=.ref b/\Tb P w H3 a kvs/\Kb H3 b k/\kvs.length < sizeLine /\
 ∀ H4:Hp,(∀ c,c≠a->H4 c=H3 c)->Tb P w H4 a (putK kvs k v)->D.nx σ H4
theorem aGt (hu:X.A.units + 1 < cLine) (ho:PE X o td) (hi:PE X i ty) (hv:PE X value tv) (hs:Gr value (some (.Subscript o i pos')) pos.line X.env=pure false) :
  PS X (.Assign [.Subscript o i pos'] value pos) (aJa X.prog X.w td ty tv):=by
 intro pins s σ H D I h
 refine Gi (thn (hv pins s σ H _ I h) fun r s1 ⟨v,H1,I1,rv,q1⟩=>thn (ho pins s1 σ H1 _ I1 q1) fun u s2 ⟨x,H2,I2,rx,q2⟩=>thn (hi pins s2 σ H2 _ I2 q2) fun iv s3 ⟨y,H3,I3,ry,a,b,kvs,k,ex,ey,t,eb,hl,q3⟩=>?_) hs
 subst ex ey
 obtain rfl:u=Value.ref a:=rx
 obtain rfl:iv=Value.ref b:=ry
 exact aFo hu I3 t eb hl rv fun s4 H4 I4 kp t4=>⟨σ,H4,I4,q3 H4 kp t4⟩
end
section
variable {X:Cx} {es:List Expr} {t:TA} {pos:Pos}
noncomputable def aKu (t:TA):TE:=fun σ H Q=>t σ H fun xs H1=>xs.length<=sizeLine/\∀ (p:Addr) (o:Obj),H1 p=none->o.dict=none->Q (.ref p) (upd H1 p (.frz o (.tup xs)))
theorem aFp {x1} (h:PA X es t):PE X (.Tuple es x1 pos) (aKu t):=by
 intro pins s σ H Q I hq
 refine Kn (thn (h pos pins s σ H _ I hq) fun us s1 ⟨xs,H1,I1,r,z,q⟩=>⟨by rw [<- r.length]; exact z,?_⟩)
 have hf:H1 s1.heap.objs.size=none:=I1.hok.fresh (Ai _)
 have hp:=Ak s1.heap (o:={ cls:=.type "tuple",data:=.seq us.toArray }) rfl
 exact ⟨.ref s1.heap.objs.size,upd H1 s1.heap.objs.size (.frz _ (.tup xs)),I1.laid (t':=s1.toks) (fun b u e=>Ac _ e) (Ai _) ⟨hp,z,us,r,⟨_,hp,rfl,_,rfl⟩⟩,rfl,q _ _ hf rfl⟩
theorem aIH:OpR X (DX .Add) (fun x y H Q=>∃ (a b:Addr) (oa ob:Obj) (xs ys:List V),x=.ref a/\y=.ref b/\H a=some (.frz oa (.tup xs))/\H b=some (.frz ob (.tup ys))/\ob.dict=none/\ys≠[]/\xs.length + ys.length<=1000000/\∀ (p:Addr) (o:Obj) (H':Hp),Same H H'->H' p=some (.frz o (.tup (xs++ys)))->o.dict=none->Q (.ref p) H'):=by
 intro pins s σ H x y v u Q I rx ry h
 obtain ⟨a,b,oa,ob,xs,ys,rfl,rfl,ha,hb,hob,hy,hz,q⟩:=h
 have szl:=AW
 cases rx
 cases ry
 obtain ⟨its,r1,p1,_⟩:=I.tuple (a:=a) (xs:=xs) (.inl (.inr ⟨oa,ha⟩))
 obtain ⟨its2,r2,p2,_⟩:=I.tuple (a:=b) (xs:=ys) (.inl (.inr ⟨ob,hb⟩))
 by_cases hx:xs=[]
 ·subst hx
  obtain ⟨⟨cls,dd,data,sl⟩,ho,hc,n,hd⟩:=p1
  obtain ⟨⟨cls2,dd2,data2,sl2⟩,ho2,hc2,n2,hd2⟩:=p2
  simp only at hc hd hc2 hd2
  subst hc hd hc2 hd2
  have e0:its=[]:=r1.nil_iff.mpr rfl
  exact Jm ⟨_,ho,rfl⟩ ⟨_,ho2,rfl⟩ GB Iy EQ EA (Em _ _)
   (tuple_addW0 a b its.toArray its2.toArray n n2 dd dd2 sl sl2 (by simp [e0])) ⟨ho,ho2,⟨.ref b,H,I,rfl,q b ob H (fun _ _ e=>e) hb hob⟩⟩
 ·refine HT.cat_tup p1 p2 (fun z=>hx (r1.nil_iff.mp z)) (fun z=>absurd (r2.nil_iff.mp z) hy) (fun z=>?_) (by rw [<- r1.length,<- r2.length]; lia)
  have hf:H s.heap.objs.size=none:=I.hok.fresh (Ai _)
  have hp:=Ak s.heap (o:={ cls:=.type "tuple",data:=.seq (its++its2).toArray }) rfl
  refine ⟨.ref s.heap.objs.size,upd H s.heap.objs.size (.frz _ (.tup (xs++ys))),I.laid (t':=s.toks) (fun b ob q=>Ac _ q) (Ai _) ⟨hp,by rw [Al]; lia,_,r1.append r2,KO _ _⟩,rfl,q _ _ _ (fun b u e=>by rw [zI (zE e hf)]; exact e) zB rfl⟩
end
section
variable {prog:Ap} {w:AT} {A:AR} {E:Value->Ad->Prop} {s:Ad}
theorem aKv {Q₁:Value->Ad->Prop} (h:Q₁ (.ref s.heap.objs.size) { s with heap:=s.heap.push (newS w) }) :
  Ef (AC prog w) A (.call (.builtin "set.__new__") ⟨[.type "set"],[]⟩) (wants Q₁ E) s:=by
 refine Hj ?_
 show Ax _ A.in1 (do checkBuiltinCall "set.__new__" ⟨[.type "set"],[]⟩; KG (.builtin "set.__new__" ⟨[.type "set"],[]⟩)) _ _ s
 refine Aa (He F.newCall_set_0 (Ab ⟨Fl Mx _,Cr F.entry_set_new ?_⟩))
 rw [Dk Mx _]
 unfold Builtin.«set.__new__» Builtin.Frozenset.newClass
 have hsub:=sub_set_self
 obtain ⟨hp,g,d,tk,os⟩:=s
 dsimp only
 wp_walk
 refine CG (Ab ?_)
 dsimp only
 simp only [newObj]
 refine Aa (Ms (Ab ?_))
 exact Ab h
theorem aKw {Q:Value->Ad->Prop} (h:Q (.ref s.heap.objs.size) { s with heap:=s.heap.push (newS w) }):Ax (AC prog w) A (call (.type "set") []) Q E s:=by
  obtain ⟨c,tl,hmro⟩:=Ff.mro
  have hmade:=Ff.made
  have hsub:=Ff.sub
  refine HW (Hj ?_)
  show Ax _ _ (callAny (.type "set") _) _ _ _
  refine Ab ⟨DF _ (by decide +kernel),Cr F.entry_type_call ?_⟩
  rw [Around.under_plain (weight_type_call_type "set" [] []) rfl]
  have h1:=Ff.notType
  have h2:=Ff.canCreate
  have hct:=F.typeCall_set_0
  repeat (any_goals (first | assumption | wp_step))
  refine Ey (aKv (E:=E) (Q₁:=fun obj s₁=>obj=.ref s.heap.objs.size/\s₁={ s with heap:=s.heap.push (newS w) }) ⟨rfl,rfl⟩) fun r s₁ hr=>?_
  cases r with
  | error e=>exact hr
  | ok fl =>
    cases fl with
    | ret obj =>
      obtain ⟨rfl,rfl⟩:=hr
      have hS:(s.heap.push (newS w)).get? s.heap.objs.size=some (newS w):=Ak _ rfl
      have hT:GU { s with heap:=s.heap.push (newS w) } (.ref s.heap.objs.size) "set":=⟨_,hS,rfl⟩
      have hli:=Ff.init.lookup
      have hbi:=Ff.init.bind (.ref s.heap.objs.size)
      repeat (any_goals (first | assumption | wp_step))
      refine Ey (JS (R:=wants (fun r s₂=>r=.none/\Q (.ref s.heap.objs.size) s₂) E) Ff.init.plain F.entry_set_init (check_set_init hT ?_)) fun r₂ s₂ hr₂=>?_
      · unfold Builtin.«set.__init__» noKeywords
        wp_walk
        exact ⟨rfl,h⟩
      · cases r₂ with
        | error e=>exact hr₂
        | ok fl₂ =>
          cases fl₂ with
          | ret r =>
            obtain ⟨rfl,hq⟩:=hr₂
            repeat (any_goals (first | assumption | wp_step))
          | _=>exact hr₂.elim
    | _=>exact hr.elim
theorem SetG.typeIs {a:Addr} {ks:List Int} (hS:SetG prog w s.heap a ks):s.TypeIs (.ref a) "set":=by
 obtain ⟨o,_,_,_,ho,hc,_⟩:=hS
 exact ⟨o,ho,hc.1⟩
theorem aFq {a:Addr} {ks:List Int} {k:Int} {tk:Nat} {Q:Value->Ad->Prop} (hS:SetG prog w s.heap a ks) (hn:ks.length + 1 < 4096)
  (h:∀ (h':Heap),Ch a s.heap h'->SetG prog w h' a (addK ks k)->Q .none { s with heap:=h',toks:=s.toks + 1 }) :
  Ax (AC prog w) A (call (.builtin "set.add") [.ref a,.int k tk]) Q E s:=by
 refine AU F.slot_set_add hS.typeIs F.entry_set_add ?_ (F.args_set_add_2 _ _)
 unfold Builtin.«set.add» Builtin.Frozenset.oneOther
 simp only [List.isEmpty_nil,bind_assoc]
 unfold Builtin.Frozenset.addrOf setAdd
 refine Aa (Ab ?_)
 try dsimp only
 refine Aa (Ab ?_)
 try dsimp only
 refine Aa ?_
 refine BE ?_
 refine Aa ((FO prog w).pyHash (k:=k) (Ln _ _ _ _) ?_)
 refine aKm (s:={ s with toks:=s.toks + 1 }) hS hn fun h' b hsb hS'=>?_
 show Ax _ _ (ret Cy) _ _ _
 exact Ab ⟨_,rfl,h h' hsb hS'⟩
end
noncomputable def SeO (P:Ap) (w:AT) (a:Addr) (ks:List Int):HO:=.ext fun h=>SetG P w h a ks
theorem aJb {P:Ap} {w:AT} {H:Hp} {h:Heap} {a:Addr} {ks:List Int} (e:SetG P w h a ks):ObjOk P w H h a (SeO P w a ks):=by
 obtain ⟨o,_,_,_,ho,_⟩:=id e
 exact ⟨e,⟨o,ho⟩,fun g1 g2 x k=>x.keep k⟩
section
variable {X:Cx} {pins:List (Addr×Obj)} {σ:St} {H:Hp} {s:Ad}
theorem aII {a:Addr} {ks:List Int} (I:Inv X pins σ H s) (e:H a=some (SeO X.prog X.w a ks)):SetG X.prog X.w s.heap a ks:=(show ObjOk X.prog X.w H s.heap a (SeO X.prog X.w a ks) from I.hok a _ e).1
theorem aFr:qL X (.type "set") (fun xs H Q=>xs=[]/\∀ p,H p=none->Q (.ref p) (upd H p (SeO X.prog X.w p []))):=by
 intro pins s σ H xs us Q I r h
 obtain ⟨rfl,q⟩:=h
 cases r
 refine aKw ⟨.ref s.heap.objs.size,_,I.laid (a:=s.heap.objs.size) (o:=SeO X.prog X.w s.heap.objs.size []) (t':=s.toks) (fun _ _ q=>Ac _ q) (Ai _) (aJb (aJK (Ak _ rfl))),rfl,q _ (I.hok.fresh (Ai _))⟩
variable {o e:Expr} {td ty:TE} {apos cpos:Pos}
theorem aFs (ho:PE X o td) (he:PE X e ty) (m:M1 X o "add" apos e cpos):PE X (.Call (.Attribute o "add" apos) [e] [] cpos) (fun σ H Q=>td σ H fun x H1=>∃ a ks,x=.ref a/\H1 a=some (SeO X.prog X.w a ks)/\ty σ H1 fun y H2=>∃ ks2 k,H2 a=some (SeO X.prog X.w a ks2)/\y=.int k/\ks2.length < 4000/\Q .non (upd H2 a (SeO X.prog X.w a (addK ks2 k)))):=by
 intro pins s σ H Q I h
 refine wpAny_Call_method m.base m.few m.line PySem.F.plainAttrs_set PySem.F.slot_set_add PySem.F.type_set_add (thn (ho pins s σ H _ I h) fun u s1 ⟨x,H1,I1,rx,a,ks,ex,d,q1⟩=>?_)
 subst ex
 obtain rfl:u=Value.ref a:=rx
 have g1:=aII I1 d
 refine ⟨g1.typeIs,?_,?_⟩
 ·intro b eb
  injection eb with eb; subst eb
  obtain ⟨o,_,_,_,ho,hc,_⟩:=g1
  exact ⟨o,ho,hc.2.1⟩
 rw [m.trees]
 refine Gf rfl (GK (KJ (thn (he pins s1 σ H1 _ I1 q1) fun iv s2 ⟨y,H2,I2,ry,ks2,k,d2,ey,hl,q2⟩=>Li ?_)))
 subst ey
 obtain ⟨tk,rfl⟩:=ry
 refine aFq (aII I2 d2) (by lia) fun h' hs hS=>?_
 obtain ⟨ob,_,_,_,hob,_⟩:=id hS
 exact ⟨.non,_,I2.write (x:=a) (e:=a) (t':=s2.toks + 1) (by rw [d2]; exact Dh) (.inl rfl) (fun c q hb z=>(hs.2 c hb).trans z) ⟨_,hob⟩ (aJb hS),rfl,q2⟩
theorem aCs (hc:X.calm=true):qL X (.builtin "sorted") (fun xs H Q=>∃ (a:Addr) (ks:List Int),xs=[.ref a]/\H a=some (SeO X.prog X.w a ks) /\
  ∀ (p:Addr) (ms:List Int) (H':Hp),Same H H'->H p=none->H' p=some (.lst (ms.map V.int))->ms.Pairwise (· < ·)->(∀ m,m∈ms↔m∈ks)->Q (.ref p) H'):=by
 intro pins s σ H xs us Q I r h
 obtain ⟨a,ks,rfl,d,q⟩:=h
 obtain ⟨u,rfl,ru⟩:=qm r
 obtain rfl:u=Value.ref a:=ru
 have hS:=aII I d
 have hnd:ks.Nodup:=by
  obtain ⟨_,_,_,_,_,_,_,_,_,nd,_⟩:=hS
  exact nd
 have hl:=hS.len
 refine aAc (C:=fun ms=>ms.Perm ks) (fun Q2 E2 hq=>aFS (show X.A.in1.handled=none by simp [I.ok.hd hc]) hS hq) (fun ms hp=>by have:=hp.length_eq; lia) fun out ms ms' g e tk2 d' pp hC a1 a2 a3 k1 hp at1=>?_
 have hf:H pp=none:=I.hok.fresh hp
 have hpm:=a2.trans hC
 have l2:=hpm.length_eq
 have I3:Inv X pins σ (upd H pp (.lst (ms'.map V.int))) { s with heap:=g,toks:=tk2 }:=I.laid (t':=tk2) k1 hp ⟨by rw [Ae,AW]; lia,out.toList,e,qP a1,at1⟩
 refine ⟨.ref pp,upd H pp (.lst (ms'.map V.int)),I3.drew d',rfl,q _ ms' _ (fun b o e=>by rw [zI (zE e hf)]; exact e) hf zB (aBy a3 (hpm.nodup_iff.mpr hnd)) fun m=>hpm.mem_iff⟩
end
section
variable {prog:Ap} {w:AT} {A:AR} {R:Ka->Ad->Prop} {s:Ad}
end
section
variable {X:Cx}
end
inductive KeyTs:List CP->List Str->Prop
 | nil:KeyTs [] []
 | cons {e:CP} {x:Str} {t:Tok} {es:List CP} {xs:List Str}:e.key=.str x t->KeyTs es xs->KeyTs (e :: es) (x :: xs)
noncomputable def aCt (w:AT) (K:Ah) (a:Addr) (ws:List Str):Prop:=(a == Bx)=false/\ws.Nodup/\∃ es n,K.lookup a=some ⟨.type "dict",none,.dict es n,#[]⟩/\FS w.params es.toList/\KeyTs es.toList ws
theorem aAd {P:Ap} {w:AT}:∀ {es:List CP} {ws:List Str},KeyTs es ws->∃ kvs:List (Str×Value),kvs.map (·.1)=ws/\Pairs (strKind P w) es kvs
 | _,_,.nil=>⟨[],rfl,.nil⟩
 | _,_,.cons (e:=e) (x:=x) (t:=t) h r=>by
  obtain ⟨kvs,h1,h2⟩:=aAd (P:=P) (w:=w) r
  exact ⟨(x,e.val) :: kvs,by rw [Aw,h1],.cons (by rw [h]; exact strKind_is P w x t) rfl h2⟩
theorem aFt {P:Ap} {w:AT} {K:Ah} {h:Heap} {a:Addr} {es:Array CP} {n:Nat} {ws:List Str} (X:K.In h) (hl:K.lookup a=some ⟨.type "dict",none,.dict es n,#[]⟩) (hk:FS w.params es.toList) (ht:KeyTs es.toList ws) (nd:ws.Nodup) :
  ∃ kvs:List (Str×Value),kvs.map (·.1)=ws/\h.DictAt (strKind P w) a kvs n:=by
 obtain ⟨kvs,h1,h2⟩:=aAd (P:=P) (w:=w) ht
 refine ⟨kvs,h1,_,es,X _ _ hl,⟨rfl,rfl,rfl⟩,rfl,fun e he=>?_,h2,by rw [h1]; exact nd⟩
 obtain ⟨x,t,e1,e2⟩:=hk.all e (JP.mpr he)
 exact ⟨x,by rw [e1]; exact strKind_is P w x t,e2⟩
noncomputable def Itw (ws:List Str):It :=
 ⟨fun i H=>i < ws.length,fun i H v H'=>H'=H/\∃ x,v=.str x/\ws[i]?=some x,fun i H=>ws.length<=i⟩
theorem aGu {P:Ap} {w:AT} {K:Ah} {tg:Expr} {d it:Addr} {ws:List Str} {es:Array CP} {n:Nat} (hl:K.lookup d=some ⟨.type "dict",none,.dict es n,#[]⟩) (hk:FS w.params es.toList) (ht:KeyTs es.toList ws) (nd:ws.Nodup) :
  Turn P w K tg (Itw ws) [it] it (fun i h=>h.IsKeyIter it d i ws.length n) where
 mem:=by simp
 obj:=fun i h st b hb=>by
  obtain ⟨oi,a1,a2,a3⟩:=st
  rw [Af.mp hb]
  exact ⟨_,a1,fun v e=>by rw [a3] at e; cases e⟩
 keep:=fun i h h' st kp=>by
  obtain ⟨oi,a1,a2⟩:=st
  exact ⟨oi,kp it (by simp) _ a1,a2⟩
 item:=by
  intro X hP hw hK hc k pins s σ H E I hf st hg
  subst hP hw hK
  obtain ⟨kvs,ek,dat⟩:=aFt (P:=X.prog) I.kIn hl hk ht nd
  have hlt:k < ws.length:=hg
  have hl2:ws.length=kvs.length:=by rw [<- ek,Ae]
  obtain ⟨⟨ky,x⟩,hx⟩:∃ p,kvs[k]?=some p:=⟨kvs[k],Au (by lia)⟩
  have hw:ws[k]?=some ky:=by rw [<- ek,Bh,hx]; rfl
  rw [hl2] at st
  refine Jc (knd:=strKind X.prog X.w) st dat hx fun key g hkey hit' sb=>⟨_,rfl,?_⟩
  have fi:=hf it (by simp)
  obtain ⟨o3,q1,q2,q3⟩:=id hit'
  refine aET q1 q2 q3 (by decide) ?_
  obtain ⟨t,rfl⟩:=Kk hkey
  refine ⟨.str ky,H,I.turned (t':=s.toks) (fun b o nb e=>by rw [sb.2 b nb]; exact e) fi.1 fi.2.1 fi.2.2.2.1 fi.2.2.2.2.1 fi.2.2.2.2.2,⟨t,rfl⟩,⟨rfl,ky,rfl,hw⟩,by rw [hl2]; exact hit',fun b hb=>?_⟩
  rw [Af.mp hb]; exact fi.1
 done:=by
  intro X hP hw hK hc k pins s σ H E I hf st hg
  subst hP hw hK
  obtain ⟨kvs,ek,dat⟩:=aFt (P:=X.prog) I.kIn hl hk ht nd
  have hend:ws.length<=k:=hg
  have hl2:ws.length=kvs.length:=by rw [<- ek,Ae]
  rw [hl2] at st
  refine JG (knd:=strKind X.prog X.w) (I.ok.hd hc) st dat (CC (by lia)) fun g eb=>⟨rfl,?_⟩
  have fi:=hf it (by simp)
  exact I.turned (t':=s.toks) (fun b o nb e=>eb b o nb e) fi.1 fi.2.1 fi.2.2.2.1 fi.2.2.2.2.1 fi.2.2.2.2.2
 self:=fun A i s Q E st h=>qN st h
section
variable {X:Cx} {tg:Expr}
noncomputable def iTop (w:AT) (K:Ah) (to:TE):TI:=fun σ H R=>to σ H fun x H1=>∃ (d:Addr) (ws:List Str),x=.ref d/\aCt w K d ws/\R (Itw ws) H1
theorem aJc {e:Expr} {te:TE} (he:PE X e te):PI X tg e (iTop X.w X.K te):=by
 intro pins s σ H R I h
 refine thn (he pins s σ H _ I h) fun v s1 ⟨y,H1,I1,r1,d,ws,ey,⟨hsys,nd,es,n,hl,hk,ht⟩,r⟩=>?_
 subst ey
 cases r1
 obtain ⟨kvs,ek,dat⟩:=aFt (P:=X.prog) I1.kIn hl hk ht nd
 refine Lr (knd:=strKind X.prog X.w) (kvs:=kvs) (ep:=n) hsys dat ?_
 refine ⟨_,_,_,_,H1,rfl,I1.kept (t':=s1.toks) fun b o e=>Ac _ e,aGu hl hk ht nd,⟨_,Ak _ rfl,rfl,?_⟩,fun b hb=>?_,r⟩
 ·rw [<- ek,Ae]; rfl
 ·have e:b=s1.heap.objs.size:=by simpa using hb
  subst e
  exact I1.fpOk (Ai _) (I1.hok.fresh (Ai _))
theorem aIJ {ws:List Str} {g:TG} {tb:TS} {D:Ends} {σ:St} {H:Hp} (Pv:Nat->St->Hp->Prop) (h0:Pv 0 σ H)
  (hs:∀ i x σ H,ws[i]?=some x->Pv i σ H->g (.str x) σ H fun σ2 H2=>tb { D with nx:=Pv (i + 1),ct:=Pv (i + 1),bk:=D.nx } σ2 H2) (hd:∀ σ H,Pv ws.length σ H->D.nx σ H) :
  ∃ W:Nat->Nat->St->Hp->Prop,(∃ m,W 0 m σ H)/\∀ i m σ H,W i m σ H ->
   ((Itw ws).stop i H/\D.nx σ H)\/((Itw ws).go i H/\∃ N:St->Hp->Prop,(∀ σ' H',N σ' H'->∃ m',m' < m/\W (i + 1) m' σ' H')/\∀ x H',(Itw ws).yld i H x H'->g x σ H' fun σ2 H2=>tb { D with nx:=N,ct:=N,bk:=D.nx } σ2 H2):=by
 refine ⟨fun i m σ H=>m=ws.length - i/\i<=ws.length/\Pv i σ H,⟨ws.length,by simp,AS _,h0⟩,?_⟩
 rintro i m σ H ⟨rfl,hi,p⟩
 by_cases hlt:i < ws.length
 ·refine .inr ⟨hlt,Pv (i + 1),fun σ' H' p'=>⟨ws.length - (i + 1),by lia,rfl,hlt,p'⟩,fun v H' y=>?_⟩
  obtain ⟨rfl,x,rfl,hx⟩:=y
  exact hs i x σ H' hx p
 ·have e:i=ws.length:=by lia
  subst e
  exact .inl ⟨Ai _,hd σ H p⟩
end
variable {X:Cx}
theorem aAe (hc:X.calm=true):qL X (.builtin "any") (fun xs H Q=>∃ (p:Addr) (bs:List Bool),xs=[.ref p]/\SqT X.K H p (bs.map V.bl)/\Q (.bl (bs.any id)) H):=by
 intro pins s σ H xs us Q I r h
 obtain ⟨p,bs,rfl,hS,q⟩:=h
 obtain ⟨u,rfl,rx⟩:=qm r
 cases rx
 obtain ⟨its,rv,pl,hz⟩:=I.tuple hS
 have hp:s.heap.IsTuple p its.toArray:=pl
 have hlt:p < s.heap.objs.size:=pl.lt
 have len:=rv.length
 rw [Ae] at len
 refine call_any_walk (FQ hp ?_)
 refine ⟨_,_,_,_,_,_,fun i=>bs.getD i false,rfl,Walks.tuple (A:=X.A.in1) (I.ok.hd hc) s.heap.objs.size p (AE hlt) its.toArray,⟨⟨_,Ak _ rfl,rfl,rfl⟩,hp.push _⟩,fun i v s3 Q3 E3 hP hQ=>?_,fun h' tk hk=>⟨.bl (bs.any id),H,I.kept fun b o e=>hk b o (fun z=>?_) (Ac _ e),?_,q⟩⟩
 ·have hv':its[i]?=some v:=by simpa using hP
  have hi:i < bs.length:=by rw [len]; exact (Ao.mp hv').1
  obtain ⟨u,e1,r1⟩:=rv.get (i:=i) (x:=.bl (bs.getD i false)) (by rw [Bh,Do,Au hi]; rfl)
  rw [hv'] at e1
  cases e1
  rw [show v=Value.bool (bs.getD i false) from r1]
  exact Ej hQ
 ·exact absurd (An e) (by rw [Af.mp z]; exact BM _)
 ·show RelV (.bl (bs.any id)) _
  rw [<- aF8 bs,len,show its.toArray.size=its.length by simp]
  rfl
end L2
namespace L2
open PySem PySem.Spec PyProof.Rows
section
variable {prog:Ap} {w:AT} {A:AR} {E:Value->Ad->Prop} {s:Ad} {it d:Addr} {i ep:Nat} {o:Obj} {es:Array CP} {e:CP}
end
section
variable {X:Cx} {pins:List (Addr×Obj)} {σ:St} {H:Hp} {s:Ad}
end
section
variable {X:Cx}
end
section
variable {prog:Ap} {w:AT} {A:AR} {E:Value->Ad->Prop} {s:Ad} {it d:Addr} {i ep:Nat} {o:Obj} {es:Array CP} {e:CP}
end
section
variable {X:Cx}
end
theorem aCu:fillsNumberSlot (.type "tuple") "mul"=pure false :=
 PySem.fillsNumberSlot_seq (id:="tuple.__mul__") (r:=some (.builtin "tuple.__rmul__")) Fz.lookup (by decide +kernel) Ls.lookup (by decide +kernel)
theorem aIK:seqRepeat? (.type "tuple")=pure (some (.builtin "tuple.__mul__")):=by
 unfold seqRepeat?
 rw [LU (T:="tuple") (name:="__mul__") (id:="tuple.__mul__") Fz.lookup (by decide +kernel),LU (T:="tuple") (name:="__rmul__") (id:="tuple.__rmul__") Ls.lookup (by decide +kernel)]
 rfl
section
variable {l:Addr} {items:Array Value} {n:Nat} {dd:Option Addr} {sl:Array (Option Value)} {x:Value} {k:Int} {t:Tok}
theorem aGv (k:Int) (t:Tok) (l:Addr) (items:Array Value) (n:Nat) (dd:Option Addr) (sl:Array (Option Value)):NO (Builtin.«int.__rmul__» ⟨[.int k t,.ref l],[]⟩) (fun _ R s=>s.heap.get? l=some { cls:=.type "tuple",dict:=dd,data:=.seq items n,slots:=sl }/\R (.ok (.ret Value.notImplemented)) s) :=
 .of_wp fun prog w A R s h=>by
  obtain ⟨hp,g,d,tk,os⟩:=s
  obtain ⟨hl,h⟩:=h
  wp_walk
  exact ⟨_,rfl,h⟩
theorem aJd (l:Addr) (x:Value) (n:Nat) (dd:Option Addr) (sl:Array (Option Value)) (t:Tok):NO (Builtin.«tuple.__mul__» ⟨[.ref l,.int 1 t],[]⟩) (fun _ R s=>s.heap.get? l=some { cls:=.type "tuple",dict:=dd,data:=.seq #[x] n,slots:=sl }/\R (.ok (.ret (.ref l))) s) :=
 .of_wp fun prog w A R s h=>by
  obtain ⟨hp,g,d,tk,os⟩:=s
  obtain ⟨hl,h⟩:=h
  wp_walk
  exact ⟨_,rfl,h⟩
theorem aJe (l:Addr) (x:Value) (n:Nat) (dd:Option Addr) (sl:Array (Option Value)) (t:Tok):NO (Builtin.«tuple.__mul__» ⟨[.ref l,.int 0 t],[]⟩) (fun _ R s=>s.heap.get? l=some { cls:=.type "tuple",dict:=dd,data:=.seq #[x] n,slots:=sl }/\R (.ok (.ret (.ref s.heap.objs.size))) { s with heap:=s.heap.push { cls:=.type "tuple",data:=.seq #[] } }) :=
 .of_wp fun prog w A R s h=>by
  obtain ⟨hp,g,d,tk,os⟩:=s
  obtain ⟨hl,h⟩:=h
  wp_walk
  exact ⟨_,rfl,h⟩
theorem aJf (l:Addr) (x:Value) (k:Nat) (hk:k=2\/k=3\/k=4\/k=5) (n:Nat) (dd:Option Addr) (sl:Array (Option Value)) (t:Tok):NO (Builtin.«tuple.__mul__» ⟨[.ref l,.int (k:Int) t],[]⟩) (fun _ R s=>s.heap.get? l=some { cls:=.type "tuple",dict:=dd,data:=.seq #[x] n,slots:=sl }/\R (.ok (.ret (.ref s.heap.objs.size))) { s with heap:=s.heap.push { cls:=.type "tuple",data:=.seq (CD k x).toArray } }):=by
 rcases hk with rfl | rfl | rfl | rfl <;>
 exact .of_wp fun prog w A R s h=>by
  obtain ⟨hp,g,d,tk,os⟩:=s
  obtain ⟨hl,h⟩:=h
  wp_walk
  exact ⟨_,rfl,h⟩
end
theorem aDZ {X:Cx}:OpR X (DX .Mult) (fun x y H Q=>∃ (l:Addr) (v:V) (k:Nat),x=.ref l/\y=.int (k:Int)/\H l=some (.tup [v])/\k<=5/\∀ p H',Same H H'->H' p=some (.tup (CD k v))->Q (.ref p) H'):=by
 intro pins s σ H x y v u Q I rx ry h
 obtain ⟨l,v,k,rfl,rfl,hl,hk,q⟩:=h
 cases rx
 obtain ⟨t,rfl⟩:=ry
 obtain ⟨_,its,r,⟨oc,od,ot,os⟩,ho,c,n,hd⟩:=I.hok _ _ hl
 simp only at c hd
 subst c hd
 obtain ⟨u,rfl,ru⟩:=qm r
 refine wpAny_binaryOp_repeat_ref (T:="tuple") (U:="int") (by decide) ⟨_,ho,rfl⟩ (fun s'=>MN s' k t) aCu F.fills_int_mul My aIK F.slot_int_index.lookup
  (GX My (MN s k t) F.entry_int_rmul (F.args_int_rmul_2 _ _) (aGv k t l _ n od os) ⟨ho,rfl,⟨_,ho,rfl⟩,?_⟩)
 have hf:H s.heap.objs.size=none:=I.hok.fresh (Ai _)
 have vr:∀ m:Nat,Vals (CD m v) (CD m u):=fun m=>by
  induction m with
  | zero=>exact .nil
  | succ m ih=>exact .cons ru ih
 have fin:EP X pins σ Q (.ref s.heap.objs.size) { s with heap:=s.heap.push { cls:=.type "tuple",data:=.seq (CD k u).toArray } } :=
  ⟨.ref s.heap.objs.size,_,I.laid (o:=.tup (CD k v)) (t':=s.toks) (fun b o e=>Ac _ e) (Ai _) ⟨by rw [Jl,AW]; lia,CD k u,vr k,⟨_,Ak _ rfl,rfl,_,rfl⟩⟩,rfl,q _ _ (fun b o e=>by rw [zI (zE e hf)]; exact e) zB⟩
 match k,hk,fin,q with
 | 0,_,fin,_=>exact GX Fz ⟨_,ho,rfl⟩ Io (HJ _ _) (aJe l u n od os t) ⟨ho,fin⟩
 | 1,_,_,q=>exact GX Fz ⟨_,ho,rfl⟩ Io (HJ _ _) (aJd l u n od os t) ⟨ho,⟨.ref l,H,I,rfl,q l H (fun _ _ e=>e) hl⟩⟩
 | k + 2,hk,fin,_=>exact GX Fz ⟨_,ho,rfl⟩ Io (HJ _ _) (aJf l u (k + 2) (by lia) n od os t) ⟨ho,fin⟩
theorem aFu {X:Cx}:OpR X (DX .Mult) (fun x y H Q=>∃ (l:Addr) (v:V) (k:Nat),x=.ref l/\y=.int (k:Int)/\H l=some (.tup [v])/\k<=4/\∀ p H',Same H H'->H' p=some (.tup (CD k v))->Q (.ref p) H') :=
 fun pins s σ H x y v u Q I rx ry ⟨l,v',k,h1,h2,h3,h4,q⟩=>aDZ pins s σ H x y v u Q I rx ry ⟨l,v',k,h1,h2,h3,At h4 (by decide),q⟩
section
variable {X:Cx} {o e f:Expr} {td ty tx:TE} {apos cpos:Pos}
end
variable {X:Cx}
section
variable {o e:Expr} {es:List Expr} {to:TE} {t:TA} {name:Str} {apos cpos:Pos} {id:String} {r:V->List V->Hp->VK->Prop}
end
end L2
namespace L2
open PySem PySem.Spec PyProof.Rows
section
variable {X:Cx} {E:Value->Ad->Prop} {N:List Str} {scope:Scope} {cl:List (Str×Addr)} {C:Addr} {s2:Ad} {H2:Hp} {fp:List Addr}
theorem kx1:(X.wish E).K=X.K:=rfl
theorem kx2:(X.wish E).prog=X.prog:=rfl
theorem kx3:(X.wish E).w=X.w:=rfl
theorem kx4:(cxC X N scope cl C s2 H2 fp).K=X.K:=rfl
theorem kx5:(cxCC X N scope cl C s2 H2 fp).K=X.K:=rfl
theorem kx6:(cxCC X N scope cl C s2 H2 fp).prog=X.prog:=rfl
theorem kx7:(cxCC X N scope cl C s2 H2 fp).w=X.w:=rfl
variable {CX:CXT} {P:Ap} {w:AT} {K:Ah} {mg:Str->Option Value} {base:Heap} {qual:Str} {f:Addr} {cd:Value} {A:AR} {outer:List Env} {s:Ad} {H:Hp} {E':XK}
theorem kx8:(cxOf CX P w K mg base N qual scope f cd A outer s H E').K=K:=rfl
theorem kx9:(cxOf CX P w K mg base N qual scope f cd A outer s H E').prog=P:=rfl
theorem kxa:(cxOf CX P w K mg base N qual scope f cd A outer s H E').w=w:=rfl
theorem kxb {a b:Str} {p q:Pos} {env:Env}:(Gj [.Name a p,.Name b q] env).length=2:=rfl
theorem kxc {a b c d:Str} {p q r t:Pos} {env:Env}:(Gj [.Name a p,.Name b q,.Name c r,.Name d t] env).length=4:=rfl
end
section
open PySem.SeqAt
open PySem.AutoSeq1 (wpAny_loadPart')
open PySem.MeetsSeq PySem.MeetsSeq2 PySem.MeetsSeq3
end
variable {X:Cx}
end L2
namespace L2
open PySem PySem.Spec PyProof.Rows
section
variable {prog:Ap} {w:AT} {A:AR} {E:Value->Ad->Prop}
variable {R:Ka->Ad->Prop} {I:Addr} {fp wr:List Addr} {n:Nat} {P:Nat->Value->Prop} {St:Nat->Heap->Prop} {kw:List (Str×Value)}
end
section
variable {X:Cx} {a:Expr} {ta:TE} {p kp pos p3:Pos} {j:Nat}
end
theorem aED {d:Addr} {o:Obj} {kvs:List (Key×V)} {H1:Hp} {D:Addr} {σ0:St} {g:TG} {tt:TT} {te:TE} {R:Hp->Prop}
  (Pv:Nat->List V->St->Hp->Prop) (hl:∀ i zs σ H2,Pv i zs σ H2->H2 d=some (.frz o (.dK kvs))) (h0:Pv 0 [] σ0 (upd H1 D (.lst [])))
  (hs:∀ i k x zs σ H2,kvs[i]?=some (k,x)->zs.length<=i->Pv i zs σ H2->H2 D=some (.lst zs)->g (kV k) σ H2 fun σ3 H3=>tt σ3 H3 fun b H4=>if b=true then te σ3 H4 fun y H5=>∃ zs,H5 D=some (.lst zs)/\zs.length < sizeLine/\aAE Pv D i σ3 (upd H5 D (.lst (zs++[y]))) else aAE Pv D i σ3 H4)
  (hd:∀ zs σ H2,Pv kvs.length zs σ H2->H2 D=some (.lst zs)->R H2) :
  ∃ W:Nat->Nat->St->Hp->Prop,(∃ m,W 0 m σ0 (upd H1 D (.lst [])))/\∀ i m σ2 H2,W i m σ2 H2 ->
  ((Itk d o kvs).stop i H2/\R H2)\/((Itk d o kvs).go i H2/\∃ N:St->Hp->Prop,(∀ σ' H',N σ' H'->∃ m',m' < m/\W (i + 1) m' σ' H')/\∀ x H',(Itk d o kvs).yld i H2 x H'->g x σ2 H' fun σ3 H3=>tt σ3 H3 fun b H4 =>
   if b=true then te σ3 H4 fun y H5=>∃ xs,H5 D=some (.lst xs)/\xs.length < sizeLine/\N σ3 (upd H5 D (.lst (xs++[y]))) else N σ3 H4):=by
 refine ⟨fun i m σ H'=>m=kvs.length - i/\i<=kvs.length/\∃ zs,zs.length<=i/\Pv i zs σ H'/\H' D=some (.lst zs),⟨kvs.length,by simp,AS _,[],Ai _,h0,zB⟩,?_⟩
 rintro i m σ2 H2 ⟨rfl,hi,zs,hy,pv,e⟩
 have q1:=hl i zs σ2 H2 pv
 by_cases hlt:i < kvs.length
 ·refine .inr ⟨⟨q1,hlt⟩,aAE Pv D i,fun σ' H' ⟨zs',l',p',e'⟩=>⟨kvs.length - (i + 1),by lia,rfl,hlt,zs',l',p',e'⟩,fun v H' y=>?_⟩
  obtain ⟨rfl,k,x,rfl,hx⟩:=y
  exact hs i k x zs σ2 _ hx hy pv e
 ·have ei:i=kvs.length:=by lia
  subst ei
  exact .inl ⟨⟨q1,Ai _⟩,hd zs σ2 H2 pv e⟩
end L2
namespace Law
open PySem L2
end Law
namespace L2
open PySem PySem.Spec PyProof.Rows
section
variable {prog:Ap} {w:AT} {A:AR} {E:Value->Ad->Prop} {s:Ad} {it d:Addr} {i ep:Nat} {o:Obj} {es:Array CP} {e:CP}
theorem aFv {Q:Value->Ad->Prop} (hd:(d == Bx)=false) (ho:s.heap.get? d=some o) (hc:o.cls=.type "dict") (hdat:o.data=.dict es ep)
  (h:Q (.ref s.heap.objs.size) { s with heap:=s.heap.push { cls:=.type "dict_keyiterator",data:=.fields #[.ref d,.int 0 0,.int es.size 0,.int ep 0] } }):Ax (AC prog w) A (Jj (.ref d)) Q E s:=by
 have hT:s.TypeIs (.ref d) "dict":=⟨o,ho,hc⟩
 refine Eu hT IS (AU IS hT F.entry_dict_iter ?_ (F.args_dict_iter_1 _))
 unfold Builtin.«dict.__iter__» Builtin.Dict.dictSlotNone Gz
 refine Aa (Aa (DC hT ?_))
 refine (show Ax _ _ (pure (Value.ref d)) _ _ s from Ab ?_)
 refine Aa (Ab ?_)
 rw [if_neg (show ¬ (d == Bx)=true by rw [hd]; exact As)]
 refine Aa (Ab (Aa (BU ho hdat (Aa (Ew ho hdat ?_)))))
 refine Aa (Bb (Ab ⟨_,rfl,"dict_keyiterator",_,⟨_,Ak _ rfl,rfl⟩,CY.lookup,?_⟩))
 simpa [CL] using h
noncomputable abbrev aA2 (h:Heap) (it d:Addr) (i n ep:Nat):Prop:=h.get? it=some { cls:=.type "dict_keyiterator",dict:=none,data:=.fields #[.ref d,.int i 0,.int n 0,.int ep 0],slots:=#[] }
theorem aFw {Q:Option Value->Ad->Prop} (hit:aA2 s.heap it d i es.size ep) (ho:s.heap.get? d=some o) (hd:o.data=.dict es ep) (hx:es[i]?=some e)
  (h:∀ h',aA2 h' it d (i + 1) es.size ep->Ch it s.heap h'->Q (some e.key) { s with heap:=h' }):Ax (AC prog w) A (EU (.ref it)) Q E s:=by
 have hT:s.TypeIs (.ref it) "dict_keyiterator":=⟨_,hit,rfl⟩
 unfold EU
 refine Aa (Dx (Bl (name:=CW "__next__") hT CY (AU CY hT GH ?_ (GA _))))
 wp_walk using DI hT,EO hit rfl,BU ho hd,Ew ho hd,Fg hT
 rw [if_neg (show ¬ ((i:Int) < 0) by lia),BH,hx]
 have hown:(if GV "dict_keyiterator"=true then 2 else 0)=0:=by decide
 obtain ⟨hp,g,dr,tk,os⟩:=s
 refine Aa (Aa (DI hT (Ab (Aa (Fg hT (Aa ?_))))))
 rw [hown]
 refine Df hit (by show 1 < 4; decide) fun h1 e1 s1=>Aa (BE ?_)
 replace e1:aA2 h1 it d (i + 1) es.size ep:=by
  unfold aA2
  rw [show ((i + 1:Nat):Int)=(i:Int) + 1 by lia]
  exact e1
 have t1:GU ⟨h1,g,dr,tk,os⟩ (.ref it) "dict_keyiterator":=⟨_,e1,rfl⟩
 refine Aa (Fg t1 ?_)
 exact (show Ax _ _ (pure e.key) _ _ ⟨h1,g,dr,tk,os⟩ from Ab (Ab ⟨_,rfl,Ab (h h1 e1 s1)⟩))
theorem aFx {Q:Option Value->Ad->Prop} (hh:A.handled=none) (hit:aA2 s.heap it d i es.size ep) (ho:s.heap.get? d=some o) (hd:o.data=.dict es ep) (hx:es[i]?=none)
  (h:∀ h',Kq it s.heap h'->Q none { s with heap:=h' }):Ax (AC prog w) A (EU (.ref it)) Q E s:=by
 have hT:s.TypeIs (.ref it) "dict_keyiterator":=⟨_,hit,rfl⟩
 unfold EU
 refine Aa (Dx (Bl (name:=CW "__next__") hT CY (AU CY hT GH ?_ (GA _))))
 wp_walk using DI hT,EO hit rfl,BU ho hd,Ew ho hd,Fg hT
 rw [if_neg (show ¬ ((i:Int) < 0) by lia),BH,hx]
 have hown:(if GV "dict_keyiterator"=true then 2 else 0)=0:=by decide
 obtain ⟨hp,g,dr,tk,os⟩:=s
 refine Aa (Aa (DI hT (Ab (Aa ?_))))
 rw [hown]
 refine Df hit (by show 0 < 4; decide) fun h1 e1 s1=>Aa ?_
 simp only [MQ,Na,Nb]
 refine Aa (Bb (Aa (m:=EL _ _) (He (a:=Cy) rfl (Bb (Aa (IB ?_)) (by size_fits)))) (by size_fits))
 rw [show A.in1.handled=none from hh]
 refine Aa (Ab (Kr ?_)); refine Aa (DG (T:="StopIteration") (b:=true) ⟨_,Ak _ rfl,rfl⟩ HQ (Ab (h _ ?_)))
 exact (s1.extBut.push _).push _
end
section
variable {X:Cx}
end
noncomputable def TbX (P:Ap) (w:AT) (H:Hp) (a:Addr) (kvs:List (List Bool×V)):Prop :=
 ∃ xs,Rd H a (DbO P w a xs)/\kvs.length<=sizeLine/\(a == Bx)=false/\KTB H kvs xs/\(xs.map (·.1)).Nodup
theorem Tb.x {P:Ap} {w:AT} {H:Hp} {a:Addr} {kvs:List (List Bool×V)} (t:Tb P w H a kvs):TbX P w H a kvs:=let ⟨xs,h,r⟩:=t; ⟨xs,.inl h,r⟩
section
variable {prog:Ap} {w:AT} {K:Type} [DecidableEq K] {knd:Mh prog w K} {A:AR} {E:Value->Ad->Prop} {s:Ad}
end
section
variable {X:Cx} {pins:List (Addr×Obj)} {σ:St} {H:Hp} {s:Ad} {a b:Addr} {kvs:List (List Bool×V)} {k:List Bool} {A:AR} {E:Value->Ad->Prop}
theorem jS {α β:Type} {R:α->β->Prop} {xs:List α} {ys:List β} (h:Bm R xs ys) {i:Nat} {y:β} (e:ys[i]?=some y):∃ x,xs[i]?=some x/\R x y:=by
 induction h generalizing i with
 | nil=>simp at e
 | cons h t ih =>
  cases i with
  | zero=>simp at e; subst e; exact ⟨_,rfl,h⟩
  | succ i=>simp at e; obtain ⟨x,h1,h2⟩:=ih e; exact ⟨x,by simpa using h1,h2⟩
theorem yH {α β:Type} {R:α->β->Prop} {xs:List α} {ys:List β} (h:Bm R xs ys) {i:Nat} {x:α} (e:xs[i]?=some x):∃ y,ys[i]?=some y/\R x y:=by
 induction h generalizing i with
 | nil=>simp at e
 | cons h t ih =>
  cases i with
  | zero=>simp at e; subst e; exact ⟨_,rfl,h⟩
  | succ i=>simp at e; obtain ⟨x,h1,h2⟩:=ih e; exact ⟨x,by simpa using h1,h2⟩
end
section
variable {X:Cx} {o i:Expr} {td ty:TE} {pos:Pos}
end
section
variable {prog:Ap} {w:AT} {A:AR} {E:Value->Ad->Prop} {s:Ad}
theorem aCv:HZ (.type "list") "keys"=pure none:=by rw [Hn,Fb]; kernel_rfl
theorem aFy {a:Addr} {xs:Array Value} {k:Nat} {Q:Option Value->Ad->Prop} (hx:s.heap.get? a=some { cls:=.type "list",data:=.seq xs k }) (hA:A.handled=none)
  (h:∀ h' tk,(∀ b o,s.heap.get? b=some o->h'.get? b=some o)->Q none { s with heap:=h',toks:=tk }):Ax (AC prog w) A (getAttr? (.ref a) "keys") Q E s:=by
 obtain ⟨hp,g,d,tk,os⟩:=s
 have hT:∀ tk',(⟨hp,g,d,tk',os⟩:Ad).TypeIs (.ref a) "list":=fun _=>⟨_,hx,rfl⟩
 have f1:=sub_AttributeError
 have f3:=FM.lookup
 have f4:=FM.bind (.ref a)
 have f5:=am_list_getattr_none
 unfold getAttr? getAttrBy? getAttrBy
 repeat (any_goals (first | assumption | exact hT _ | ((with_reducible show Ax _ _ (call (Ni "list.__getattribute__") _ _) _ _ _); refine GX FM (hT _) am_entry_list_getattribute (F.args_list_getattribute_2 _ _) (meets_getattribute_miss_list a xs k #[] "keys" _ aCv (by decide) (by decide)) ⟨hx,hA,fun h' tk' e hx'=>?_⟩) | wp_step))
 obtain ⟨t',u',he⟩:=hx'.there
 show Ax _ _ (Lb _ _ _ _ _ _ _) _ _ _
 unfold Lb
 repeat (any_goals (first | assumption | wp_step))
 exact h _ _ hx'.of.keeps
end
theorem aC5:Me table "dict.update.loop"=some Builtin.«dict.update.loop»:=LV (by kernel_rfl)
theorem jm:plainId "dict.update.loop"=true:=by decide +kernel
section
variable {prog:Ap} {w:AT} {A:AR} {R:Ka->Ad->Prop} {I:Addr} {fp wr:List Addr} {G:Array GP->Array GP->Prop} {n:Nat} {P:Nat->Value->Prop} {St:Nat->Ad->Prop}
noncomputable abbrev KB (prog:Ap) (w:AT):=BV (zb prog w)
noncomputable def PairAt (prog:Ap) (w:AT) (h:Heap) (v:Value) (x:List Bool×Addr×Value):Prop:=∃ q o m,v=.ref q/\h.get? q=some o/\o.cls=.type "tuple"/\o.data=.seq #[.ref x.2.1,x.2.2] m/\(KB prog w).is h x.1 x.2.1
theorem PairAt.keep {h h':Heap} {v:Value} {x:List Bool×Addr×Value} (k:∀ b o,(v=.ref b\/b=x.2.1)->h.get? b=some o->h'.get? b=some o) (p:PairAt prog w h v x):PairAt prog w h' v x:=by
 obtain ⟨q,o,m,rfl,h1,h2,h3,o2,its,n2,g1,g2⟩:=p
 exact ⟨q,o,m,rfl,k _ _ (.inl rfl) h1,h2,h3,o2,its,n2,k _ _ (.inr rfl) g1,g2⟩
theorem aJg (W:WalksS prog w A.in1 I fp wr G n P St) (D:Addr) (hDf:D ∉ fp) (hu:A.in1.units < cLine) (kps:List (List Bool×Addr×Value)) (hn:kps.length=n) (hz:n<=1000) (vals:Nat->Value) (hP:∀ i v,P i v->v=vals i)
  (hnd:(kps.map (·.1)).Nodup) (hap:∀ b x,x∈kps->b=x.2.1->b ∉ D :: wr) (hav:∀ i b,vals i=.ref b->b ∉ D :: wr) :
  ∀ (k i:Nat) (s:Ad),n - i=k->i<=n->St i s->(∀ j x,kps[j]?=some x->PairAt prog w s.heap (vals j) x)->s.heap.DictOfH (KB prog w) D (kps.take i) ->
   (∀ s',Moved (D :: wr) G s s'->s'.heap.DictOfH (KB prog w) D kps->R (.ok (.ret .none)) s') ->
   Ef (AC prog w) A (.builtin "dict.update.loop" ⟨[.ref D,.ref I,CL i,.none],[]⟩) R s:=by
 have hDw:D ∉ wr:=fun h=>hDf (W.sub _ h)
 have hsub:∀ b∈wr,b∈D :: wr:=fun b hb=>AI _ hb
 have keepP:∀ {h h':Heap} {j:Nat} {x:List Bool×Addr×Value},kps[j]?=some x->(∀ b o,b ∉ D :: wr->h.get? b=some o->h'.get? b=some o)->PairAt prog w h (vals j) x->PairAt prog w h' (vals j) x:=fun {h h' j x} e k p =>
  p.keep fun b o hb q=>k b o (hb.elim (fun z=>hav j b z) fun z=>hap b x (Av e) z) q
 intro k
 induction k with
 | zero =>
  intro i s hk hi hst hp hD hR
  have hin:i=n:=by lia
  subst hin
  refine Cr aC5 ?_
  rw [Dk jm _]
  show Ax _ A.in1 (EU (.ref I) >>= _) _ _ s
  refine Aa (W.done s _ _ hst fun s' hm=>?_)
  show Ax _ A.in1 (Ip D [] >>= _) _ _ s'
  refine Aa (Ab (Ab (hR s' (hm.mono hsub) ?_)))
  rw [<- hn,AZ] at hD
  obtain ⟨o,es,ep,h1,h2,h3,h4,h5,h6⟩:=hD
  refine ⟨o,es,ep,hm.heap D _ hDw h1,h2,h3,h4,fun x hx=>?_,h6⟩
  obtain ⟨j,hj⟩:=BG hx
  obtain ⟨_,_,_,_,_,_,_,q⟩:=keepP hj (fun b o hb e=>hm.heap b o (fun z=>hb (hsub b z)) e) (hp j x hj)
  exact q
 | succ k ih =>
  intro i s hk hi hst hp hD hR
  have hlt:i < n:=by lia
  obtain ⟨x,hx⟩:∃ x,kps[i]?=some x:=⟨kps[i]'(by lia),Au _⟩
  refine Cr aC5 ?_
  rw [Dk jm _]
  show Ax _ A.in1 (EU (.ref I) >>= _) _ _ s
  refine Aa (W.item i s _ _ hlt hst fun v s' hPv hst' hm=>?_)
  have hk1:∀ b o,b ∉ D :: wr->s.heap.get? b=some o->s'.heap.get? b=some o:=fun b o hb e=>hm.heap b o (fun z=>hb (hsub b z)) e
  have hp':∀ j y,kps[j]?=some y->PairAt prog w s'.heap (vals j) y:=fun j y e=>keepP e hk1 (hp j y e)
  obtain ⟨q,o,m,ev,h1,h2,h3,hkey⟩:=hp' i x hx
  rw [hP i v hPv,ev]
  have hD':s'.heap.DictOfH (KB prog w) D (kps.take i):=by
   obtain ⟨o,es,ep,h1,h2,h3,h4,h5,h6⟩:=hD
   refine ⟨o,es,ep,hm.heap D _ hDw h1,h2,h3,h4,fun y hy=>?_,h6⟩
   obtain ⟨j,hj⟩:=BG (GO hy)
   obtain ⟨_,_,_,_,_,_,_,q⟩:=hp' j y hj
   exact q
  have hT:s'.TypeIs (.ref q) "tuple":=⟨o,h1,h2⟩
  have est:ES (kps.take i) x.1 x.2.1 x.2.2=kps.take (i + 1):=by
   have:Gb (kps.take i) x.1=none:=by
    refine Go fun j p e=>?_
    have hj:j < i:=by have:=(Ao.mp e).1; rw [Bd] at this; lia
    rw [HX hj] at e
    obtain ⟨l1,e1⟩:=Ao.mp e
    obtain ⟨l2,e2⟩:=Ao.mp hx
    refine Eg.mp hnd j i (by rw [Ae]; exact l1) (by rw [Ae]; exact l2) hj ?_
    rw [LW,LW,e1,e2]
   rw [Ky this,Et,hx]; rfl
  show Ax _ A.in1 (Ji [Value.ref q] _ >>= _) _ _ s'
  refine Aa (BE (Aa (wpAny_tryCatch ?_)))
  unfold Builtin.Dict.pairItems
  refine Aa (DN hT ?_)
  rw [if_pos (by decide)]
  unfold No
  refine Aa ?_
  show Ax _ _ (load q >>= _) _ _ _
  refine Aa (GW h1 ?_)
  rw [h3]
  refine Ab (Ab ?_)
  show Ax _ _ (Ji [Value.ref x.2.1,x.2.2] (dictSet D (.ref x.2.1) x.2.2)) _ _ _
  refine BE (Lc (knd:=KB prog w) hu hkey hD' (fun h' dd hs=>?_) (by rw [Bd]; have:=AW; lia))
  rw [est] at dd
  have hs2:∀ b o,b≠D->s'.heap.get? b=some o->h'.get? b=some o:=fun b o hb e=>(hs.2 b hb).trans e
  refine Ab ⟨Fl jm _,?_⟩
  have e1:(CL ((i:Int) + 1))=CL ((i + 1:Nat):Int):=by rw [LX]
  rw [e1]
  refine ih (i + 1) _ (by lia) hlt (W.frame _ s' _ _ hst' (Ec _ _) fun b hb o e=>hs2 b o (fun z=>hDf (z ▸ hb)) e) (fun j y e=>keepP e (fun b o hb r=>hs2 b o (fun z=>hb (by rw [z]; exact AL)) r) (hp' j y e)) dd fun s'' hm'' hD''=>?_
  refine hR s'' (Moved.trans W.gtrans ((hm.mono hsub).then_heap (Ec _ _) fun b o hb e=>hs2 b o (fun z=>hb (by rw [z]; exact AL)) e) hm'') hD''
end
section
variable {X:Cx} {pins:List (Addr×Obj)} {σ:St} {H:Hp} {s:Ad}
noncomputable abbrev KTR (H:Hp):List (List Bool×V)->List (List Bool×Addr×Value)->Prop:=Bm fun p q=>p.1=q.1/\Rd H q.2.1 (.tup (p.1.map V.bl))/\RelV p.2 q.2.2
noncomputable def TbR (P:Ap) (w:AT) (H:Hp) (a:Addr) (kvs:List (List Bool×V)):Prop :=
 ∃ xs,Rd H a (DbO P w a xs)/\kvs.length<=sizeLine/\(a == Bx)=false/\KTR H kvs xs/\(xs.map (·.1)).Nodup
theorem zi {H H':Hp} {a:Addr} {u:HO} (s:Same H H') (h:Rd H a u):Rd H' a u:=h.elim (fun h=>.inl (s _ _ h)) fun ⟨o,h⟩=>.inr ⟨o,s _ _ h⟩
theorem TbR.same {P:Ap} {w:AT} {H H':Hp} {a:Addr} {kvs:List (List Bool×V)} (s:Same H H') (t:TbR P w H a kvs):TbR P w H' a kvs:=by
 obtain ⟨xs,h1,h2,h3,h4,h5⟩:=t
 exact ⟨xs,zi s h1,h2,h3,Paired.mapP h4 fun _ _ z=>⟨z.1,zi s z.2.1,z.2.2⟩,h5⟩
theorem TbX.r {P:Ap} {w:AT} {H:Hp} {a:Addr} {kvs:List (List Bool×V)} (t:TbX P w H a kvs):TbR P w H a kvs:=by
 obtain ⟨xs,h1,h2,h3,h4,h5⟩:=t
 exact ⟨xs,h1,h2,h3,Paired.mapP h4 fun _ _ z=>⟨z.1,z.2.1.rd,z.2.2⟩,h5⟩
noncomputable def TbW (P:Ap) (w:AT) (H:Hp) (a:Addr) (kvs:List (List Bool×V)):Prop :=
 ∃ xs,H a=some (DbO P w a xs)/\kvs.length<=sizeLine/\(a == Bx)=false/\KTR H kvs xs/\(xs.map (·.1)).Nodup
theorem TbW.r {P:Ap} {w:AT} {H:Hp} {a:Addr} {kvs:List (List Bool×V)} (t:TbW P w H a kvs):TbR P w H a kvs:=let ⟨xs,h1,h⟩:=t; ⟨xs,.inl h1,h⟩
noncomputable def aIL (H:Hp) (y:V) (x:List Bool×Addr×V):Prop:=∃ q,y=.ref q/\Rd H q (.tup [.ref x.2.1,x.2.2])/\Rd H x.2.1 (.tup (x.1.map V.bl))
theorem jT (hc:X.calm=true) (hA:X.A.units + 60 < cLine):qL X (.type "dict") (fun xs H Q=>∃ (p:Addr) (ys:List V) (kps:List (List Bool×Addr×V)),xs=[.ref p]/\H p=some (.lst ys)/\Bm (aIL H) ys kps/\(kps.map (·.1)).Nodup/\kps.length<=1000 /\
  ∀ (d:Addr) (H':Hp),H d=none->Same H H'->TbW X.prog X.w H' d (kps.map fun x=>(x.1,x.2.2))->Q (.ref d) H'):=by
 intro pins s σ H xs us Q I r h
 obtain ⟨p,ys,kps,rfl,hp,hpr,hnd,hz,q⟩:=h
 obtain ⟨u,rfl,rx⟩:=qm r
 cases rx
 have hh:X.A.handled=none:=I.ok.hd hc
 obtain ⟨hzl,its,m,rits,hl⟩:=(show ObjOk X.prog X.w H s.heap p (.lst ys) from I.hok p _ hp)
 have hv:∃ kvs:List (List Bool×Addr×Value),Bm (fun (x:List Bool×Addr×V) (y:List Bool×Addr×Value)=>x.1=y.1/\x.2.1=y.2.1/\RelV x.2.2 y.2.2) kps kvs/\Bm (PairAt X.prog X.w s.heap) its kvs:=by
  clear q hl hz hnd hp r hzl
  induction hpr generalizing its with
  | nil=>cases rits; exact ⟨[],.nil,.nil⟩
  | @cons y x ys kps h t ih =>
   cases rits with
   | cons r1 rt =>
    obtain ⟨kvs,h1,h2⟩:=ih _ rt
    obtain ⟨qq,rfl,g1,g2⟩:=h
    obtain ⟨_,its2,r2,o,h3,h4,n,h5⟩:=(show ObjOk X.prog X.w H s.heap qq (.tup [.ref x.2.1,x.2.2]) from g1.ok I.hok)
    cases r2 with
    | cons ra rb =>
     cases rb with
     | @cons _ u2 _ _ rb rc =>
      cases rc
      cases ra
      cases r1
      exact ⟨(x.1,x.2.1,u2) :: kvs,.cons ⟨rfl,rfl,rb⟩ h1,.cons ⟨qq,o,n,rfl,h3,h4,h5,qw I.hok g2⟩ h2⟩
 obtain ⟨kvs,hv1,hv2⟩:=hv
 have hkl:kvs.length=its.length:=hv2.length.symm
 have hkl2:kvs.length=kps.length:=hv1.length.symm
 have hks:kvs.map (·.1)=kps.map (·.1):=by
  clear hv2 hkl hkl2 hz q hnd hpr
  induction hv1 with
  | nil=>rfl
  | cons h t ih=>rw [Aw,Aw,ih,h.1]
 refine callType_codes (Q₁:=fun obj s₁=>obj=.ref s.heap.objs.size/\s₁={ s with heap:=s.heap.push { cls:=.type "dict",data:=.dict #[] } }) LY (JW _) Lu (LZ _ ⟨rfl,rfl⟩) ?_
 rintro obj s₁ ⟨rfl,rfl⟩
 have hD0:(s.heap.push { cls:=.type "dict",data:=.dict #[] }).get? s.heap.objs.size=some { cls:=.type "dict",data:=.dict #[] }:=Ak _ rfl
 have hT0:GU { s with heap:=s.heap.push { cls:=.type "dict",data:=.dict #[] } } (.ref s.heap.objs.size) "dict":=⟨_,hD0,rfl⟩
 have hl1:(s.heap.push { cls:=.type "dict",data:=.dict #[] }).get? p=some { cls:=.type "list",data:=.seq its.toArray m }:=Ac _ hl
 refine ⟨hT0,Ld _ _,?_⟩
 unfold Builtin.«dict.__init__»
 refine Aa ?_
 unfold Iq
 refine Aa (DC hT0 ?_)
 show Ax _ _ (pure (s.heap.objs.size,[Value.ref p])) _ _ _
 refine Ab ?_
 show Ax _ _ (EE "dict.__init__" s.heap.objs.size (.ref p) [] .none) _ _ _
 unfold EE
 refine Aa (DN (T:="list") ⟨_,hl1,rfl⟩ ?_)
 rw [if_pos (by decide)]
 have hh2:X.A.in1.in1.handled=none:=by simp [hh]
 refine Aa (aFy hl1 hh2 fun h2 tk kp=>?_)
 show Ax _ _ (if true=true then _ else _) _ _ _
 rw [if_pos rfl]
 refine Aa (Cp ?_)
 have hl2:=kp _ _ hl1
 have hI:h2.IsList p its.toArray:=⟨_,hl2,rfl,m,rfl⟩
 have hh3:X.A.in1.in1.handled=none:=hh2
 have hDl:=kp _ _ hD0
 have lD:s.heap.objs.size < h2.objs.size:=An hDl
 have lp:p < s.heap.objs.size:=An hl
 have hneI:p≠h2.objs.size:=AE (HC lp lD)
 have hDf:s.heap.objs.size ∉ [h2.objs.size,p]:=by
  simp only [Aq,BI,or_false,not_or]
  exact ⟨AE lD,Ci lp⟩
 have old:∀ b,b < s.heap.objs.size->b ∉ s.heap.objs.size :: [h2.objs.size]:=fun b hb=>by
  simp only [Aq,BI,or_false,not_or]
  exact ⟨AE hb,AE (HC hb lD)⟩
 have k3:∀ b o,s.heap.get? b=some o->(h2.push { cls:=.type "list_iterator",data:=.fields #[.ref p,.int 0 0] }).get? b=some o:=fun b o e=>Ac _ (kp _ _ (Ac _ e))
 have mem:∀ i x,kvs[i]?=some x->∃ v,its[i]?=some v/\PairAt X.prog X.w s.heap v x:=fun i x e=>jS hv2 e
 refine Aa (El hI ?_)
 refine Ab ⟨Fl jm _,?_⟩
 refine aJg ((Walks.list hh3 _ p hneI its.toArray).toS) s.heap.objs.size hDf (by show X.A.units + 1 + 1 < cLine; lia) kvs (by rw [hkl]; simp) (by simp; lia) (fun i=>(its[i]?).getD .none) (fun i v e=>?_) (by rw [hks]; exact hnd) (fun b x hx e=>?_) (fun i b e=>?_) _ 0 _ rfl (AS _) ⟨⟨_,Ak _ rfl,rfl,rfl⟩,hI.push _⟩ (fun j x e=>?_) ?_ fun s' hm hD=>?_
 ·rw [DA] at e
  rw [e]; rfl
 ·obtain ⟨j,hj⟩:=BG hx
  obtain ⟨v,_,q,o,mm,_,_,_,_,o2,_,_,g,_⟩:=mem j x hj
  exact old b (by rw [e]; exact An g)
 ·cases hi:its[i]? with
  | none=>rw [hi] at e; cases e
  | some v =>
   rw [hi] at e
   obtain ⟨x,_,q,o,mm,e2,g,_⟩:=yH hv2 hi
   have e3:Value.ref q=.ref b:=e2.symm.trans e
   cases e3
   exact old b (An g)
 ·obtain ⟨v,hv,pa⟩:=mem j x e
  show PairAt _ _ _ ((its[j]?).getD .none) x
  rw [hv]
  exact pa.keep fun b o _ r=>k3 b o r
 ·exact ⟨_,#[],0,Ac _ hDl,⟨rfl,rfl,rfl⟩,rfl,rfl,fun x hx=>(nomatch hx),CZ⟩
 ·obtain ⟨h',g',d',tk',os'⟩:=s'
  have eg:g'=s.gens:=hm.gens
  have ed:d'=s.drawn:=hm.drawn
  have eo:os'=s.os:=hm.os
  subst eg; subst ed; subst eo
  obtain ⟨o,es,ep,h1,hh2,hh3,h4,h5,h6⟩:=hD
  have k4:∀ b u,s.heap.get? b=some u->h'.get? b=some u:=fun b u e=>hm.heap b u (old b (An e)) (k3 b u e)
  refine ⟨rfl,.ref s.heap.objs.size,_,I.laid (a:=s.heap.objs.size) (o:=DbO X.prog X.w s.heap.objs.size kvs) (t':=tk') k4 (Ai _) (aC4 ⟨o,es,ep,h1,hh2,hh3,h4⟩),rfl,?_⟩
  have nD:H s.heap.objs.size=none:=I.hok.fresh (Ai _)
  have sD:Same H (upd H s.heap.objs.size (DbO X.prog X.w s.heap.objs.size kvs)):=fun b u e=>by rw [zI (zE e nD)]; exact e
  refine q _ _ nD sD ⟨kvs,zB,by rw [Ae]; have:=AW; lia,beq_eq_false_iff_ne.mpr (CB (AE I.big)),?_,h6⟩
  have hkey:∀ x∈kps,Rd H x.2.1 (.tup (x.1.map V.bl)):=fun x hx=>by
   obtain ⟨j,hj⟩:=BG hx
   obtain ⟨y,_,_,_,_,g⟩:=jS hpr hj
   exact g
  clear hpr q hnd hz h6 h4 hkl2 hks hv2 hkl mem h5
  revert sD
  generalize upd H s.heap.objs.size (DbO X.prog X.w s.heap.objs.size kvs)=H'
  intro sD
  induction hv1 with
  | nil=>exact .nil
  | @cons x y xs ys h t ih =>
   obtain ⟨e1,e2,e3⟩:=h
   refine .cons ⟨e1,?_,e3⟩ ?_
   ·have:=zi sD (hkey x AL)
    rw [e2] at this; exact this
   ·exact ih fun z hz=>hkey z (AI _ hz)
end
section
variable {prog:Ap} {w:AT} {K:Type} [DecidableEq K] {knd:Mh prog w K} {A:AR} {E:Value->Ad->Prop} {s:Ad}
end
section
variable {X:Cx} {pins:List (Addr×Obj)} {σ:St} {H:Hp} {s:Ad} {a:Addr} {kvs:List (List Bool×V)}
theorem qR (I:Inv X pins σ H s) (t:TbR X.prog X.w H a kvs):(a == Bx)=false/\∃ xs,KTR H kvs xs/\s.heap.DictOfH (KB X.prog X.w) a xs:=by
 obtain ⟨xs,h1,h2,h3,h4,h5⟩:=t
 obtain ⟨⟨o,es,ep,g1,g2,g3,g4⟩,_⟩:=(show ObjOk X.prog X.w H s.heap a (DbO X.prog X.w a xs) from h1.ok I.hok)
 refine ⟨h3,xs,h4,o,es,ep,g1,g2,g3,g4,fun x hx=>?_,h5⟩
 obtain ⟨j,hj⟩:=BG hx
 obtain ⟨y,_,e,g,_⟩:=jS h4 hj
 rw [e] at g
 exact qw I.hok g
end
section
variable {prog:Ap} {w:AT}
end
section
variable {X:Cx} {o:Expr} {to:TE} {apos cpos:Pos}
end
section
variable {X:Cx} {p pos:Pos}
theorem aAf:BR "dict"=some (.type "dict"):=by decide +kernel
end
section
variable {P:Ap} {w:AT} {H:Hp} {h:Heap} {a:Addr}
end
section
variable {P:Ap} {w:AT} {H H':Hp} {h:Heap} {a:Addr} {kvs:List (List Int×V)}
end
section
variable {X:Cx} {pins:List (Addr×Obj)} {σ:St} {H:Hp} {s:Ad} {a b:Addr} {kvs:List (List Int×V)} {k:List Int} {A:AR} {E:Value->Ad->Prop}
end
section
variable {X:Cx} {o i value:Expr} {td ty tv tx:TE} {pos pos':Pos}
end
section
variable {X:Cx} {pins:List (Addr×Obj)} {σ:St} {H:Hp} {s:Ad} {a b:Addr} {kvs:List (List Int×V)} {k:List Int} {A:AR} {E:Value->Ad->Prop}
end
section
variable {X:Cx} {ke ve:Expr} {tk tv:TE} {pos:Pos}
end
section
variable {prog:Ap} {w:AT} {A:AR} {E:Value->Ad->Prop} {s:Ad}
end
end L2
namespace L2
open PySem PySem.Spec PyProof.Rows PySem.W
section
variable {prog:Ap} {w:AT} {A:AR} {E:Value->Ad->Prop} {s:Ad}
theorem aFz {d I:Addr} {o:Obj} {es:Array CP} {ep:Nat} (hh:A.handled=none) (hne:d≠I) (hd:o.data=.dict es ep) :
  Walks prog w A I [I,d] [I] es.size (fun i v=>∃ e,es[i]?=some e/\v=e.key) (fun i h=>aA2 h I d i es.size ep/\h.get? d=some o) where
 sub:=fun b hb=>by simp at hb; simp [hb]
 frame:=fun i h h' st k=>⟨k I (by simp) _ st.1,k d (by simp) _ st.2⟩
 item:=fun i s Q E hi st hQ=>aFw st.1 st.2 hd (Am hi) fun h' it' sb =>
  hQ _ h' s.toks ⟨_,Am hi,rfl⟩ ⟨it',(sb.2 d hne).trans st.2⟩ fun b o nb e=>(sb.2 b (by simpa using nb)).trans e
 done:=fun s Q E st hQ=>aFx hh st.1 st.2 hd (Cw (Ai _)) fun h' eb=>hQ h' s.toks fun b o nb e=>eb b o (by simpa using nb) e
 self:=fun i s Q E st h=>qN (d:=d) (i:=i) (n:=es.size) (ep:=ep) ⟨_,st.1,rfl,rfl⟩ h
theorem aG0 {d:Addr} {o:Obj} {es:Array CP} {ep:Nat} (lo:(d == Bx)=false) (hc:o.cls=.type "dict") (hd:o.data=.dict es ep) :
  KdlSrc prog w "dict" d d es.size (fun i v=>∃ e,es[i]?=some e/\v=e.key) (fun h=>h.get? d=some o) where
 type:=fun _ hm=>⟨o,hm,hc⟩
 there:=fun _ hm=>⟨An hm,An hm⟩
 keep:=fun _ _ hm hk=>hk d (.inl rfl) o hm
 notList:=by decide
 notTuple:=by decide
 hint:=fun _ _ _ _ hm hq=>kdl_hint_dict ⟨o,hm,hc⟩ hq
 iter:=fun _ s hh hm=>⟨_,_,(fun _ _ hq=>aFv lo hm hc hd hq),aFz hh (AE (An hm)) hd,⟨Ak _ rfl,Ac _ hm⟩⟩
theorem aCw {a:Addr} {o:Obj} {es:Array CP} {ep:Nat} {Q:List Value->Ad->Prop} (hh:A.handled=none) (hsys:(a == Bx)=false) (ho:s.heap.get? a=some o) (hc:o.cls=.type "dict") (hd:o.data=.dict es ep) (hz:es.size<=900000)
  (q:∀ (g:Heap) (tk:Nat),(∀ b o,s.heap.get? b=some o->g.get? b=some o)->s.heap.objs.size < g.objs.size->Q (es.toList.map (·.key)) { s with heap:=g,toks:=tk }) :
  Ax (AC prog w) A (Ju (.ref a)) Q E s:=by
 have szl:=AW
 unfold Ju
 refine Aa (HR (Cr Ft ?_))
 show Ax _ _ (do KG (.builtin "list.__iadd__" ⟨[<- Mr [],.ref a],[]⟩)) _ _ s
 have ne:s.heap.objs.size≠a:=Ci (An ho)
 refine Aa (Ed (Ab ⟨DF _ (by decide +kernel),aHW (s:={ s with heap:=s.heap.push (BX "list" #[] 0) }) (aG0 (o:=o) (es:=es) (ep:=ep) hsys hc hd) hh (Ac _ ho) ne ne (Ak _ rfl) (by lia) fun h' tk acc' c' k hS' hacc=>?_⟩))
 show Ax _ _ (load s.heap.objs.size >>= _) Q E _
 refine Aa (GW hS' (Ab ?_))
 obtain ⟨sz,it⟩:=hacc
 have e:acc'.toList=es.toList.map (·.key):=by
  apply Er
  intro i
  rw [Bh,Br,Br]
  rcases Cv i es.size with hi | hi
  ·have ei:acc'[i]?=some acc'[i]:=Am (by lia)
   obtain ⟨en,e1,e2⟩:=it i _ ei
   rw [ei,e1,e2]; rfl
  ·rw [Cw (by lia),Cw hi]; rfl
 show Q acc'.toList _
 rw [e]
 refine q h' tk (fun b ob e=>k b ob (fun z=>?_) (Ac _ e)) (An hS')
 rw [z] at e
 exact absurd (An e) (BM _)
end
theorem aA3:∀ bs:List Addr,Vals (bs.map V.ref) (bs.map Value.ref)
 | []=>.nil
 | b :: r=>.cons rfl (aA3 r)
section
variable {X:Cx}
end
end L2
namespace L2
open PySem PySem.Spec PyProof.Rows
theorem aC6:∀ a b:List Int,eqDs (a.map D.int) (b.map D.int)=decide (a=b)
 | [],[]=>by rw [Cu,eqDs]; rfl
 | [],y :: b=>by rw [Cu,Aw,eqDs] <;> simp
 | x :: a,[]=>by rw [Cu,Aw,eqDs] <;> simp
 | x :: a,y :: b=>by
  rw [Aw,Aw,eqDs,aC6 a b,eqD]
  by_cases h:x=y
  ·subst h; simp
  ·simp [h]
section
variable {X:Cx} {pins:List (Addr×Obj)} {σ:St} {H:Hp} {s:Ad}
end
section
variable {prog:Ap} {w:AT}
end
section
variable {X:Cx} {o e:Expr} {to te:TE} {apos cpos:Pos}
end
theorem aEE {α:Type} {l:List α} {i:Nat} {x:α} (h:l[i]?=some x):l.take (i + 1)=l.take i++[x]:=by rw [Et,h]; rfl
noncomputable def mgH {K:Type} [DecidableEq K] (xs ys:List (K×Addr×Value)):List (K×Addr×Value):=ys.foldl (fun acc y=>ES acc y.1 y.2.1 y.2.2) xs
section
variable {prog:Ap} {w:AT} {K:Type} [DecidableEq K] {knd:Mh prog w K} {A:AR} {E:Value->Ad->Prop} {s:Ad}
theorem aEF (xs:List (K×Addr×Value)) (k:K) (a:Addr) (v:Value):(ES xs k a v).length<=xs.length + 1:=by
 unfold ES
 split
 ·rw [Ae]; lia
 ·rw [Al]; exact Ai _
theorem aJh (ys:List (K×Addr×Value)):∀ xs:List (K×Addr×Value),(mgH xs ys).length<=xs.length + ys.length:=by
 induction ys with
 | nil=>intro xs; exact Ai _
 | cons y r ih =>
  intro xs
  have h1:=ih (ES xs y.1 y.2.1 y.2.2)
  have h2:=aEF xs y.1 y.2.1 y.2.2
  show (mgH (ES xs y.1 y.2.1 y.2.2) r).length<=xs.length + (r.length + 1)
  lia
theorem aIM {xs ys:List (K×Addr×Value)} {i:Nat} {y:K×Addr×Value} (h:ys[i]?=some y):mgH xs (ys.take (i + 1))=ES (mgH xs (ys.take i)) y.1 y.2.1 y.2.2:=by
 unfold mgH
 rw [aEE h,Lp]
 rfl
theorem aEG {d a:Addr} {xs:List (K×Addr×Value)} {k:K} {v:Value} {Q:Unit->Ad->Prop} (hu:knd.room A) (hkey:knd.is s.heap k a) (hm:s.heap.DictOfH knd d xs) (hsz:xs.length<=sizeLine)
  (hQ:∀ h',h'.DictOfH knd d (ES xs k a v)->Ch d s.heap h'->Q () { s with heap:=h' }):Ax (AC prog w) A (IK d (.ref a) (knd.hash k) v) Q E s:=by
 obtain ⟨o,es,ep,ho,hc,hd,he,his,hn⟩:=hm
 have esz:=Ex he
 unfold IK
 refine BE (Aa (FE hu hkey ho hd he his hn (fun hno=>?_) fun j p hj=>?_))
 ·have hnot:k ∉ xs.map (·.1):=not_mem_keys_of_get hno
  have e0:=Ky (Go hno) a v
  refine Aa (Cp (wpAny_updateDictKeys (hz:=by lia) ho hd (hQ _ ?_ (AX ..))))
  rw [e0]
  refine ⟨_,_,ep + 1,Ba _ ho (FF (DJ hd _)),hc.mapDictKeys _,DJ hd _,by simp [he,CK],fun x hx=>?_,?_⟩
  ·rcases Ar.mp hx with hx | hx
   ·exact knd.keeps (his x hx) ho hd (AX ..)
   ·rw [Af.mp hx]; exact knd.keeps hkey ho hd (AX ..)
  ·rw [AN]
   exact Fj.mpr ⟨hn,Ga _ _,fun x hx y hy e=>hnot (by rw [<- show y=k by simpa using hy,<- e]; exact hx)⟩
 ·have e0:=storedH_old (LM hn hj) a v
  refine Aa (Cp (Aa (wpAny_updateDict ho hd (wpAny_point (hQ _ ?_ (AX ..))))))
  rw [e0]
  refine ⟨_,_,ep,Ba _ ho (FF (Ma hd _)),hc.mapDict _,Ma hd _,?_,fun x hx=>?_,by rw [keys_map_putAt]; exact hn⟩
  ·have t:=modify_map_putAt (CK knd) (fun e:CP=>{ e with val:=v }) k v (fun _ _=>rfl) hn hj
   rw [<- he] at t
   obtain ⟨l⟩:=es
   simpa using t
  ·obtain ⟨y,hy,rfl⟩:=AJ.mp hx
   unfold IJ
   split <;> exact knd.keeps (his y hy) ho hd (AX ..)
theorem aGw {ys:List (K×Addr×Value)} (h:(ys.map fun y=>knd.hash y.1).Nodup) {es:Array CP} (he:es.toList=ys.map (CK knd)) {e:CP} (hm:e∈es.toList):¬ (es.filter (·.hash == e.hash)).size > 1:=by
 have e1:(es.filter (·.hash == e.hash)).toList=es.toList.filter (·.hash == e.hash):=by simp
 rw [<- AA,e1,he]
 rw [he] at hm
 obtain ⟨y,hy,rfl⟩:=AJ.mp hm
 clear hm e1 he
 have all:∀ l:List (K×Addr×Value),(l.map fun y=>knd.hash y.1).Nodup->((l.map (CK knd)).filter (·.hash == (CK knd y).hash)).length<=1:=by
  intro l
  induction l with
  | nil=>intro _; simp
  | cons z r ih =>
   intro nd
   obtain ⟨n1,n2⟩:=BY.mp nd
   rw [Aw,FA]
   split
   ·rename_i c
    have c':knd.hash z.1=knd.hash y.1:=by simpa [CK] using c
    have:(r.map (CK knd)).filter (·.hash == (CK knd y).hash)=[]:=by
     rw [List.filter_eq_nil_iff]
     intro q hq
     obtain ⟨x,hx,rfl⟩:=AJ.mp hq
     intro c2
     have c2':knd.hash x.1=knd.hash y.1:=by simpa [CK] using c2
     exact n1 (AJ.mpr ⟨x,hx,c2'.trans c'.symm⟩)
    rw [this]; simp
   ·exact ih n2
 have:=all ys h
 lia
end
section
variable {prog:Ap} {w:AT} {A:AR} {E:Value->Ad->Prop} {s:Ad}
theorem aIN {K:Type} [DecidableEq K] {kk:KeyKind prog w K} {nm:String} {d o:Addr} {xs ys:List (List K×Addr×Value)} {Q:Unit->Ad->Prop} (hu:A.units < cLine) (hne:d≠o) (hoS:(o == Bx)=false) (hz:xs.length + ys.length<=sizeLine)
  (hd:s.heap.DictOfH (BV kk) d xs) (ho:s.heap.DictOfH (BV kk) o ys) (hh:xs=[]->(ys.map fun y=>(BV kk).hash y.1).Nodup)
  (h:∀ h',h'.DictOfH (BV kk) d (mgH xs ys)->Ch d s.heap h'->Q () { s with heap:=h' }) :
  Ax (AC prog w) A (Jd nm d o) Q E s:=by
 obtain ⟨oo,es,ep,hoo,hco,hdo,hko,hio,hno⟩:=id ho
 have esz:=Ex hko
 unfold Jd
 rw [if_neg (by simpa using hne)]
 unfold Gz
 rw [if_neg (show ¬ (o == Bx)=true by rw [hoS]; exact As)]
 refine Aa (Ab (Aa (BU hoo hdo ?_)))
 dsimp only
 have loop:Ax (AC prog w) A (do
   let epoch <- dictEpoch o
   for i in [0:(<- dictEntries o).size] do
    let some e:=(<- dictEntries o)[i]? | IF "internal:dict-merge"
    Ji [e.key,e.val] (IK d e.key e.hash e.val)
    if (<- dictEpoch o) != epoch then IF s!"{nm}:source-changed-during-callback") Q E s:=by
  refine Aa (Ew hoo hdo (Aa (BU hoo hdo (Aa ?_))))
  rw [Fn]
  simp only [JH,Gu,FU,Nat.div_one]
  refine IT _ (fun rest _ s'=>∃ g i,s'={ s with heap:=g }/\i + rest.length=es.size/\rest=Kz i rest.length/\g.DictOfH (BV kk) d (mgH xs (ys.take i))/\Ch d s.heap g) _ ?_ ?_ _ _
   ⟨s.heap,0,rfl,by simp,by simp,hd,Ii _ _⟩
  ·rintro x rest b s' ⟨g,i,rfl,hi,hri,dg,sb⟩
   have hx:x=i:=by rw [AY,GI] at hri; exact (IL hri).1
   have hrest:rest=Kz (i + 1) rest.length:=by rw [AY,GI] at hri; exact (IL hri).2
   subst hx
   rw [AY] at hi
   have hoo':g.get? o=some oo:=(sb.2 o (CB hne)).trans hoo
   refine Aa (BU hoo' hdo ?_)
   obtain ⟨⟨k,p⟩,hkp⟩:∃ p,ys[x]?=some p:=⟨ys[x]'(by lia),Au _⟩
   have he:es[x]?=some (CK (BV kk) (k,p)):=by rw [entry_at hko,hkp]; rfl
   rw [he]
   have hkey:=hio (k,p) (Av hkp)
   obtain ⟨od0,es0,ep0,hod0,_,hdd0,_⟩:=id hd
   have hkg:(BV kk).is g k p.1:=(BV kk).keeps hkey hod0 hdd0 sb
   have ml:=aJh (ys.take x) xs
   have tl:(ys.take x).length<=ys.length:=by rw [Bd]; lia
   show Ax _ _ (Ji [.ref p.1,p.2] (IK d (.ref p.1) ((BV kk).hash k) p.2) >>= _) _ _ _
   refine Aa (BE (aEG (s:={ s with heap:=g }) hu hkg dg (by lia) fun g2 dg2 sb2=>?_))
   have hoo2:g2.get? o=some oo:=(sb2.2 o (CB hne)).trans hoo'
   refine Aa (Ew hoo2 hdo ?_)
   rw [if_neg (by simp)]
   exact Ab ⟨g2,x + 1,rfl,by lia,hrest,by rw [aIM hkp]; exact dg2,sb.trans sb2⟩
  ·rintro b s' ⟨g,i,rfl,hi,_,dg,sb⟩
   rw [Fa] at hi
   have ei:i=ys.length:=by lia
   rw [ei,AZ] at dg
   exact Ab (h g dg sb)
 split
 ·rename_i hfew
  obtain ⟨od,es0,ep0,hod,hcd,hdd,hkd,hid,hnd⟩:=id hd
  refine Aa (BU hod hdd ?_)
  split
  ·rename_i hemp
   have e0:es0=#[]:=Ir.mp hemp
   have ex:xs=[]:=by
    rw [e0] at hkd
    exact FG.mp hkd.symm
   subst ex
   have hnd':=hh rfl
   have em:mgH ([]:List (List K×Addr×Value)) ys=ys:=by
    have all:∀ (r acc:List (List K×Addr×Value)),((acc++r).map (·.1)).Nodup->mgH acc r=acc++r:=by
     intro r
     induction r with
     | nil=>intro acc _; exact (BD _).symm
     | cons y t ih =>
      intro acc nd
      have ny:Gb acc y.1=none:=Go fun j p hj=>by
       rw [AN,Aw] at nd
       have:=(Fj.mp nd).2.2 y.1 (AJ.mpr ⟨_,Av hj,rfl⟩) y.1 (AL ..)
       exact this rfl
      show mgH (ES acc y.1 y.2.1 y.2.2) t=_
      rw [Ky ny,ih _ (by rw [BN]; exact nd),BN]; rfl
    exact all ys [] (by simpa using hno)
   rw [em] at h
   unfold Builtin.Dict.entriesForEmpty
   refine Aa (Aa (BU hoo hdo (Aa ?_)))
   rw [<- Array.forIn_toList]
   refine IT _ (fun rest _ s'=>s'=s/\∀ e∈rest,e∈es.toList) _ ?_ ?_ _ _ ⟨rfl,fun e he=>he⟩
   ·rintro e rest b s' ⟨rfl,hm⟩
    have he:=hm e (AL ..)
    have h1:=aGw (knd:=BV kk) hnd' hko he
    have he2:=he
    rw [hko] at he2
    obtain ⟨y,hy,rfl⟩:=AJ.mp he2
    obtain ⟨ok,its,n,g1,g2,_⟩:=hio y hy
    have hT:s'.TypeIs (.ref y.2.1) "tuple":=⟨ok,g1,g2⟩
    refine Aa ?_
    unfold Builtin.Dict.quietEq
    show Ax _ _ (specialOf (.ref y.2.1) "__eq__" >>= _) _ _ _
    refine Aa (Fd hT PySem.F.slot_tuple_eq.lookup (Ab ?_))
    rw [if_pos (by decide),if_neg h1]
    exact Ab ⟨rfl,fun e he=>hm e (AI _ he)⟩
   ·rintro b s' ⟨rfl,_⟩
    refine Ab ?_
    split
    ·refine Aa (Je hod hdd (Ab (h _ ⟨_,_,ep0 + 1,Ba _ hod (FF (DJ hdd _)),hcd.mapDictKeys _,DJ hdd _,hko,fun x hx=>?_,hno⟩ (AX ..))) (by rw [Fa] at hz; lia))
     exact (BV kk).keeps (hio x hx) hod hdd (AX ..)
    ·rename_i hne2
     have e1:es=#[]:=Ir.mp (by simpa using hne2)
     have ey:ys=[]:=by
      rw [e1] at hko
      exact FG.mp hko.symm
     subst ey
     exact Ab (h _ hd (Ii _ _))
  ·exact loop
 ·exact loop
end
section
variable {X:Cx} {o e:Expr} {to te:TE} {apos cpos:Pos}
end
section
variable {X:Cx}
end
theorem aIO {α β:Type} {R:α->β->Prop} {ys xs:List α} (p:ys.Perm xs):∀ {ds:List β},Bm R xs ds->∃ es,es.Perm ds/\Bm R ys es:=by
 induction p with
 | nil=>intro ds h; exact ⟨ds,.refl _,h⟩
 | cons x q ih =>
  intro ds h
  cases h with
  | cons h1 h2 =>
   obtain ⟨es,p1,p2⟩:=ih h2
   exact ⟨_ :: es,p1.cons _,.cons h1 p2⟩
 | swap x y l =>
  intro ds h
  cases h with
  | cons h1 h2 =>
   cases h2 with
   | cons h3 h4=>exact ⟨_,.swap ..,.cons h3 (.cons h1 h4)⟩
 | trans _ _ i1 i2 =>
  intro ds h
  obtain ⟨es,p1,h1⟩:=i2 h
  obtain ⟨fs,p2,h2⟩:=i1 h1
  exact ⟨fs,p2.trans p1,h2⟩
open Classical in
section
variable {X:Cx}
end
section
variable {prog:Ap} {w:AT} {K:Type} [DecidableEq K] {knd:Mh prog w K} {A:AR} {E:Value->Ad->Prop} {s:Ad}
noncomputable def Hits (A:AR) (s:Ad) (ka kb:List (K×Addr×Value)) (ok:Nat->Bool):Prop :=
 ∀ (i:Nat) (k:K) (p:Addr×Value),ka[i]?=some (k,p)->(∃ (j:Nat) (q:Addr×Value),kb[j]?=some (k,q)/\FK A s p.2 q.2 (ok i))\/((∀ (j:Nat) (q:Addr×Value),kb[j]?≠some (k,q))/\ok i=false)
noncomputable def aBS (n m:Nat) (ok:Nat->Bool):Bool:=decide (n=m) && (Bc n).all ok
theorem aC7 {nm:String} {a b:Addr} {ka kb:List (K×Addr×Value)} {ok:Nat->Bool} {Q:Bool->Ad->Prop} (hu:knd.room A) (ha:(a == Bx)=false) (hb:(b == Bx)=false)
  (da:s.heap.DictOfH knd a ka) (db:s.heap.DictOfH knd b kb) (hits:Hits A s ka kb ok) (h:Q (aBS ka.length kb.length ok) s) :
  Ax (AC prog w) A (Jf nm a b) Q E s:=by
 obtain ⟨oa,es,ep,hoa,_,hda,hka,hia,hna⟩:=da
 obtain ⟨ob,es',ep',hob,_,hdb,hkb,hib,hnb⟩:=db
 have hla:es.size=ka.length:=Ex hka
 have hlb:es'.size=kb.length:=Ex hkb
 unfold Jf Gz
 rw [if_neg (show ¬ (a == Bx)=true by rw [ha]; exact As),if_neg (show ¬ (b == Bx)=true by rw [hb]; exact As)]
 refine Aa (Ab (Aa (Ab (Aa (BU hoa hda ?_)))))
 dsimp only
 refine Aa (BU hob hdb ?_)
 by_cases hl:ka.length=kb.length
 case neg =>
  rw [if_pos (by rw [hla,hlb]; simpa using hl)]
  have e:aBS ka.length kb.length ok=false:=by unfold aBS; rw [decide_eq_false hl]; rfl
  rw [e] at h
  exact Aa (Cp (Ab h))
 rw [if_neg (by rw [hla,hlb,hl]; simp)]
 have es0:aBS ka.length kb.length ok=(Bc ka.length).all ok:=by unfold aBS; rw [decide_eq_true hl]; rfl
 rw [es0] at h
 refine Aa (Ew hoa hda (Aa ?_))
 rw [Fn]
 simp only [JH,Gu,FU,Nat.div_one]
 refine IT _ (fun rest q s'=>s'=s/\q=(none,())/\∃ i,i + rest.length=es.size/\rest=Kz i rest.length/\∀ x,x < i->ok x=true) _ ?_ ?_ _ _ ⟨rfl,rfl,0,by simp,by simp,fun x hx=>absurd hx (Ep _)⟩
 ·rintro x rest q s' ⟨rfl,rfl,i,hi,hri,hok⟩
  have hx:x=i:=by rw [AY,GI] at hri; exact (IL hri).1
  have hrest:rest=Kz (i + 1) rest.length:=by rw [AY,GI] at hri; exact (IL hri).2
  subst hx
  rw [AY] at hi
  have hlt:x < es.size:=by lia
  refine Aa (BU hoa hda ?_)
  obtain ⟨⟨k,p⟩,hkp⟩:∃ p,ka[x]?=some p:=⟨ka[x]'(by lia),Au _⟩
  have he:es[x]?=some (CK knd (k,p)):=by rw [<- Br,hka,Bh,hkp]; rfl
  rw [he]
  have hkey:=hia (k,p) (Av hkp)
  have bad:ok x=false->Q false s':=fun hb=>by
   have:(Bc ka.length).all ok=false:=List.all_eq_false.mpr ⟨x,Cb.mpr (by lia),by rw [hb]; exact As⟩
   rw [this] at h; exact h
  show Ax _ _ (Ji [.ref p.1,p.2] _ >>= _) _ _ _
  rcases hits x k p hkp with ⟨j,q,hj,eq⟩ | ⟨no,nok⟩
  ·refine Aa (BE (Aa (FE (k:=k) hu hkey hob hdb hkb hib hnb (fun no=>absurd hj (no j q)) fun j2 q2 hj2=>?_)))
   have hqq:q2=q:=by
    have e1:=LM hnb hj2
    rw [LM hnb hj] at e1
    cases e1; rfl
   subst hqq
   have he2:es'[j2]?=some (CK knd (k,q2)):=by rw [<- Br,hkb,Bh,hj2]; rfl
   refine Aa (BU hob hdb ?_)
   rw [he2]
   refine BE (eq prog w _ _ ?_)
   cases hb:ok x with
   | false =>
    show Ax _ _ (if (!false)=true then _ else _) _ _ _
    rw [if_pos (by decide)]
    exact Ab (Ab (bad hb))
   | true =>
    show Ax _ _ (if (!true)=true then _ else _) _ _ _
    rw [if_neg (by decide)]
    refine Aa (Ew hoa hda ?_)
    rw [if_neg (by simp)]
    refine Ab ⟨rfl,rfl,x + 1,by lia,hrest,fun y hy=>?_⟩
    by_cases e:y=x
    ·rw [e]; exact hb
    ·exact hok y (by lia)
  ·refine Aa (BE (Aa (FE (k:=k) hu hkey hob hdb hkb hib hnb (fun _=>?_) fun j2 q2 hj2=>absurd hj2 (no j2 q2))))
   refine Ab ?_
   show Ax _ _ (if (!false)=true then _ else _) _ _ _
   rw [if_pos (by decide)]
   exact Ab (Ab (bad nok))
 ·rintro q s' ⟨rfl,rfl,i,hi,_,hok⟩
  rw [Fa] at hi
  have:(Bc ka.length).all ok=true:=CU.mpr fun x hx=>hok x (by have:=Cb.mp hx; lia)
  rw [this] at h
  exact Ab h
theorem aJi {a b:Addr} {ka kb:List (K×Addr×Value)} {ok:Nat->Bool} {Q:Value->Ad->Prop} (hr:knd.room A.in1) (ha:(a == Bx)=false) (hb:(b == Bx)=false)
  (da:s.heap.DictOfH knd a ka) (db:s.heap.DictOfH knd b kb) (hu:A.units < cLine) (hits:Hits A.in1 s ka kb ok) (h:Q (.bool (aBS ka.length kb.length ok)) s) :
  Ax (AC prog w) A (DV .Eq (.ref a) (.ref b)) Q E s:=by
 refine Ho (op:=.Eq) da.typeIs db.typeIs JX (AU JX da.typeIs PySem.F.entry_dict_eq ?_ (PySem.F.args_dict_eq_2 _ _)) hu
 show Ax _ _ (Eh "__eq__" ⟨[.ref a,.ref b],[]⟩ >>= _) _ _ s
 refine Aa ?_
 unfold Eh
 refine Aa (DC da.typeIs ?_)
 show Ax _ _ (pure (Value.ref a,Value.ref b)) _ _ s
 refine Ab (Aa (DG (T:="dict") db.typeIs JI ?_))
 simp only [IE,Bz,if_false]
 refine Aa (Ab (Aa (Ab (Aa (aC7 hr ha hb da db hits ?_)))))
 exact Ab ⟨_,rfl,(fun x=>nomatch x),by simpa using h⟩
theorem aJj {a b:Addr} {ka kb:List (K×Addr×Value)} {ok:Nat->Bool} {Q:Value->Ad->Prop} (hr:knd.room A.in1) (ha:(a == Bx)=false) (hb:(b == Bx)=false)
  (da:s.heap.DictOfH knd a ka) (db:s.heap.DictOfH knd b kb) (hu:A.units < cLine) (hits:Hits A.in1 s ka kb ok) (h:Q (.bool (!aBS ka.length kb.length ok)) s) :
  Ax (AC prog w) A (DV .NotEq (.ref a) (.ref b)) Q E s:=by
 refine Ho (op:=.NotEq) da.typeIs db.typeIs JY (AU JY da.typeIs PySem.F.entry_dict_ne ?_ (PySem.F.args_dict_ne_2 _ _)) hu
 show Ax _ _ (Eh "__ne__" ⟨[.ref a,.ref b],[]⟩ >>= _) _ _ s
 refine Aa ?_
 unfold Eh
 refine Aa (DC da.typeIs ?_)
 show Ax _ _ (pure (Value.ref a,Value.ref b)) _ _ s
 refine Ab (Aa (DG (T:="dict") db.typeIs JI ?_))
 simp only [IE,Bz,if_false]
 refine Aa (Ab (Aa (Ab (Aa (aC7 hr ha hb da db hits ?_)))))
 exact Ab ⟨_,rfl,(fun x=>nomatch x),by simpa using h⟩
end
noncomputable def lkD (l:List (List Bool×D)) (k:List Bool):Option D:=(l.find? fun q=>decide (q.1=k)).map (·.2)
noncomputable def okT (d1 d2:List (List Bool×D)) (i:Nat):Bool:=match d1[i]? with
 | some (k,d)=>(match lkD d2 k with | some e=>eqD d e | none=>false)
 | none=>false
section
variable {X:Cx} {pins:List (Addr×Obj)} {σ:St} {H:Hp} {s:Ad}
noncomputable def TbD (K:Ah) (H:Hp) (kvs:List (List Bool×V)) (ds:List (List Bool×D)):Prop:=Bm (fun p q=>p.1=q.1/\q.2.dep<=50/\Rep K H q.2 p.2) kvs ds
theorem aG1 (I:Inv X pins σ H s) (hA:X.A.units + 60 < cLine) {k1 k2:List (List Bool×V)} {d1 d2:List (List Bool×D)} {xs ys:List (List Bool×Addr×Value)} (ka:KTR H k1 xs) (kb:KTR H k2 ys) (t1:TbD X.K H k1 d1) (t2:TbD X.K H k2 d2) :
  Hits X.A.in1 s xs ys (okT d1 d2):=by
 intro i k p e
 obtain ⟨⟨k0,v1⟩,h1,e1,_,r1⟩:=jS ka e
 have e1':k0=k:=e1
 subst e1'
 obtain ⟨⟨k3,d⟩,h2,e2,dd,rd⟩:=yH t1 h1
 have e2':k0=k3:=e2
 subst e2'
 unfold okT
 rw [h2]
 dsimp only
 cases hf:lkD d2 k0 with
 | some x =>
  unfold lkD at hf
  obtain ⟨⟨k4,x'⟩,hf1,hf2⟩:=DZ.mp hf
  have hx:x'=x:=hf2
  subst hx
  have hk4:k4=k0:=by simpa using List.find?_some hf1
  subst hk4
  obtain ⟨j,hj⟩:=BG (List.mem_of_find?_eq_some hf1)
  obtain ⟨⟨k5,v2⟩,h5,e5,_,rx⟩:=jS t2 hj
  have e5':k5=k4:=e5
  subst e5'
  obtain ⟨⟨k6,q,u⟩,h6,e6,_,r2⟩:=yH kb h5
  have e6':k5=k6:=e6
  subst e6'
  exact .inl ⟨j,(q,u),h6,aHN I 50 X.A.in1 d x' v1 v2 p.2 u dd (by show X.A.units + 1 + 50 < cLine; lia) rd rx r1 r2⟩
 | none =>
  refine .inr ⟨fun j q hj=>?_,rfl⟩
  obtain ⟨⟨k5,v2⟩,h5,e5,_,_⟩:=jS kb hj
  have e5':k5=k0:=e5
  subst e5'
  obtain ⟨⟨k6,x⟩,h6,e6,_⟩:=yH t2 h5
  have e6':k5=k6:=e6
  subst e6'
  unfold lkD at hf
  rw [Option.map_eq_none_iff,List.find?_eq_none] at hf
  exact hf _ (Av h6) (by simp)
noncomputable def eqT (d1 d2:List (List Bool×D)):Bool:=aBS d1.length d2.length (okT d1 d2)
theorem aBT (hA:X.A.units + 60 < cLine):OpR X (DV .Eq) (fun x y H Q=>∃ (a b:Addr) (k1 k2:List (List Bool×V)) (d1 d2:List (List Bool×D)),x=.ref a/\y=.ref b/\TbR X.prog X.w H a k1/\TbR X.prog X.w H b k2/\TbD X.K H k1 d1/\TbD X.K H k2 d2/\Q (.bl (eqT d1 d2)) H):=by
 intro pins s σ H x y u v Q I ru rv h
 obtain ⟨a,b,k1,k2,d1,d2,rfl,rfl,ta,tb,t1,t2,q⟩:=h
 cases ru; cases rv
 obtain ⟨sa,xs,ka,da⟩:=qR I ta
 obtain ⟨sb,ys,kb,db⟩:=qR I tb
 refine aJi (Dg (by lia)) sa sb da db (by lia) (aG1 I hA ka kb t1 t2) ⟨.bl _,H,I,rfl,?_⟩
 rw [show xs.length=d1.length by rw [<- ka.length,t1.length],show ys.length=d2.length by rw [<- kb.length,t2.length]]
 exact q
theorem aGx (hA:X.A.units + 60 < cLine):OpR X (DV .NotEq) (fun x y H Q=>∃ (a b:Addr) (k1 k2:List (List Bool×V)) (d1 d2:List (List Bool×D)),x=.ref a/\y=.ref b/\TbR X.prog X.w H a k1/\TbR X.prog X.w H b k2/\TbD X.K H k1 d1/\TbD X.K H k2 d2/\Q (.bl (!eqT d1 d2)) H):=by
 intro pins s σ H x y u v Q I ru rv h
 obtain ⟨a,b,k1,k2,d1,d2,rfl,rfl,ta,tb,t1,t2,q⟩:=h
 cases ru; cases rv
 obtain ⟨sa,xs,ka,da⟩:=qR I ta
 obtain ⟨sb,ys,kb,db⟩:=qR I tb
 refine aJj (Dg (by lia)) sa sb da db (by lia) (aG1 I hA ka kb t1 t2) ⟨.bl _,H,I,rfl,?_⟩
 rw [show xs.length=d1.length by rw [<- ka.length,t1.length],show ys.length=d2.length by rw [<- kb.length,t2.length]]
 exact q
end
noncomputable def hsB (bs:List Bool):Int:=reduceHash (Builtin.Tuple.tupleHashOf (bs.map fun b=>if b=true then (1:Int) else 0))
section
variable {P:Ap} {w:AT} {H H':Hp} {a:Addr} {kvs:List (List Bool×V)}
theorem KTR.keeps {xs:List (List Bool×Addr×Value)} (r:KTR H kvs xs) (ht:∀ b ys,Rd H b (.tup ys)->Rd H' b (.tup ys)):KTR H' kvs xs:=Paired.mapP r fun _ _ z=>⟨z.1,ht _ _ z.2.1,z.2.2⟩
theorem TbW.same (s:Same H H') (t:TbW P w H a kvs):TbW P w H' a kvs:=by
 obtain ⟨xs,h1,h2,h3,h4,h5⟩:=t
 exact ⟨xs,s _ _ h1,h2,h3,h4.keeps fun b ys e=>zi s e,h5⟩
theorem KTR.val {xs:List (List Bool×Addr×Value)} (r:KTR H kvs xs) (k:List Bool):RelO (valV kvs k) ((Gb xs k).map (·.2)):=by
 induction r with
 | nil=>exact Dh
 | @cons p q ps qs h t ih =>
  obtain ⟨h1,_,h2⟩:=h
  by_cases e:p.1=k
  ·have b:Gb (q :: qs) k=some q.2:=by simp [Gb,Cs,h1.symm.trans e]
   rw [qJ e,b]; exact h2
  ·have b:Gb (q :: qs) k=Gb qs k:=by
    have e':¬ q.1=k:=fun z=>e (h1.trans z)
    simp [Gb,Cs,e']
   rw [qK e,b]; exact ih
theorem KTR.put {xs:List (List Bool×Addr×Value)} (r:KTR H kvs xs) (k:List Bool) {b:Addr} {y:V} {u:Value} (hb:Rd H b (.tup (k.map V.bl))) (ry:RelV y u):KTR H (putK kvs k y) (ES xs k b u):=by
 have e:(kvs.any fun kv=>decide (kv.1=k))=(Gb xs k).isSome:=by
  rw [aAM,(r.val k).isSome_eq,Im]
 unfold putK ES
 rw [e]
 by_cases q:(Gb xs k).isSome=true
 ·rw [if_pos q,if_pos q]
  clear e q
  induction r with
  | nil=>exact .nil
  | @cons p q ps qs h t ih =>
   rw [Aw,Aw]
   refine .cons ?_ ih
   obtain ⟨h1,h2,h3⟩:=h
   unfold IJ
   by_cases e:p.1=k
   ·rw [if_pos e,if_pos (h1.symm.trans e)]; exact ⟨h1,h2,ry⟩
   ·rw [if_neg e,if_neg (fun z=>e (h1.trans z))]; exact ⟨h1,h2,h3⟩
 ·rw [if_neg q,if_neg q]; exact Kx r ⟨rfl,hb,ry⟩
theorem KTR.hash {xs:List (List Bool×Addr×Value)} (r:KTR H kvs xs):(xs.map fun y=>hsB y.1)=kvs.map fun y=>hsB y.1:=by
 induction r with
 | nil=>rfl
 | cons h t ih=>rw [Aw,Aw,ih,h.1]
theorem KTR.keysE {xs:List (List Bool×Addr×Value)} (r:KTR H kvs xs):xs.map (·.1)=kvs.map (·.1):=by
 induction r with
 | nil=>rfl
 | cons h t ih=>rw [Aw,Aw,ih,h.1]
theorem TbW.nd (t:TbW P w H a kvs):(kvs.map (·.1)).Nodup:=by
 obtain ⟨xs,_,_,_,h4,h5⟩:=t
 rw [<- h4.keysE]; exact h5
theorem pr_erase {α β:Type} {R:α->β->Prop}:∀ {xs:List α} {ys:List β} (i:Nat),Bm R xs ys->Bm R (xs.eraseIdx i) (ys.eraseIdx i)
 | _,_,_,.nil=>by simpa using .nil
 | _,_,0,.cons h t=>t
 | _,_,i + 1,.cons h t=>by rw [EF,EF]; exact .cons h (pr_erase i t)
end
section
variable {X:Cx} {pins:List (Addr×Obj)} {σ:St} {H:Hp} {s:Ad} {a b:Addr} {kvs:List (List Bool×V)} {k:List Bool} {A:AR} {E:Value->Ad->Prop}
theorem aG2 {v:V} {Q:Value->Ad->Prop} (hu:A.units + 1 < cLine) (I:Inv X pins σ H s) (t:TbR X.prog X.w H a kvs) (eb:Rd H b (.tup (k.map V.bl))) (l:valV kvs k=some v) (h:∀ w' s',Inv X pins σ H s'->RelV v w'->Q w' s') :
  Ax (AC X.prog X.w) A (Gk (.ref a) (.ref b)) Q E s:=by
 obtain ⟨_,xs,rel,dd⟩:=qR I t
 obtain ⟨w',hw,rw'⟩:=RelO.some_of (v:=v) (o:=(Gb xs k).map (·.2)) (by rw [<- l]; exact rel.val k)
 obtain ⟨p,hp,hp2⟩:=DZ.mp hw
 refine HH (Dg hu) (qw I.hok eb) dd hp ?_
 rw [hp2]
 exact h w' _ (I.tok _) rw'
theorem aG3 {v:V} {r:Value} {Q:Unit->Ad->Prop} (hu:A.units + 1 < cLine) (I:Inv X pins σ H s) (t:TbW X.prog X.w H a kvs) (eb:Rd H b (.tup (k.map V.bl))) (hl:kvs.length < sizeLine) (rv:RelV v r)
  (h:∀ s' H',Inv X pins σ H' s'->(∀ c,c≠a->H' c=H c)->TbW X.prog X.w H' a (putK kvs k v)->Q () s'):Ax (AC X.prog X.w) A (setItem (.ref a) (.ref b) r) Q E s:=by
 obtain ⟨xs0,e0,hz0,hsys,_⟩:=id t
 obtain ⟨_,xs,rel,dd⟩:=qR I t.r
 have hz:xs.length<=sizeLine:=by rw [<- DK rel]; exact hz0
 have hl2:(putK kvs k v).length<=sizeLine:=by have:=qZ kvs k v; lia
 refine HI (hsz:=hz) (Dg hu) (qw I.hok eb) dd fun h' dd' hs=>?_
 obtain ⟨q,es,ep,hq,h2,h3,h4,_,h5⟩:=dd'
 have I2:Inv X pins σ (upd H a (DbO X.prog X.w a (ES xs k b r))) { s with heap:=h',toks:=s.toks + (BV (zb X.prog X.w)).draws k } :=
  I.write (x:=a) (e:=a) (by rw [e0]; exact Dh) (.inl rfl) (fun c q hb z=>(hs.2 c hb).trans z) ⟨q,hq⟩ (aC4 ⟨q,es,ep,hq,h2,h3,h4⟩)
 refine h _ _ I2 (fun c hc=>zI hc) ⟨_,zB,hl2,hsys,(rel.put k eb rv).keeps fun c ys ec=>?_,h5⟩
 rcases ec with ec | ⟨oc,ec⟩
 ·left; rw [zI (fun z=>by rw [z,e0] at ec; cases ec)]; exact ec
 ·right; exact ⟨oc,by rw [zI (fun z=>by rw [z,e0] at ec; cases ec)]; exact ec⟩
end
section
variable {X:Cx} {o i value e:Expr} {td ty tv tx to te:TE} {pos pos' apos cpos:Pos}
noncomputable def aJk (P:Ap) (w:AT) (td ty:TE):TE:=fun σ H Q=>td σ H fun x H1=>ty σ H1 fun y H2=>∃ a b kvs k v,x=.ref a/\y=.ref b/\TbR P w H2 a kvs/\Rd H2 b (.tup (k.map V.bl))/\valV kvs k=some v/\Q v H2
theorem qa (hu:X.A.units + 1 < cLine) (ho:PE X o td) (hi:PE X i ty) (hs:NoSl i):PE X (.Subscript o i pos) (aJk X.prog X.w td ty):=by
 intro pins s σ H Q I h
 refine aCn Fw.lookup hs (thn (ho pins s σ H _ I h) fun u s1 ⟨x,H1,I1,rx,q1⟩=>thn (hi pins s1 σ H1 _ I1 q1) fun iv s2 ⟨y,H2,I2,ry,a,b,kvs,k,v,ex,ey,t,eb,l,q2⟩=>?_)
 subst ex ey
 obtain rfl:u=Value.ref a:=rx
 obtain rfl:iv=Value.ref b:=ry
 obtain ⟨_,xs,_,dd⟩:=qR I2 t
 exact ⟨dd.typeIs,aG2 hu I2 t eb l fun w' s3 I3 rw'=>⟨v,H2,I3,rw',q2⟩⟩
noncomputable def aJl (P:Ap) (w:AT) (td ty tv:TE):TS:=fun D σ H=>tv σ H fun v H1=>td σ H1 fun x H2=>ty σ H2 fun y H3=>∃ a b kvs k,x=.ref a/\y=.ref b/\TbW P w H3 a kvs/\Rd H3 b (.tup (k.map V.bl))/\kvs.length < sizeLine /\
 ∀ H4:Hp,(∀ c,c≠a->H4 c=H3 c)->TbW P w H4 a (putK kvs k v)->D.nx σ H4
theorem jI (hu:X.A.units + 1 < cLine) (ho:PE X o td) (hi:PE X i ty) (hv:PE X value tv) (hs:Gr value (some (.Subscript o i pos')) pos.line X.env=pure false) :
  PS X (.Assign [.Subscript o i pos'] value pos) (aJl X.prog X.w td ty tv):=by
 intro pins s σ H D I h
 refine Gi (thn (hv pins s σ H _ I h) fun r s1 ⟨v,H1,I1,rv,q1⟩=>thn (ho pins s1 σ H1 _ I1 q1) fun u s2 ⟨x,H2,I2,rx,q2⟩=>thn (hi pins s2 σ H2 _ I2 q2) fun iv s3 ⟨y,H3,I3,ry,a,b,kvs,k,ex,ey,t,eb,hl,q3⟩=>?_) hs
 subst ex ey
 obtain rfl:u=Value.ref a:=rx
 obtain rfl:iv=Value.ref b:=ry
 exact aG3 hu I3 t eb hl rv fun s4 H4 I4 kp t4=>⟨σ,H4,I4,q3 H4 kp t4⟩
end
theorem aHY {K:Type} [DecidableEq K]:∀ (r acc:List (K×Addr×Value)),((acc++r).map (·.1)).Nodup->mgH acc r=acc++r
 | [],acc,_=>(BD _).symm
 | y :: t,acc,nd=>by
  have ny:Gb acc y.1=none:=Go fun j p hj=>by
   rw [AN,Aw] at nd
   exact (Fj.mp nd).2.2 y.1 (AJ.mpr ⟨_,Av hj,rfl⟩) y.1 (AL ..) rfl
  show mgH (ES acc y.1 y.2.1 y.2.2) t=_
  rw [Ky ny,aHY t _ (by rw [BN]; exact nd),BN]; rfl
section
variable {X:Cx}
theorem aAz (hA:X.A.units + 60 < cLine):qL X (.type "dict") (fun xs H Q=>∃ (d:Addr) (kvs:List (List Bool×V)),xs=[.ref d]/\TbR X.prog X.w H d kvs/\(kvs.map fun y=>hsB y.1).Nodup /\
  ∀ (p:Addr) (H':Hp),H p=none->Same H H'->TbW X.prog X.w H' p kvs->Q (.ref p) H'):=by
 intro pins s σ H xs us Q I r h
 obtain ⟨p,kvs,rfl,tp,hh,q⟩:=h
 obtain ⟨u,rfl,rx⟩:=qm r
 cases rx
 have szl:=AW
 obtain ⟨hz,hsys⟩:kvs.length<=sizeLine/\True:=by obtain ⟨_,_,z,_⟩:=tp; exact ⟨z,Dh⟩
 obtain ⟨hps,ys,rel,dd⟩:=qR I tp
 have lk:kvs.length=ys.length:=DK rel
 refine callType_codes (Q₁:=fun obj s₁=>obj=.ref s.heap.objs.size/\s₁={ s with heap:=s.heap.push { cls:=.type "dict",data:=.dict #[] } }) LY (JW _) Lu (LZ _ ⟨rfl,rfl⟩) ?_
 rintro obj s₁ ⟨rfl,rfl⟩
 have hD0:(s.heap.push { cls:=.type "dict",data:=.dict #[] }).get? s.heap.objs.size=some { cls:=.type "dict",data:=.dict #[] }:=Ak _ rfl
 have hT0:GU { s with heap:=s.heap.push { cls:=.type "dict",data:=.dict #[] } } (.ref s.heap.objs.size) "dict":=⟨_,hD0,rfl⟩
 have kp:∀ b u,s.heap.get? b=some u->(s.heap.push { cls:=.type "dict",data:=.dict #[] }).get? b=some u:=fun b u e=>Ac _ e
 obtain ⟨oo,es,ep,hoo,hco,hdo,hko,hio,hno⟩:=id dd
 have dd1:(s.heap.push { cls:=.type "dict",data:=.dict #[] }).DictOfH (BV (zb X.prog X.w)) p ys:=⟨oo,es,ep,kp _ _ hoo,hco,hdo,hko,fun x hx=>by
  obtain ⟨ok,its,n,g1,g2⟩:=hio x hx
  exact ⟨ok,its,n,kp _ _ g1,g2⟩,hno⟩
 have dd0:(s.heap.push { cls:=.type "dict",data:=.dict #[] }).DictOfH (BV (zb X.prog X.w)) s.heap.objs.size []:=⟨_,#[],0,hD0,⟨rfl,rfl,rfl⟩,rfl,rfl,fun x hx=>(nomatch hx),CZ⟩
 have lp:p < s.heap.objs.size:=An hoo
 refine ⟨hT0,Ld _ _,?_⟩
 unfold Builtin.«dict.__init__»
 refine Aa ?_
 unfold Iq
 refine Aa (DC hT0 ?_)
 show Ax _ _ (pure (s.heap.objs.size,[Value.ref p])) _ _ _
 refine Ab ?_
 show Ax _ _ (EE "dict.__init__" s.heap.objs.size (.ref p) [] .none) _ _ _
 unfold EE
 have hTp:GU { s with heap:=s.heap.push { cls:=.type "dict",data:=.dict #[] } } (.ref p) "dict":=⟨_,kp _ _ hoo,hco.1⟩
 refine Aa (DN hTp ?_)
 rw [if_neg (by decide)]
 refine Aa ?_
 unfold Builtin.Dict.merge
 refine Aa ?_
 unfold Builtin.Dict.readDirectly
 refine Aa (DG hTp isSubtype_dict_dict ?_)
 simp only [IE,Bz,if_false]
 refine Aa (Fd hTp IS.lookup (Ab ?_))
 simp only [beq_self_eq_true,if_true]
 refine Aa (Ab ?_)
 refine aIN (kk:=zb X.prog X.w) (s:={ s with heap:=s.heap.push { cls:=.type "dict",data:=.dict #[] } }) (by show X.A.units + 1 + 1 < cLine; lia) (Ci lp) hps (by rw [Fa]; lia) dd0 dd1 (fun _=>by rw [<- rel.hash] at hh; exact hh) fun h' hd' hs'=>?_
 rw [aHY ys [] (by simpa using hno)] at hd'
 show Ax _ _ (Ip s.heap.objs.size [] >>= _) _ _ _
 refine Aa (Ab (Ab ?_))
 obtain ⟨o2,es2,ep2,g1,g2,g3,g4,g5,g6⟩:=hd'
 have k4:∀ b u,s.heap.get? b=some u->h'.get? b=some u:=fun b u e=>(hs'.2 b (AE (An e))).trans (kp b u e)
 have nD:H s.heap.objs.size=none:=I.hok.fresh (Ai _)
 refine ⟨rfl,.ref s.heap.objs.size,upd H s.heap.objs.size (DbO X.prog X.w s.heap.objs.size ys),I.laid (a:=s.heap.objs.size) (o:=DbO X.prog X.w s.heap.objs.size ys) (t':=s.toks) k4 (Ai _) (aC4 ⟨o2,es2,ep2,g1,g2,g3,g4⟩),rfl,?_⟩
 have sD:Same H (upd H s.heap.objs.size (DbO X.prog X.w s.heap.objs.size ys)):=fun b u e=>by rw [zI (zE e nD)]; exact e
 exact q _ _ nD sD ⟨ys,zB,hz,beq_eq_false_iff_ne.mpr (CB (AE I.big)),rel.keeps fun b ys e=>zi sD e,g6⟩
end
noncomputable def bi (b:Bool):Int:=if b=true then 1 else 0
noncomputable def TupB (h:Heap) (v:Value) (bs:List Bool):Prop:=∃ (a:Addr),v=.ref a/\h.IsTuple a (bs.map Value.bool).toArray
theorem qb:Slot "bool" (cmpInfo .Lt).2.1 "int.__lt__" :=
 .of (owner:="int") (n:="__lt__") (by rw [Hn,Fb]; kernel_rfl) (by decide +kernel) (by decide +kernel) (by decide +kernel) (by first | exact .inl (by decide +kernel) | exact .inr (by decide +kernel)) (by rw [HS]; kernel_rfl)
theorem aAg (p q:Bool):Gives (Builtin.«int.__lt__» ⟨[.bool p,.bool q],[]⟩) (.val (.bool (decide (bi p < bi q)))):=by cases p <;> cases q <;> exact .of_eq rfl
section
variable {prog:Ap} {w:AT} {A:AR} {E:Value->Ad->Prop} {s:Ad}
theorem aJm (b:Bool) {p q:Bool} {Q:Bool->Ad->Prop} (h:Q (decide (bi p < bi q)) s):Ax (AC prog w) A (oneLt' b (.bool p) (.bool q)) Q E s:=by
 have hT:s.TypeIs (.bool p) "bool":=Lv s p
 cases b with
 | true =>
  rw [oneLt'_eq]
  simp only [if_true]
  refine Aa (wpAny_cRoomFor_byValue rfl ?_)
  refine Aa (wpAny_callSpecialIfBound?_slot hT qb (call_gives qb hT MH (Mz _ _) (aAg p q) ?_))
  exact Ej h
 | false =>
  rw [oneLt'_eq]
  simp only [Bz,if_false]
  exact Aa (richCompare_gives (op:=.Lt) (T:="bool") hT (Lv s q) qb MH (Mz _ _) (aAg p q) (fun x=>nomatch x) (Ej h))
theorem bi_inj {p q:Bool}:bi p=bi q↔p=q:=by cases p <;> cases q <;> simp [bi]
theorem aC8 (b:Bool):∀ (xs ys:List Bool) (k:Nat) {Q:Option Bool×Unit->Ad->Prop},Q (lexO (xs.map bi) (ys.map bi),()) s ->
  Ax (AC prog w) A (NL (((xs.map Value.bool).zip (ys.map Value.bool)).zipIdx k) ((none,()):Option Bool×Unit) fun x __s=>match x with
     | ((p,q),i)=>do
      let __do_lift <- eqBool p q
      if (!__do_lift)=true then do
        let __do_lift <- oneLt' (b && i == 0) p q
        pure (ForInStep.done (some __do_lift,()))
       else pure (Dz (none,()))) Q E s
 | [],ys,k,Q,h=>by
  have e:lexO ([]:List Int) (ys.map bi)=none:=by unfold lexO; rfl
  rw [Cu] at h
  rw [e] at h
  rw [Cu,List.zip_nil_left,Hf]
  exact Ab h
 | x :: xs,[],k,Q,h=>by
  rw [Cu,List.zip_nil_right,Hf]
  exact Ab h
 | x :: xs,y :: ys,k,Q,h=>by
  rw [Aw,Aw,Le,IN,FT]
  rw [Aw,Aw,aBp] at h
  refine Aa (Aa (aC3 ?_))
  by_cases e:x=y
  ·rw [if_pos (bi_inj.mpr e)] at h
   rw [show decide (x=y)=true from decide_eq_true e]
   exact Ab (aC8 b xs ys (k + 1) h)
  ·rw [if_neg (fun z=>e (bi_inj.mp z))] at h
   rw [show decide (x=y)=false from decide_eq_false e]
   exact Aa (aJm _ (Ab (Ab h)))
theorem aIP (b:Bool) {x y:Value} {ns ms:List Bool} {Q:Bool->Ad->Prop} (hx:TupB s.heap x ns) (hy:TupB s.heap y ms) (h:Q (lx (ns.map bi) (ms.map bi)) s):Ax (AC prog w) A (keyLt' (aAT b) x y) Q E s:=by
 obtain ⟨a,rfl,⟨oa,ha,_,na,da⟩⟩:=hx
 obtain ⟨c,rfl,⟨oc,hc,_,nc,dc⟩⟩:=hy
 rw [aEy]
 refine Aa (Ez ha da (Aa (Ez hc dc (Aa (aC8 b ns ms 0 ?_)))))
 rw [aEz] at h
 cases e:lexO (ns.map bi) (ms.map bi) with
 | some r=>rw [e] at h; exact Ab h
 | none =>
  rw [e] at h
  refine Ab ?_
  rw [AD,AD,Ae,Ae]
  rw [Ae,Ae] at h
  exact h
open Classical in
noncomputable def aC9 (h:Heap) (v:Value):List Int:=if c:∃ ns,TupB h v ns then c.choose.map bi else []
theorem aCA:∀ {a b:List Bool},a.map Value.bool=b.map Value.bool->a=b
 | [],[],_=>rfl
 | [],_ :: _,h=>by simp at h
 | _ :: _,[],h=>by simp at h
 | x :: a,y :: b,h=>by
  rw [Aw,Aw] at h
  injection h with h1 h2
  injection h1 with h1
  rw [h1,aCA h2]
theorem TupB.one {h:Heap} {v:Value} {ns ms:List Bool} (a:TupB h v ns) (b:TupB h v ms):ns=ms:=by
 obtain ⟨p,rfl,⟨o,ho,_,n,hd⟩⟩:=a
 obtain ⟨p2,e,⟨o2,ho2,_,n2,hd2⟩⟩:=b
 cases e
 rw [ho] at ho2
 cases ho2
 rw [hd] at hd2
 have e2:(ns.map Value.bool).toArray=(ms.map Value.bool).toArray:=by injection hd2
 exact aCA (by simpa using e2)
theorem aCB {h:Heap} {v:Value} {ns:List Bool} (a:TupB h v ns):aC9 h v=ns.map bi:=by
 have c:∃ ns,TupB h v ns:=⟨ns,a⟩
 unfold aC9
 rw [dif_pos c,c.choose_spec.one a]
theorem aGy (b:Bool) {a0:Array Keyed} (hk:∀ p∈a0.toList,∃ ns,TupB s.heap p.1 ns):Srt (O:=lxO) (AC prog w) A E s (fun p=>aC9 s.heap p.1) ([]:List Int) a0.size (TB (aAT b) a0) where
 lt:=fun {st i j Q} hb hi hj q=>by
  have z:(AF st).size=a0.size:=hb.perm.size_eq
  have gi:(AF st)[i]?=some (AF st)[i]:=getElem?_pos _ i (by lia)
  have gj:(AF st)[j]?=some (AF st)[j]:=getElem?_pos _ j (by lia)
  have inn:∀ p,p∈(AF st).toList->∃ ns,TupB s.heap p.1 ns:=fun p hp=>hk p ((Fq.mp hb.perm).mem_iff.mp hp)
  obtain ⟨ni,ti⟩:=inn (AF st)[i] (by simp)
  obtain ⟨nj,tj⟩:=inn (AF st)[j] (by simp)
  have q2:Q (some (lx (ni.map bi) (nj.map bi))) st:=by
   have e1:fk (O:=lxO) (fun p=>aC9 s.heap p.1) ([]:List Int) (AF st) i=ni.map bi:=by unfold fk; rw [gi]; exact aCB ti
   have e2:fk (O:=lxO) (fun p=>aC9 s.heap p.1) ([]:List Int) (AF st) j=nj.map bi:=by unfold fk; rw [gj]; exact aCB tj
   rw [e1,e2] at q
   exact q
  rw [ltAt'_eq]
  refine Ag (EZ ?_)
  show wpS _ _ _ _ (NQ (AF st) i >>= fun x=>NQ (AF st) j >>= fun y=>lt' x y) Q st
  rw [elem'_eq,elem'_eq,gi,gj]
  refine Ag (Aj (Ag (Aj ?_)))
  rw [lt'_eq]
  refine Ag (EZ ?_)
  rw [hb.kind]
  exact Ag (Gq (Dx (aIP b ti tj ⟨rfl,Aj q2⟩)))
 put:=fun {st xs} hb hp=>⟨hb.kind,hp.trans hb.perm,hb.pend,hb.fail⟩
 sz:=fun {st} hb=>hb.perm.size_eq
theorem aG4 {ks:List Value} (hk:∀ v∈ks,∃ b bs,TupB s.heap v (b :: bs)) {Q:SortKind->Ad->Prop} (q:∀ b,Q (aAT b) s):Ax (AC prog w) A (keyKind' ks.toArray) Q E s:=by
  have hf:∀ v∈ks,∃ m:Bool,∀ {Q:Option Value->Ad->Prop},Q (some (.bool m)) s->Ax (AC prog w) A (firstOfTuple' v) Q E s:=fun v hv=>by
    obtain ⟨m,bs,a,rfl,⟨o,ho,hc,n,hd⟩⟩:=hk v hv
    refine ⟨m,fun {Q} h=>?_⟩
    show Ax _ _ (do if (<- typeOf (.ref a)) != .type "tuple" then return none
                       return (<- DY (.ref a))[0]?) _ _ s
    refine Aa (DN (T:="tuple") ⟨o,ho,hc⟩ ?_)
    rw [if_neg (by decide)]
    exact Aa (Ez ho hd (Ab h))
  obtain ⟨g,hg⟩:∃ g:Value->Bool,∀ v∈ks,∀ {Q:Option Value->Ad->Prop},Q (some (.bool (g v))) s->Ax (AC prog w) A (firstOfTuple' v) Q E s:=by
    classical
    refine ⟨fun v=>if h:v∈ks then (hf v h).choose else false,fun v hv Q h=>?_⟩
    dsimp only at h
    rw [dif_pos hv] at h
    exact (hf v hv).choose_spec h
  rw [keyKind'_eq,Lx]
  rw [map_eq_pure_bind,bind_assoc]
  refine Aa (aF0 (r:=fun v=>some (.bool (g v))) ks hg ?_)
  rw [KP]
  rw [if_pos (by simp)]
  refine Aa (Cp ?_)
  have ef:(ks.map fun v=>some (Value.bool (g v))).toArray.filterMap id=(ks.map fun v=>Value.bool (g v)).toArray:=by
    apply Mb.mp
    rw [Array.toList_filterMap]
    show MK id (ks.map fun v=>some (Value.bool (g v)))=ks.map fun v=>Value.bool (g v)
    rw [KL]
    show MK (fun v=>some (Value.bool (g v))) ks=_
    rw [List.filterMap_eq_map']
  have mt:∀ l:List Value,(l.map fun v=>Value.bool (g v)).mapM typeOf=(pure ((l.map fun v=>Value.bool (g v)).map fun _=>DD "bool"):Sem (List Value)):=by
    intro l
    induction l with
    | nil=>rfl
    | cons v r ih =>
      rw [Aw,MD,ih]
      rfl
  rw [ef,oneTypeOnly'_eq,Lx,mt ks,map_pure,KP]
  cases hts:(Mi (fun x=>DD "bool") (Mi (fun v=>Value.bool (g v)) ks)).toArray[0]? with
  | none=>exact Aa (Ab (Ab (q _)))
  | some t=>exact Aa (Ab (Ab (q _)))
theorem aAn {a:Addr} {vs:List Value} {n:Nat} {P:PySem.Fin->Ad->Prop} (ho:s.heap.get? a=some (BX "list" vs.toArray n))
  (hk:∀ v∈vs,∃ b bs,TupB s.heap v (b :: bs)) (h64:vs.length < 64)
  (h:∀ (arr:Array Keyed),arr.toList.Perm (vs.zip vs)->P (.done (.ret .none)) { s with heap:=GY s.heap a vs (arr.map (·.2)) }) :
  Ax (AC prog w) A (Builtin.«list.sort» ⟨[.ref a],[]⟩) P E s:=by
 rw [list_sort_plain]
 have ha:a < s.heap.objs.size:=An ho
 refine Aa (Ez ho rfl (Aa (Fi ho rfl ?_)))
 obtain ⟨e1,ho1⟩:∃ e1,(s.heap.update a (Dr fun _=>#[])).get? a=some (BX "list" #[] e1):=⟨_,Jv ho (fun _=>#[])⟩
 refine Aa (IH ho1 rfl (Aa (HP (Aa (Ed (BE ?_))))))
 have ho6:(((s.heap.update a (Dr fun _=>#[])).push (BX "tuple" vs.toArray 0)).push (BX "list" #[] 0)).get? a=some (BX "list" #[] e1):=by
  rw [Fm _ _ _ (by rw [GZ,GE]; exact AE (Dt ha)),Fm _ _ _ (by rw [GE]; exact AE ha)]
  exact ho1
 have kp:∀ b o,b≠a->s.heap.get? b=some o->(((s.heap.update a (Dr fun _=>#[])).push (BX "tuple" vs.toArray 0)).push (BX "list" #[] 0)).get? b=some o:=fun b o hb e =>
  Ac _ (Ac _ ((Bv _ _ (CB hb)).trans e))
 show Ax (AC prog w) A _ P E { s with heap:=((s.heap.update a (Dr fun _=>#[])).push (BX "tuple" vs.toArray 0)).push (BX "list" #[] 0) }
 dsimp only
 have hsz:vs.toArray.size=vs.length:=by simp
 have a0:(vs.toArray.zip vs.toArray).toList=vs.zip vs:=by simp
 have z0:(vs.toArray.zip vs.toArray).size=vs.length:=by simp
 generalize hg6:((s.heap.update a (Dr fun _=>#[])).push (BX "tuple" vs.toArray 0)).push (BX "list" #[] 0)=g6 at ho6 kp ⊢
 have hk6:∀ v∈vs,∃ b bs,TupB g6 v (b :: bs):=fun v hv=>by
  obtain ⟨b,bs,c,e,⟨o,g1,g2,g3⟩⟩:=hk v hv
  refine ⟨b,bs,c,e,⟨o,kp c o (fun z=>?_) g1,g2,g3⟩⟩
  subst z
  rw [ho] at g1
  cases g1
  have e4:DD "list"=DD "tuple":=g2
  injection e4 with e5
  exact absurd e5 (by decide)
 by_cases h2:vs.toArray.size < 2
 ·rw [if_pos h2,if_pos h2]
  refine Aa (Ab ?_)
  rw [StateT.run_pure]
  refine Aa (Ab ?_)
  dsimp only
  refine Aa (IH ho6 rfl (Aa (Fi ho6 rfl ?_ (hsz2:=by rw [Kf]; show (vs.toArray.zip vs.toArray).size<=_; rw [z0,AW]; lia))))
  simp only [bne_self_eq_false,Bz,if_false]
  refine Ab ?_
  have:=h (vs.toArray.zip vs.toArray) (by rw [a0])
  unfold GY at this
  rw [hg6] at this
  exact this
 ·rw [if_neg h2,if_neg h2]
  refine Aa (aG4 (s:={ s with heap:=g6 }) (fun v hv=>hk6 v (by simpa using hv)) fun b=>?_)
  have hk0:∀ p∈(vs.toArray.zip vs.toArray).toList,∃ ns,TupB ({ s with heap:=g6 }:Ad).heap p.1 ns:=fun p hp=>by
   rw [a0] at hp
   obtain ⟨c,cs,t⟩:=hk6 p.1 (Hb (show (p.1,p.2)∈vs.zip vs from hp)).1
   exact ⟨_,t⟩
  refine Aa (BJ (aGc (aGy (s:={ s with heap:=g6 }) b hk0) (by rw [z0]; rw [hsz] at h2; lia) (by rw [z0]; exact h64) (st:=MT (aAT b) (vs.toArray.zip vs.toArray) #[] 7 none) ⟨rfl,JA _,rfl,rfl⟩ (Q:=fun _ st=>(AF st).Perm (vs.toArray.zip vs.toArray)/\FV st=none) fun st' a b c=>⟨a,b⟩) ?_ fun _ _ e=>e)
  rintro ⟨⟨⟩,st⟩ s' ⟨es,hp,hf⟩
  have es2:=es.symm
  subst es2
  dsimp only
  have hp':(AF st).toList.Perm (vs.zip vs):=by rw [<- a0]; exact Fq.mp hp
  refine Aa (IH ho6 rfl (Aa (Fi ho6 rfl ?_ (hsz2:=by rw [Kf,hp.size_eq,z0,AW]; lia))))
  rw [hf]
  simp only [bne_self_eq_false,Bz,if_false]
  refine Ab ?_
  have:=h (AF st) hp'
  unfold GY at this
  rw [hg6] at this
  exact this
end
noncomputable def RdT (H:Hp) (v:V) (k:List Bool):Prop:=∃ t,v=.ref t/\Rd H t (.tup (k.map V.bl))
theorem RdT.same {H H':Hp} {v:V} {k:List Bool} (s:Same H H') (h:RdT H v k):RdT H' v k:=let ⟨t,e,r⟩:=h; ⟨t,e,zi s r⟩
theorem aDa {H:Hp} {kvs:List (List Bool×V)} {ys:List (List Bool×Addr×Value)} (rel:KTR H kvs ys):Bm (RdT H) ((ys.map (·.2.1)).map V.ref) (kvs.map (·.1)):=by
 induction rel with
 | nil=>exact .nil
 | cons h t ih=>exact .cons ⟨_,rfl,h.2.1⟩ ih
theorem aGz {α:Type}:∀ {l:List α} {arr:List (α×α)},arr.Perm (l.zip l)->(arr.map (·.2)).Perm l:=fun {l arr} h=>by
 have h2:=h.map (·.2)
 have:∀ l:List α,(l.zip l).map (·.2)=l:=by
  intro l
  induction l with
  | nil=>rfl
  | cons a r ih=>rw [Le,Aw,ih]
 rw [this] at h2
 exact h2
theorem aG5:∀ {us:List Value} {bs:List Addr},us.Perm (bs.map Value.ref)->∃ cs:List Addr,us=cs.map Value.ref/\cs.Perm bs:=by
 intro us bs h
 have:∀ u∈us,∃ b,u=Value.ref b:=fun u hu=>by
  obtain ⟨b,_,e⟩:=AJ.mp (h.mem_iff.mp hu)
  exact ⟨b,e.symm⟩
 obtain ⟨cs,rfl⟩:∃ cs:List Addr,us=cs.map Value.ref:=by
  clear h
  induction us with
  | nil=>exact ⟨[],rfl⟩
  | cons u r ih =>
   obtain ⟨b,rfl⟩:=this u (AL ..)
   obtain ⟨cs,rfl⟩:=ih fun v hv=>this v (AI _ hv)
   exact ⟨b :: cs,rfl⟩
 refine ⟨cs,rfl,?_⟩
 have h2:=h.map fun v:Value=>match v with | .ref b=>b | _=>0
 rw [DO,DO] at h2
 simpa [Function.comp_def] using h2
section
variable {X:Cx}
theorem jU (hc:X.calm=true):qL X (.builtin "sorted") (fun xs H Q=>∃ (d:Addr) (kvs:List (List Bool×V)),xs=[.ref d]/\TbR X.prog X.w H d kvs/\kvs.length < 64/\(∀ p∈kvs,p.1≠[]) /\
  ∀ (p:Addr) (ys:List V) (ks:List (List Bool)) (H':Hp),Same H H'->H p=none->H' p=some (.lst ys)->ks.Perm (kvs.map (·.1))->Bm (RdT H') ys ks->Q (.ref p) H'):=by
 intro pins s σ H xs us Q I r h
 obtain ⟨d,kvs,rfl,tf,hl,hne,q⟩:=h
 obtain ⟨u,rfl,rx⟩:=qm r
 cases rx
 have szl:=AW
 obtain ⟨hsys,ys,rel,o,es,ep,ho,hex,hd,hk,hik,_⟩:=qR I tf
 have lk:kvs.length=ys.length:=DK rel
 have esz:es.size=ys.length:=Ex hk
 have ek:es.toList.map (·.key)=(ys.map (·.2.1)).map Value.ref:=by rw [hk,DO,DO]; rfl
 have pb:=aDa rel
 refine Fv Mv LJ LK (LL _) ?_
 unfold Builtin.«sorted»
 refine Aa (m:=MV "sorted" 1 1 _) (Ab ?_)
 refine Aa (aCw (A:=X.A.in1) (by simp [I.ok.hd hc]) hsys ho hex.1 hd (by lia) fun g1 tk k1 z1=>?_)
 rw [ek]
 generalize hbs:ys.map (·.2.1)=bs at pb
 have bl:bs.length < 64:=by rw [<- hbs,Ae,<- lk]; exact hl
 have hT:∀ b∈bs,∃ c cs,TupB s.heap (.ref b) (c :: cs):=fun b hb=>by
  obtain ⟨i,hi⟩:=BG (List.mem_map_of_mem (f:=V.ref) hb)
  obtain ⟨k,hk',t,e,rd⟩:=yH pb hi
  cases e
  obtain ⟨kv,hm,rfl⟩:=AJ.mp (Av hk')
  obtain ⟨us',r',p',_⟩:=I.tuple (a:=b) (xs:=kv.1.map V.bl) (.inl rd)
  obtain ⟨c,cs,ec⟩:=List.exists_cons_of_ne_nil (hne kv hm)
  have eu:us'=(kv.1).map Value.bool:=by
   have:∀ (l:List Bool) (us:List Value),Vals (l.map V.bl) us->us=l.map Value.bool:=by
    intro l
    induction l with
    | nil=>intro us h; cases h; rfl
    | cons x r ih =>
     intro us h
     rw [Aw] at h
     cases h with
     | cons h1 h2=>cases h1; rw [ih _ h2]; rfl
   exact this _ _ r'
  rw [eu,ec] at p'
  exact ⟨c,cs,b,rfl,p'⟩
 refine Aa (Ed ?_ (by rw [Ae]; lia))
 have gL:(g1.push (BX "list" (bs.map Value.ref).toArray 0)).get? g1.objs.size=some (BX "list" (bs.map Value.ref).toArray 0):=Ak _ rfl
 have kp:∀ b o,s.heap.get? b=some o->(g1.push (BX "list" (bs.map Value.ref).toArray 0)).get? b=some o:=fun b o e=>Ac _ (k1 b o e)
 have hf:∀ v∈bs.map Value.ref,∃ c cs,TupB (g1.push (BX "list" (bs.map Value.ref).toArray 0)) v (c :: cs):=fun v hv=>by
  obtain ⟨b,hb,rfl⟩:=AJ.mp hv
  obtain ⟨c,cs,a',e1,⟨o',g1',g2',g3'⟩⟩:=hT b hb
  exact ⟨c,cs,a',e1,⟨o',kp _ _ g1',g2',g3'⟩⟩
 refine Aa (BE (AU Kg ⟨_,gL,rfl⟩ JD (aAn gL hf (by rw [Ae]; exact bl) fun arr hp=>⟨_,rfl,?_⟩) (Kh _)))
 obtain ⟨cs,ecs,pcs⟩:=aG5 (aGz hp)
 obtain ⟨e,at1⟩:=La (out:=arr.map (·.2)) gL
 have old:∀ b o,s.heap.get? b=some o->(GY (g1.push (BX "list" (bs.map Value.ref).toArray 0)) g1.objs.size (bs.map Value.ref) (arr.map (·.2))).get? b=some o:=fun b o hb=>by
  have hlt:b < g1.objs.size:=An (k1 b o hb)
  rw [Ki (AE hlt) (by rw [GZ]; exact Dt hlt),Fm _ _ _ (AE hlt)]
  exact k1 b o hb
 have hp0:s.heap.objs.size<=g1.objs.size:=FI z1
 have hf0:H g1.objs.size=none:=I.hok.fresh hp0
 obtain ⟨ks,pk,prk⟩:=aIO (pcs.map V.ref) pb
 have sN:Same H (upd H g1.objs.size (.lst (cs.map V.ref))):=fun b u eb=>by rw [zI (zE eb hf0)]; exact eb
 have cl:cs.length=bs.length:=pcs.length_eq
 refine Ab ⟨_,rfl,.ref g1.objs.size,upd H g1.objs.size (.lst (cs.map V.ref)),I.laid (t':=tk) old hp0 ⟨by rw [Ae,szl]; lia,cs.map Value.ref,e,aA3 cs,?_⟩,rfl,q _ _ ks _ sN hf0 zB pk (Paired.mapP prk fun _ _ h=>h.same sN)⟩
 rw [at1]
 show some (BX "list" _ e)=some (BX "list" _ e)
 congr 2
 apply Mb.mp
 rw [Array.toList_map,ecs]
theorem jV (hc:X.calm=true):qL X (.type "list") (fun xs H Q=>∃ (d:Addr) (kvs:List (List Bool×V)),xs=[.ref d]/\TbR X.prog X.w H d kvs /\
  ∀ (p:Addr) (ys:List V) (H':Hp),Same H H'->H p=none->H' p=some (.lst ys)->Bm (RdT H') ys (kvs.map (·.1))->Q (.ref p) H'):=by
 intro pins s σ H xs us Q I r h
 obtain ⟨d,kvs,rfl,tf,q⟩:=h
 obtain ⟨u,rfl,rx⟩:=qm r
 cases rx
 have hz:kvs.length<=sizeLine:=by obtain ⟨_,_,z,_⟩:=tf; exact z
 obtain ⟨hsys,ys,rel,o,es,ep,ho,hex,hd,hk,hik,_⟩:=qR I tf
 have lk:kvs.length=ys.length:=DK rel
 have esz:es.size=ys.length:=Ex hk
 have pb:=aDa rel
 refine PySem.W.kdl_call (aG0 (o:=o) (es:=es) (ep:=ep) hsys hex.1 hd) (I.ok.hd hc) ho (by lia) fun h' tk acc' c' kp e hacc=>?_
 obtain ⟨sz,it⟩:=hacc
 have eacc:acc'.toList=(ys.map (·.2.1)).map Value.ref:=by
  apply Er
  intro i
  rw [Br,Bh,Bh]
  rcases Cv i es.size with hi | hi
  ·have ei:acc'[i]?=some acc'[i]:=Am (by lia)
   obtain ⟨en,e1,e2⟩:=it i _ ei
   rw [entry_at hk i] at e1
   obtain ⟨y,hy,hy2⟩:=DZ.mp e1
   rw [ei,e2,hy,<- hy2]; rfl
  ·rw [Cw (by lia),CC (by lia)]; rfl
 have hf0:H s.heap.objs.size=none:=I.hok.fresh (Ai _)
 have sN:Same H (upd H s.heap.objs.size (.lst ((ys.map (·.2.1)).map V.ref))):=fun b u eb=>by rw [zI (zE eb hf0)]; exact eb
 refine ⟨.ref s.heap.objs.size,_,I.laid (a:=s.heap.objs.size) (o:=.lst ((ys.map (·.2.1)).map V.ref)) (t':=tk) kp (Ai _) ⟨by rw [Ae,Ae]; lia,(ys.map (·.2.1)).map Value.ref,c',aA3 _,?_⟩,rfl,q _ _ _ sN hf0 zB (Paired.mapP pb fun _ _ h=>h.same sN)⟩
 rw [e,<- eacc,Array.toArray_toList]
end
theorem aAh {α β:Type} (f:α->β):∀ (l:List α) (i:Nat),(l.map f).eraseIdx i=(l.eraseIdx i).map f
 | [],i=>by simp
 | a :: r,0=>rfl
 | a :: r,i + 1=>by rw [Aw,EF,EF,aAh f r i]; rfl
section
variable {prog:Ap} {w:AT}
theorem aBU {K:Type} [DecidableEq K] {knd:Mh prog w K} {es:Array CP} {xs:List (K×Addr×Value)} (h:es.toList=xs.map (CK knd)) (i:Nat):(es.eraseIdxIfInBounds i).toList=(xs.eraseIdx i).map (CK knd):=by
 obtain ⟨l⟩:=es
 have h':l=xs.map (CK knd):=h
 rw [Ds]
 show l.eraseIdx i=_
 rw [h',aAh]
theorem aEH {d a:Addr} {xs:List (List Bool×Addr×Value)} {k:List Bool} {i:Nat} {p:Addr×Value}:MeetsIn prog w (Builtin.«dict.pop» ⟨[.ref d,.ref a],[]⟩) (fun A R s=>A.in1.units < cLine/\s.heap.DictOfH (KB prog w) d xs/\(KB prog w).is s.heap k a/\xs[i]?=some (k,p)/\xs.length<=sizeLine /\
   ∀ h' tk,h'.DictOfH (KB prog w) d (xs.eraseIdx i)->Ch d s.heap h'->R (.ok (.ret p.2)) { s with heap:=h',toks:=tk }) :=
 .of_wp fun A R s ⟨hu,dd,hk,hi,hz,h⟩=>by
  obtain ⟨o,es,ep,ho,hex,hd,he,his,hn⟩:=id dd
  have esz:=Ex he
  have hlt:=(Ao.mp hi).1
  unfold Builtin.«dict.pop»
  refine Aa ?_
  unfold Builtin.Dict.keyAndDefault
  refine Aa (DC dd.typeIs ?_)
  show Ax _ _ (pure (d,Value.ref a,none)) _ _ s
  refine Ab ?_
  refine Aa ?_
  refine BU ho hd (Aa (Ab ?_))
  have hne:es.isEmpty=false:=by
   rw [Bool.eq_false_iff]
   intro z
   have:es=#[]:=Ir.mp z
   rw [this] at esz
   simp at esz
   lia
  rw [hne]
  dsimp only
  rw [if_neg (by decide)]
  refine Aa ?_
  unfold Builtin.Dict.takeOut
  refine BE (Aa ((KB prog w).pyHash hu hk (Aa (FE (s:={ s with toks:=s.toks + (KB prog w).draws k }) (k:=k) hu hk ho hd he his hn (fun no=>absurd hi (no i p)) fun j q hj=>?_))))
  have hji:j=i:=idxH_unique hn hj hi
  subst hji
  rw [hi] at hj
  cases hj
  have hej:es[j]?=some (CK (KB prog w) (k,p)):=by rw [entry_at he,hi]; rfl
  refine Aa (BU (s:={ s with toks:=s.toks + (KB prog w).draws k }) ho hd ?_)
  rw [hej]
  have e2:=aBU (knd:=KB prog w) he j
  have sz2:(es.eraseIdxIfInBounds j).size<=sizeLine + 1:=by
   rw [<- AA,e2,Ae]
   have:=EG xs j
   lia
  have sb:Ch d s.heap (s.heap.update d (Obj.mapDictKeys fun x=>x.eraseIdxIfInBounds j)):=AX ..
  refine Aa (Je (s:={ s with toks:=s.toks + (KB prog w).draws k }) ho hd (Ab ?_) sz2)
  simp only [Option.isNone_some,Bz,if_false]
  refine Aa (Ks (Ab ⟨_,rfl,h _ _ ⟨_,_,ep + 1,Ba _ ho (FF (DJ hd _)),hex.mapDictKeys _,DJ hd _,e2,fun x hx=>?_,?_⟩ sb⟩))
  ·exact (KB prog w).keeps (his x (Ik hx)) ho hd sb
  ·rw [<- aAh]
   exact hn.sublist (Fh _ _)
end
section
variable {X:Cx} {o e ke ve:Expr} {to te tk tv:TE} {apos cpos pos:Pos}
theorem aG6 (hu:X.A.units + 1 < cLine) (ho:PE X o to) (he:PE X e te) (hbase:IA o "pop" X.env (eval o X.env)=eval o X.env:=by rfl)
  (hfew:((FJ cpos (Bk [e] X.env)).all (fun x=>!x.1) && (MY cpos (Kp [] X.env)).all (fun x=>x.1.isSome)
   && decide (([e]:List Expr).length + ([]:List Jk).length + (if ([]:List Jk).isEmpty then 0 else 1) < 30))=true:=by rfl)
  (hline:(apos.endLine == cpos.line)=true:=by rfl) (hs:Bk [e] X.env=(false,eval e X.env) :: Bk [] X.env:=by rfl) (hplain:(FJ cpos (Bk [] X.env)).any (·.1)=false:=by rfl) :
  PE X (.Call (.Attribute o "pop" apos) [e] [] cpos) (fun σ H Q=>to σ H fun x H1=>∃ (d:Addr) (k0:List (List Bool×V)),x=.ref d/\TbW X.prog X.w H1 d k0/\te σ H1 fun y H2=>∃ (b:Addr) (kvs:List (List Bool×V)) (k:List Bool) (i:Nat) (v:V),y=.ref b/\TbW X.prog X.w H2 d kvs/\Rd H2 b (.tup (k.map V.bl))/\kvs[i]?=some (k,v) /\
   ∀ H3:Hp,(∀ c,c≠d->H3 c=H2 c)->TbW X.prog X.w H3 d (kvs.eraseIdx i)->Q v H3):=by
 intro pins s σ H Q I h
 refine IZ hbase hfew hline rfl (thn (ho pins s σ H _ I h) fun v s1 ⟨x,H1,I1,r1,d,k0,ex,t1,q1⟩=>?_)
 subst ex
 obtain rfl:v=Value.ref d:=r1
 obtain ⟨_,_,_,o2,es2,ep2,g1,g2,g3,_⟩:=qR I1 t1.r
 refine ⟨"dict","dict.pop",PySem.F.plainAttrs_dict,JJ,PySem.F.type_dict_pop,⟨_,g1,g2.1⟩,fun b eb=>by cases eb; exact ⟨_,g1,g2.2.1⟩,?_⟩
 have hA:=zA he zC (by rw [hs] <;> rfl) cpos pins s1 σ H1 (fun vs H2=>match vs with
   | [y]=>∃ (b:Addr) (kvs:List (List Bool×V)) (k:List Bool) (i:Nat) (v:V),y=.ref b/\TbW X.prog X.w H2 d kvs/\Rd H2 b (.tup (k.map V.bl))/\kvs[i]?=some (k,v)/\∀ H3:Hp,(∀ c,c≠d->H3 c=H2 c)->TbW X.prog X.w H3 d (kvs.eraseIdx i)->Q v H3
   | _=>False) I1 q1
 rw [hs] at hA ⊢
 refine Gf (by show (false || (FJ cpos (Bk [] X.env)).any (·.1))=false; rw [hplain] <;> rfl) (GK ?_)
 refine thn hA fun us s2 ⟨vs,H2,I2,r2,z2⟩=>?_
 match vs,z2 with
 | [y],⟨b,kvs,k,i,v,ey2,td,rb,hi,q2⟩ =>
 subst ey2
 obtain ⟨u,rfl,ru⟩:=qm r2
 obtain rfl:u=Value.ref b:=ru
 obtain ⟨xs0,e0,z0,sd0,_⟩:=id td
 obtain ⟨_,xd,reld,dd⟩:=qR I2 td.r
 have l1:=DK reld
 obtain ⟨⟨k',pq⟩,hx,ek,_,rvv⟩:=yH reld hi
 have ek':k=k':=ek
 subst ek'
 refine call_meetsIn JJ dd.typeIs PySem.F.entry_dict_pop (PySem.F.args_dict_pop_2 _ _) (aEH (d:=d) (a:=b) (xs:=xd) (k:=k) (i:=i) (p:=pq)) ⟨(by first | exact hu | lia),dd,qw I2.hok rb,hx,by rw [<- l1]; exact z0,fun h' tk ⟨q',es',ep',k1,k2,k3,k4,k5,k6⟩ hsb=>?_⟩
 have I3:Inv X pins σ (upd H2 d (DbO X.prog X.w d (xd.eraseIdx i))) { s2 with heap:=h',toks:=tk } :=
  I2.write (x:=d) (e:=d) (t':=tk) (by rw [e0]; exact Dh) (.inl rfl) (fun c q hb z=>(hsb.2 c hb).trans z) ⟨q',k1⟩ (aC4 ⟨q',es',ep',k1,k2,k3,k4⟩)
 refine ⟨v,_,I3,rvv,q2 _ (fun c hc=>zI hc) ⟨xd.eraseIdx i,zB,?_,sd0,KTR.keeps (pr_erase i reld) fun c ys ec=>?_,k6⟩⟩
 ·have:=EG kvs i; lia
 ·rcases ec with ec | ⟨oc,ec⟩
  ·left; rw [zI (fun z=>by rw [z,e0] at ec; cases ec)]; exact ec
  ·right; exact ⟨oc,by rw [zI (fun z=>by rw [z,e0] at ec; cases ec)]; exact ec⟩
end
theorem jn:plainId "list.remove.loop"=true:=by decide +kernel
theorem aCC:Me table "list.remove.loop"=some Builtin.«list.remove.loop»:=LV (by kernel_rfl)
section
variable {prog:Ap} {w:AT} {A:AR} {R:Ka->Ad->Prop} {s:Ad}
theorem aG7 {l:Addr} {its:List Value} {n:Nat} {x:Value} {e:Nat->Bool} (hl:s.heap.get? l=some { cls:=.type "list",data:=.seq its.toArray n }) (hz:its.length<=sizeLine) (j:Nat) (hj:j < its.length)
  (he:∀ i v,its[i]?=some v->FK A.in1 s v x (e i)) (hit:e j=true) (hno:∀ i,i < j->e i=false) (h:R (.ok (.ret .none)) { s with heap:=s.heap.update l (Dr fun xs=>xs.eraseIdxIfInBounds j) }) :
  ∀ (k i:Nat),j - i=k->i<=j->Ef (AC prog w) A (.builtin "list.remove.loop" ⟨[.ref l,x,CL i],[]⟩) R s:=by
 intro k
 induction k with
 | zero =>
  intro i hk hi
  have hij:i=j:=by lia
  subst hij
  refine Cr aCC ?_
  rw [Dk jn _]
  refine (show Ax _ A.in1 (DY (.ref l) >>= _) _ _ s from Aa (Ez hl rfl ?_))
  have hi':its.toArray[((i:Nat):Int).toNat]?=some its[i]:=by simp [hj]
  rw [hi']
  refine Aa (he i _ (Au hj) prog w _ _ ?_)
  rw [hit,if_pos rfl]
  refine Aa (Fi hl rfl ?_ (by rw [AD]; exact hz) (by
   rw [Ds,AD]
   have:=EG its ((i:Nat):Int).toNat
   lia))
  exact Ab (by simpa using h)
 | succ k ih =>
  intro i hk hi
  have hlt:i < its.length:=by lia
  refine Cr aCC ?_
  rw [Dk jn _]
  refine (show Ax _ A.in1 (DY (.ref l) >>= _) _ _ s from Aa (Ez hl rfl ?_))
  have hi':its.toArray[((i:Nat):Int).toNat]?=some its[i]:=by simp [hlt]
  rw [hi']
  refine Aa (he i _ (Au hlt) prog w _ _ ?_)
  rw [hno i (by lia),if_neg (by decide)]
  have e1:(CL ((i:Int) + 1))=CL ((i + 1:Nat):Int):=by rw [LX]
  rw [e1]
  exact Ab ⟨Fl jn _,ih (i + 1) (by lia) (by lia)⟩
end
section
variable {X:Cx}
theorem aEI (hA:X.A.units + 60 < cLine):MtM X "list.remove" (fun x vs H Q=>∃ (l b:Addr) (ys:List V) (ks:List (List Bool)) (k:List Bool) (j:Nat),x=.ref l/\vs=[.ref b]/\H l=some (.lst ys)/\Bm (RdT H) ys ks/\Rd H b (.tup (k.map V.bl))/\ks[j]?=some k/\(∀ i,i < j->ks[i]?≠some k)/\Q .non (upd H l (.lst (ys.eraseIdx j)))):=by
 intro pins s σ H x vs v us Q I rx rv h
 obtain ⟨l,b,ys,ks,k,j,rfl,rfl,hH,hp,hb,hj,hno,q⟩:=h
 cases rx
 obtain ⟨u,rfl,ru⟩:=rv.one
 cases ru
 obtain ⟨z,its,n,r,hl,e⟩:=I.lstM hH
 have ly:=hp.length
 have hjl:=(Ao.mp hj).1
 have he:∀ i v,its[i]?=some v->FK X.A.in1 s v (.ref b) (decide (ks[i]?=some k)):=fun i v hv=>by
  have hil:=(Ao.mp hv).1
  obtain ⟨y,hy⟩:∃ y,ys[i]?=some y:=⟨ys[i]'(by lia),Au _⟩
  obtain ⟨u,hu,ryu⟩:=r.get hy
  rw [hv] at hu
  cases hu
  obtain ⟨k',hk',t,rfl,rd⟩:=yH hp hy
  cases ryu
  intro P' w' E' Q' hq
  have hu1:(BV (zb P' w')).room X.A.in1:=by show X.A.units + 1 < cLine; lia
  have g1:(BV (zb P' w')).is s.heap k' t:=by
   obtain ⟨ok,i2,n2,a1,a2,a3,a4⟩:=qw (ks:=k') I.hok rd
   exact ⟨ok,i2,n2,a1,a2,a3,by
    have:∀ {l:List Bool} {m:List Value},ItemsAre (zb X.prog X.w) l m->ItemsAre (zb P' w') l m:=by
     intro l m h
     induction h with
     | nil=>exact .nil
     | cons h t ih=>exact .cons h ih
    exact this a4⟩
  have g2:(BV (zb P' w')).is s.heap k b:=by
   obtain ⟨ok,i2,n2,a1,a2,a3,a4⟩:=qw (ks:=k) I.hok hb
   exact ⟨ok,i2,n2,a1,a2,a3,by
    have:∀ {l:List Bool} {m:List Value},ItemsAre (zb X.prog X.w) l m->ItemsAre (zb P' w') l m:=by
     intro l m h
     induction h with
     | nil=>exact .nil
     | cons h t ih=>exact .cons h ih
    exact this a4⟩
  refine (BV (zb P' w')).eqBool hu1 g1 g2 ?_
  have e1:decide (k'=k)=decide (ks[i]?=some k):=decide_eq_decide.mpr (by rw [hk']; exact ⟨fun z=>by rw [z],fun z=>BA z⟩)
  rw [e1]
  exact hq
 have M:MeetsIn X.prog X.w (Builtin.«list.remove» ⟨[.ref l,.ref b],[]⟩) (fun A R s=>Ef (AC X.prog X.w) A (.builtin "list.remove.loop" ⟨[.ref l,.ref b,CL 0],[]⟩) R s):=fun A R s h=>by
  show Ax _ _ (KG (.builtin "list.remove.loop" ⟨[.ref l,.ref b,CL 0],[]⟩)) _ _ s
  exact Ab ⟨Fl jn _,h⟩
 refine call_meetsIn Iu ⟨_,e,rfl⟩ PySem.F.entry_list_remove (PySem.F.args_list_remove_2 _ _) M (aG7 (e:=fun i=>decide (ks[i]?=some k)) e (by lia) j (by lia) he (decide_eq_true hj) (fun i hi=>decide_eq_false (hno i hi)) ?_ _ 0 rfl (AS _))
 refine ⟨.non,_,I.lset (its':=its.eraseIdx j) hH e ?_ (r.eraseIdx j) ?_,rfl,q⟩
 ·show its.toArray.eraseIdxIfInBounds j=(its.eraseIdx j).toArray
  rw [Ds]
 ·have:=EG ys j
  lia
end
section
variable {prog:Ap} {w:AT} {A:AR} {E:Value->Ad->Prop} {s:Ad}
theorem aCx {l:Addr} {us:List Value} {ns:List Int} {Q:Value->Ad->Prop} (hl:s.heap.IsTuple l us.toArray) (hI:Gm us ns) (hz:us.length<=900000)
  (h:∀ (out:Array Value) (ns':List Int) (g:Heap) (e:Nat),Gm out.toList ns'->ns'.Perm ns->ns'.Pairwise (·<=·)->(∀ b o,s.heap.get? b=some o->g.get? b=some o)->g.get? (s.heap.objs.size + 1)=some (BX "list" out e)->Q (.ref (s.heap.objs.size + 1)) { s with heap:=g }) :
  Ax (AC prog w) A (call (.builtin "sorted") [.ref l]) Q E s:=by
 have szl:=AW
 refine Fv Mv LJ LK (LL _) ?_
 unfold Builtin.«sorted»
 refine Aa (m:=MV "sorted" 1 1 _) (Ab (Aa (aCb hl (by lia) fun g1 k1 z1=>Aa (Ed ?_ (by lia)))))
 have gL:(g1.push (BX "list" us.toArray 0)).get? g1.objs.size=some (BX "list" us.toArray 0):=Ak _ rfl
 refine Aa (BE (AU Kg ⟨_,gL,rfl⟩ JD (aBw gL hI (by lia) fun out ns' a1 a2 a3=>⟨_,rfl,?_⟩) (Kh _)))
 obtain ⟨e,at1⟩:=La (out:=out) gL
 have old:∀ b o,s.heap.get? b=some o->(GY (g1.push (BX "list" us.toArray 0)) g1.objs.size us out).get? b=some o:=fun b o hb=>by
  have hlt:b < g1.objs.size:=An (k1 b o hb)
  rw [Ki (AE hlt) (by rw [GZ]; exact Dt hlt),Fm _ _ _ (AE hlt)]
  exact k1 b o hb
 have:=h out ns' _ e a1 a2 a3 old (by rw [<- z1]; exact at1)
 rw [<- z1] at this
 exact Ab ⟨_,rfl,this⟩
end
section
variable {X:Cx}
theorem aAi:qL X (.builtin "sorted") (fun vs H Q=>∃ (l:Addr) (ns:List Int),vs=[.ref l]/\SqT X.K H l (ns.map V.int)/\ns.length<=900000 /\
  ∀ (p:Addr) (ns':List Int) (H':Hp),Same H H'->H' p=some (.lst (ns'.map V.int))->ns'.Perm ns->Q (.ref p) H'):=by
 intro pins s σ H vs us Q I r h
 obtain ⟨l,ns,rfl,hl,hz,q⟩:=h
 obtain ⟨u,rfl,rx⟩:=qm r
 cases rx
 obtain ⟨its,rv,pl,_⟩:=I.tuple hl
 have len:=rv.length
 rw [Ae] at len
 refine aCx (show s.heap.IsTuple l its.toArray from pl) (jt rv) (by lia) fun out ns' g ep a1 a2 a3 k1 at1=>?_
 have hf:H (s.heap.objs.size + 1)=none:=I.hok.fresh (Db _)
 have l1:ns'.length=ns.length:=a2.length_eq
 exact ⟨.ref (s.heap.objs.size + 1),upd H (s.heap.objs.size + 1) (.lst (ns'.map V.int)),I.laid (t':=s.toks) k1 (Db _) ⟨by rw [Ae,AW]; lia,out.toList,ep,qP a1,at1⟩,rfl,q _ ns' _ (fun b o e=>by rw [zI (zE e hf)]; exact e) zB a2⟩
end
section
variable {X:Cx} {ke ve:Expr} {tk tv:TE} {pos:Pos}
theorem aG8 (hu:X.A.units + 1 < cLine) (hk:PE X ke tk) (hv:PE X ve tv):PE X (.Dict [some ke] [ve] pos) (fun σ H Q=>∀ p,H p=none->tk σ (upd H p (DbO X.prog X.w p [])) fun x H1=>tv σ H1 fun y H2 =>
  ∃ (b:Addr) (k:List Bool),x=.ref b/\H2 p=some (DbO X.prog X.w p [])/\Rd H2 b (.tup (k.map V.bl))/\∀ H3:Hp,(∀ c,c≠p->H3 c=H2 c)->TbW X.prog X.w H3 p [(k,y)]->Q (.ref p) H3):=by
 intro pins s σ H Q I h
 rw [arm_eval_Dict,zip_pairTrees [some ke] [ve] X.env pos rfl rfl,dictDisplay_pairs _ (by rw [<- BQ,IU _ _ _ _ rfl rfl]; show 0 < 1; decide) (by rw [IU _ _ _ _ rfl rfl]; show 1 < 17; decide)]
 refine Aa (CT (Aa ?_))
 unfold subDict
 refine Aa (Ms (Aa (BE ?_)))
 rw [if_pos (by rw [IU _ _ _ _ rfl rfl]; show 1<=15; decide)]
 have hf:H s.heap.objs.size=none:=I.hok.fresh (Ai _)
 have hsys:(s.heap.objs.size == Bx)=false:=beq_eq_false_iff_ne.mpr (CB (AE I.big))
 have I1:=I.laid (a:=s.heap.objs.size) (o:=DbO X.prog X.w s.heap.objs.size []) (h':=s.heap.push { cls:=.type "dict",data:=.dict #[] }) (t':=s.toks) (fun _ _ q=>Ac _ q) (Ai _) (aC4 ⟨_,#[],0,Ak _ rfl,⟨rfl,rfl,rfl⟩,rfl,rfl⟩)
 refine Aa (pairTrees_cons_walk (thn (hk pins _ σ _ _ I1 (h _ hf)) fun u s1 ⟨x,H1,J1,rx,q1⟩=>thn (hv pins s1 σ H1 _ J1 q1) fun w2 s2 ⟨y,H2,J2,ry,b,k,ex,e2,eb,q2⟩=>pairTrees_nil_walk ?_))
 subst ex
 obtain rfl:u=Value.ref b:=rx
 refine BE (Aa ?_)
 rw [FT]
 have t0:TbW X.prog X.w H2 s.heap.objs.size []:=⟨[],e2,AS _,hsys,.nil,CZ⟩
 obtain ⟨_,xs,rel,dd⟩:=qR J2 t0.r
 cases rel
 refine Aa (Aa (Lc (knd:=BV (zb X.prog X.w)) (hsz:=AS _) (show X.A.units < cLine by lia) (qw J2.hok eb) dd fun h' dd' hs=>Ab ?_))
 show Ax _ _ (NL [] PUnit.unit _) _ _ _
 rw [Kd]
 obtain ⟨q,es,ep,hq,h2,h3,h4,_,h5⟩:=dd'
 have I3:Inv X pins σ (upd H2 s.heap.objs.size (DbO X.prog X.w s.heap.objs.size (ES [] k b w2))) { s2 with heap:=h',toks:=s2.toks + (BV (zb X.prog X.w)).draws k } :=
  J2.write (x:=s.heap.objs.size) (e:=s.heap.objs.size) (by rw [e2]; exact Dh) (.inl rfl) (fun c q hb z=>(hs.2 c hb).trans z) ⟨q,hq⟩ (aC4 ⟨q,es,ep,hq,h2,h3,h4⟩)
 refine Ab (Ab (Ab (Ab ⟨.ref s.heap.objs.size,_,I3,rfl,q2 _ (fun c hc=>zI hc) ⟨_,zB,by show 1<=sizeLine; rw [AW]; decide,hsys,.cons ⟨rfl,?_,ry⟩ .nil,h5⟩⟩)))
 rcases eb with ec | ⟨oc,ec⟩
 ·have nb:b≠s.heap.objs.size:=fun z=>by rw [z,e2] at ec; cases ec
  exact .inl (by show (upd H2 _ _) b=_; rw [zI nb]; exact ec)
 ·have nb:b≠s.heap.objs.size:=fun z=>by rw [z,e2] at ec; cases ec
  exact .inr ⟨oc,by show (upd H2 _ _) b=_; rw [zI nb]; exact ec⟩
end
section
variable {X:Cx}
theorem aJn:OpR X (DV .Is) (fun x y H Q=>∃ p q:Bool,x=.bl p/\y=.bl q/\Q (.bl (p == q)) H):=by
 intro pins s σ H x y v u Q I rx ry h
 obtain ⟨p,q',rfl,rfl,q⟩:=h
 cases rx
 cases ry
 refine wpAny_is_plain rfl ?_
 rw [show (Value.bool p == Value.bool q')=(p == q') by cases p <;> cases q' <;> rfl]
 exact ⟨.bl _,H,I,rfl,q⟩
theorem qy:SlR X (fun x lo hi H Q=>∃ a xs,x=.ref a/\H a=some (.tup xs)/\∀ p H',Same H H'->H' p=some (.tup (cutV xs lo hi))->Q (.ref p) H'):=by
 intro pins s σ H x v vl vu lo hi sl Q I rx hs pl pu h
 obtain ⟨a,xs,rfl,hx,q⟩:=h
 refine aEu pins s σ H _ v vl vu lo hi sl Q I rx hs pl pu ⟨a,xs,rfl,SqT.of hx,fun hw=>q a H (fun _ _ e=>e) ?_,fun hw p hp=>q p _ (fun b u e=>by rw [zI (zE e hp)]; exact e) zB⟩
 have e:cutV xs lo hi=xs:=by
  unfold cutV
  rw [hw.1,hw.2,Ke,Gu,AZ]
 rw [e]; exact hx
theorem aH0 (r:List Int) (lo hi:Option Int):∃ r':List Int,cutV (r.map V.int) lo hi=r'.map V.int/\r'.length<=r.length:=by
 unfold cutV
 rw [<- Nj,<- Nk]
 exact ⟨_,rfl,by rw [Bd,GC]; lia⟩
end
section
variable {prog:Ap} {w:AT} {A:AR} {E:Value->Ad->Prop} {s:Ad}
noncomputable abbrev el1 (h:Heap) (p:Addr):Heap:=h.push { cls:=.type "list_iterator",data:=.fields #[.ref p,.int 0 0] }
noncomputable abbrev el2 (h:Heap) (p:Addr):Heap:=(el1 h p).push { cls:=.type "enumerate",data:=.fields #[.none,.bool false,.ref h.objs.size,CL 0,.none,.none] }
theorem aCy (p:Addr) (us:Array Value):NO (Builtin.«enumerate.__new__» ⟨[.type "enumerate",.ref p],[]⟩)
  (fun _ R s=>s.heap.IsList p us/\R (.ok (.ret (.ref (el1 s.heap p).objs.size))) { s with heap:=el2 s.heap p }) :=
 .of_wp fun prog w A R s h=>by
  obtain ⟨hp,g,d,tk,os⟩:=s
  obtain ⟨h1,h⟩:=h
  have hsub:=sub_enumerate
  have t1:Heap.IsList (Mp ⟨hp,g,d,tk,os⟩) p us:=h1
  wp_walk using El t1
  refine wpAny_stack_any fun st=>Ab ?_
  split
  ·rename_i c _ _ _ _ _
   cases (c == DD "enumerate")
   ·wp_walk using El t1
    exact ⟨_,rfl,h⟩
   ·wp_walk using El t1
    exact ⟨_,rfl,h⟩
  ·wp_walk using El t1
   exact ⟨_,rfl,h⟩
theorem aEJ {p:Addr} {us:Array Value} {Q:Value->Ad->Prop} (hp:s.heap.IsList p us)
  (h:∀ g,IsEnum g (s.heap.objs.size + 1) s.heap.objs.size 0 .none->g.IsListIter s.heap.objs.size p 0->g.objs.size=s.heap.objs.size + 2->(∀ c o,s.heap.get? c=some o->g.get? c=some o) ->
   Q (.ref (s.heap.objs.size + 1)) { s with heap:=g }):Ax (AC prog w) A (call (.type "enumerate") [.ref p]) Q E s:=by
 refine callType_new F.called_enumerate (by decide) (F.typeCall_enumerate_1 _) (F.newCall_enumerate_1 _) (fun obj=>F.args_object_init_2 obj _) F.entry_enumerate_new (aCy p us) ⟨hp,?_⟩
 have z1:(el1 s.heap p).objs.size=s.heap.objs.size + 1:=BW ..
 have g2:(el2 s.heap p).get? (el1 s.heap p).objs.size=some _:=Ak _ rfl
 have g1:(el2 s.heap p).get? s.heap.objs.size=some _:=Ac _ (Ak _ rfl)
 show _/\_
 rw [z1] at g2
 rw [z1]
 exact ⟨⟨_,g2,rfl⟩,h _ g2 ⟨_,g1,rfl,rfl⟩ (by rw [BW,z1]) fun c o x=>Ac _ (Ac _ x)⟩
end
noncomputable def IteL (K:Ah) (p:Addr):It :=
  ⟨fun i H=>∃ xs x,SqL K H p xs/\xs[i]?=some x,
   fun i H v H'=>∃ T x,v=.ref T/\H T=none/\H'=upd H T (.tup [.int (i:Int),x])/\∀ xs,SqL K H p xs->xs[i]?=some x,
   fun i H=>∃ xs,SqL K H p xs/\xs.length=i⟩
theorem aEK {P:Ap} {w:AT} {K:Ah} {es:List Expr} {kk:Nat} {pos:Pos} (p e it:Addr) (hei:e≠it) (hpe:p≠e) (hpi:p≠it) :
  Turn P w K (.Tuple es kk pos) (IteL K p) [e,it] e (fun k h=>(∃ old,IsEnum h e it (k:Int) old)/\h.IsListIter it p k) where
 mem:=by simp
 obj:=fun k h st b hb=>by
  obtain ⟨⟨old,a1⟩,⟨o2,a2,c2,d2⟩⟩:=st
  simp only [Aq,BI,or_false] at hb
  rcases hb with rfl | rfl
  ·exact ⟨_,a1,fun v e=>by cases e⟩
  ·exact ⟨_,a2,fun v e=>by rw [d2] at e; cases e⟩
 keep:=fun k h h' st kp=>by
  obtain ⟨⟨old,a1⟩,a2⟩:=st
  exact ⟨⟨old,kp e (by simp) _ a1⟩,a2.at fun o x=>kp it (by simp) o x⟩
 item:=by
  intro X hP hw hK hc k pins s σ H E I hf st hg
  subst hP hw hK
  obtain ⟨xs,x,hp,hx⟩:=hg
  obtain ⟨us,ru,pu,_⟩:=I.list hp
  obtain ⟨u,eu,r1⟩:=ru.get hx
  obtain ⟨⟨old,hE⟩,hI⟩:=st
  have hk:k < us.toArray.size:=by
   have:=(Ao.mp eu).1
   rw [AD]; exact this
  refine wpAny_pyNext_enum_itemD (NN (A:=X.A.in1) (I.ok.hd hc) it p hpi us.toArray) hE ⟨hI,pu.isList⟩ hk hei (by simp [hei,CB hpe]) fun v g tk hv ho st' new sz kp=>⟨_,rfl,?_⟩
  have ev:v=u:=by
   have h1:us.toArray[k]?=some v:=hv
   rw [show us.toArray[k]?=us[k]? by simp] at h1
   rw [h1] at eu
   exact BA eu
  subst ev
  refine wpAny_letOwnedTupleGo_enum ho fun g' z' b'=>?_
  have fe:=hf e (by simp)
  have fi:=hf it (by simp)
  have nT:H s.heap.objs.size=none:=I.hok.fresh (Ai _)
  have kp':∀ c o,c≠e->c≠it->s.heap.get? c=some o->g'.get? c=some o:=fun c o n1 n2 x=>b'.extBut _ _ n1 (kp c o n1 n2 x)
  have ene:s.heap.objs.size≠e:=Ci (An hE)
  have new':=b'.extBut _ _ ene new
  have notch:∀ b,b ∉ [e,it]->b≠e/\b≠it:=fun b hb=>by simpa using hb
  have trk:∀ b o,H b=some o->b≠e/\b≠it:=fun b o x=>⟨zE x fe.1,zE x fi.1⟩
  have I1:Inv X pins σ (upd H s.heap.objs.size (.tup [.int (k:Int),x])) { s with heap:=g',toks:=tk + 1 }:=by
   refine I.step (g':=s.gens) (d':=s.drawn) (t':=tk + 1) (ch:=[e,it]) (fun b hb=>?_) (fun b o _ _ hc e _=>?_) (fun b o _ _ hc e _=>?_) (fun b o hc e n=>?_) (fun b o hc e=>?_) (fun b xs e=>?_) (fun b o u e=>?_) (fun b ps e=>⟨#[],?_⟩) (fun m hm=>?_) (fun b o e=>?_) I.bare
   ·simp only [Aq,BI,or_false] at hb
    rcases hb with rfl | rfl
    ·exact ⟨fe.2.2.2.1,fe.2.1,fe.2.2.2.2.1,fe.2.2.2.2.2⟩
    ·exact ⟨fi.2.2.2.1,fi.2.1,fi.2.2.2.2.1,fi.2.2.2.2.2⟩
   ·obtain ⟨n1,n2⟩:=notch b hc
    exact kp' b o n1 n2 e
   ·obtain ⟨n1,n2⟩:=notch b hc
    exact ⟨o.slots,kp' b o n1 n2 e⟩
   ·rw [zI (AE (An e))]; exact n
   ·obtain ⟨n1,n2⟩:=notch b hc
    exact ⟨o,kp' b o n1 n2 e⟩
   ·rw [zI (zE e nT)]; exact e
   ·rw [zI (zE e nT)]; exact e
   ·rw [zI (zE e nT),e]; simp
   ·obtain ⟨o,es,ep,ho,r⟩:=hm
    exact ⟨o,es,ep,kp' _ o (CB fe.2.1) (CB fi.2.1) ho,r⟩
   ·by_cases hb:b=s.heap.objs.size
    ·subst hb
     rw [zB] at e
     cases e
     exact ⟨by show 2<=sizeLine; rw [AW]; decide,[.int (k:Int) tk,v],.cons ⟨_,rfl⟩ (.cons r1 .nil),⟨_,new',rfl,0,rfl⟩⟩
    ·rw [zI hb] at e
     refine (I.hok b o e).stay (fun c v' hcc r=>?_) (fun c r=>by rw [zI (zE r nT)]; exact r) fun c xs r=>by rw [zI (zE r nT)]; exact r
     rcases hcc with rfl | hcc
     ·obtain ⟨n1,n2⟩:=trk c o e
      exact kp' c v' n1 n2 r
     ·obtain ⟨n1,n2⟩:=trk c _ hcc
      exact kp' c v' n1 n2 r
  refine ⟨.ref s.heap.objs.size,_,I1,rfl,⟨_,x,rfl,nT,rfl,fun xs' h1=>?_⟩,⟨⟨_,z'⟩,st'.1.extBut b'.extBut (CB hei)⟩,fun b hb=>?_⟩
  ·rw [I.list_inj h1 hp]
   exact hx
  ·have hb':∃ o,s.heap.get? b=some o:=by
    obtain ⟨o2,a2,_⟩:=hI
    simp only [Aq,BI,or_false] at hb
    rcases hb with rfl | rfl
    ·exact ⟨_,hE⟩
    ·exact ⟨_,a2⟩
   obtain ⟨o,e⟩:=hb'
   rw [zI (AE (An e))]
   exact (hf b hb).1
 done:=by
  intro X hP hw hK hc k pins s σ H E I hf st hg
  subst hP hw hK
  obtain ⟨xs,hp,hend⟩:=hg
  obtain ⟨us,ru,pu,_⟩:=I.list hp
  obtain ⟨⟨old,hE⟩,hI⟩:=st
  have hk:k=us.toArray.size:=by
   have:=ru.length
   rw [AD]; lia
  refine wpAny_pyNext_enum_endD (NN (A:=X.A.in1) (I.ok.hd hc) it p hpi us.toArray) hE ⟨hk ▸ hI,pu.isList⟩ fun g kp=>⟨rfl,?_⟩
  have fi:=hf it (by simp)
  refine I.step (g':=s.gens) (d':=s.drawn) (t':=s.toks) (ch:=[it]) (fun b hb=>?_) (fun b o _ _ hc e _=>?_) (fun b o _ _ hc e _=>?_) (fun b o hc e n=>n) (fun b o hc e=>?_) (fun b xs e=>e) (fun b o u e=>e) (fun b ps e=>⟨#[],by rw [e]; simp⟩) (fun m hm=>?_) (fun b o e=>?_) I.bare
  ·rw [Af.mp hb]
   exact ⟨fi.2.2.2.1,fi.2.1,fi.2.2.2.2.1,fi.2.2.2.2.2⟩
  ·exact kp b o (by simpa using hc) e
  ·exact ⟨o.slots,kp b o (by simpa using hc) e⟩
  ·exact ⟨o,kp b o (by simpa using hc) e⟩
  ·obtain ⟨o,es,ep,ho,r⟩:=hm
   exact ⟨o,es,ep,kp _ o (CB fi.2.1) ho,r⟩
  ·refine (I.hok b o e).stay (fun c v' hcc r=>?_) (fun _ r=>r) fun _ _ r=>r
   rcases hcc with rfl | hcc
   ·exact kp c v' (zE e fi.1) r
   ·exact kp c v' (zE hcc fi.1) r
 self:=fun _ _ _ _ _ st h=>by
  obtain ⟨⟨old,hE⟩,_⟩:=st
  exact Ly hE h
section
variable {X:Cx} {es:List Expr} {kk:Nat} {tpos:Pos}
noncomputable def aJo (K:Ah) (ta:TA):TI:=fun σ H R=>ta σ H fun vs H1=>∃ p,vs=[.ref p]/\(∃ xs,SqL K H1 p xs)/\R (IteL K p) H1
theorem aH1 {a:Expr} {ta:TA} {p pos:Pos} (hm:X.mg "enumerate"=none) (ha:PA X [a] ta) (hg:Gl X "enumerate":=by rfl) (hs:Bk [a] X.env=[(false,eval a X.env)]:=by rfl) :
  PI X (.Tuple es kk tpos) (.Call (.Name "enumerate" p) [a] [] pos) (aJo X.K ta):=by
 intro pins s σ H R I h
 refine Call_ (aA6 I hg hm aBn (Da (thn (ha pos pins s σ H _ I h) fun us s1 ⟨vs,H1,I1,r1,q1⟩=>?_) hs rfl))
 obtain ⟨x,e,⟨xs,hx⟩,q⟩:=q1
 subst e
 obtain ⟨u,rfl,ru⟩:=qm r1
 cases ru
 obtain ⟨us,_,px,_⟩:=I1.list hx
 have lx:x < s1.heap.objs.size:=by obtain ⟨_,e,_⟩:=px.isList; exact An e
 refine aEJ px.isList fun g hE hI sz kp=>?_
 refine Ly hE ?_
 refine ⟨_,_,_,_,H1,rfl,I1.kept (t':=s1.toks) kp,aEK x (s1.heap.objs.size + 1) s1.heap.objs.size (Nat.succ_ne_self _) (AE (Dt lx)) (AE lx),⟨⟨_,hE⟩,hI⟩,fun b hb=>?_,q⟩
 have hge:s1.heap.objs.size<=b:=by
  simp only [Aq,BI,or_false] at hb
  rcases hb with rfl | rfl <;> lia
 exact I1.fpOk hge (I1.hok.fresh hge)
end
theorem aG9 {K:Ah} {p:Addr} {xs:List V} {g:TG} {tb:TS} {D:Ends} {σ:St} {H:Hp} (Pv:Nat->St->Hp->Prop) (h0:Pv 0 σ H) (hl:∀ i σ H,i<=xs.length->Pv i σ H->SqL K H p xs)
  (hs:∀ i T x σ H,xs[i]?=some x->Pv i σ H->H T=none->g (.ref T) σ (upd H T (.tup [.int (i:Int),x])) fun σ2 H2=>tb { D with nx:=Pv (i + 1),ct:=Pv (i + 1),bk:=D.nx } σ2 H2) (hd:∀ σ H,Pv xs.length σ H->D.nx σ H) :
  ∃ W:Nat->Nat->St->Hp->Prop,(∃ m,W 0 m σ H)/\∀ i m σ H,W i m σ H ->
   ((IteL K p).stop i H/\D.nx σ H)\/((IteL K p).go i H/\∃ N:St->Hp->Prop,(∀ σ' H',N σ' H'->∃ m',m' < m/\W (i + 1) m' σ' H')/\∀ x H',(IteL K p).yld i H x H'->g x σ H' fun σ2 H2=>tb { D with nx:=N,ct:=N,bk:=D.nx } σ2 H2):=by
 refine ⟨fun i m σ H=>m=xs.length - i/\i<=xs.length/\Pv i σ H,⟨xs.length,by simp,AS _,h0⟩,?_⟩
 rintro i m σ H ⟨rfl,hi,pp⟩
 have q:=hl i σ H hi pp
 by_cases hlt:i < xs.length
 ·refine .inr ⟨⟨xs,xs[i],q,by simp [hlt]⟩,Pv (i + 1),fun σ' H' p'=>⟨xs.length - (i + 1),by lia,rfl,hlt,p'⟩,fun v H' y=>?_⟩
  obtain ⟨T,x,rfl,hT,rfl,y⟩:=y
  exact hs i T x σ H (y xs q) pp hT
 ·have e:i=xs.length:=by lia
  subst e
  exact .inl ⟨⟨xs,q,rfl⟩,hd σ H pp⟩
end L2
namespace Law
open PySem L2
noncomputable def top (i:Nat):Stmt:=PySem.Challenge.pw_ledtowish_k20_tables_looked_at.main.body.getD i (.Pass ⟨0,0,0,0⟩)
section
variable {P:Ap} {w:AT} {K:Ah} {mg:Str->Option Value} {base:Heap}
noncomputable abbrev aB0:Stmt:=aHw (top 5) 0
theorem aIQ:FnScope ["self","word"] ["self","word"] (zF aB0):=⟨rfl,rfl,rfl,by decide +kernel,rfl,by decide +kernel,by decide +kernel⟩
noncomputable def xw (wd:Str):HO:=.xd [("word",.str wd)]
noncomputable def aGA (C:Addr):Sp:=fun vs H Q _=>∃ (e:Addr) (v:V) (fr:Bool),vs=[.ref e,v]/\H e=some (xO fr (.ref C) none e)/\∀ dx,H dx=none->dx≠e->Q .non (upd (upd H e (xO fr (.ref C) (some dx) e)) dx (.xd [("word",v)]))
theorem aIR {f C:Addr} {bm:List Value} {fd:BL} (F:Fun K "__init__" "NoWay.__init__" aB0 f fd) (c:XC K C bm) (n:aEd K C "word"):FnOk P w K mg base CX0 1 f fd ["self","word"] (aGA C):=by
 refine F.ok aIQ (fun vs H Q E h=>?_) (fun cdv A outer s H vs Q E hr h=>?_)
 ·obtain ⟨e,v,fr,rfl,_⟩:=h
  rfl
 obtain ⟨e,v,fr,rfl,he,q⟩:=h
 refine ⟨_,zN (aI3 (pv 0) (pv 1) rfl),?_⟩
 refine ⟨_,rfl,_,rfl,e,C,bm,fr,rfl,c,he,n,fun dx h1 h2=>?_⟩
 exact q dx h1 h2
structure Refs (P:Ap) (w:AT) (K:Ah) (mg:Str->Option Value) (base:Heap) (W N:Addr) (bN:List Value):Prop where
 cW:XC K W vMro
 cN:XC K N bN
 gN:mg "NoWay"=some (.ref N)
 mN:XMk P w K mg base N 1 (aGA N)
 wN:aEd K N "word"
noncomputable def jW (N:Addr) (wd:Str):Sp:=fun vs H Q E=>∃ (a b:Int),vs=[.int a,.int b]/\1<=a/\a < 2 ^ 4000/\1<=b/\b < 2 ^ 4000/\match byE wd a b with
 | .inr z=>Q (.int z) H
 | .inl e=>∀ dx,H dx=none->E (.ref N) (some dx) (upd H dx (xw e))
noncomputable def FamX (N:Addr) (fam:Str->Addr):Addr->Sp->Prop:=fun f sp=>∃ wd,aAy wd/\f=fam wd/\sp=jW N wd
structure DeedsX (P:Ap) (w:AT) (K:Ah) (mg:Str->Option Value) (base:Heap) (N dD:Addr) (fam:Str->Addr):Prop where
 top:aEm w K dD
 gl:mg "DEEDS"=some (.ref dD)
 at_:∀ wd,aAy wd->AH K dD wd=some (some (.ref (fam wd)))
 ok:∀ wd,aAy wd->Callee P w K mg base (CXF P w) 3 (fam wd) (jW N wd)
variable {W N:Addr} {bN:List Value}
theorem aHZ {H:Hp} {E:XS} {σ:St} {wd:Str} (h:∀ dx,H dx=none->E (.ref N) (some dx) σ (upd H dx (xw wd))) (e:Addr) (he:H e=none) :
  aGA N [.ref e,.str wd] (upd H e (xO true (.ref N) none e)) (fun v H2=>v=.non/\∃ dx,H2 e=some (xO true (.ref N) dx e)/\E (.ref N) dx σ (del H2 e)) E0:=by
 refine ⟨e,.str wd,true,rfl,zB,fun dx h1 h2=>⟨rfl,some dx,?_,?_⟩⟩
 ·rw [zI (CB h2),zB]
 ·rw [aDw h2,aHj,aI4 he]
  refine h dx ?_
  rw [zI h2] at h1
  exact h1
noncomputable abbrev aB1:Stmt:=top 7
theorem aIS:FnScope ["first","second"] ["first","second"] (zF aB1):=⟨rfl,rfl,rfl,by decide +kernel,rfl,by decide +kernel,by decide +kernel⟩
theorem aH2 {f:Addr} {fd:BL} (F:Fun K "plus" "plus" aB1 f fd):FnOk P w K mg base (CXF P w) 3 f fd ["first","second"] (jW N "plus"):=by
 refine F.okX aIS (fun vs H Q E h=>?_) (fun cdv A outer s H vs Q E hr h=>?_)
 ·obtain ⟨a,b,rfl,_⟩:=h
  rfl
 obtain ⟨a,b,rfl,a1,a2,b1,b2,e⟩:=h
 refine ⟨_,(zN (zh (zM zn (pv 0) (pv 1)))),?_⟩
 try dsimp only [Cx.nox,kx1,kx2,kx3,kx4,kx5,kx6,kx7,kx8,kx9,kxa,kxb,kxc]
 refine ⟨_,rfl,_,rfl,_,_,rfl,rfl,?_⟩
 exact e
noncomputable abbrev aA4:Stmt:=top 9
theorem aH3:FnScope ["first","second"] ["first","second"] (zF aA4):=⟨rfl,rfl,rfl,by decide +kernel,rfl,by decide +kernel,by decide +kernel⟩
theorem aGB {f:Addr} {fd:BL} (F:Fun K "times" "times" aA4 f fd):FnOk P w K mg base (CXF P w) 3 f fd ["first","second"] (jW N "times"):=by
 refine F.okX aH3 (fun vs H Q E h=>?_) (fun cdv A outer s H vs Q E hr h=>?_)
 ·obtain ⟨a,b,rfl,_⟩:=h
  rfl
 obtain ⟨a,b,rfl,a1,a2,b1,b2,e⟩:=h
 have hmul:KH a b:=aDC (by lia) (by lia)
 refine ⟨_,(zN (zh (zM aEl (pv 0) (pv 1)))),?_⟩
 try dsimp only [Cx.nox,kx1,kx2,kx3,kx4,kx5,kx6,kx7,kx8,kx9,kxa,kxb,kxc]
 refine ⟨_,rfl,_,rfl,_,_,rfl,rfl,hmul,?_⟩
 have e':byE "times" a b=.inr (a * b):=by unfold byE; rw [if_neg (by decide +kernel),if_pos rfl]
 rw [e'] at e
 exact e
noncomputable abbrev aB2:Stmt:=top 8
theorem aIT:FnScope ["first","second"] ["first","second"] (zF aB2):=⟨rfl,rfl,rfl,by decide +kernel,rfl,by decide +kernel,by decide +kernel⟩
theorem aDb {a b:Int}:byE "less" a b=if b < a then .inr (a - b) else .inl "less":=by
 unfold byE; rw [if_neg (by decide +kernel),if_neg (by decide +kernel),if_pos rfl]
theorem aCD {a b:Int}:byE "share" a b=if a % b=0 then .inr (a / b) else .inl "share":=by
 unfold byE; rw [if_neg (by decide +kernel),if_neg (by decide +kernel),if_neg (by decide +kernel)]
theorem aH4 {f:Addr} {fd:BL} (F:Fun K "less" "less" aB2 f fd) (R:Refs P w K mg base W N bN):FnOk P w K mg base (CXF P w) 3 f fd ["first","second"] (jW N "less"):=by
 refine F.okX aIT (fun vs H Q E h=>?_) (fun cdv A outer s H vs Q E hr h=>?_)
 ·obtain ⟨a,b,rfl,_⟩:=h
  rfl
 obtain ⟨a,b,rfl,a1,a2,b1,b2,e⟩:=h
 rw [aDb] at e
 refine ⟨_,(zH (yd (zU aKX (pv 0) (pv 1) (zZ _)) (zN (aDK rfl R.cN R.mN (hr.mono (by lia)) R.gN (zA aHH zC))) zg)
   (zN (zh (zM aD7 (pv 0) (pv 1))))),?_⟩
 try dsimp only [Cx.nox,kx1,kx2,kx3,kx4,kx5,kx6,kx7,kx8,kx9,kxa,kxb,kxc]
 refine ⟨_,rfl,_,rfl,_,_,rfl,rfl,_,rfl,?_⟩
 refine ite2 (fun c=>?_) (fun c=>?_)
 ·have hle:a<=b:=of_decide_eq_true c
  rw [if_neg (by lia)] at e
  exact ⟨(by show 1<=sizeLine; decide),aHZ (σ:=[]) (E:=fun cls dx _ H'=>E cls dx H') e⟩
 ·have hlt:b < a:=by
   have:¬ a<=b:=fun z=>c (decide_eq_true z)
   lia
  rw [if_pos hlt] at e
  refine ⟨_,rfl,_,rfl,_,_,rfl,rfl,?_⟩
  exact e
noncomputable abbrev aA5:Stmt:=top 10
theorem aH5:FnScope ["first","second"] ["first","second"] (zF aA5):=⟨rfl,rfl,rfl,by decide +kernel,rfl,by decide +kernel,by decide +kernel⟩
theorem aGC {f:Addr} {fd:BL} (F:Fun K "share" "share" aA5 f fd) (R:Refs P w K mg base W N bN):FnOk P w K mg base (CXF P w) 3 f fd ["first","second"] (jW N "share"):=by
 refine F.okX aH5 (fun vs H Q E h=>?_) (fun cdv A outer s H vs Q E hr h=>?_)
 ·obtain ⟨a,b,rfl,_⟩:=h
  rfl
 obtain ⟨a,b,rfl,a1,a2,b1,b2,e⟩:=h
 rw [aCD] at e
 refine ⟨_,(zH (yd (zU aIt (zM ze (pv 0) (pv 1)) zD (zZ _)) (zN (aDK rfl R.cN R.mN (hr.mono (by lia)) R.gN (zA aHH zC))) zg)
   (zN (zh (zM aAH (pv 0) (pv 1))))),?_⟩
 try dsimp only [Cx.nox,kx1,kx2,kx3,kx4,kx5,kx6,kx7,kx8,kx9,kxa,kxb,kxc]
 refine ⟨_,rfl,_,rfl,_,_,rfl,rfl,(by show (0:Int) < b; lia),rfl,_,rfl,?_⟩
 by_cases hz:a % b=0
 ·rw [if_pos hz] at e
  refine aKb (congrArg V.int hz) ?_
  refine ⟨_,rfl,_,rfl,_,_,rfl,rfl,⟨by lia,by lia⟩,?_⟩
  exact e
 ·rw [if_neg hz] at e
  refine (show (if _ then _ else _:Prop) from ?_)
  rw [if_pos (by rw [decide_eq_false (fun z=>hz (V.int.inj z))]; rfl)]
  exact ⟨(by show 1<=sizeLine; decide),aHZ (σ:=[]) (E:=fun cls dx _ H'=>E cls dx H') e⟩
noncomputable def aJp (N:Addr):Sp:=fun vs H Q E=>∃ (wd:Str) (a b:Int),vs=[.str wd,.int a,.int b]/\aAy wd/\1<=a/\a < 2 ^ 4000/\1<=b/\b < 2 ^ 4000/\match byE wd a b with
 | .inr z=>Q (.int z) H
 | .inl e=>∀ dx,H dx=none->E (.ref N) (some dx) (upd H dx (xw e))
noncomputable abbrev yt:Stmt:=top 12
theorem sc_worth_by:FnScope ["word","first","second","deed"] ["word","first","second"] (zF yt):=⟨rfl,rfl,rfl,by decide +kernel,rfl,by decide +kernel,by decide +kernel⟩
theorem aJq {f dD:Addr} {fam:Str->Addr} {fd:BL} (F:Fun K "worth_by" "worth_by" yt f fd) (B:Blt mg) (De:DeedsX P w K mg base N dD fam):FnOk P w K mg base (CXF P w) 5 f fd ["word","first","second"] (aJp N):=by
 have De_ok:∀ g sp,FamX N fam g sp->Callee P w K mg base (CXF P w) 3 g sp:=by
  rintro g sp ⟨wd,hw,rfl,rfl⟩
  exact De.ok wd hw
 refine F.okX (k:=4) sc_worth_by (fun vs H Q E h=>?_) (fun cdv A outer s H vs Q E hr h=>?_)
 ·obtain ⟨wd,a,b,rfl,_⟩:=h
  rfl
 obtain ⟨wd,a,b,rfl,hw,a1,a2,b1,b2,q⟩:=h
 refine ⟨_,(zH (zS (i:=3) sc_worth_by.nd rfl (by first | exact Bj rfl | exact Bi rfl) (jJ aJ5 (aES (v:=.ref dD) rfl De.gl rfl) (pv 0) (fun _ _=>rfl)))
   (zN (zh (aF3 De_ok (hr.mono (by lia)) (pv 3) (zA (pv 1) (zA (pv 2) zC)))))),?_⟩
 try dsimp only [Cx.nox,kx1,kx2,kx3,kx4,kx5,kx6,kx7,kx8,kx9,kxa,kxb,kxc]
 refine ⟨_,rfl,dD,wd,.ref (fam wd),.ref (fam wd),rfl,rfl,De.top,De.at_ wd hw,rfl,?_⟩
 exact ⟨_,rfl,fam wd,jW N wd,rfl,⟨wd,hw,rfl,rfl⟩,_,rfl,_,rfl,a,b,rfl,a1,a2,b1,b2,q⟩
theorem zc {H H':Hp} {p:Addr} (s:Same H H') (h:H' p=none):H p=none:=by
 cases e:H p with
 | none=>rfl
 | some o=>rw [s _ _ e] at h; cases h
theorem zf {H H':Hp} {p:Addr} {o:HO} (s:Same H H') (h:H p=none):Same H (upd H' p o):=fun b u e=>by rw [zI (zE e h)]; exact s b u e
noncomputable def Bs (H:Hp) (v:V) (c:List Bool):Prop:=∃ q,v=.ref q/\H q=some (.tup (c.map V.bl))
theorem Bs.kt {H H':Hp} {v:V} {c:List Bool} (k:KT H H') (h:Bs H v c):Bs H' v c:=by
 obtain ⟨q,h1,h2⟩:=h
 exact ⟨q,h1,k _ _ h2⟩
noncomputable def Bf (H:Hp) (v:V) (c:List Bool):Prop:=∃ q,v=.ref q/\Kb H q c
noncomputable def KF (H H':Hp):Prop:=∀ b o ys,H b=some (.frz o (.tup ys))->H' b=some (.frz o (.tup ys))
theorem KF.same {H H':Hp} (s:Same H H'):KF H H':=fun _ _ _ e=>s _ _ e
theorem KF.trans {H H1 H2:Hp} (a:KF H H1) (b:KF H1 H2):KF H H2:=fun _ _ _ e=>b _ _ _ (a _ _ _ e)
theorem KF.upd {H:Hp} {p:Addr} {o:HO} {ys:List V} (h:H p=some (.lst ys)):KF H (L2.upd H p o):=fun b ob xs e=>by
 rw [zI (fun z=>by rw [z,h] at e; cases e)]; exact e
theorem aJr {H H':Hp} {q:Addr} {c:List Bool} (k:KF H H') (h:Kb H q c):Kb H' q c:=let ⟨o,e,d⟩:=h; ⟨o,k _ _ _ e,d⟩
theorem Bf.kf {H H':Hp} {v:V} {c:List Bool} (k:KF H H') (h:Bf H v c):Bf H' v c:=let ⟨q,h1,h2⟩:=h; ⟨q,h1,aJr k h2⟩
theorem aBV {H H':Hp} {a:Addr} {u:HO} (s:Same H H') (h:Rd H a u):Rd H' a u:=by
 rcases h with h | ⟨o,h⟩
 ·exact .inl (s _ _ h)
 ·exact .inr ⟨o,s _ _ h⟩
noncomputable def aJs:Sp:=fun vs H Q _=>∃ m:Nat,vs=[.int m]/\m<=4/\∀ (p:Addr) (ys:List V) (H':Hp),Same H H'->H p=none->H' p=some (.lst ys)->Bm (Bf H') ys (chL m)->Q (.ref p) H'
theorem pow2 {k:Nat} (h:k<=4):2 ^ k<=16:=At (JV (by decide) h) (by decide)
noncomputable abbrev yK:Stmt:=top 1
theorem sc_choices_of:FnScope ["many","choices","at"] ["many"] (zF yK):=⟨rfl,rfl,rfl,by decide +kernel,rfl,by decide +kernel,by decide +kernel⟩
theorem aJt {f:Addr} {fd:BL} (F:Fun K "choices_of" "choices_of" yK f fd) (B:Blt mg):FnOk P w K mg base CX0 1 f fd ["many"] aJs:=by
 refine F.ok (k:=0) sc_choices_of (fun vs H Q E h=>?_) (fun cdv A outer s H vs Q E hr h=>?_)
 ·obtain ⟨m,rfl,_⟩:=h
  rfl
 obtain ⟨m,rfl,hm,q⟩:=h
 refine ⟨_,(zH (zS (i:=1) sc_choices_of.nd rfl (by first | exact Bj rfl | exact Bi rfl) (yz (zA (aFp zC) zC zx)))
   (zH (yg BT rfl (qO rfl B.range (zA (pv 0) zC)) (zP (i:=2) sc_choices_of.nd rfl (by first | exact Bj rfl | exact Bi rfl)) (zN (aF6 (i:=1) sc_choices_of.nd rfl (by first | exact Bj rfl | exact Bi rfl) (N:=["choice","truth"]) rfl (qo [none,none] rfl (by decide +kernel) (by decide +kernel) rfl rfl) rfl (ye (pv 1)) (fun _ _ _ _=>(zP (i:=0) (show (["choice","truth"]:List Str).Nodup by decide +kernel) rfl (by first | exact Bj rfl | exact Bi rfl))) (fun _ _ _ _=>(aBe (zv (zA qT (zA qT zC))))) (fun _ _ _ _=>(zP (i:=1) (show (["choice","truth"]:List Str).Nodup by decide +kernel) rfl (by first | exact Bj rfl | exact Bi rfl))) (fun _ _ _ _=>(zM aIH (pv 0) (aFp (zA (pv 1) zC)))))))
   (zN (zh (pv 1))))),?_⟩
 try dsimp only [Cx.nox,kx1,kx2,kx3,kx4,kx5,kx6,kx7,kx8,kx9,kxa,kxb,kxc]
 have szl:=AW
 refine ⟨(by show 0<=sizeLine; decide),fun p0 o0 hp0 ho0=>⟨(by show 1<=sizeLine; decide),fun p1 hp1=>?_⟩⟩
 have n1:H p1=none:=zc (Same.new hp0) hp1
 refine ⟨_,rfl,_,rfl,by lia,by lia,ql (n:=m) (fun k σ H'=>∃ (z:Option V) (pf:Addr) (ys:List V),σ=[some (.int m),some (.ref pf),z]/\Same H H'/\H pf=none/\H' pf=some (.lst ys)/\Bm (Bf H') ys (chL k))
  ⟨none,p1,_,rfl,(Same.new hp0).trans (Same.new hp1),n1,zB,.cons ⟨p0,rfl,o0,Same.new hp1 _ _ zB,ho0⟩ .nil⟩ ?_ ?_⟩
 ·rintro k σ H2 hk ⟨z,pf,ys,rfl,sH,nf,gf,pys⟩
  have yl:ys.length=2 ^ k:=by rw [pys.length,yq]
  have p16:=pow2 (k:=k) (by lia)
  refine ⟨_,rfl,pf,rfl,⟨_,SqL.of gf⟩,fun D hD C s2 fp=>?_⟩
  refine aDM (K:=K) (a:=pf) (xs:=ys) (fun i σ H3=>∃ (o1 o2:Option V) (zs:List V),σ=[o1,o2]/\Same H2 H3/\H3 D=some (.lst zs)/\Bm (Bf H3) zs (((chL k).take i).flatMap fun c=>[c++[false],c++[true]]))
   ⟨none,none,[],rfl,Same.new hD,zB,.nil⟩ (fun i σ H3 ⟨_,_,_,_,g,_⟩=>SqL.of (g _ _ gf)) ?_ ?_
  ·rintro i x σ H3 hi ⟨o1,o2,zs,rfl,s3,g3,pz⟩
   obtain ⟨c,hx,hw⟩:=jl pys hi
   obtain ⟨qx,rfl,gq⟩:=hw.kf (KF.same s3)
   have hil:i < 2 ^ k:=by rw [<- yl]; exact (Ao.mp hi).1
   have cl:c.length=k:=aCl k c (Av hx)
   refine ⟨(by show 2<=sizeLine; decide),fun pt hpt=>?_⟩
   have st:=Same.new (o:=.tup [.bl false,.bl true]) hpt
   refine ⟨pt,rfl,⟨_,SqT.of zB⟩,aHS (K:=K) (a:=pt) (zs:=[.bl false,.bl true]) (fun j σ H4=>∃ (o2:Option V) (zs:List V),σ=[some (.ref qx),o2]/\Same H2 H4/\H4 pt=some (.tup [.bl false,.bl true])/\H4 D=some (.lst zs)/\Kb H4 qx c /\
    Bm (Bf H4) zs ((((chL k).take i).flatMap fun c=>[c++[false],c++[true]])++(([false,true]:List Bool).take j).map fun t=>c++[t])) ⟨o2,zs,rfl,s3.trans st,zB,st _ _ g3,gq.same st,by rw [CQ,Cu,BD]; exact aCm (R:=Bf) (fun v x h=>h.kf (KF.same st)) pz⟩ (fun j σ H4 ⟨_,_,_,_,g,_⟩=>SqT.of g) ?_ ?_⟩
   ·rintro j y σ H4 hj ⟨o2,zs,rfl,s4,gt,g4,gq4,pz4⟩
    obtain ⟨t,ht,rfl,hj2⟩:∃ t:Bool,([false,true]:List Bool)[j]?=some t/\y=.bl t/\j<=1:=by
     match j,hj with
     | 0,hj=>simp at hj; exact ⟨false,rfl,hj.symm,by decide⟩
     | 1,hj=>simp at hj; exact ⟨true,rfl,hj.symm,by decide⟩
     | j + 2,hj=>simp at hj
    have zl:zs.length=i * 2 + j:=by
     rw [pz4.length,Al,aFd _ 2 _ (fun x _=>rfl),Ae,Bd,Bd,yq]
     show min i (2 ^ k) * 2 + min j 2=_
     rw [Eo (FI hil),Eo (by lia)]
    refine ⟨_,rfl,_,rfl,(by show 1<=sizeLine; decide),fun pu ou hpu hou=>?_⟩
    have su:=Same.new (o:=.frz ou (.tup [.bl t])) hpu
    obtain ⟨oq,eq4,dq4⟩:=gq4.same su
    refine ⟨qx,pu,oq,ou,_,_,rfl,rfl,eq4,zB,hou,by simp,by rw [Ae]; show c.length + 1<=_; lia,fun pp op H5 s5 g5 d5=>?_⟩
    have s45:=su.trans s5
    have g7:=s45 _ _ g4
    have kt7:KT H5 (upd H5 D (.lst (zs++[.ref pp]))):=KT.upd g7
    have kf7:KF H5 (upd H5 D (.lst (zs++[.ref pp]))):=KF.upd g7
    refine ⟨zs,g7,by rw [szl]; lia,some (.bl t),zs++[.ref pp],rfl,zf (s4.trans s45) hD,kt7 _ _ (s45 _ _ gt),zB,aJr kf7 (gq4.same s45),?_⟩
    rw [zT ht,AN,<- BN]
    refine yU (aCm (R:=Bf) (fun v x h=>h.kf (KF.trans (KF.same s45) kf7)) pz4) ⟨pp,rfl,op,?_,d5⟩
    rw [kf7 _ _ _ g5,AN]
    rfl
   ·rintro σ H4 ⟨o2,zs,rfl,s4,gt,g4,gq4,pz4⟩
    refine ⟨_,_,zs,rfl,s4,g4,?_⟩
    rw [zT hx,FH]
    exact pz4
  ·rintro σ H3 ⟨o1,o2,zs,rfl,s3,g3,pz⟩
   refine ⟨_,D,zs,rfl,sH.trans s3,zc sH hD,g3,?_⟩
   have el:(chL k).length=ys.length:=pys.length.symm
   rw [<- el,AZ] at pz
   exact pz
 ·rintro σ H2 ⟨z,pf,ys,rfl,sH,nf,gf,pys⟩
  exact ⟨_,rfl,q pf ys H2 sH nf gf pys⟩
end
section
variable {P:Ap} {w:AT} {K:Ah} {mg:Str->Option Value} {base:Heap}
theorem yF {s u:TS} {D:Ends} {σ:St} {H:Hp} (Mid:St->Hp->Prop) (h2:∀ σ' H',Mid σ' H'->u D σ' H') (h:∀ X':St->Hp->Prop,(∀ σ' H',Mid σ' H'->X' σ' H')->s { D with nx:=X' } σ H):tSeq s u D σ H:=h (u D) h2
noncomputable def Bp (H:Hp) (v:V) (p:List Bool×List Bool):Prop:=∃ q u1 u2,v=.ref q/\H q=some (.tup [u1,u2])/\Bs H u1 p.1/\Bs H u2 p.2
theorem Bp.kt {H H':Hp} {v:V} {p:List Bool×List Bool} (k:KT H H') (h:Bp H v p):Bp H' v p:=by
 obtain ⟨q,u1,u2,h1,h2,h3,h4⟩:=h
 exact ⟨q,u1,u2,h1,k _ _ h2,h3.kt k,h4.kt k⟩
noncomputable def Be (H:Hp) (v:V) (e:Bool×Bool):Prop:=∃ q,v=.ref q/\H q=some (.tup [.bl e.1,.bl e.2])
noncomputable def aJu (K:Ah):Sp:=fun vs H Q _=>∃ (a:Addr) (c:List Bool),vs=[.ref a]/\Rd H a (.tup (c.map V.bl))/\c.length<=4/\∀ (p:Addr) (ys:List V) (H':Hp),Same H H'->H p=none->H' p=some (.lst ys)->Bm (Bp H') ys (yQ c)->Q (.ref p) H'
theorem sp16 {c:List Bool} (h:c.length<=4):(splS c).length<=16:=At (aGm c) (pow2 h)
theorem aCz {l:List (List Bool×List Bool)} {i:Nat} {x:List Bool×List Bool} (h:l[i]?=some x) (t:Bool):qI (l.take (i + 1)) t=qI (l.take i) t++(jQ t).map fun e=>(x.1++[e.1],x.2++[e.2]):=by
 unfold qI
 rw [zT h,FH]
 simp
theorem aEL (l:List (List Bool×List Bool)) (t:Bool):(qI l t).length<=l.length * 2:=by
 unfold qI
 rw [aFd _ (jQ t).length _ (fun x _=>by rw [Ae])]
 exact Nat.mul_le_mul_left _ (by cases t <;> decide)
noncomputable abbrev yV:Stmt:=top 2
theorem sc_splits_of:FnScope ["choice","splits","truth","ends"] ["choice"] (zF yV):=⟨rfl,rfl,rfl,by decide +kernel,rfl,by decide +kernel,by decide +kernel⟩
theorem aJv {f:Addr} {fd:BL} (F:Fun K "splits_of" "splits_of" yV f fd) (Bany:mg "any"=none):FnOk P w K mg base CX0 1 f fd ["choice"] (aJu K):=by
 refine F.okW (k:=0) sc_splits_of (fun vs H Q E h=>?_) (fun cdv A outer s H vs Q E hr h=>?_)
 ·obtain ⟨a,c,rfl,_⟩:=h
  rfl
 obtain ⟨a,c,rfl,ha,hc,q⟩:=h
 refine ⟨_,(zR (aKj (i:=1) sc_splits_of.nd rfl (by first | exact Bj rfl | exact Bi rfl) (aKi (qD (aAl (qD (aAl aAW) (qD (aAl aAW) aAW zx) zx)) aAW zx)))
   (zR (Wr.mk (yg BT rfl (aBe (pv 0)) (zP (i:=2) sc_splits_of.nd rfl (by first | exact Bj rfl | exact Bi rfl)) (zH (zS (i:=3) sc_splits_of.nd rfl (by first | exact Bj rfl | exact Bi rfl) (aD5 (aD9 (pv 2) (fun _=>rfl)) (Wr.un (aAl (qD (aAl (qD (Wr.mk qT) (qD (Wr.mk qT) aAW))) (qD (aAl (qD (Wr.mk qT) (qD (Wr.mk qT) aAW))) aAW zx) zx))) (Wr.un (aAl (qD (aAl (qD (Wr.mk qT) (qD (Wr.mk qT) aAW))) aAW zx)))))
   (zN (aF6 (i:=1) sc_splits_of.nd rfl (by first | exact Bj rfl | exact Bi rfl) (N:=["one","rest","mine","others","ends"]) rfl (qo [none,none,none,none,some 3] rfl (by decide +kernel) (by decide +kernel) rfl rfl) rfl (ye (pv 1)) (fun _ _ _ _=>(aA7 rfl (zk (zP (i:=0) (show (["one","rest","mine","others","ends"]:List Str).Nodup by decide +kernel) rfl (by first | exact Bj rfl | exact Bi rfl)) (zk (zP (i:=1) (show (["one","rest","mine","others","ends"]:List Str).Nodup by decide +kernel) rfl (by first | exact Bj rfl | exact Bi rfl)) qk)))) (fun _ _ _ _=>(aBe (pv 4))) (fun _ _ _ _=>(aA7 rfl (zk (zP (i:=2) (show (["one","rest","mine","others","ends"]:List Str).Nodup by decide +kernel) rfl (by first | exact Bj rfl | exact Bi rfl)) (zk (zP (i:=3) (show (["one","rest","mine","others","ends"]:List Str).Nodup by decide +kernel) rfl (by first | exact Bj rfl | exact Bi rfl)) qk)))) (fun _ _ _ _=>(zv (zA (zM qV (pv 0) (zv (zA (pv 2) zC))) (zA (zM qV (pv 1) (zv (zA (pv 3) zC))) zC)))))))))
   (jy (Wr.mk (zh (qC (N:=["one","rest"]) rfl (qo [none,none] rfl (by decide +kernel) (by decide +kernel) rfl rfl) rfl (ye (pv 1)) (fun _ _ _ _=>(aA7 rfl (zk (zP (i:=0) (show (["one","rest"]:List Str).Nodup by decide +kernel) rfl (by first | exact Bj rfl | exact Bi rfl)) (zk (zP (i:=1) (show (["one","rest"]:List Str).Nodup by decide +kernel) rfl (by first | exact Bj rfl | exact Bi rfl)) qk)))) (fun _ _ _ _=>(aB6 (PW.pt (aBd (aD4 (zO (aAe rfl) rfl Bany aF9 (zA (pv 0) zC))) (aB3 (aD4 (zO (aAe rfl) rfl Bany aF9 (zA (pv 1) zC)))))))) (fun _ _ _ _=>(zv (zA (pv 0) (zA (pv 1) zC)))))))))),?_⟩
 try dsimp only [Cx.nox,kx1,kx2,kx3,kx4,kx5,kx6,kx7,kx8,kx9,kxa,kxb,kxc]
 have szl:=AW
 refine ⟨(by show 0<=sizeLine; decide),fun p0 hp0=>⟨(by show 0<=sizeLine; decide),fun p1 hp1=>⟨(by show 2<=sizeLine; decide),fun p2 hp2=>⟨(by show 1<=sizeLine; decide),fun p3 hp3=>?_⟩⟩⟩⟩
 have s0:=(Same.new (o:=.tup []) hp0).trans ((Same.new (o:=.tup []) hp1).trans (Same.new (o:=.tup [.ref p0,.ref p1]) hp2))
 have n3:=zc s0 hp3
 have s3:=Same.new (o:=.lst [.ref p2]) hp3
 have g0:Bm (Bp (upd (upd (upd (upd H p0 (.tup [])) p1 (.tup [])) p2 (.tup [.ref p0,.ref p1])) p3 (.lst [.ref p2]))) [.ref p2] (splS (c.take 0)) :=
  .cons ⟨p2,.ref p0,.ref p1,rfl,s3 _ _ zB,⟨p0,rfl,s3 _ _ (Same.new hp2 _ _ (Same.new hp1 _ _ zB))⟩,⟨p1,rfl,s3 _ _ (Same.new hp2 _ _ zB)⟩⟩ .nil
 refine ⟨_,rfl,a,rfl,⟨_,.inl (aBV (s0.trans s3) ha)⟩,aCS (K:=K) (a:=a) (xs:=c.map V.bl) (fun k σ H'=>∃ (z1 z2:Option V) (pf:Addr) (ys:List V),σ=[some (.ref a),some (.ref pf),z1,z2]/\Same H H'/\H pf=none/\H' pf=some (.lst ys)/\Bm (Bp H') ys (splS (c.take k)))
  ⟨none,none,p3,_,rfl,s0.trans s3,n3,zB,g0⟩ (fun i σ H' _ ⟨_,_,_,_,_,g,_⟩=>.inl (aBV g ha)) ?_ ?_⟩
 ·rintro k x σ H2 hk ⟨z1,z2,pf,ys,rfl,sH,nf,gf,pys⟩
  rw [Bh] at hk
  obtain ⟨t,ht,rfl⟩:∃ t,c[k]?=some t/\V.bl t=x:=by
   cases e:c[k]? with
   | none=>rw [e] at hk; cases hk
   | some n=>rw [e] at hk; exact ⟨n,rfl,by simpa using hk⟩
  have hkl:k < c.length:=(Ao.mp ht).1
  have yl:ys.length<=16:=by rw [pys.length]; exact sp16 (by rw [Bd]; lia)
  dsimp only [jL]
  refine yF (fun σ' H'=>∃ (pe:Addr) (es:List V),σ'=[some (.ref a),some (.ref pf),some (.bl t),some (.ref pe)]/\Same H2 H'/\H' pe=some (.tup es)/\Bm (Be H') es (jQ t)) ?_ ?_
  ·rintro σ' H1 ⟨pe,es,rfl,s1,ge,pes⟩
   have el2:(jQ t).length<=2:=by cases t <;> decide
   refine ⟨_,rfl,pf,rfl,⟨_,SqL.of (s1 _ _ gf)⟩,fun D hD C s2 fp=>?_⟩
   refine aDM (K:=K) (a:=pf) (xs:=ys) (fun i σ H3=>∃ (o1 o2 o3 o4:Option V) (zs:List V),σ=[o1,o2,o3,o4,some (.ref pe)]/\Same H1 H3/\H3 D=some (.lst zs)/\Bm (Bp H3) zs (qI ((splS (c.take k)).take i) t))
    ⟨none,none,none,none,[],rfl,Same.new hD,zB,.nil⟩ (fun i σ H3 ⟨_,_,_,_,_,_,g,_⟩=>SqL.of (g _ _ (s1 _ _ gf))) ?_ ?_
   ·rintro i x σ H3 hi ⟨o1,o2,o3,o4,zs,rfl,s3,g3,pz⟩
    obtain ⟨⟨u,v⟩,hx,hw⟩:=jl pys hi
    obtain ⟨qx,v1,v2,rfl,gq,b1,b2⟩:=(hw.kt (KT.same s1)).kt (KT.same s3)
    have hil:i < ys.length:=(Ao.mp hi).1
    have hS:Spl u v (c.take k):=mem_splS.mp (Av hx)
    have lu:u.length<=4:=by have:=hS.len; rw [Bd] at this; lia
    have lv:v.length<=4:=by have:=hS.len; rw [Bd] at this; lia
    refine ⟨qx,_,rfl,SqT.of gq,rfl,_,_,rfl,_,_,rfl,rfl,?_⟩
    refine ⟨_,rfl,pe,rfl,⟨_,SqT.of (s3 _ _ ge)⟩,aHS (K:=K) (a:=pe) (zs:=es) (fun j σ H4=>∃ (o3 o4:Option V) (zs:List V),σ=[some v1,some v2,o3,o4,some (.ref pe)]/\Same H1 H4/\H4 D=some (.lst zs)/\Bs H4 v1 u/\Bs H4 v2 v /\
     Bm (Bp H4) zs (qI ((splS (c.take k)).take i) t++((jQ t).take j).map fun e=>(u++[e.1],v++[e.2]))) ⟨o3,o4,zs,rfl,s3,g3,b1,b2,by rw [CQ,Cu,BD]; exact pz⟩ (fun j σ H4 ⟨_,_,_,_,g,_⟩=>SqT.of (g _ _ ge)) ?_ ?_⟩
    ·rintro j y σ H4 hj ⟨o3,o4,zs,rfl,s4,g4,c1,c2,pz4⟩
     obtain ⟨⟨e1,e2⟩,he,qe,rfl,gqe⟩:=jl pes hj
     have hjl:j < (jQ t).length:=(Ao.mp he).1
     have zl:zs.length<=40:=by
      rw [pz4.length,Al,Ae]
      have h1:=aEL ((splS (c.take k)).take i) t
      have h2:((splS (c.take k)).take i).length<=16:=by rw [Bd,<- pys.length]; lia
      have h3:((jQ t).take j).length<=2:=by rw [Bd]; lia
      lia
     refine ⟨qe,_,rfl,SqT.of (s4 _ _ gqe),rfl,_,_,rfl,_,_,rfl,rfl,?_⟩
     obtain ⟨qu,rfl,gu⟩:=id c1
     obtain ⟨qv,rfl,gv⟩:=id c2
     refine ⟨_,rfl,_,rfl,(by show 1<=sizeLine; decide),fun pu hpu=>?_⟩
     have su:=Same.new (o:=.tup [.bl e1]) hpu
     refine ⟨qu,pu,_,_,rfl,rfl,su _ _ gu,zB,by rw [Ae]; show u.length + 1<=_; lia,fun pp H5 s5 g5=>?_⟩
     have s45:=su.trans s5
     refine ⟨_,rfl,_,rfl,(by show 1<=sizeLine; decide),fun pw hpw=>?_⟩
     have sw:=Same.new (o:=.tup [.bl e2]) hpw
     refine ⟨qv,pw,_,_,rfl,rfl,sw _ _ (s45 _ _ gv),zB,by rw [Ae]; show v.length + 1<=_; lia,fun pq H6 s6 g6=>?_⟩
     have s56:=sw.trans s6
     refine ⟨(by show 2<=sizeLine; decide),fun pn hpn=>?_⟩
     have s46:=(s45.trans s56).trans (Same.new (o:=.tup [.ref pp,.ref pq]) hpn)
     have g7:=s46 _ _ g4
     have kt7:KT (upd H6 pn (.tup [.ref pp,.ref pq])) (upd (upd H6 pn (.tup [.ref pp,.ref pq])) D (.lst (zs++[.ref pn]))):=KT.upd g7
     have kt8:=KT.trans (KT.same s46) kt7
     refine ⟨zs,g7,by rw [szl]; lia,_,_,zs++[.ref pn],rfl,zf (s4.trans s46) hD,zB,c1.kt kt8,c2.kt kt8,?_⟩
     rw [zT he,AN,<- BN]
     refine yU (aCm (R:=Bp) (fun v x h=>h.kt kt8) pz4) ⟨pn,.ref pp,.ref pq,rfl,kt7 _ _ zB,⟨pp,rfl,?_⟩,⟨pq,rfl,?_⟩⟩
     ·have:=kt7 _ _ (Same.new hpn _ _ (s56 _ _ g5))
      rw [this]
      show _=some (HO.tup (Mi V.bl (u++[e1])))
      rw [AN]
      rfl
     ·have:=kt7 _ _ (Same.new hpn _ _ g6)
      rw [this]
      show _=some (HO.tup (Mi V.bl (v++[e2])))
      rw [AN]
      rfl
    ·rintro σ H4 ⟨o3,o4,zs,rfl,s4,g4,c1,c2,pz4⟩
     refine ⟨_,_,_,_,zs,rfl,s4,g4,?_⟩
     rw [pes.length,AZ] at pz4
     rw [aCz hx]
     exact pz4
   ·rintro σ H3 ⟨o1,o2,o3,o4,zs,rfl,s3,g3,pz⟩
    refine ⟨some (.bl t),some (.ref pe),D,zs,rfl,sH.trans (s1.trans s3),zc (sH.trans s1) hD,g3,?_⟩
    have el:(splS (c.take k)).length=ys.length:=pys.length.symm
    rw [<- el,AZ] at pz
    rw [zT ht,aFY]
    exact pz
  ·intro X' hX
   refine ⟨_,rfl,_,rfl,?_⟩
   cases t with
   | true =>
    refine iteT ⟨(by show 2<=sizeLine; decide),fun pa hpa=>⟨(by show 2<=sizeLine; decide),fun pb hpb=>⟨(by show 2<=sizeLine; decide),fun pe hpe=>?_⟩⟩⟩
    have se:=Same.new (o:=.tup [.ref pa,.ref pb]) hpe
    exact hX _ _ ⟨pe,_,rfl,(Same.new hpa).trans ((Same.new hpb).trans se),zB,.cons ⟨pa,rfl,se _ _ (Same.new hpb _ _ zB)⟩ (.cons ⟨pb,rfl,se _ _ zB⟩ .nil)⟩
   | false =>
    refine iteF ⟨(by show 2<=sizeLine; decide),fun pa hpa=>⟨(by show 1<=sizeLine; decide),fun pe hpe=>?_⟩⟩
    have se:=Same.new (o:=.tup [.ref pa]) hpe
    exact hX _ _ ⟨pe,_,rfl,(Same.new hpa).trans se,zB,.cons ⟨pa,rfl,se _ _ zB⟩ .nil⟩
 ·rintro σ H2 ⟨z1,z2,pf,ys,rfl,sH,nf,gf,pys⟩
  rw [Ae,AZ] at pys
  have yl:ys.length<=16:=by rw [pys.length]; exact sp16 hc
  refine ⟨_,rfl,pf,rfl,⟨_,SqL.of gf⟩,fun D hD C s2 fp=>?_⟩
  refine jd (K:=K) (a:=pf) (xs:=ys) (fun i zs σ H3=>∃ (o1 o2:Option V),σ=[o1,o2]/\Same H2 H3/\Bm (Bp H3) zs (((splS c).take i).filter fun p=>p.1.any id && p.2.any id))
   (fun i zs σ H3 ⟨_,_,_,g,_⟩=>SqL.of (g _ _ gf)) ⟨none,none,rfl,Same.new hD,.nil⟩ ?_ ?_
  ·rintro i x zs σ H3 hi hzl ⟨o1,o2,rfl,s3,pz⟩ g3
   obtain ⟨⟨u,v⟩,hx,hw⟩:=jl pys hi
   have hw3:=hw.kt (KT.same s3)
   obtain ⟨qx,v1,v2,rfl,gq,⟨qu,rfl,gu⟩,⟨qv,rfl,gv⟩⟩:=hw3
   have hil:i < ys.length:=(Ao.mp hi).1
   have ef:((splS c).take (i + 1)).filter (fun p=>p.1.any id && p.2.any id)=((splS c).take i).filter (fun p=>p.1.any id && p.2.any id)++(if (u.any id && v.any id)=true then [(u,v)] else []):=by
    rw [zT hx,Gc]
    congr 1
    simp only [FA,JK]
   refine ⟨qx,_,rfl,SqT.of gq,rfl,_,_,rfl,_,_,rfl,rfl,?_⟩
   refine ⟨_,rfl,qu,u,rfl,SqT.of gu,_,rfl,?_⟩
   cases hu:u.any id with
   | false =>
    rw [hu] at ef
    refine iteF (iteF ⟨zs,by lia,⟨_,_,rfl,s3,?_⟩,g3⟩)
    rw [ef]
    simpa using pz
   | true =>
    rw [hu] at ef
    refine iteT ⟨_,rfl,qv,v,rfl,SqT.of gv,_,rfl,?_⟩
    cases hv:v.any id with
    | false =>
     rw [hv] at ef
     refine iteF ⟨zs,by lia,⟨_,_,rfl,s3,?_⟩,g3⟩
     rw [ef]
     simpa using pz
    | true =>
     rw [hv] at ef
     refine iteT ⟨_,rfl,_,rfl,(by show 2<=sizeLine; decide),fun pn hpn=>?_⟩
     have sn:=Same.new (o:=.tup [.ref qu,.ref qv]) hpn
     have g7:=sn _ _ g3
     have kt7:KT (upd H3 pn (.tup [.ref qu,.ref qv])) (upd (upd H3 pn (.tup [.ref qu,.ref qv])) D (.lst (zs++[.ref pn]))):=KT.upd g7
     have kt8:=KT.trans (KT.same sn) kt7
     refine ⟨zs,g7,by rw [szl]; lia,zs++[.ref pn],by rw [Al]; show zs.length + 1<=i + 1; lia,⟨_,_,rfl,zf (s3.trans sn) hD,?_⟩,zB⟩
     rw [ef]
     exact yU (aCm (R:=Bp) (fun v x h=>h.kt kt8) pz) ⟨pn,.ref qu,.ref qv,rfl,kt7 _ _ zB,⟨qu,rfl,kt8 _ _ gu⟩,⟨qv,rfl,kt8 _ _ gv⟩⟩
  ·rintro zs σ H3 ⟨o1,o2,rfl,s3,pz⟩ g3
   have el:(splS c).length=ys.length:=pys.length.symm
   rw [<- el,AZ] at pz
   exact q D zs H3 (sH.trans s3) (zc sH hD) g3 pz
end
section
variable {P:Ap} {w:AT} {K:Ah} {mg:Str->Option Value} {base:Heap}
theorem aJw {X:Cx} {K:Ah} {o e:Expr} {es:List Expr} {to:TE} {t:TA} {name:Str} {apos cpos:Pos} {T id:String} {r:V->List V->Hp->VK->Prop} (hK:X.K=K) (pa:PlainAttrs T) (slot:Slot T name id) (hty:typeOf (.builtin id)=pure (.type "method_descriptor")) (hm:MtR X id r) (ho:PE X o to) (ha:PA X (e :: es) t)
  (hbase:IA o name X.env (eval o X.env)=eval o X.env:=by rfl)
  (hfew:((FJ cpos (Bk (e :: es) X.env)).all (fun x=>!x.1) && (MY cpos (Kp [] X.env)).all (fun x=>x.1.isSome)
   && decide ((e :: es).length + ([]:List Jk).length + (if ([]:List Jk).isEmpty then 0 else 1) < 30))=true:=by rfl)
  (hline:(apos.endLine == cpos.line)=true:=by rfl) (hs:Bk (e :: es) X.env=(false,eval e X.env) :: Bk es X.env:=by rfl) (hplain:(FJ cpos (Bk es X.env)).any (·.1)=false:=by rfl) :
  PE X (.Call (.Attribute o name apos) (e :: es) [] cpos) (tBM K T r to t):=hK ▸ aB4 pa slot hty hm ho ha hbase hfew hline hs hplain
noncomputable def tTru (K:Ah) (ta:TE):TT:=fun σ H Q=>ta σ H fun x H'=>∃ k,TruV K x H' k/\Q k H'
theorem aJx {X:Cx} {a:Expr} {ta:TE} (ha:PE X a ta) (he:∀ whole,isTrue a X.env whole=(do let v <- whole; Km a.pos; Ji [v] (truthy v))):PT X a (tTru X.K ta):=aD9 ha he
theorem jX:∀ {a:List Int} {b:List Bool} (n:Int) (t:Bool),a.length=b.length->zG (a++[n]) (b++[t])=zG a b++(if t=true then [n] else [])
 | [],[],n,t,_=>by cases t <;> rfl
 | x :: a,y :: b,n,t,h=>by
  have ih:=jX (a:=a) (b:=b) n t (by simpa using h)
  cases y
  ·rw [GJ,GJ,qH,qH,ih]
  ·rw [GJ,GJ,jG,jG,ih]; rfl
noncomputable def aJy:Sp:=fun vs H Q _=>∃ (a b:Addr) (ns:List Int) (c:List Bool),vs=[.ref a,.ref b]/\H a=some (.tup (ns.map V.int))/\Rd H b (.tup (c.map V.bl))/\ns.length=c.length/\ns.length<=4 /\
 ∀ (p:Addr) (H':Hp),Same H H'->H p=none->H' p=some (.tup ((zG ns c).map V.int))->Q (.ref p) H'
theorem qz {α:Type} {f:α->V} {l:List α} {i:Nat} {x:V} (h:(l.map f)[i]?=some x):∃ y,l[i]?=some y/\f y=x:=by
 rw [Bh] at h
 cases e:l[i]? with
 | none=>rw [e] at h; cases h
 | some n=>rw [e] at h; exact ⟨n,rfl,by simpa using h⟩
noncomputable abbrev yW:Stmt:=top 15
theorem aCE:FnScope ["numbers","choice"] ["numbers","choice"] (zF yW):=⟨rfl,rfl,rfl,by decide +kernel,rfl,by decide +kernel,by decide +kernel⟩
theorem aJz {f:Addr} {fd:BL} (F:Fun K "chosen_of" "chosen_of" yW f fd) (B:Blt mg):FnOk P w K mg base CX0 1 f fd ["numbers","choice"] aJy:=by
 refine F.ok (k:=0) aCE (fun vs H Q E h=>?_) (fun cdv A outer s H vs Q E hr h=>?_)
 ·obtain ⟨a,b,ns,c,rfl,_⟩:=h
  rfl
 obtain ⟨a,b,ns,c,rfl,ha,hb,hl,h4,q⟩:=h
 refine ⟨_,(zN (zh (zW zu rfl B.tuple qU (zA (qC (N:=["number","truth"]) rfl (qo [none,none] rfl (by decide +kernel) (by decide +kernel) rfl rfl) rfl (aJ9 B.zip (zA (pv 0) (zA (pv 1) zC))) (fun _ _ _ _=>(aA7 rfl (zk (zP (i:=0) (show (["number","truth"]:List Str).Nodup by decide +kernel) rfl (by first | exact Bj rfl | exact Bi rfl)) (zk (zP (i:=1) (show (["number","truth"]:List Str).Nodup by decide +kernel) rfl (by first | exact Bj rfl | exact Bi rfl)) qk)))) (fun _ _ _ _=>(aB6 (aJx (pv 1) (fun _=>rfl)))) (fun _ _ _ _=>(pv 0))) zC)))),?_⟩
 try dsimp only [Cx.nox,kx1,kx2,kx3,kx4,kx5,kx6,kx7,kx8,kx9,kxa,kxb,kxc]
 have szl:=AW
 refine ⟨_,rfl,_,rfl,a,b,rfl,⟨_,SqT.of ha⟩,⟨_,.inl hb⟩,fun D hD C s2 fp=>?_⟩
 refine aGa (K:=K) (p:=a) (q:=b) (xs:=ns.map V.int) (ys:=c.map V.bl) (fun i zs σ H3=>∃ (o1 o2:Option V),σ=[o1,o2]/\Same H H3/\zs=(zG (ns.take i) (c.take i)).map V.int)
  (fun i zs σ H3 ⟨_,_,_,g,_⟩=>⟨SqT.of (g _ _ ha),.inl (aBV g hb)⟩) (by rw [Ae,Ae,hl]) ⟨none,none,rfl,Same.new hD,rfl⟩ ?_ ?_
 ·rintro i T x y zs σ H3 hi hj hzl ⟨o1,o2,rfl,s3,rfl⟩ g3 hT
  obtain ⟨n,hn,rfl⟩:=qz hi
  obtain ⟨t,ht,rfl⟩:=qz hj
  have hil:=(Ao.mp hn).1
  have sT:=Same.new (o:=.tup [V.int n,V.bl t]) hT
  have ec:zG (ns.take (i + 1)) (c.take (i + 1))=zG (ns.take i) (c.take i)++(if t=true then [n] else []):=by
   rw [zT hn,zT ht,jX _ _ (by rw [Bd,Bd,hl])]
  refine ⟨T,_,rfl,SqT.of zB,rfl,_,_,rfl,_,_,rfl,rfl,?_⟩
  refine ⟨_,rfl,t,rfl,?_⟩
  cases t with
  | false =>
   refine iteF ⟨_,Iv hzl,⟨_,_,rfl,s3.trans sT,?_⟩,sT _ _ g3⟩
   rw [ec]
   simp
  | true =>
   refine iteT ⟨_,rfl,_,sT _ _ g3,by rw [szl]; lia,_,by rw [Al]; exact CS hzl,⟨_,_,rfl,zf (s3.trans sT) hD,?_⟩,zB⟩
   rw [ec,AN]
   rfl
 ·rintro zs σ H3 ⟨o1,o2,rfl,s3,rfl⟩ g3
  rw [Ae] at g3
  rw [AZ,hl,AZ] at g3
  refine ⟨D,_,rfl,.inl ⟨SqL.of g3,fun p hp=>?_⟩⟩
  exact q p _ (s3.trans (Same.new hp)) (zc s3 hp) zB
noncomputable abbrev Dd:=Str×Int×Int×Int
noncomputable def D4 (H:Hp) (v:V) (d:Dd):Prop:=∃ q,v=.ref q/\H q=some (.tup [.str d.1,.int d.2.1,.int d.2.2.1,.int d.2.2.2])
theorem D4.kt {H H':Hp} {v:V} {d:Dd} (k:KT H H') (h:D4 H v d):D4 H' v d:=by
 obtain ⟨q,h1,h2⟩:=h
 exact ⟨q,h1,k _ _ h2⟩
noncomputable def dW:List Str:=["plus","less","times","share"]
theorem aKx {i:Nat} {x:Str} (h:dW[i]?=some x):aAy x:=by
 have:=Av h
 simpa [dW,aAy] using this
noncomputable def one4 (x y:Int) (wd:Str):Option Dd:=match byE wd x y with
 | .inr z=>some (wd,x,y,z)
 | .inl _=>none
noncomputable def ddL (x y:Int):List Dd:=dW.filterMap (one4 x y)
noncomputable def dbL (xs ys:List Int):List Dd:=xs.flatMap fun x=>ys.flatMap fun y=>ddL x y
theorem aH6 {α β:Type} (f:α->List β) (m:Nat):∀ l:List α,(∀ x∈l,(f x).length<=m)->(l.flatMap f).length<=l.length * m
 | [],_=>AS _
 | x :: l,h=>by
  rw [Dv,Al,AY,HG]
  have h1:=h x (by simp)
  have h2:=aH6 f m l fun y hy=>h y (by simp [hy])
  lia
theorem aD0 (x y:Int) (k:Nat):((dW.take k).filterMap (one4 x y)).length<=4:=At (List.length_filterMap_le _ _) (by rw [Bd]; show min k 4<=4; lia)
theorem aIU (xs ys:List Int):(dbL xs ys).length<=xs.length * (ys.length * 4):=aH6 _ _ _ fun x _=>aH6 _ _ _ fun y _=>aD0 x y 4
noncomputable def spDb:Sp:=fun vs H Q _=>∃ (a b:Addr) (xs ys:List Int),vs=[.ref a,.ref b]/\H a=some (.tup (xs.map V.int))/\H b=some (.tup (ys.map V.int))/\xs.length<=400/\ys.length<=400/\(∀ x∈xs,1<=x/\x < 2 ^ 90)/\(∀ y∈ys,1<=y/\y < 2 ^ 90) /\
 ∀ (p:Addr) (zs:List V) (H':Hp),Same H H'->H p=none->H' p=some (.lst zs)->Bm (D4 H') zs (dbL xs ys)->Q (.ref p) H'
theorem p90 {x:Int} (h:x < 2 ^ 90):x < 2 ^ 4000:=Int.lt_trans h (by
 have:(2:Nat) ^ 90 < 2 ^ 4000:=Nat.pow_lt_pow_right (by decide) (by decide)
 exact_mod_cast this)
variable {W N:Addr} {bN:List Value}
noncomputable abbrev zr:Stmt:=top 13
theorem sc_deeds_between:FnScope ["firsts","seconds","deeds","first","second","word"] ["firsts","seconds"] (zF zr):=⟨rfl,rfl,rfl,by decide +kernel,rfl,by decide +kernel,by decide +kernel⟩
theorem aKy {f dD:Addr} {fam:Str->Addr} {fd:BL} (F:Fun K "deeds_between" "deeds_between" zr f fd) (R:Refs P w K mg base W N bN) (De:DeedsX P w K mg base N dD fam) (TK:aCt w K dD dW) (Gwb:Def P w K mg base (CXF P w) 5 "worth_by" (aJp N)):FnOk P w K mg base CX0 7 f fd ["firsts","seconds"] spDb:=by
 refine F.ok (k:=6) sc_deeds_between (fun vs H Q E h=>?_) (fun cdv A outer s H vs Q E hr h=>?_)
 ·obtain ⟨a,b,xs,ys,rfl,_⟩:=h
  rfl
 obtain ⟨a,b,xs,ys,rfl,ha,hb,lx,ly,hx,hy,q⟩:=h
 refine ⟨_,(zH (zS (i:=2) sc_deeds_between.nd rfl (by first | exact Bj rfl | exact Bi rfl) (yz zC))
   (zH (yg BT rfl (aBe (pv 0)) (zP (i:=3) sc_deeds_between.nd rfl (by first | exact Bj rfl | exact Bi rfl)) (zN (yg BT rfl (aBe (pv 1)) (zP (i:=4) sc_deeds_between.nd rfl (by first | exact Bj rfl | exact Bi rfl)) (zN (yg BT rfl (aJc (aES (v:=.ref dD) rfl De.gl rfl)) (zP (i:=5) sc_deeds_between.nd rfl (by first | exact Bj rfl | exact Bi rfl)) (zN (aI9 rfl R.gN R.cN.xcls rfl rfl (fun EX pins=>(zN (yy (aJw (K:=K) rfl Ca Cz CA yO (pv 2) (zA (zv (zA (pv 5) (zA (pv 3) (zA (pv 4) (zA (aI2 Gwb (hr.mono (by lia)) (zA (pv 5) (zA (pv 3) (zA (pv 4) zC)))) zC))))) zC zx))))) (fun _ pins=>(zN aCR)))))))))
   (zN (zh (pv 2))))),?_⟩
 try dsimp only [Cx.nox,kx1,kx2,kx3,kx4,kx5,kx6,kx7,kx8,kx9,kxa,kxb,kxc]
 have szl:=AW
 refine ⟨(by show 0<=sizeLine; decide),fun pd hpd=>?_⟩
 have sd:=Same.new (o:=.lst []) hpd
 refine ⟨_,rfl,a,rfl,⟨_,SqT.of (sd _ _ ha)⟩,aCS (K:=K) (a:=a) (xs:=xs.map V.int) (fun i σ H'=>∃ (z1 z2 z3:Option V) (zs:List V),σ=[some (.ref a),some (.ref b),some (.ref pd),z1,z2,z3]/\Same H H'/\H' pd=some (.lst zs)/\Bm (D4 H') zs (dbL (xs.take i) ys))
  ⟨none,none,none,[],rfl,sd,zB,.nil⟩ (fun i σ H' _ ⟨_,_,_,_,_,g,_⟩=>SqT.of (g _ _ ha)) ?_ ?_⟩
 ·rintro i v σ H1 hi ⟨z1,z2,z3,zs,rfl,s1,g1,pz⟩
  obtain ⟨x,hxi,rfl⟩:=qz hi
  have hil:=(Ao.mp hxi).1
  obtain ⟨x1,x2⟩:=hx x (Av hxi)
  refine ⟨_,rfl,b,rfl,⟨_,SqT.of (s1 _ _ hb)⟩,aCS (K:=K) (a:=b) (xs:=ys.map V.int) (fun j σ H'=>∃ (z2 z3:Option V) (zs:List V),σ=[some (.ref a),some (.ref b),some (.ref pd),some (.int x),z2,z3]/\Same H H'/\H' pd=some (.lst zs)/\Bm (D4 H') zs (dbL (xs.take i) ys++(ys.take j).flatMap (ddL x)))
   ⟨_,_,zs,rfl,s1,g1,by rw [CQ,IR,BD]; exact pz⟩ (fun i σ H' _ ⟨_,_,_,_,g,_⟩=>SqT.of (g _ _ hb)) ?_ ?_⟩
  ·rintro j v σ H2 hj ⟨z2,z3,zs,rfl,s2,g2,pz⟩
   obtain ⟨y,hyj,rfl⟩:=qz hj
   have hjl:=(Ao.mp hyj).1
   obtain ⟨y1,y2⟩:=hy y (Av hyj)
   refine ⟨dD,dW,rfl,TK,aIJ (ws:=dW) (fun k σ H'=>∃ (z3:Option V) (zs:List V),σ=[some (.ref a),some (.ref b),some (.ref pd),some (.int x),some (.int y),z3]/\Same H H'/\H' pd=some (.lst zs)/\Bm (D4 H') zs ((dbL (xs.take i) ys++(ys.take j).flatMap (ddL x))++(dW.take k).filterMap (one4 x y)))
    ⟨_,zs,rfl,s2,g2,by rw [CQ,List.filterMap_nil,BD]; exact pz⟩ ?_ ?_⟩
   ·rintro k wd σ H3 hk ⟨z3,zs,rfl,s3,g3,pz⟩
    have zl:zs.length<=640000:=by
     rw [pz.length,Al,Al]
     have h1:=aIU (xs.take i) ys
     have h2:((ys.take j).flatMap (ddL x)).length<=(ys.take j).length * 4:=aH6 _ _ _ fun y _=>aD0 x y 4
     have h3:=aD0 x y k
     rw [Bd] at h1 h2
     have h4:min i xs.length * (ys.length * 4)<=399 * 1600:=Nat.mul_le_mul (by lia) (by lia)
     lia
    refine ⟨_,rfl,.inl ⟨rfl,_,SqL.of g3⟩,_,rfl,_,rfl,_,rfl,_,rfl,_,rfl,_,rfl,wd,x,y,rfl,aKx hk,x1,p90 x2,y1,p90 y2,?_⟩
    have ef:(dW.take (k + 1)).filterMap (one4 x y)=(dW.take k).filterMap (one4 x y)++(one4 x y wd).toList:=by
     rw [zT hk,List.filterMap_append]
     cases h:one4 x y wd <;> simp [Dq,h]
    cases eb:byE wd x y with
    | inl e =>
     intro dx hdx
     refine ⟨⟨N,bN,rfl,R.cN.xcls,by simp⟩,?_⟩
     have sx:=Same.new (o:=xw e) hdx
     refine ⟨_,zs,rfl,s3.trans sx,sx _ _ g3,?_⟩
     have e4:one4 x y wd=none:=by unfold one4; rw [eb]
     rw [e4,Option.toList_none,BD] at ef
     rw [ef]
     exact aCm (R:=D4) (fun v x h=>h.kt (KT.same sx)) pz
    | inr z =>
     refine ⟨(by show 4<=sizeLine; decide),fun pt hpt=>?_⟩
     have st:=Same.new (o:=.tup [.str wd,.int x,.int y,.int z]) hpt
     have g4:=st _ _ g3
     refine ⟨pd,zs,_,rfl,rfl,g4,by rw [szl]; lia,?_⟩
     have kt7:KT (upd H3 pt (.tup [.str wd,.int x,.int y,.int z])) (upd (upd H3 pt (.tup [.str wd,.int x,.int y,.int z])) pd (.lst (zs++[.ref pt]))):=KT.upd g4
     refine ⟨_,zs++[.ref pt],rfl,zf (s3.trans st) hpd,zB,?_⟩
     have e4:one4 x y wd=some (wd,x,y,z):=by unfold one4; rw [eb]
     rw [e4] at ef
     rw [ef,<- BN]
     exact yU (aCm (R:=D4) (fun v x h=>h.kt (KT.trans (KT.same st) kt7)) pz) ⟨pt,rfl,kt7 _ _ zB⟩
   ·rintro σ H3 ⟨z3,zs,rfl,s3,g3,pz⟩
    refine ⟨_,_,zs,rfl,s3,g3,?_⟩
    rw [zT hyj,FH,<- BN]
    have:([y]:List Int).flatMap (ddL x)=dW.filterMap (one4 x y):=by simp [ddL]
    rw [this]
    exact pz
  ·rintro σ H2 ⟨z2,z3,zs,rfl,s2,g2,pz⟩
   rw [Ae,AZ] at pz
   refine ⟨_,_,_,zs,rfl,s2,g2,?_⟩
   have:dbL (xs.take (i + 1)) ys=dbL (xs.take i) ys++ys.flatMap (ddL x):=by
    unfold dbL
    rw [zT hxi,FH]
    simp
   rw [this]
   exact pz
 ·rintro σ H1 ⟨z1,z2,z3,zs,rfl,s1,g1,pz⟩
  rw [Ae,AZ] at pz
  exact ⟨_,rfl,q pd zs H1 s1 hpd g1 pz⟩
end
section
variable {P:Ap} {w:AT} {K:Ah} {mg:Str->Option Value} {base:Heap}
theorem aCF {α:Type} {l:List α} {i:Nat} {x:α} (h:l[i]?=some x) (p:α->Bool):(l.take (i + 1)).filter p=(l.take i).filter p++(if p x=true then [x] else []):=by
 rw [zT h,Gc,FA,JK]
theorem aIV {xs ys:List Int} {d:Dd} (h:d∈dbL xs ys):∃ x∈xs,∃ y∈ys,Deed x y d.2.2.2:=by
 obtain ⟨x,hx,h⟩:=BP.mp h
 obtain ⟨y,hy,h⟩:=BP.mp h
 obtain ⟨wd,hw,h⟩:=EV.mp h
 refine ⟨x,hx,y,hy,?_⟩
 unfold one4 byE at h
 unfold Deed
 split at h
 ·rename_i z e
  cases h
  show z=_\/(_/\z=_)\/z=_\/(_/\z=_)
  split at e
  ·cases e; exact .inl rfl
  ·split at e
   ·cases e; exact .inr (.inr (.inl rfl))
   ·split at e
    ·split at e
     ·rename_i h2
      cases e; exact .inr (.inl ⟨h2,rfl⟩)
     ·cases e
    ·split at e
     ·rename_i h2
      cases e; exact .inr (.inr (.inr ⟨h2,rfl⟩))
     ·cases e
 ·cases h
theorem aIW {xs ys:List Int} {x y m:Int} (hx:x∈xs) (hy:y∈ys) (h:Deed x y m):∃ d∈dbL xs ys,d.2.2.2=m:=by
 have put:∀ wd∈dW,byE wd x y=.inr m->∃ d∈dbL xs ys,d.2.2.2=m:=fun wd hw e =>
  ⟨(wd,x,y,m),BP.mpr ⟨x,hx,BP.mpr ⟨y,hy,EV.mpr ⟨wd,hw,by unfold one4; rw [e]⟩⟩⟩,rfl⟩
 rcases h with rfl | ⟨h,rfl⟩ | rfl | ⟨h,rfl⟩
 ·exact put "plus" (by simp [dW]) (by unfold byE; rw [if_pos rfl])
 ·exact put "less" (by simp [dW]) (by rw [aDb,if_pos h])
 ·exact put "times" (by simp [dW]) (by unfold byE; rw [if_neg (by decide +kernel),if_pos rfl])
 ·exact put "share" (by simp [dW]) (by rw [aCD,if_pos h])
noncomputable def RowV (H:Hp) (v:V) (r:List Int):Prop:=∃ q,v=.ref q/\H q=some (.tup (r.map V.int))
theorem RowV.kt {H H':Hp} {v:V} {r:List Int} (k:KT H H') (h:RowV H v r):RowV H' v r:=by
 obtain ⟨q,h1,h2⟩:=h
 exact ⟨q,h1,k _ _ h2⟩
noncomputable def Ent (ns:List Int) (H:Hp) (kv:List Bool×V) (c:List Bool):Prop:=kv.1=c/\RowV H kv.2 (rowF (zG ns c))
theorem Ent.kt {ns:List Int} {H H':Hp} {kv:List Bool×V} {c:List Bool} (k:KT H H') (h:Ent ns H kv c):Ent ns H' kv c:=⟨h.1,h.2.kt k⟩
theorem aGD {ns:List Int} {H:Hp} {kvs:List (List Bool×V)} {cs:List (List Bool)} (h:Bm (Ent ns H) kvs cs) {c:List Bool} (hc:c∈cs):∃ v,valV kvs c=some v/\RowV H v (rowF (zG ns c)):=by
 induction h with
 | nil=>cases hc
 | @cons p d ps ds h t ih =>
  by_cases e:p.1=c
  ·exact ⟨p.2,qJ e,by rw [<- e,h.1]; exact h.2⟩
  ·rw [qK e]
   rcases Aq.mp hc with hc | hc
   ·exact absurd (h.1.trans hc.symm) e
   ·exact ih hc
theorem aIX {ns:List Int} {H:Hp} {kvs:List (List Bool×V)} {cs:List (List Bool)} (h:Bm (Ent ns H) kvs cs) {c:List Bool} (hc:c ∉ cs) (v:V):putK kvs c v=kvs++[(c,v)]:=by
 unfold putK
 rw [if_neg]
 intro z
 obtain ⟨kv,h1,h2⟩:=Fy.mp z
 have:∀ {kvs:List (List Bool×V)} {cs:List (List Bool)},Bm (Ent ns H) kvs cs->kv∈kvs->kv.1∈cs:=by
  intro kvs cs h
  induction h with
  | nil=>intro z; cases z
  | cons h _ ih =>
   intro z
   rcases Aq.mp z with z | z
   ·rw [z,h.1]; exact AL
   ·exact AI _ (ih z)
 have:=this h h1
 rw [of_decide_eq_true h2] at this
 exact hc this
noncomputable def Nums (ns:List Int):Prop:=ns.length<=4/\∀ n∈ns,1<=n/\n<=1000000
theorem aDc {ns:List Int} (h:Nums ns) (c:List Bool):∀ x∈rowF (zG ns c),1<=x/\x < 2 ^ 90:=by
 have hl:(zG ns c).length<=4:=At (yG ns c) h.1
 intro x hx
 have m:=((qG hl).2 x).mp hx
 exact ⟨m.pos,m.small hl fun n hn=>(h.2 n (jH hn)).2⟩
theorem aHa {k:Nat} (h:k<=3):bnd k<=108:=by
 have:k=0\/k=1\/k=2\/k=3:=by lia
 rcases this with rfl | rfl | rfl | rfl <;> decide
theorem aBW (k:Nat):bnd k<=3240:=by
 unfold bnd
 split <;> decide
noncomputable def aEM (ns:List Int) (p:List Bool×List Bool):List Dd:=dbL (rowF (zG ns p.1)) (rowF (zG ns p.2))
theorem aBX {ns:List Int} {c:List Bool} (hN:Nums ns) (hl:ns.length=c.length) (h1:(zG ns c).length≠1) {p:List Bool×List Bool} (hp:p∈yQ c) {d:Dd} (hd:d∈aEM ns p):MetL (zG ns c) d.2.2.2:=by
 obtain ⟨x,hx,y,hy,dd⟩:=aIV hd
 have l1:(zG ns p.1).length<=4:=At (yG ns _) hN.1
 have l2:(zG ns p.2).length<=4:=At (yG ns _) hN.1
 exact (aA1 hl h1).mpr ⟨p,hp,x,y,((qG l1).2 x).mp hx,((qG l2).2 y).mp hy,dd⟩
theorem aH7 {ns:List Int} {c:List Bool} (hN:Nums ns) (hl:ns.length=c.length) (h1:(zG ns c).length≠1) {m:Int} (h:MetL (zG ns c) m):∃ p∈yQ c,∃ d∈aEM ns p,d.2.2.2=m:=by
 obtain ⟨p,hp,x,y,hx,hy,dd⟩:=(aA1 hl h1).mp h
 have l1:(zG ns p.1).length<=4:=At (yG ns _) hN.1
 have l2:(zG ns p.2).length<=4:=At (yG ns _) hN.1
 obtain ⟨d,hd,e⟩:=aIW (((qG l1).2 x).mpr hx) (((qG l2).2 y).mpr hy) dd
 exact ⟨p,hp,d,hd,e⟩
theorem aH8 {ns:List Int} {c:List Bool} (hN:Nums ns) (hl:ns.length=c.length) {p:List Bool×List Bool} (hp:p∈yQ c):(rowF (zG ns p.1)).length<=400/\(rowF (zG ns p.2)).length<=400:=by
 obtain ⟨hs,h1,h2⟩:=mem_splits.mp hp
 have l:=hs.len
 have m:=(hs.mix ns hl).len
 have la:=yG ns c
 have n1:0 < (zG ns p.1).length:=BQ.mpr ((qB (by lia)).mpr h1)
 have n2:0 < (zG ns p.2).length:=BQ.mpr ((qB (by lia)).mpr h2)
 have:=hN.1
 exact ⟨At (aCk (by lia)) (At (aHa (by lia)) (by decide)),At (aCk (by lia)) (At (aHa (by lia)) (by decide))⟩
noncomputable def spRf (P:Ap) (w:AT):Sp:=fun vs H Q _=>∃ (a b d:Addr) (ns:List Int) (c:List Bool) (kvs:List (List Bool×V)) (cs:List (List Bool)),vs=[.ref a,.ref b,.ref d]/\H a=some (.tup (ns.map V.int))/\Rd H b (.tup (c.map V.bl))/\Nums ns/\ns.length=c.length/\c.any id=true /\
 Tb P w H d kvs/\Bm (Ent ns H) kvs cs/\(∀ p∈yQ c,p.1∈cs/\p.2∈cs)/\∀ (p:Addr) (H':Hp),Same H H'->H' p=some (.tup ((rowF (zG ns c)).map V.int))->Q (.ref p) H'
noncomputable abbrev qS:Stmt:=top 17
theorem sc_row_for:FnScope ["numbers","choice","table","chosen","worths","one","rest","word","first","second","worth"] ["numbers","choice","table"] (zF qS):=⟨rfl,rfl,rfl,by decide +kernel,rfl,by decide +kernel,by decide +kernel⟩
theorem aKz {f:Addr} {fd:BL} (F:Fun K "row_for" "row_for" qS f fd) (B:Blt mg) (Bset:mg "set"=none) (Bsorted:mg "sorted"=none) (Gcho:Def P w K mg base CX0 1 "chosen_of" aJy) (Gspl:Def P w K mg base CX0 1 "splits_of" (aJu K)) (Gdb:Def P w K mg base CX0 7 "deeds_between" spDb):FnOk P w K mg base CX0 9 f fd ["numbers","choice","table"] (spRf P w):=by
 refine F.ok (k:=8) sc_row_for (fun vs H Q E h=>?_) (fun cdv A outer s H vs Q E hr h=>?_)
 ·obtain ⟨a,b,d,ns,c,kvs,cs,rfl,_⟩:=h
  rfl
 obtain ⟨a,b,d,ns,c,kvs,cs,rfl,ha,hb,hN,hl,hany,tb,pe,hsp,q⟩:=h
 refine ⟨_,(zH (zS (i:=3) sc_row_for.nd rfl (by first | exact Bj rfl | exact Bi rfl) (zj Gcho (hr.mono (by lia)) (zA (pv 0) (zA (pv 1) zC))))
   (zH (yd (zU qM (zO zQ rfl B.len yZ (zA (pv 3) zC)) zD (zZ _)) (zN (zh (aD5 (zU aIu (jJ aHL (pv 3) zD (fun _ _=>rfl)) zD (zZ _)) (pv 3) (zv zC)))) zg)
   (zH (zS (i:=4) sc_row_for.nd rfl (by first | exact Bj rfl | exact Bi rfl) (aDr aFr rfl Bset aJS))
   (zH (yg BT rfl (ye (zj Gspl (hr.mono (by lia)) (zA (pv 1) zC))) (aA7 rfl (zk (zP (i:=5) sc_row_for.nd rfl (by first | exact Bj rfl | exact Bi rfl)) (zk (zP (i:=6) sc_row_for.nd rfl (by first | exact Bj rfl | exact Bi rfl)) qk))) (zN (yg BT rfl (ye (zj Gdb (hr.mono (by lia)) (zA (aDY (yf hr) (pv 2) (pv 5) (fun _ _=>rfl)) (zA (aDY (yf hr) (pv 2) (pv 6) (fun _ _=>rfl)) zC)))) (aA7 rfl (zk (zP (i:=7) sc_row_for.nd rfl (by first | exact Bj rfl | exact Bi rfl)) (zk (zP (i:=8) sc_row_for.nd rfl (by first | exact Bj rfl | exact Bi rfl)) (zk (zP (i:=9) sc_row_for.nd rfl (by first | exact Bj rfl | exact Bi rfl)) (zk (zP (i:=10) sc_row_for.nd rfl (by first | exact Bj rfl | exact Bi rfl)) qk))))) (zN (yy (aFs (pv 4) (pv 10) ⟨rfl,rfl,rfl,rfl⟩))))))
   (zN (zh (zW zu rfl B.tuple qU (zA (zO (aCs rfl) rfl Bsorted qA (zA (pv 4) zC)) zC)))))))),?_⟩
 try dsimp only [Cx.nox,kx1,kx2,kx3,kx4,kx5,kx6,kx7,kx8,kx9,kxa,kxb,kxc]
 have szl:=AW
 have l4:(zG ns c).length<=4:=At (yG ns c) hN.1
 have n0:0 < (zG ns c).length:=BQ.mpr ((qB hl).mpr hany)
 refine ⟨_,rfl,_,rfl,a,b,ns,c,rfl,ha,hb,hl,hN.1,fun pc H1 s1 n1 gc=>?_⟩
 dsimp only [jL]
 refine ⟨_,rfl,pc,_,rfl,.inr (SqT.of gc),rfl,_,rfl,?_⟩
 by_cases h1:(zG ns c).length=1
 ·refine (show (if _ then _ else _:Prop) from ?_)
  rw [if_pos (decide_eq_true (by rw [Ae,h1]; rfl))]
  obtain ⟨n,en⟩:∃ n,zG ns c=[n]:=Jg.mp h1
  rw [en] at gc
  have hn:=hN.2 n (jH (c:=c) (by rw [en]; simp))
  refine ⟨_,rfl,pc,_,0,_,rfl,rfl,SqT.of gc,rfl,_,_,rfl,rfl,_,rfl,?_⟩
  refine (show (if _ then _ else _:Prop) from ?_)
  rw [if_pos (decide_eq_true (show n >= 1 from hn.1))]
  refine ⟨_,rfl,q pc H1 s1 ?_⟩
  rw [en,aIC hn.1]
  exact gc
 ·refine (show (if _ then _ else _:Prop) from ?_)
  rw [if_neg (by rw [Ae]; intro z; have:=of_decide_eq_true z; injection this with this; lia)]
  refine ⟨rfl,fun pw hpw=>?_⟩
  have sw:=Same.new (o:=SeO P w pw []) hpw
  have nw:=zc s1 hpw
  refine ⟨_,rfl,b,c,rfl,aBV (s1.trans sw) hb,by have:=hN.1; lia,fun ps ys H2 s2 _ gs pys=>?_⟩
  have sH2:=(s1.trans sw).trans s2
  have g2:=s2 _ _ (show (upd H1 pw (SeO P w pw [])) pw=some (SeO P w pw []) from zB)
  refine ⟨ps,rfl,⟨_,SqL.of gs⟩,jB (K:=K) (a:=ps) (xs:=ys) (fun i σ H'=>∃ (z1 z2 z3 z4 z5 z6:Option V) (ks:List Int),σ=[some (.ref a),some (.ref b),some (.ref d),some (.ref pc),some (.ref pw),z1,z2,z3,z4,z5,z6]/\Same H H'/\Keep [pw] H2 H'/\H' pw=some (SeO P w pw ks)/\ks.Nodup/\∀ m,m∈ks↔∃ p∈(yQ c).take i,∃ d∈aEM ns p,d.2.2.2=m)
   ⟨none,none,none,none,none,none,[],rfl,sH2,Keep.refl _ _,g2,CZ,fun m=>by simp⟩ (fun i σ H' _ ⟨_,_,_,_,_,_,_,_,_,k,_⟩=>SqL.of (k _ _ gs (fun z=>?_))) ?_ ?_⟩
  ·rw [Af.mp z,g2] at gs; cases gs
  ·rintro i x σ H3 hi ⟨z1,z2,z3,z4,z5,z6,ks,rfl,s3,k3,g3,nd,hm⟩
   have nsp:∀ {b:Addr} {xs:List V},H2 b=some (.tup xs)->b ∉ [pw]:=fun {b xs} e z=>by
    rw [Af.mp z,g2] at e; cases e
   obtain ⟨p,hp,hw⟩:=jl pys hi
   have hps:p∈yQ c:=Av hp
   obtain ⟨qx,u1,u2,rfl,gq,⟨q1,rfl,gq1⟩,⟨q2,rfl,gq2⟩⟩:=hw
   have kq:=k3 _ _ gq (nsp gq)
   have kq1:=k3 _ _ gq1 (nsp gq1)
   have kq2:=k3 _ _ gq2 (nsp gq2)
   have tb3:Tb P w H3 d kvs:=tb.same s3
   have pe3:Bm (Ent ns H3) kvs cs:=Paired.mapP pe fun _ _ h=>h.kt (KT.same s3)
   obtain ⟨v1,e1,r1,rfl,gr1⟩:=aGD pe3 (hsp p hps).1
   obtain ⟨v2,e2,r2,rfl,gr2⟩:=aGD pe3 (hsp p hps).2
   obtain ⟨ll1,ll2⟩:=aH8 hN hl hps
   refine ⟨qx,_,rfl,SqT.of kq,rfl,_,_,rfl,_,_,rfl,rfl,?_⟩
   refine ⟨_,rfl,_,rfl,d,q1,kvs,p.1,_,rfl,rfl,tb3,.inl kq1,e1,_,rfl,_,rfl,d,q2,kvs,p.2,_,rfl,rfl,tb3,.inl kq2,e2,?_⟩
   refine ⟨r1,r2,_,_,rfl,gr1,gr2,ll1,ll2,aDc hN _,aDc hN _,fun pz zs H4 s4 _ gz pzs=>?_⟩
   have pzs':Bm (D4 H4) zs (aEM ns p):=pzs
   refine ⟨pz,rfl,⟨_,SqL.of gz⟩,jB (K:=K) (a:=pz) (xs:=zs) (fun j σ H'=>∃ (z3 z4 z5 z6:Option V) (ks:List Int),σ=[some (.ref a),some (.ref b),some (.ref d),some (.ref pc),some (.ref pw),some (.ref q1),some (.ref q2),z3,z4,z5,z6]/\Same H H'/\Keep [pw] H4 H'/\H' pw=some (SeO P w pw ks)/\ks.Nodup/\∀ m,m∈ks↔(∃ p∈(yQ c).take i,∃ d∈aEM ns p,d.2.2.2=m)\/∃ d∈(aEM ns p).take j,d.2.2.2=m)
    ⟨_,_,_,_,ks,rfl,s3.trans s4,Keep.refl _ _,s4 _ _ g3,nd,fun m=>by rw [hm]; simp⟩ (fun i σ H' _ ⟨_,_,_,_,_,_,_,k,_⟩=>SqL.of (k _ _ gz (fun z=>?_))) ?_ ?_⟩
   ·rw [Af.mp z,s4 _ _ g3] at gz; cases gz
   ·rintro j y σ H5 hj ⟨z3,z4,z5,z6,ks5,rfl,s5,k5,g5,nd5,hm5⟩
    obtain ⟨dd,hd,qd,rfl,gd⟩:=jl pzs' hj
    have kd:=k5 _ _ gd (fun z=>by rw [Af.mp z,s4 _ _ g3] at gd; cases gd)
    have hall:∀ m∈ks5,MetL (zG ns c) m:=fun m h=>by
     rcases (hm5 m).mp h with ⟨p',hp',d',hd',rfl⟩ | ⟨d',hd',rfl⟩
     ·exact aBX hN hl h1 (GO hp') hd'
     ·exact aBX hN hl h1 hps (GO hd')
    have hlen:ks5.length<=3240:=At (aBO l4 nd5 hall) (aBW _)
    refine ⟨qd,_,rfl,SqT.of kd,rfl,_,_,rfl,_,_,rfl,_,_,rfl,_,_,rfl,rfl,?_⟩
    refine ⟨_,rfl,pw,ks5,rfl,g5,_,rfl,ks5,_,g5,rfl,by lia,?_⟩
    refine ⟨_,_,_,_,_,rfl,zf s5 nw,fun b o e n=>?_,zB,jz nd5,fun m=>?_⟩
    ·rw [zI (fun z=>n (by rw [z]; simp))]; exact k5 b o e n
    ·rw [mem_addK,hm5,zT hd]
     simp only [Ar,Af]
     constructor
     ·rintro ((h | ⟨d',h1,h2⟩) | h)
      ·exact .inl h
      ·exact .inr ⟨d',.inl h1,h2⟩
      ·exact .inr ⟨dd,.inr rfl,h.symm⟩
     ·rintro (h | ⟨d',h1 | h1,h2⟩)
      ·exact .inl (.inl h)
      ·exact .inl (.inr ⟨d',h1,h2⟩)
      ·exact .inr (by rw [<- h2,h1])
   ·rintro σ H5 ⟨z3,z4,z5,z6,ks5,rfl,s5,k5,g5,nd5,hm5⟩
    refine ⟨_,_,_,_,_,_,ks5,rfl,s5,fun b o e n=>k5 b o (s4 _ _ (k3 b o e n)) n,g5,nd5,fun m=>?_⟩
    rw [hm5,pzs'.length,AZ,zT hp]
    simp only [Ar,Af]
    constructor
    ·rintro (⟨p',h1,h2⟩ | h)
     ·exact ⟨p',.inl h1,h2⟩
     ·exact ⟨p,.inr rfl,h⟩
    ·rintro ⟨p',h1 | h1,h2⟩
     ·exact .inl ⟨p',h1,h2⟩
     ·exact .inr (by rw [<- h1]; exact h2)
  ·rintro σ H3 ⟨z1,z2,z3,z4,z5,z6,ks,rfl,s3,k3,g3,nd,hm⟩
   rw [pys.length,AZ] at hm
   refine ⟨_,rfl,pw,ks,rfl,g3,fun pl ms H4 s4 _ gl hs hms=>?_⟩
   have em:ms=rowF (zG ns c):=RowOf.one (Pd:=MetL (zG ns c)) ⟨hs,fun m=>by
    rw [hms,hm]
    constructor
    ·rintro ⟨p,hp,d,hd,rfl⟩; exact aBX hN hl h1 hp hd
    ·intro h; exact aH7 hN hl h1 h⟩ (qG l4)
   subst em
   refine ⟨pl,_,rfl,.inl ⟨SqL.of gl,fun pt hpt=>?_⟩⟩
   exact q pt _ (s3.trans (s4.trans (Same.new hpt))) zB
noncomputable def aK0 (P:Ap) (w:AT):Sp:=fun vs H Q _=>∃ (a:Addr) (ns:List Int),vs=[.ref a]/\H a=some (.tup (ns.map V.int))/\Nums ns/\∀ (p:Addr) (kvs:List (List Bool×V)) (H':Hp),Same H H'->H p=none->Tb P w H' p kvs->Bm (Ent ns H') kvs ((chL ns.length).filter (·.any id))->Q (.ref p) H'
theorem aL0 {H:Hp} {d b:Addr} {kvs:List (List Bool×V)} {xs:List V} (t:Tb P w H d kvs) (h:H b=some (.tup xs)):b≠d:=by
 obtain ⟨ys,e,_⟩:=t
 intro z
 rw [z,e] at h
 cases h
theorem aK1 {H:Hp} {d b:Addr} {kvs:List (List Bool×V)} {xs:List V} (t:Tb P w H d kvs) (h:H b=some (.lst xs)):b≠d:=by
 obtain ⟨ys,e,_⟩:=t
 intro z
 rw [z,e] at h
 cases h
theorem aK2 {H:Hp} {d b:Addr} {o:Obj} {kvs:List (List Bool×V)} {xs:List V} (t:Tb P w H d kvs) (h:H b=some (.frz o (.tup xs))):b≠d:=by
 obtain ⟨ys,e,_⟩:=t
 intro z
 rw [z,e] at h
 cases h
noncomputable abbrev yu:Stmt:=top 16
theorem sc_table_of:FnScope ["numbers","table","choice"] ["numbers"] (zF yu):=⟨rfl,rfl,rfl,by decide +kernel,rfl,by decide +kernel,by decide +kernel⟩
theorem aK3 {f:Addr} {fd:BL} (F:Fun K "table_of" "table_of" yu f fd) (B:Blt mg) (Bany:mg "any"=none) (Gchs:Def P w K mg base CX0 1 "choices_of" aJs) (Grf:Def P w K mg base CX0 9 "row_for" (spRf P w)):FnOk P w K mg base CX0 10 f fd ["numbers"] (aK0 P w):=by
 refine F.ok (k:=9) sc_table_of (fun vs H Q E h=>?_) (fun cdv A outer s H vs Q E hr h=>?_)
 ·obtain ⟨a,ns,rfl,_⟩:=h
  rfl
 obtain ⟨a,ns,rfl,ha,hN,q⟩:=h
 refine ⟨_,(zH (zS (i:=1) sc_table_of.nd rfl (by first | exact Bj rfl | exact Bi rfl) aBR)
   (zH (yg BT rfl (ye (zj Gchs (hr.mono (by lia)) (zA (zO zQ rfl B.len yZ (zA (pv 0) zC)) zC))) (zP (i:=2) sc_table_of.nd rfl (by first | exact Bj rfl | exact Bi rfl)) (zN (yd (aD4 (zO (aAe rfl) rfl Bany aF9 (zA (pv 2) zC))) (zN (aGt (yf hr) (pv 1) (pv 2) (zj Grf (hr.mono (by lia)) (zA (pv 0) (zA (pv 2) (zA (pv 1) zC)))) rfl)) zg)))
   (zN (zh (pv 1))))),?_⟩
 try dsimp only [Cx.nox,kx1,kx2,kx3,kx4,kx5,kx6,kx7,kx8,kx9,kxa,kxb,kxc]
 have szl:=AW
 refine fun pd hpd hsy=>?_
 have sd:=Same.new (o:=DbO P w pd []) hpd
 have t0:Tb P w (upd H pd (DbO P w pd [])) pd []:=Tb.new hsy
 refine ⟨_,rfl,a,_,rfl,.inr (SqT.of (sd _ _ ha)),ns.length,by rw [Ae]; rfl,hN.1,fun pc ys H2 s2 npc gc pys=>?_⟩
 have sH2:=sd.trans s2
 have t2:=t0.same s2
 refine ⟨pc,rfl,⟨_,SqL.of gc⟩,jB (K:=K) (a:=pc) (xs:=ys) (fun i σ H'=>∃ (z:Option V) (kvs:List (List Bool×V)),σ=[some (.ref a),some (.ref pd),z]/\Same H H'/\Keep [pd] H2 H'/\Tb P w H' pd kvs/\Bm (Ent ns H') kvs (((chL ns.length).take i).filter (·.any id)))
  ⟨none,[],rfl,sH2,Keep.refl _ _,t2,.nil⟩ (fun i σ H' _ ⟨_,_,_,_,k,_⟩=>SqL.of (k _ _ gc (fun z=>aK1 t2 gc (Af.mp z)))) ?_ ?_⟩
 ·rintro i x σ H3 hi ⟨z,kvs,rfl,s3,k3,t3,pe⟩
  obtain ⟨c,hc,qc,rfl,gq⟩:=jl pys hi
  have kq:Kb H3 qc c:=let ⟨o,e,d⟩:=gq; ⟨o,k3 _ _ e (fun z=>aK2 t2 e (Af.mp z)),d⟩
  have cl:c.length=ns.length:=aCl _ c (Av hc)
  have hil:i < 2 ^ ns.length:=by rw [<- yq]; exact (Ao.mp hc).1
  have ef:((chL ns.length).take (i + 1)).filter (·.any id)=((chL ns.length).take i).filter (·.any id)++(if c.any id=true then [c] else []):=aCF hc _
  refine ⟨_,rfl,qc,c,rfl,.inl kq.rd,_,rfl,?_⟩
  cases hany:c.any id with
  | false =>
   rw [hany,if_neg (by decide),BD] at ef
   refine iteF ⟨_,kvs,rfl,s3,k3,t3,?_⟩
   rw [ef]
   exact pe
  | true =>
   rw [hany,if_pos rfl] at ef
   have hsub:∀ p∈yQ c,p.1∈((chL ns.length).take i).filter (·.any id)/\p.2∈((chL ns.length).take i).filter (·.any id):=fun p hp=>by
    obtain ⟨h1,h2⟩:=aKp hN.1 hc hp
    obtain ⟨_,a1,a2⟩:=mem_splits.mp hp
    exact ⟨BS.mpr ⟨h1,a1⟩,BS.mpr ⟨h2,a2⟩⟩
   have hnot:c ∉ ((chL ns.length).take i).filter (·.any id):=fun z=>by
    have h1:=(BS.mp z).1
    have nd:=aFb ns.length hN.1
    have nd2:((chL ns.length).take (i + 1)).Nodup:=nd.sublist (Lj _ _)
    rw [zT hc] at nd2
    exact (Fj.mp nd2).2.2 c h1 c (by simp) rfl
   have kl:kvs.length<=16:=by
    rw [pe.length]
    refine At (List.length_filter_le _ _) ?_
    rw [Bd,yq]
    have:=pow2 hN.1
    lia
   refine iteT ⟨_,rfl,_,rfl,_,rfl,a,qc,pd,ns,c,kvs,_,rfl,s3 _ _ ha,kq.rd,hN,cl.symm,hany,t3,pe,hsub,fun pr H4 s4 gr=>?_⟩
   refine ⟨_,rfl,_,rfl,pd,qc,kvs,c,rfl,rfl,t3.same s4,kq.same s4,by rw [szl]; lia,fun H5 k5 t5=>?_⟩
   rw [aIX pe hnot] at t5
   have kt5:KT H4 H5:=fun b xs e=>by rw [k5 b (aL0 (t3.same s4) e)]; exact e
   refine ⟨_,_,rfl,fun b o e=>?_,fun b o e n=>?_,t5,?_⟩
   ·rw [k5 b (zE e hpd)]; exact s4 _ _ (s3 _ _ e)
   ·rw [k5 b (fun z=>n (by rw [z]; simp))]; exact s4 _ _ (k3 b o e n)
   ·rw [ef]
    exact yU (Paired.mapP pe fun _ _ h=>(h.kt (KT.same s4)).kt kt5) ⟨rfl,pr,rfl,kt5 _ _ gr⟩
 ·rintro σ H3 ⟨z,kvs,rfl,s3,k3,t3,pe⟩
  rw [pys.length,AZ] at pe
  exact ⟨_,rfl,q pd kvs H3 s3 hpd t3 pe⟩
theorem aK4:BR "abs"=some (.builtin "abs"):=by decide +kernel
theorem yo {H H':Hp} {a:Addr} {xs:List V} (s:Same H H') (h:SqL K H a xs):SqL K H' a xs:=by
 rcases h with (h | ⟨o,h⟩) | h
 ·exact .inl (.inl (s _ _ h))
 ·exact .inl (.inr ⟨o,s _ _ h⟩)
 ·exact .inr h
noncomputable def aIY (K:Ah):Sp:=fun vs H Q _=>∃ (a:Addr) (ns:List Int) (k:Int),vs=[.ref a,.int k]/\SqL K H a (ns.map V.int)/\ns.length<=63/\0<=k/\k < 1000/\∀ (r:Int) (H':Hp),0<=r->r < 1000000->Same H H'->Q (.int r) H'
noncomputable abbrev yL:Stmt:=top 20
theorem sc_law_number:FnScope ["script","k","cells","size","cell","turn","rest","step","seed"] ["script","k"] (zF yL):=⟨rfl,rfl,rfl,by decide +kernel,rfl,by decide +kernel,by decide +kernel⟩
theorem aK5 {f:Addr} {fd:BL} (F:Fun K "_law_number" "_law_number" yL f fd) (B:Blt mg) (Bmax:mg "max"=none) (Bmin:mg "min"=none) (Blist:mg "list"=none):FnOk P w K mg base CX0 1 f fd ["script","k"] (aIY K):=by
 refine F.ok sc_law_number (fun vs H Q E h=>?_) (fun cdv A outer s H vs Q E hr h=>?_)
 ·obtain ⟨a,ns,k,rfl,_⟩:=h
  rfl
 obtain ⟨a,ns,k,rfl,hS,hl,k0,k1,q⟩:=h
 refine ⟨_,(zH (zS (i:=2) sc_law_number.nd rfl (by first | exact Bj rfl | exact Bi rfl) (zM aEi (zW aA8 rfl Blist aAQ (zA (pv 0) zC)) (yz (zA zD zC))))
   (zH (zS (i:=3) sc_law_number.nd rfl (by first | exact Bj rfl | exact Bi rfl) (zO (aBg rfl) rfl Bmax aHT (zA zD (zA (zO zQ rfl B.len yZ (zA (pv 0) zC)) zC))))
   (zH (zS (i:=4) sc_law_number.nd rfl (by first | exact Bj rfl | exact Bi rfl) (jJ yS (pv 2) (zM ze (pv 1) (pv 3)) (fun _ _=>rfl)))
   (zH (zS (i:=5) sc_law_number.nd rfl (by first | exact Bj rfl | exact Bi rfl) (zM yE (pv 1) (pv 3)))
   (zH (zS (i:=6) sc_law_number.nd rfl (by first | exact Bj rfl | exact Bi rfl) (pv 4))
   (zH (yg BT rfl (qO rfl B.range (zA (zO (aEb rfl) rfl Bmin aJH (zA (pv 5) (zA zD zC))) zC)) (zP (i:=7) sc_law_number.nd rfl (by first | exact Bj rfl | exact Bi rfl)) (zN (zS (i:=6) sc_law_number.nd rfl (by first | exact Bj rfl | exact Bi rfl) (zM aAH (pv 6) zD))))
   (zH (yd (PW.pt (aBd (zU aIu (pv 4) (zM aEW zD zD) (zZ _)) (aBd (zU aHn (pv 5) zD (zZ _)) (aB3 (zU aHo (pv 6) zD (zZ _)))))) (zN (zh (zM ze (pv 6) zD))) zg)
   (zH (zS (i:=8) sc_law_number.nd rfl (by first | exact Bj rfl | exact Bi rfl) (zM ze (zM qf (zM zn (zM zn (zM zn (zM ze (pv 4) zD) zD) (zM qf zD (pv 5))) (zM qf zD (pv 1))) zD) zD))
   (zH (zS (i:=8) sc_law_number.nd rfl (by first | exact Bj rfl | exact Bi rfl) (zM ze (zM zn (zM zn (zM qf (pv 8) (pv 8)) (zM qf zD (pv 5))) (zM qf zD (pv 1))) zD))
   (zN (zh (zM ze (zM yE (zM ze (zM qf (pv 8) zD) zD) zD) zD)))))))))))),?_⟩
 try dsimp only [Cx.nox,kx1,kx2,kx3,kx4,kx5,kx6,kx7,kx8,kx9,kxa,kxb,kxc]
 have szl:=AW
 refine ⟨_,rfl,a,_,rfl,.inl hS,fun p1 hp1=>⟨(by show 1<=sizeLine; decide),fun p2 hp2=>⟨p1,p2,_,_,rfl,rfl,Same.new hp2 _ _ zB,zB,?_,fun p3 hp3=>?_⟩⟩⟩
 ·rw [Ae,szl]; show ns.length + 1<=_; lia
 have s3:Same H (upd (upd (upd H p1 (.lst (ns.map V.int))) p2 (.lst [.int 0])) p3 (.lst (ns.map V.int++[.int 0]))):=(Same.new hp1).trans ((Same.new hp2).trans (Same.new hp3))
 have g3:(upd (upd (upd H p1 (.lst (ns.map V.int))) p2 (.lst [.int 0])) p3 (.lst (ns.map V.int++[.int 0]))) p3=some (.lst ((ns++[0]).map V.int)):=by rw [zB,AN]; rfl
 generalize upd (upd (upd H p1 (.lst (ns.map V.int))) p2 (.lst [.int 0])) p3 (.lst (ns.map V.int++[.int 0]))=H1 at s3 g3 ⊢
 have hS1:SqL K H1 a (ns.map V.int):=yo s3 hS
 refine ⟨_,rfl,a,_,rfl,.inl hS1,1,_,rfl,?_⟩
 rw [Ae]
 obtain ⟨m,hm,m1,m2,m3⟩:∃ m:Int,(if (ns.length:Int) > 1 then (ns.length:Int) else 1)=m/\1<=m/\m<=63/\m<=(ns.length:Int) + 1:=⟨_,rfl,by split <;> lia,by split <;> lia,by split <;> lia⟩
 rw [hm]
 have i0:0<=k % m:=Bo _ (by lia)
 have i1:k % m < m:=AV _ (by lia)
 obtain ⟨v,hv,hmem⟩:=qY (xs:=(ns++[0]).map V.int) i0 (by rw [Ae,Al]; show k % m < ((ns.length + 1:Nat):Int); lia)
 obtain ⟨cell,_,rfl⟩:=AJ.mp hmem
 refine ⟨_,rfl,_,rfl,_,rfl,_,_,rfl,rfl,(by show (0:Int) < m; lia),p3,_,_,_,rfl,rfl,SqL.of g3,hv,?_⟩
 have d0:0<=k / m:=JE k0 (by lia)
 have d1:k / m<=k:=LR m k0
 refine ⟨_,rfl,_,rfl,_,_,rfl,rfl,⟨by lia,by lia⟩,?_⟩
 refine ⟨_,rfl,?_⟩
 dsimp only [jL]
 refine yF (fun σ' H'=>∃ (r:Int) (z:Option V),σ'=[some (.ref a),some (.int k),some (.ref p3),some (.int m),some (.int cell),some (.int (k / m)),some (.int r),z,none]/\H'=H1) ?_ ?_
 ·rintro σ' H' ⟨r,z,rfl,rfl⟩
  refine yF (fun σ2 H2=>σ2=[some (.ref a),some (.int k),some (.ref p3),some (.int m),some (.int cell),some (.int (k / m)),some (.int r),z,none]/\H2=H') ?_ ?_
  ·rintro σ2 H2 ⟨rfl,rfl⟩
   have e1:0<=cell % 2147483629:=Bo _ (by decide)
   have e2:cell % 2147483629 < 2147483629:=AV _ (by decide)
   refine ⟨_,rfl,_,_,rfl,rfl,(by show (0:Int) < _; decide),_,_,rfl,rfl,_,rfl,_,_,rfl,rfl,.inl ⟨by decide,by decide⟩,_,_,rfl,rfl,_,rfl,_,_,rfl,rfl,.inl ⟨by decide,by decide⟩,_,_,rfl,rfl,_,_,rfl,rfl,.inr ⟨by decide,by decide⟩,_,_,rfl,rfl,(by show (0:Int) < _; decide),?_⟩
   generalize hy:(cell % 2147483629 + 977 + 104729 * (k / m) + 15485863 * k) * 48271 % 2147483647=y
   have y0:0<=y:=by rw [<- hy]; exact Bo _ (by decide)
   have y1:y < 2147483647:=by rw [<- hy]; exact AV _ (by decide)
   refine ⟨_,rfl,_,rfl,_,_,rfl,rfl,.inl ⟨by lia,by lia⟩,_,rfl,_,_,rfl,rfl,.inl ⟨by decide,by decide⟩,_,_,rfl,rfl,_,rfl,_,_,rfl,rfl,.inl ⟨by decide,by decide⟩,_,_,rfl,rfl,_,_,rfl,rfl,(by show (0:Int) < _; decide),?_⟩
   refine ⟨_,rfl,_,_,rfl,rfl,.inr ⟨by decide,by decide⟩,_,_,rfl,rfl,(by show (0:Int) < _; decide),_,_,rfl,rfl,⟨by decide,by decide⟩,_,_,rfl,rfl,(by show (0:Int) < _; decide),?_⟩
   exact q _ _ (Bo _ (by decide)) (AV _ (by decide)) s3
  ·intro X' hX
   refine ⟨_,rfl,_,_,rfl,rfl,⟨by decide,by decide,by decide⟩,_,_,rfl,rfl,_,rfl,?_⟩
   refine ite2 (fun _=>?_) (fun _=>?_)
   ·refine ⟨_,rfl,_,_,rfl,rfl,_,rfl,?_⟩
    refine ite2 (fun _=>?_) (fun _=>?_)
    ·refine ⟨_,rfl,_,_,rfl,rfl,_,rfl,?_⟩
     refine ite2 (fun _=>?_) (fun _=>?_)
     ·exact ⟨_,rfl,_,_,rfl,rfl,(by show (0:Int) < _; decide),q _ _ (Bo _ (by decide)) (AV _ (by decide)) s3⟩
     ·exact hX _ _ ⟨rfl,rfl⟩
    ·exact iteF (hX _ _ ⟨rfl,rfl⟩)
   ·exact iteF (hX _ _ ⟨rfl,rfl⟩)
 ·intro X' hX
  refine ⟨_,rfl,_,_,rfl,_,rfl,(by split <;> lia),(by split <;> lia),ql (fun i σ H'=>∃ (r:Int) (z:Option V),σ=[some (.ref a),some (.int k),some (.ref p3),some (.int m),some (.int cell),some (.int (k / m)),some (.int r),z,none]/\H'=H1) ⟨cell,none,rfl,rfl⟩ ?_ ?_⟩
  ·rintro i σ H' _ ⟨c,z,rfl,rfl⟩
   exact ⟨_,rfl,_,_,rfl,rfl,⟨by decide,by decide⟩,_,_,rfl,rfl⟩
  ·rintro σ H' h
   exact hX _ _ h
noncomputable def aHb (K:Ah):Sp:=fun vs H Q _=>∃ (a:Addr) (xs:List Int) (st:Int) (mo:Nat),vs=[.ref a,.int st,.int mo]/\SqL K H a (xs.map V.int)/\xs.length<=63/\0<=st/\st < 900/\mo<=4 /\
 ∀ (p:Addr) (ns:List Int) (H':Hp),Same H H'->H p=none->H' p=some (.tup (ns.map V.int))->Nums ns->ns.length<=mo->Q (.ref p) H'
noncomputable abbrev yB:Stmt:=top 21
theorem sc_law_numbers:FnScope ["script","start","most","kind","found","k","number"] ["script","start","most"] (zF yB):=⟨rfl,rfl,rfl,by decide +kernel,rfl,by decide +kernel,by decide +kernel⟩
theorem aIZ {f:Addr} {fd:BL} (F:Fun K "_law_numbers" "_law_numbers" yB f fd) (B:Blt mg) (Gnum:Def P w K mg base CX0 1 "_law_number" (aIY K)):FnOk P w K mg base CX0 2 f fd ["script","start","most"] (aHb K):=by
 refine F.ok (k:=1) sc_law_numbers (fun vs H Q E h=>?_) (fun cdv A outer s H vs Q E hr h=>?_)
 ·obtain ⟨a,xs,st,mo,rfl,_⟩:=h
  rfl
 obtain ⟨a,xs,st,mo,rfl,hS,hl,st0,st1,hmo,q⟩:=h
 refine ⟨_,(zH (zS (i:=3) sc_law_numbers.nd rfl (by first | exact Bj rfl | exact Bi rfl) (zM ze (zj Gnum (hr.mono (by lia)) (zA (pv 0) (zA (pv 1) zC))) zD))
   (zH (zS (i:=4) sc_law_numbers.nd rfl (by first | exact Bj rfl | exact Bi rfl) (yz zC))
   (zH (yg BT rfl (qO rfl B.range (zA (zM ze (zM yE (zj Gnum (hr.mono (by lia)) (zA (pv 0) (zA (pv 1) zC))) zD) (zM zn (pv 2) zD)) zC)) (zP (i:=5) sc_law_numbers.nd rfl (by first | exact Bj rfl | exact Bi rfl)) (zH (zS (i:=6) sc_law_numbers.nd rfl (by first | exact Bj rfl | exact Bi rfl) (zj Gnum (hr.mono (by lia)) (zA (pv 0) (zA (zM zn (zM zn (pv 1) zD) (pv 5)) zC))))
   (zH (yd (zU qM (zM ze (zj Gnum (hr.mono (by lia)) (zA (pv 0) (zA (zM zn (pv 1) zD) zC))) zD) zD (zZ _)) (zN (zS (i:=3) sc_law_numbers.nd rfl (by first | exact Bj rfl | exact Bi rfl) (zM ze (zM yE (pv 6) zD) zD))) zg)
   (zN (yy (aB4 Ca Cz CA yO (pv 4) (zA (jJ yS (yz (zA (zM zn zD (zM ze (pv 6) zD)) (zA (zM zn zD (zM ze (pv 6) zD)) (zA (zM zn zD (zM ze (pv 6) zD)) (zA (zM zn zD (pv 6)) (zA (zM zn zD (zM ze (pv 6) zD)) zC)))))) (pv 3) (fun _ _=>rfl)) zC)))))))
   (zN (zh (zW zu rfl B.tuple qU (zA (pv 4) zC))))))),?_⟩
 try dsimp only [Cx.nox,kx1,kx2,kx3,kx4,kx5,kx6,kx7,kx8,kx9,kxa,kxb,kxc]
 have szl:=AW
 have keepS:∀ H',Same H H'->SqL K H' a (xs.map V.int):=fun H' s'=>yo s' hS
 refine ⟨_,rfl,_,rfl,a,xs,st,rfl,hS,hl,st0,by lia,fun r1 H1 r10 _ s1=>⟨_,_,rfl,rfl,(by show (0:Int) < _; decide),?_⟩⟩
 have kb0:0<=r1 % 5:=Bo _ (by decide)
 have kb1:r1 % 5 < 5:=AV _ (by decide)
 refine ⟨(by show 0<=sizeLine; decide),fun pf hpf=>?_⟩
 have sf:=Same.new (o:=.lst []) hpf
 have nf:=zc s1 hpf
 refine ⟨_,rfl,_,rfl,a,xs,st,rfl,keepS _ (s1.trans sf),hl,st0,by lia,fun r2 H2 r20 r21 s2=>⟨_,_,rfl,rfl,⟨by decide,by decide⟩,_,rfl,_,_,rfl,rfl,_,_,rfl,rfl,(by show (0:Int) < (mo:Int) + 1; lia),?_⟩⟩
 obtain ⟨n,hn,hnm⟩:∃ n:Nat,r2 / 5 % ((mo:Int) + 1)=n/\n<=mo:=by
  have h1:0<=r2 / 5 % ((mo:Int) + 1):=Bo _ (by lia)
  have h2:r2 / 5 % ((mo:Int) + 1) < (mo:Int) + 1:=AV _ (by lia)
  exact ⟨(r2 / 5 % ((mo:Int) + 1)).toNat,by lia,by lia⟩
 refine ⟨(n:Int),(by show [V.int (r2 / 5 % ((mo:Int) + 1))]=_; rw [hn]),by lia,by lia,ql (n:=n) (fun i σ H'=>∃ (kd:Int) (z1 z2:Option V) (ns:List Int),σ=[some (.ref a),some (.int st),some (.int mo),some (.int kd),some (.ref pf),z1,z2]/\0<=kd/\kd < 5/\Same H H'/\H' pf=some (.lst (ns.map V.int))/\ns.length=i/\∀ x∈ns,1<=x/\x<=1000000)
  ⟨r1 % 5,none,none,[],rfl,kb0,kb1,s1.trans (sf.trans s2),s2 _ _ zB,rfl,fun x hx=>nomatch hx⟩ ?_ ?_⟩
 ·rintro i σ H3 hi ⟨kd,z1,z2,ns,rfl,kd0,kd1,s3,g3,nl,hns⟩
  have hi4:i < 4:=by lia
  refine ⟨_,rfl,_,rfl,_,_,rfl,rfl,_,rfl,_,_,rfl,rfl,a,xs,_,rfl,keepS _ s3,hl,by lia,by lia,fun r3 H4 r30 r31 s4=>?_⟩
  dsimp only [jL]
  refine yF (fun σ' H'=>∃ (kd:Int),σ'=[some (.ref a),some (.int st),some (.int mo),some (.int kd),some (.ref pf),some (.int (0 + (i:Int))),some (.int r3)]/\0<=kd/\kd < 5/\Same H4 H') ?_ ?_
  ·rintro σ' H5 ⟨kd,rfl,kd0,kd1,s5⟩
   have c1:0<=r3 % 6:=Bo _ (by decide)
   have c2:r3 % 6 < 6:=AV _ (by decide)
   have c3:0<=r3 % 12:=Bo _ (by decide)
   have c4:r3 % 12 < 12:=AV _ (by decide)
   have c5:0<=r3 % 100:=Bo _ (by decide)
   have c6:r3 % 100 < 100:=AV _ (by decide)
   have c7:0<=r3 % 2:=Bo _ (by decide)
   have c8:r3 % 2 < 2:=AV _ (by decide)
   have g5:=s5 _ _ (s4 _ _ g3)
   refine ⟨_,rfl,.inl ⟨rfl,_,SqL.of g5⟩,_,rfl,_,_,rfl,rfl,(by show (0:Int) < _; decide),_,_,rfl,rfl,_,rfl,_,_,rfl,rfl,(by show (0:Int) < _; decide),_,_,rfl,rfl,_,rfl,_,_,rfl,rfl,(by show (0:Int) < _; decide),_,_,rfl,rfl,_,rfl,_,_,rfl,rfl,_,rfl,_,_,rfl,rfl,(by show (0:Int) < _; decide),_,_,rfl,rfl,(by show 5<=sizeLine; decide),fun pl hpl=>?_⟩
   have spl:=Same.new (o:=.lst ([1 + r3 % 6,1 + r3 % 12,1 + r3 % 100,1 + r3,2 + r3 % 2].map V.int)) hpl
   obtain ⟨v,hv,hmem⟩:=qY (xs:=[1 + r3 % 6,1 + r3 % 12,1 + r3 % 100,1 + r3,2 + r3 % 2].map V.int) kd0 (by show kd < 5; exact kd1)
   obtain ⟨x,hx,rfl⟩:=AJ.mp hmem
   have hxb:1<=x/\x<=1000000:=by
    simp only [Aq,BI,or_false] at hx
    lia
   refine ⟨_,rfl,pl,_,_,_,rfl,rfl,SqL.of zB,hv,pf,_,_,rfl,rfl,spl _ _ g5,by rw [Ae,szl]; lia,?_⟩
   refine ⟨kd,_,_,ns++[x],rfl,kd0,kd1,zf (s3.trans (s4.trans (s5.trans spl))) nf,by rw [zB,AN]; rfl,by rw [Al,nl]; rfl,fun y hy=>?_⟩
   rcases Ar.mp hy with hy | hy
   ·exact hns y hy
   ·rw [Af.mp hy]; exact hxb
  ·intro X' hX
   refine ⟨_,rfl,_,rfl,_,_,rfl,rfl,a,xs,_,rfl,keepS _ (s3.trans s4),hl,by lia,by lia,fun r4 H5 r40 r41 s5=>⟨_,_,rfl,rfl,(by show (0:Int) < _; decide),rfl,_,rfl,?_⟩⟩
   refine ite2 (fun _=>?_) (fun _=>?_)
   ·refine ⟨_,rfl,_,_,rfl,rfl,⟨by decide,by decide⟩,_,_,rfl,rfl,(by show (0:Int) < _; decide),?_⟩
    exact hX _ _ ⟨_,rfl,Bo _ (by decide),AV _ (by decide),s5⟩
   ·exact hX _ _ ⟨_,rfl,kd0,kd1,s5⟩
 ·rintro σ H3 ⟨kd,z1,z2,ns,rfl,kd0,kd1,s3,g3,nl,hns⟩
  refine ⟨_,rfl,pf,_,rfl,.inl ⟨SqL.of g3,fun p hp=>?_⟩⟩
  exact q p ns _ (s3.trans (Same.new hp)) (zc s3 hp) zB ⟨by lia,hns⟩ (by lia)
noncomputable def jo (x y:Int):List Int:=([x + y,x * y,if x - y < 0 then -(x - y) else x - y]++(if x % y=0 then [x / y] else [])++(if y % x=0 then [y / x] else [])).filter fun m=>decide (m > 0)
theorem aCG {x y m:Int} (hx:1<=x) (hy:1<=y):m∈jo x y↔Deed x y m\/Deed y x m:=by
 unfold jo
 rw [BS,decide_eq_true_eq]
 constructor
 ·rintro ⟨h,hp⟩
  rcases Ar.mp h with h | h
  ·rcases Ar.mp h with h | h
   ·simp only [Aq,BI,or_false] at h
    rcases h with rfl | rfl | h
    ·exact .inl (.inl rfl)
    ·exact .inl (.inr (.inr (.inl rfl)))
    ·by_cases c:x - y < 0
     ·rw [if_pos c] at h; exact .inr (.inr (.inl ⟨by lia,by lia⟩))
     ·rw [if_neg c] at h; exact .inl (.inr (.inl ⟨by lia,by lia⟩))
   ·by_cases c:x % y=0
    ·rw [if_pos c] at h; exact .inl (.inr (.inr (.inr ⟨c,Af.mp h⟩)))
    ·rw [if_neg c] at h; cases h
  ·by_cases c:y % x=0
   ·rw [if_pos c] at h; exact .inr (.inr (.inr (.inr ⟨c,Af.mp h⟩)))
   ·rw [if_neg c] at h; cases h
 ·intro h
  have hp:1<=m:=by
   rcases h with h | h
   ·exact h.pos hx hy
   ·exact h.pos hy hx
  refine ⟨?_,by lia⟩
  rcases h with (h | ⟨c,h⟩ | h | ⟨c,h⟩) | (h | ⟨c,h⟩ | h | ⟨c,h⟩)
  ·rw [h]; simp
  ·rw [if_neg (show ¬ x - y < 0 by lia),h]; simp
  ·rw [h]; simp
  ·rw [if_pos c,h]; simp
  ·rw [h,Nx]; simp
  ·rw [if_pos (show x - y < 0 by lia),h,show -(x - y)=y - x by lia]; simp
  ·rw [h,Ny]; simp
  ·rw [if_pos c,h]; simp
noncomputable def aGE:Sp:=fun vs H Q _=>∃ (x y:Int),vs=[.int x,.int y]/\1<=x/\x < 2 ^ 90/\1<=y/\y < 2 ^ 90/\∀ (p:Addr) (H':Hp),Same H H'->H p=none->H' p=some (.lst ((jo x y).map V.int))->Q (.ref p) H'
noncomputable abbrev yX:Stmt:=top 22
theorem sc_law_words:FnScope ["one","other","found"] ["one","other"] (zF yX):=⟨rfl,rfl,rfl,by decide +kernel,rfl,by decide +kernel,by decide +kernel⟩
theorem aH9 {f:Addr} {fd:BL} (F:Fun K "_law_words" "_law_words" yX f fd) (Babs:mg "abs"=none):FnOk P w K mg base CX0 1 f fd ["one","other"] aGE:=by
 refine F.ok (k:=0) sc_law_words (fun vs H Q E h=>?_) (fun cdv A outer s H vs Q E hr h=>?_)
 ·obtain ⟨x,y,rfl,_⟩:=h
  rfl
 obtain ⟨x,y,rfl,x1,x2,y1,y2,q⟩:=h
 refine ⟨_,(zH (zS (i:=2) sc_law_words.nd rfl (by first | exact Bj rfl | exact Bi rfl) (yz (zA (zM zn (pv 0) (pv 1)) (zA (zM aEl (pv 0) (pv 1)) (zA (zO aGV rfl Babs aK4 (zA (zM aD7 (pv 0) (pv 1)) zC)) zC)))))
   (zH (yd (zU qM (zM ze (pv 0) (pv 1)) zD (zZ _)) (zN (yy (aB4 Ca Cz CA yO (pv 2) (zA (zM aAH (pv 0) (pv 1)) zC)))) zg)
   (zH (yd (zU qM (zM ze (pv 1) (pv 0)) zD (zZ _)) (zN (yy (aB4 Ca Cz CA yO (pv 2) (zA (zM aAH (pv 1) (pv 0)) zC)))) zg)
   (zN (zh (qC (N:=["worth"]) rfl (qo [none] rfl (by decide +kernel) (by decide +kernel) rfl rfl) rfl (ye (pv 2)) (fun _ _ _ _=>(zP (i:=0) (show (["worth"]:List Str).Nodup by decide +kernel) rfl (by first | exact Bj rfl | exact Bi rfl))) (fun _ _ _ _=>(aB6 (zU aHo (pv 0) zD (zZ _)))) (fun _ _ _ _=>(pv 0)))))))),?_⟩
 try dsimp only [Cx.nox,kx1,kx2,kx3,kx4,kx5,kx6,kx7,kx8,kx9,kxa,kxb,kxc]
 have szl:=AW
 have x3:=p90 x2
 have y3:=p90 y2
 have hmul:KH x y:=aDC (by lia) (by lia)
 refine ⟨_,rfl,_,rfl,_,_,rfl,rfl,_,rfl,_,rfl,_,_,rfl,rfl,hmul,_,rfl,_,rfl,_,_,rfl,rfl,_,rfl,(by show 3<=sizeLine; decide),fun pf hpf=>?_⟩
 have sf:=Same.new (o:=.lst ([x + y,x * y,if x - y < 0 then -(x - y) else x - y].map V.int)) hpf
 dsimp only [jL]
 refine yF (fun σ' H'=>σ'=[some (.int x),some (.int y),some (.ref pf)]/\Same H H'/\H' pf=some (.lst (([x + y,x * y,if x - y < 0 then -(x - y) else x - y]++(if x % y=0 then [x / y] else [])).map V.int))) ?_ ?_
 ·rintro σ' H1 ⟨rfl,s1,g1⟩
  refine yF (fun σ' H'=>σ'=[some (.int x),some (.int y),some (.ref pf)]/\Same H H'/\H' pf=some (.lst ((([x + y,x * y,if x - y < 0 then -(x - y) else x - y]++(if x % y=0 then [x / y] else []))++(if y % x=0 then [y / x] else [])).map V.int))) ?_ ?_
  ·rintro σ' H2 ⟨rfl,s2,g2⟩
   unfold jo at q
   generalize hL:(([x + y,x * y,if x - y < 0 then -(x - y) else x - y]++(if x % y=0 then [x / y] else []))++(if y % x=0 then [y / x] else []))=L at g2 q
   have ll:L.length<=5:=by
    rw [<- hL]
    simp only [Al]
    have:(if x % y=0 then [x / y] else []).length<=1:=by split <;> simp
    have:(if y % x=0 then [y / x] else []).length<=1:=by split <;> simp
    show 3 + _ + _<=5
    lia
   refine ⟨_,rfl,pf,rfl,⟨_,SqL.of g2⟩,fun D hD C s2' fp=>?_⟩
   refine jd (K:=K) (a:=pf) (xs:=L.map V.int) (fun i zs σ H3=>∃ (o1:Option V),σ=[o1]/\Same H2 H3/\zs=((L.take i).filter fun m=>decide (m > 0)).map V.int)
    (fun i zs σ H3 ⟨_,_,g,_⟩=>SqL.of (g _ _ g2)) ⟨none,rfl,Same.new hD,rfl⟩ ?_ ?_
   ·rintro i v zs σ H3 hi hzl ⟨o1,rfl,s3,rfl⟩ g3
    obtain ⟨m,hm,rfl⟩:=qz hi
    have hil:=(Ao.mp hm).1
    have ef:=aCF hm (fun m=>decide (m > 0))
    refine ⟨_,rfl,_,_,rfl,rfl,_,rfl,?_⟩
    refine ite2 (fun c=>?_) (fun c=>?_)
    ·rw [if_pos c] at ef
     refine ⟨_,rfl,_,g3,by rw [szl]; lia,_,by rw [Al]; exact CS hzl,⟨_,rfl,zf s3 hD,?_⟩,zB⟩
     rw [ef,AN]
     rfl
    ·rw [if_neg c,BD] at ef
     exact ⟨_,Iv hzl,⟨_,rfl,s3,by rw [ef]⟩,g3⟩
   ·rintro zs σ H3 ⟨o1,rfl,s3,rfl⟩ g3
    rw [Ae,AZ] at g3
    exact q D H3 (s2.trans s3) (zc s2 hD) g3
  ·intro X' hX
   refine ⟨_,rfl,_,rfl,_,_,rfl,rfl,(by show (0:Int) < x; lia),rfl,_,rfl,?_⟩
   refine ite2 (fun c=>?_) (fun c=>?_)
   ·have c':y % x=0:=V.int.inj (of_decide_eq_true c)
    rw [if_pos c'] at hX
    refine ⟨_,rfl,.inl ⟨rfl,_,SqL.of g1⟩,_,rfl,_,rfl,_,_,rfl,rfl,⟨by lia,by lia⟩,pf,_,_,rfl,rfl,g1,?_,?_⟩
    ·rw [Ae,Al,szl]
     have:(if x % y=0 then [x / y] else []).length<=1:=by split <;> simp
     show 3 + _ < _
     lia
    ·exact hX _ _ ⟨rfl,zf s1 hpf,by rw [zB,AN,AN,AN]; rfl⟩
   ·have c':¬ y % x=0:=fun z=>c (decide_eq_true (congrArg V.int z))
    rw [if_neg c',BD] at hX
    exact hX _ _ ⟨rfl,s1,g1⟩
 ·intro X' hX
  have g0:(upd H pf (.lst ([x + y,x * y,if x - y < 0 then -(x - y) else x - y].map V.int))) pf=some (.lst ([x + y,x * y,if x - y < 0 then -(x - y) else x - y].map V.int)):=zB
  refine ⟨_,rfl,_,rfl,_,_,rfl,rfl,(by show (0:Int) < y; lia),rfl,_,rfl,?_⟩
  refine ite2 (fun c=>?_) (fun c=>?_)
  ·have c':x % y=0:=V.int.inj (of_decide_eq_true c)
   rw [if_pos c'] at hX
   refine ⟨_,rfl,.inl ⟨rfl,_,SqL.of g0⟩,_,rfl,_,rfl,_,_,rfl,rfl,⟨by lia,by lia⟩,pf,_,_,rfl,rfl,g0,(by rw [szl]; show 3 < 16777216; decide),?_⟩
   exact hX _ _ ⟨rfl,zf sf hpf,by rw [zB]; rfl⟩
  ·have c':¬ x % y=0:=fun z=>c (decide_eq_true (congrArg V.int z))
   rw [if_neg c',BD] at hX
   exact hX _ _ ⟨rfl,sf,g0⟩
noncomputable def bitp (b k:Nat):Bool:=decide (b / 2 ^ k % 2=1)
theorem aK6 {n b k:Nat} (h:k < n):(chB n b)[k]?=some (bitp b k):=by
 unfold chB bitp
 rw [Bh,Hl h]
 rfl
theorem aGF (ns:List Int) (b:Nat):∀ k,k<=ns.length->zG (ns.take k) ((chB ns.length b).take k)=((Bc k).filter (bitp b)).map (fun i=>ns.getD i 0)
 | 0,_=>rfl
 | k + 1,h=>by
  have ih:=aGF ns b k (by lia)
  have hn:ns[k]?=some (ns.getD k 0):=by rw [Do,Au (by lia)]; rfl
  rw [zT hn,zT (aK6 (n:=ns.length) (b:=b) (k:=k) (by lia)),jX _ _ (by rw [Bd,Bd,jR]),ih,Hq,Gc,AN]
  congr 1
  cases hb:bitp b k <;> simp [FA,hb]
theorem aDd (ns:List Int) (b:Nat):zG ns (chB ns.length b)=((Bc ns.length).filter (bitp b)).map (fun i=>ns.getD i 0):=by
 have:=aGF ns b ns.length (Ai _)
 rw [AZ,ER (by rw [jR]; exact Ai _)] at this
 exact this
theorem aGG:∀ b:Fin 16,∀ k:Fin 4,decide (V.int (DM ((b.val:Int) / 2 ^ ((k.val:Int)).toNat) 1)=V.int 1)=bitp b.val k.val:=by decide +kernel
theorem aHA:∀ b m:Fin 16,decide (V.int (DM (m.val:Int) (b.val:Int))=V.int (m.val:Int))=decide (m.val &&& b.val=m.val):=by decide +kernel
noncomputable def kT (k:Int):Key×V:=(Sum.inl k,V.bl true)
theorem aDe {κ:Type} [DecidableEq κ] {kvs:List (κ×V)} {k:κ} (h:∀ kv∈kvs,kv.1≠k) (v:V):putK kvs k v=kvs++[(k,v)]:=by
 unfold putK
 rw [if_neg]
 intro z
 obtain ⟨kv,h1,h2⟩:=Fy.mp z
 exact h kv h1 (of_decide_eq_true h2)
theorem aK7 (ks:List Int) (k:Int):putK (ks.map kT) (Sum.inl k) (V.bl true)=(addK ks k).map kT:=by
 unfold addK
 by_cases h:k∈ks
 ·rw [if_pos h]
  unfold putK
  rw [if_pos (Fy.mpr ⟨kT k,AJ.mpr ⟨k,h,rfl⟩,decide_eq_true rfl⟩)]
  rw [DO]
  refine Hr fun x _=>?_
  show (if (kT x).1=Sum.inl k then ((kT x).1,V.bl true) else kT x)=kT x
  split <;> rfl
 ·rw [if_neg h,AN]
  refine aDe (fun kv hk e=>h ?_) _
  obtain ⟨x,hx,rfl⟩:=AJ.mp hk
  have:x=k:=Kl e
  rw [<- this]; exact hx
noncomputable def RowL (H:Hp) (v:V) (r:List Int):Prop:=∃ q,v=.ref q/\H q=some (.lst (r.map V.int))
noncomputable def EntB (ns:List Int) (H:Hp) (kv:Key×V) (b:Nat):Prop:=kv.1=Sum.inl (b:Int)/\RowL H kv.2 (rowF (zG ns (chB ns.length b)))
theorem EntB.to {ns:List Int} {H H':Hp} (k:∀ q xs,H q=some (.lst xs)->H' q=some (.lst xs)) {kv:Key×V} {b:Nat} (h:EntB ns H kv b):EntB ns H' kv b:=by
 obtain ⟨h1,q,h2,h3⟩:=h
 exact ⟨h1,q,h2,k _ _ h3⟩
theorem aBY {ns:List Int} {H:Hp} {kvs:List (Key×V)} {bs:List Nat} (h:Bm (EntB ns H) kvs bs) {b:Nat} (hb:b∈bs):∃ v,valV kvs (Sum.inl (b:Int))=some v/\RowL H v (rowF (zG ns (chB ns.length b))):=by
 induction h with
 | nil=>cases hb
 | @cons p d ps ds h t ih =>
  by_cases e:p.1=Sum.inl (b:Int)
  ·refine ⟨p.2,qJ e,?_⟩
   have:d=b:=by
    have:=h.1.symm.trans e
    have:=Kl this
    lia
   rw [<- this]; exact h.2
  ·rw [qK e]
   rcases Aq.mp hb with hb | hb
   ·exact absurd (by rw [hb]; exact h.1) e
   ·exact ih hb
theorem aHB {ns:List Int} {H:Hp} {kvs:List (Key×V)} {bs:List Nat} (h:Bm (EntB ns H) kvs bs) {kv:Key×V} (hk:kv∈kvs):∃ b∈bs,kv.1=Sum.inl (b:Int):=by
 induction h with
 | nil=>cases hk
 | cons h _ ih =>
  rcases Aq.mp hk with z | z
  ·exact ⟨_,AL,by rw [z]; exact h.1⟩
  ·obtain ⟨b,h1,h2⟩:=ih z
   exact ⟨b,AI _ h1,h2⟩
noncomputable def WPx (ns:List Int) (b v:Nat) (m:Int):Prop:=∃ x∈rowF (zG ns (chB ns.length v)),∃ y∈rowF (zG ns (chB ns.length (b - v))),m∈jo x y
theorem aHC {ns:List Int} {b v:Nat} (hN:Nums ns) (hb:b < 2 ^ ns.length) (hv:v∈yI b):2<=(zG ns (chB ns.length b)).length:=by
 obtain ⟨hs,h1,h2⟩:=mem_splits.mp (aBQ hN.1 hb hv)
 have m:=(hs.mix ns (by rw [jR])).len
 have n1:0 < (zG ns (chB ns.length v)).length:=BQ.mpr ((qB (by rw [jR])).mpr h1)
 have n2:0 < (zG ns (chB ns.length (b - v))).length:=BQ.mpr ((qB (by rw [jR])).mpr h2)
 have m':(zG ns (chB ns.length b)).length=(zG ns (chB ns.length v)).length + (zG ns (chB ns.length (b - v))).length:=m
 lia
theorem aCH {ns:List Int} {b:Nat} (hN:Nums ns) (hb:b < 2 ^ ns.length) (m:Int):(((zG ns (chB ns.length b)).length=1/\MetL (zG ns (chB ns.length b)) m)\/∃ v∈yI b,WPx ns b v m)↔MetL (zG ns (chB ns.length b)) m:=by
 have l4:∀ c,(zG ns c).length<=4:=fun c=>At (yG ns c) hN.1
 by_cases h1:(zG ns (chB ns.length b)).length=1
 ·constructor
  ·rintro (h | ⟨v,hv,_⟩)
   ·exact h.2
   ·have:=aHC hN hb hv; lia
  ·intro h; exact .inl ⟨h1,h⟩
 ·rw [aGo hN.1 rfl hb h1]
  constructor
  ·rintro (h | ⟨v,hv,x,hx,y,hy,hm⟩)
   ·exact absurd h.1 h1
   ·have x1:=((qG (l4 _)).2 x).mp hx
    have y1:=((qG (l4 _)).2 y).mp hy
    exact ⟨v,hv,x,y,x1,y1,(aCG x1.pos y1.pos).mp hm⟩
  ·rintro ⟨v,hv,x,y,hx,hy,hd⟩
   exact .inr ⟨v,hv,x,((qG (l4 _)).2 x).mpr hx,y,((qG (l4 _)).2 y).mpr hy,(aCG hx.pos hy.pos).mpr hd⟩
theorem aIa {ns:List Int} {b v:Nat} (hN:Nums ns) (hb:b < 2 ^ ns.length) (hv:v∈yI b) {m:Int} (h:WPx ns b v m):MetL (zG ns (chB ns.length b)) m:=(aCH hN hb m).mp (.inr ⟨v,hv,h⟩)
noncomputable def aHc:Sp:=fun vs H Q _=>∃ (a:Addr) (ns:List Int),vs=[.ref a]/\H a=some (.tup (ns.map V.int))/\Nums ns/\∀ (p:Addr) (kvs:List (Key×V)) (H':Hp),Same H H'->H p=none->H' p=some (.dK kvs)->Bm (EntB ns H') kvs ((Bc (2 ^ ns.length - 1)).map (· + 1))->Q (.ref p) H'
theorem aDf {H H':Hp} {p:Addr} {o:HO} (k:Keep [p] H H'):Keep [p] H (upd H' p o):=fun b u e n=>by
 rw [zI (fun z=>n (by rw [z]; simp))]; exact k b u e n
noncomputable def RI (ns:List Int) (b:Nat) (pf:Addr) (HA H':Hp) (ks:List Int):Prop:=Keep [pf] HA H'/\H' pf=some (.dK (ks.map kT))/\ks.Nodup/\∀ m∈ks,MetL (zG ns (chB ns.length b)) m
noncomputable abbrev yw:Stmt:=top 23
theorem sc_law_rows:FnScope ["numbers","rows","bits","used","found","within","one","other","worth"] ["numbers"] (zF yw):=⟨rfl,rfl,rfl,by decide +kernel,rfl,by decide +kernel,by decide +kernel⟩
theorem aIb {f:Addr} {fd:BL} (F:Fun K "_law_rows" "_law_rows" yw f fd) (B:Blt mg) (Bsorted:mg "sorted"=none) (Gwords:Def P w K mg base CX0 1 "_law_words" aGE):FnOk P w K mg base CX0 2 f fd ["numbers"] aHc:=by
 refine F.ok (k:=1) sc_law_rows (fun vs H Q E h=>?_) (fun cdv A outer s H vs Q E hr h=>?_)
 ·obtain ⟨a,ns,rfl,_⟩:=h
  rfl
 obtain ⟨a,ns,rfl,ha,hN,q⟩:=h
 refine ⟨_,(zH (zS (i:=1) sc_law_rows.nd rfl (by first | exact Bj rfl | exact Bi rfl) aDW)
   (zH (yg BT rfl (aBf rfl B.range (zA zD (zA (zM aIs zD (zO zQ rfl B.len yZ (zA (pv 0) zC))) zC))) (zP (i:=2) sc_law_rows.nd rfl (by first | exact Bj rfl | exact Bi rfl)) (zH (aI7 (i:=3) sc_law_rows.nd rfl (by first | exact Bj rfl | exact Bi rfl) (N:=["k","bits"]) rfl (qo [none,some 2] rfl (by decide +kernel) (by decide +kernel) rfl rfl) rfl (qO rfl B.range (zA (zO zQ rfl B.len yZ (zA (pv 0) zC)) zC)) (fun _ _ _ _=>(zP (i:=0) (show (["k","bits"]:List Str).Nodup by decide +kernel) rfl (by first | exact Bj rfl | exact Bi rfl))) (fun _ _ _ _=>(aB6 (zU qM (zM aEX (zM aHJ (pv 1) (pv 0)) zD) zD (zZ _)))) (fun _ _ _ _=>(pv 0)))
   (zH (zS (i:=4) sc_law_rows.nd rfl (by first | exact Bj rfl | exact Bi rfl) aDW)
   (zH (yd (zU qM (zO zQ rfl B.len yZ (zA (pv 3) zC)) zD (zZ _)) (zN (aCq (yf hr) (pv 4) (jJ aHL (pv 0) (jJ yS (pv 3) zD (fun _ _=>rfl)) (fun _ _=>rfl)) qT rfl)) zg)
   (zH (yg BT rfl (aBf rfl B.range (zA zD (zA (pv 2) zC))) (zP (i:=5) sc_law_rows.nd rfl (by first | exact Bj rfl | exact Bi rfl)) (zN (yd (PW.pt (aBd (zU qM (zM aEX (pv 5) (pv 2)) (pv 5) (zZ _)) (aB3 (zU aHn (pv 5) (zM aD7 (pv 2) (pv 5)) (zZ _))))) (zN (yg BT rfl (ye (aCp (yf hr) (pv 1) (pv 5) (fun _ _=>rfl))) (zP (i:=6) sc_law_rows.nd rfl (by first | exact Bj rfl | exact Bi rfl)) (zN (yg BT rfl (ye (aCp (yf hr) (pv 1) (zM aD7 (pv 2) (pv 5)) (fun _ _=>rfl))) (zP (i:=7) sc_law_rows.nd rfl (by first | exact Bj rfl | exact Bi rfl)) (zN (yg BT rfl (ye (zj Gwords (hr.mono (by lia)) (zA (pv 6) (zA (pv 7) zC)))) (zP (i:=8) sc_law_rows.nd rfl (by first | exact Bj rfl | exact Bi rfl)) (zN (aCq (yf hr) (pv 4) (pv 8) qT rfl)))))))) zg)))
   (zN (aCq (yf hr) (pv 1) (pv 2) (zO (aCr rfl) rfl Bsorted qA (zA (pv 4) zC)) rfl)))))))
   (zN (zh (pv 1))))),?_⟩
 try dsimp only [Cx.nox,kx1,kx2,kx3,kx4,kx5,kx6,kx7,kx8,kx9,kxa,kxb,kxc]
 have szl:=AW
 have p16:=pow2 hN.1
 have p1:0 < 2 ^ ns.length:=Nat.pow_pos (by decide)
 refine fun pr hpr=>?_
 have sr:=Same.new (o:=.dK []) hpr
 refine ⟨_,rfl,a,_,rfl,.inr (SqT.of (sr _ _ ha)),_,_,rfl,rfl,⟨by lia,by rw [Ae]; have:=hN.1; lia,by decide⟩,1,((2 ^ ns.length:Nat):Int),?_,⟨by decide,by decide,by lia,by lia⟩,?_⟩
 ·show [V.int 1,V.int (1 * 2 ^ (((ns.map V.int).length:Int)).toNat)]=_
  rw [Ae,BH,Int.one_mul]
  simp
 have en:((2 ^ ns.length:Nat):Int) - 1=((2 ^ ns.length - 1:Nat):Int):=by lia
 rw [en,BH]
 refine ql (n:=2 ^ ns.length - 1) (fun i σ H'=>∃ (z1 z2 z3 z4 z5 z6 z7:Option V) (kvs:List (Key×V)),σ=[some (.ref a),some (.ref pr),z1,z2,z3,z4,z5,z6,z7]/\Same H H'/\H' pr=some (.dK kvs)/\Bm (EntB ns H') kvs ((Bc i).map (· + 1)))
  ⟨none,none,none,none,none,none,none,[],rfl,sr,zB,.nil⟩ ?_ ?_
 ·rintro i σ H1 hi ⟨z1,z2,z3,z4,z5,z6,z7,kvs,rfl,s1,g1,pk⟩
  have hb16:i + 1 < 16:=by lia
  have hb:i + 1 < 2 ^ ns.length:=by lia
  have eb:(1:Int) + (i:Int)=((i + 1:Nat):Int):=by lia
  dsimp only [jL]
  refine yF (fun σ' H'=>∃ (pu:Addr),σ'=[some (.ref a),some (.ref pr),some (.int (1 + (i:Int))),some (.ref pu),z3,z4,z5,z6,z7]/\Same H1 H'/\H' pu=some (.lst (((Bc ns.length).filter (bitp (i + 1))).map fun (k:Nat)=>V.int (k:Int)))) ?_ ?_
  rotate_left
  ·intro X' hX
   refine ⟨_,rfl,a,_,rfl,.inr (SqT.of (s1 _ _ ha)),((ns.map V.int).length:Int),rfl,by lia,by rw [Ae]; have:=hN.1; lia,fun D hD C s2 fp=>?_⟩
   rw [BH,Ae]
   refine jv (n:=ns.length) (fun k zs σ H3=>∃ (o1:Option V),σ=[o1,some (.int (1 + (i:Int)))]/\Same H1 H3/\zs=((Bc k).filter (bitp (i + 1))).map fun (k:Nat)=>V.int (k:Int)) ⟨none,rfl,Same.new hD,rfl⟩ ?_ ?_
   ·rintro k zs σ H3 hk hzl ⟨o1,rfl,s3,rfl⟩ g3
    have hN4:=hN.1
    have et:=aGG ⟨i + 1,hb16⟩ ⟨k,by lia⟩
    have ef:(Bc (k + 1)).filter (bitp (i + 1))=(Bc k).filter (bitp (i + 1))++(if bitp (i + 1) k=true then [k] else []):=by
     rw [Hq,Gc,FA,JK]
    refine ⟨_,rfl,_,rfl,_,_,rfl,rfl,(by show (0:Int)<=0 + (k:Int); lia),_,_,rfl,rfl,rfl,_,rfl,?_⟩
    rw [eb,NA]
    refine (show (if decide (V.int (DM (((i + 1:Nat):Int) / 2 ^ ((k:Int)).toNat) 1)=V.int 1)=true then _ else _:Prop) from ?_)
    rw [show decide (V.int (DM (((i + 1:Nat):Int) / 2 ^ ((k:Int)).toNat) 1)=V.int 1)=bitp (i + 1) k from et]
    refine ite2 (fun c=>?_) (fun c=>?_)
    ·rw [if_pos c] at ef
     refine ⟨_,rfl,_,g3,by rw [szl]; lia,_,by rw [Al]; exact CS hzl,⟨_,rfl,zf s3 hD,?_⟩,zB⟩
     rw [ef,AN]
     rfl
    ·rw [if_neg c,BD] at ef
     exact ⟨_,Iv hzl,⟨_,rfl,s3,by rw [ef]⟩,g3⟩
   ·rintro zs σ H3 ⟨o1,rfl,s3,rfl⟩ g3
    exact hX _ _ ⟨D,rfl,s3,g3⟩
  rintro σ' H2 ⟨pu,rfl,s2,gu⟩
  refine fun pf hpf=>?_
  have sf:=Same.new (o:=.dK []) hpf
  have nf:H pf=none:=zc (s1.trans s2) hpf
  have nrf:pr≠pf:=zE (s2 _ _ g1) hpf
  have gu2:=sf _ _ gu
  have gr2:=sf _ _ (s2 _ _ g1)
  have ga2:=sf _ _ (s2 _ _ (s1 _ _ ha))
  have nff:∀ {b:Addr} {o:HO},(upd H2 pf (.dK [])) b=some o->(∀ kv,o≠.dK kv)->b ∉ [pf]:=fun {b o} e h z=>by
   rw [Af.mp z,zB] at e
   exact h _ (BA e).symm
  have pk2:Bm (EntB ns (upd H2 pf (.dK []))) kvs ((Bc i).map (· + 1)):=Paired.mapP pk fun _ _ h=>h.to fun q xs e=>sf _ _ (s2 _ _ e)
  have gf2:(upd H2 pf (.dK [])) pf=some (.dK ([].map kT)):=zB
  have sH2:Same H (upd H2 pf (.dK [])):=s1.trans (s2.trans sf)
  have l4:∀ c,(zG ns c).length<=4:=fun c=>At (yG ns c) hN.1
  have npf:(upd H2 pf (.dK [])) pr=some (.dK kvs):=gr2
  generalize upd H2 pf (.dK [])=HA at gu2 gr2 ga2 nff pk2 gf2 sH2 npf ⊢
  clear gu s2 sf hpf
  have hul:((Bc ns.length).filter (bitp (i + 1))).length=(zG ns (chB ns.length (i + 1))).length:=by rw [aDd,Ae]
  dsimp only [jL]
  refine yF (fun σ' H'=>∃ (ks:List Int),σ'=[some (.ref a),some (.ref pr),some (.int (1 + (i:Int))),some (.ref pu),some (.ref pf),z4,z5,z6,z7]/\RI ns (i + 1) pf HA H' ks/\∀ m,m∈ks↔((zG ns (chB ns.length (i + 1))).length=1/\MetL (zG ns (chB ns.length (i + 1))) m)) ?_ ?_
  rotate_left
  ·intro X' hX
   refine ⟨_,rfl,pu,_,rfl,.inl (SqL.of gu2),rfl,_,rfl,?_⟩
   by_cases h1:(zG ns (chB ns.length (i + 1))).length=1
   ·refine (show (if _ then _ else _:Prop) from ?_)
    rw [if_pos (decide_eq_true (by rw [Ae,hul,h1]; rfl))]
    obtain ⟨k,ek⟩:∃ k,(Bc ns.length).filter (bitp (i + 1))=[k]:=Jg.mp (hul.trans h1)
    have hk:k < ns.length:=by
     have:k∈(Bc ns.length).filter (bitp (i + 1)):=by rw [ek]; simp
     exact Cb.mp (BS.mp this).1
    have ec:zG ns (chB ns.length (i + 1))=[ns.getD k 0]:=by rw [aDd,ek]; rfl
    have hn:ns[k]?=some (ns.getD k 0):=by rw [Do,Au hk]; rfl
    have hn1:=hN.2 _ (Av hn)
    rw [ek] at gu2
    refine ⟨_,rfl,_,rfl,_,rfl,pu,_,0,_,rfl,rfl,SqL.of gu2,rfl,a,_,(k:Int),V.int (ns.getD k 0),rfl,rfl,SqT.of ga2,?_,pf,_,rfl,DPut.k (k:=Sum.inl (ns.getD k 0)) gf2 (by rw [szl]; show 0 < _; decide),?_⟩
    ·unfold atI ixN
     rw [if_pos (by lia),if_pos (by rw [Ae]; lia)]
     show (ns.map V.int)[(k:Int).toNat]?=_
     rw [BH,Bh,hn]; rfl
    ·rw [aK7]
     have em:addK [] (ns.getD k 0)=[ns.getD k 0]:=rfl
     rw [em]
     refine hX _ _ ⟨_,rfl,⟨aDf (Keep.refl _ _),zB,by simp,fun m hm=>?_⟩,fun m=>?_⟩
     ·rw [Af.mp hm,ec]; exact .one hn1.1
     ·rw [ec,aFT,Af]
      constructor
      ·intro h; exact ⟨rfl,h,hn1.1⟩
      ·intro h; exact h.2.1
   ·refine (show (if _ then _ else _:Prop) from ?_)
    rw [if_neg (by rw [Ae,hul]; intro z; have:=of_decide_eq_true z; injection this with this; lia)]
    exact hX _ _ ⟨[],rfl,⟨Keep.refl _ _,gf2,CZ,fun m hm=>(nomatch hm)⟩,fun m=>⟨fun h=>(nomatch h),fun h=>absurd h.1 h1⟩⟩
  rintro σ' H3 ⟨ks3,rfl,⟨k3,g3,nd3,all3⟩,mem3⟩
  refine yF (fun σ' H'=>∃ (z4 z5 z6 z7:Option V) (ks:List Int),σ'=[some (.ref a),some (.ref pr),some (.int (1 + (i:Int))),some (.ref pu),some (.ref pf),z4,z5,z6,z7]/\RI ns (i + 1) pf HA H' ks/\∀ m,m∈ks↔MetL (zG ns (chB ns.length (i + 1))) m) ?_ ?_
  ·rintro σ' H4 ⟨z4,z5,z6,z7,ks,rfl,⟨k4,g4,nd,hall⟩,hmem⟩
   have hlen:ks.length<=3240:=At (aBO (l4 _) nd hall) (aBW _)
   refine ⟨_,rfl,pf,ks.map kT,ks,rfl,.inl g4,by rw [DO]; rfl,by rw [Ae]; lia,fun pl ms H5 s5 gl hs hms=>?_⟩
   have em:ms=rowF (zG ns (chB ns.length (i + 1))):=RowOf.one (Pd:=MetL (zG ns (chB ns.length (i + 1)))) ⟨hs,fun m=>(hms m).trans (hmem m)⟩ (qG (l4 _))
   subst em
   have gr5:H5 pr=some (.dK kvs):=s5 _ _ (k4 _ _ npf (fun z=>nrf (Af.mp z)))
   have kl:kvs.length<=16:=by rw [pk2.length,Ae,Fk]; lia
   refine ⟨_,rfl,_,rfl,pr,_,rfl,DPut.k (k:=Sum.inl (1 + (i:Int))) gr5 (by rw [szl]; lia),?_⟩
   have enew:putK kvs (Sum.inl (1 + (i:Int))) (V.ref pl)=kvs++[(Sum.inl (1 + (i:Int)),V.ref pl)]:=aDe (fun kv hk e=>by
    obtain ⟨b,hb,h2⟩:=aHB pk2 hk
    obtain ⟨j,hj,rfl⟩:=AJ.mp hb
    have:=Kl (h2.symm.trans e)
    have:=Cb.mp hj
    lia) _
   rw [enew]
   have npr:H pr=none:=hpr
   refine ⟨_,_,_,_,_,_,_,_,rfl,fun b o e=>?_,zB,?_⟩
   ·rw [zI (zE e npr)]
    exact s5 _ _ (k4 _ _ (sH2 _ _ e) (fun z=>zE e nf (Af.mp z)))
   ·rw [Hq,AN]
    have kk:∀ q xs,H5 q=some (.lst xs)->(upd H5 pr (.dK (kvs++[(Sum.inl (1 + (i:Int)),V.ref pl)]))) q=some (.lst xs):=fun q xs e=>by
     rw [zI (fun z=>by rw [z,gr5] at e; cases e)]; exact e
    refine yU (Paired.mapP pk2 fun _ _ h=>h.to fun q xs e=>kk _ _ (s5 _ _ (k4 _ _ e (nff e (fun kv z=>by cases z))))) ⟨?_,pl,rfl,kk _ _ gl⟩
    show Sum.inl (1 + (i:Int))=Sum.inl ((i + 1:Nat):Int)
    rw [eb]
  ·intro X' hX
   refine ⟨_,rfl,1,1 + (i:Int),rfl,⟨by decide,by decide,by lia,by lia⟩,?_⟩
   rw [show (1:Int) + (i:Int) - 1=(i:Int) by lia,BH]
   refine ql (n:=i) (fun t σ H'=>∃ (z4 z5 z6 z7:Option V) (ks:List Int),σ=[some (.ref a),some (.ref pr),some (.int (1 + (i:Int))),some (.ref pu),some (.ref pf),z4,z5,z6,z7]/\RI ns (i + 1) pf HA H' ks/\∀ m,m∈ks↔(((zG ns (chB ns.length (i + 1))).length=1/\MetL (zG ns (chB ns.length (i + 1))) m)\/∃ v∈yI (i + 1),v<=t/\WPx ns (i + 1) v m))
    ⟨_,_,_,_,ks3,rfl,⟨k3,g3,nd3,all3⟩,fun m=>?_⟩ ?_ ?_
   ·rw [mem3]
    constructor
    ·intro h; exact .inl h
    ·rintro (h | ⟨v,hv,h0,_⟩)
     ·exact h
     ·unfold yI at hv
      have:=(BS.mp hv).2
      simp at this
      lia
   ·rintro t σ H4 ht ⟨z4,z5,z6,z7,ks,rfl,⟨k4,g4,nd,hall⟩,hmem⟩
    have ev:(1:Int) + (t:Int)=((t + 1:Nat):Int):=by lia
    have hv16:t + 1 < 16:=by lia
    have hin:t + 1∈yI (i + 1)↔((t + 1) &&& (i + 1)=t + 1/\t + 1 < i + 1 - (t + 1)):=by
     unfold yI
     rw [BS,Cb,Bq,Bq,decide_eq_true_eq,decide_eq_true_eq,decide_eq_true_eq]
     constructor
     ·rintro ⟨_,⟨_,h1⟩,h2⟩; exact ⟨h1,h2⟩
     ·rintro ⟨h1,h2⟩; exact ⟨by lia,⟨by lia,h1⟩,h2⟩
    have skip:¬ (t + 1∈yI (i + 1))->∀ m,m∈ks↔(((zG ns (chB ns.length (i + 1))).length=1/\MetL (zG ns (chB ns.length (i + 1))) m)\/∃ v∈yI (i + 1),v<=t + 1/\WPx ns (i + 1) v m):=fun hno m=>by
     rw [hmem]
     constructor
     ·rintro (h | ⟨v,hv,h1,h2⟩)
      ·exact .inl h
      ·exact .inr ⟨v,hv,by lia,h2⟩
     ·rintro (h | ⟨v,hv,h1,h2⟩)
      ·exact .inl h
      ·refine .inr ⟨v,hv,?_,h2⟩
       rcases Cv t v with h3 | h3
       ·exact absurd (by rw [show t + 1=v by lia]; exact hv) hno
       ·exact h3
    have ea:=aHA ⟨i + 1,hb16⟩ ⟨t + 1,hv16⟩
    refine ⟨_,rfl,_,rfl,_,_,rfl,rfl,_,rfl,rfl,_,rfl,?_⟩
    rw [eb,ev]
    refine (show (if decide (V.int (DM ((t + 1:Nat):Int) ((i + 1:Nat):Int))=V.int ((t + 1:Nat):Int))=true then _ else _:Prop) from ?_)
    rw [show decide (V.int (DM ((t + 1:Nat):Int) ((i + 1:Nat):Int))=V.int ((t + 1:Nat):Int))=decide ((t + 1) &&& (i + 1)=t + 1) from ea]
    refine ite2 (fun c1=>?_) (fun c1=>?_)
    ·refine ⟨_,rfl,_,rfl,_,rfl,_,_,rfl,rfl,_,_,rfl,rfl,_,rfl,?_⟩
     refine ite2 (fun c2=>?_) (fun c2=>?_)
     ·have c1':=of_decide_eq_true c1
      have c2':((t + 1:Nat):Int) < ((i + 1:Nat):Int) - ((t + 1:Nat):Int):=of_decide_eq_true c2
      have hv:t + 1∈yI (i + 1):=hin.mpr ⟨c1',by lia⟩
      have k4r:H4 pr=some (.dK kvs):=k4 _ _ npf (fun z=>nrf (Af.mp z))
      have pk4:Bm (EntB ns H4) kvs ((Bc i).map (· + 1)):=Paired.mapP pk2 fun _ _ h=>h.to fun q xs e=>k4 _ _ e (nff e (fun kv z=>by cases z))
      obtain ⟨v1,e1,r1,rfl,gr1⟩:=aBY pk4 (b:=t + 1) (AJ.mpr ⟨t,Cb.mpr ht,rfl⟩)
      obtain ⟨v2,e2,r2,rfl,gr2'⟩:=aBY pk4 (b:=i + 1 - (t + 1)) (AJ.mpr ⟨i - (t + 1),Cb.mpr (by lia),by lia⟩)
      have dg1:=DGet.k (k:=Sum.inl ((t + 1:Nat):Int)) k4r
      rw [e1] at dg1
      refine ⟨_,rfl,_,rfl,pr,_,rfl,dg1,r1,rfl,⟨_,SqL.of gr1⟩,?_⟩
      have nl1:r1≠pf:=fun z=>by rw [z,g4] at gr1; cases gr1
      have nl2:r2≠pf:=fun z=>by rw [z,g4] at gr2'; cases gr2'
      have x90:=aDc hN (chB ns.length (t + 1))
      have y90:=aDc hN (chB ns.length (i + 1 - (t + 1)))
      refine jB (K:=K) (a:=r1) (xs:=(rowF (zG ns (chB ns.length (t + 1)))).map V.int) (fun j σ H'=>∃ (z5 z6 z7:Option V) (ks':List Int),σ=[some (.ref a),some (.ref pr),some (.int ((i + 1:Nat):Int)),some (.ref pu),some (.ref pf),some (.int ((t + 1:Nat):Int)),z5,z6,z7]/\RI ns (i + 1) pf H4 H' ks'/\∀ m,m∈ks'↔(m∈ks\/∃ x∈(rowF (zG ns (chB ns.length (t + 1)))).take j,∃ y∈rowF (zG ns (chB ns.length (i + 1 - (t + 1)))),m∈jo x y))
       ⟨_,_,_,ks,rfl,⟨Keep.refl _ _,g4,nd,hall⟩,fun m=>by simp⟩ (fun j σ H' _ ⟨_,_,_,_,_,⟨k,_⟩,_⟩=>SqL.of (k _ _ gr1 (fun z=>nl1 (Af.mp z)))) ?_ ?_
      ·rintro j vx σ H5 hj ⟨z5,z6,z7,ks5,rfl,⟨k5,g5,nd5,all5⟩,mem5⟩
       obtain ⟨x,hx,rfl⟩:=qz hj
       have hxm:=Av hx
       have dg2:=DGet.k (k:=Sum.inl (((i + 1:Nat):Int) - ((t + 1:Nat):Int))) (k5 _ _ k4r (fun z=>nrf (Af.mp z)))
       rw [show ((i + 1:Nat):Int) - ((t + 1:Nat):Int)=((i + 1 - (t + 1):Nat):Int) by lia,e2] at dg2
       have gr25:=k5 _ _ gr2' (fun z=>nl2 (Af.mp z))
       refine ⟨_,rfl,_,rfl,_,rfl,_,_,rfl,rfl,pr,_,rfl,?_,r2,rfl,⟨_,SqL.of gr25⟩,?_⟩
       ·show DGet H5 pr (V.int (((i + 1:Nat):Int) - ((t + 1:Nat):Int))) _
        rw [show ((i + 1:Nat):Int) - ((t + 1:Nat):Int)=((i + 1 - (t + 1):Nat):Int) by lia]
        exact dg2
       refine jB (K:=K) (a:=r2) (xs:=(rowF (zG ns (chB ns.length (i + 1 - (t + 1))))).map V.int) (fun l σ H'=>∃ (z6 z7:Option V) (ks':List Int),σ=[some (.ref a),some (.ref pr),some (.int ((i + 1:Nat):Int)),some (.ref pu),some (.ref pf),some (.int ((t + 1:Nat):Int)),some (.int x),z6,z7]/\RI ns (i + 1) pf H4 H' ks'/\∀ m,m∈ks'↔(m∈ks5\/∃ y∈(rowF (zG ns (chB ns.length (i + 1 - (t + 1))))).take l,m∈jo x y))
        ⟨_,_,ks5,rfl,⟨k5,g5,nd5,all5⟩,fun m=>by simp⟩ (fun l σ H' _ ⟨_,_,_,_,⟨k,_⟩,_⟩=>SqL.of (k _ _ gr2' (fun z=>nl2 (Af.mp z)))) ?_ ?_
       ·rintro l vy σ H6 hl ⟨z6,z7,ks6,rfl,⟨k6,g6,nd6,all6⟩,mem6⟩
        obtain ⟨y,hy,rfl⟩:=qz hl
        have hym:=Av hy
        refine ⟨_,rfl,_,rfl,x,y,rfl,(x90 x hxm).1,(x90 x hxm).2,(y90 y hym).1,(y90 y hym).2,fun pw H7 s7 npw gw=>?_⟩
        have nwf:pw≠pf:=fun z=>by rw [z,g6] at npw; cases npw
        refine ⟨pw,rfl,⟨_,SqL.of gw⟩,jB (K:=K) (a:=pw) (xs:=(jo x y).map V.int) (fun e σ H'=>∃ (z7:Option V) (ks':List Int),σ=[some (.ref a),some (.ref pr),some (.int ((i + 1:Nat):Int)),some (.ref pu),some (.ref pf),some (.int ((t + 1:Nat):Int)),some (.int x),some (.int y),z7]/\RI ns (i + 1) pf H7 H' ks'/\∀ m,m∈ks'↔(m∈ks6\/m∈(jo x y).take e))
         ⟨_,ks6,rfl,⟨Keep.refl _ _,s7 _ _ g6,nd6,all6⟩,fun m=>by simp⟩ (fun e σ H' _ ⟨_,_,_,⟨k,_⟩,_⟩=>SqL.of (k _ _ gw (fun z=>nwf (Af.mp z)))) ?_ ?_⟩
        ·rintro e vm σ H8 he ⟨z7,ks8,rfl,⟨k8,g8,nd8,all8⟩,mem8⟩
         obtain ⟨m0,hm0,rfl⟩:=qz he
         have hlen:ks8.length<=3240:=At (aBO (l4 _) nd8 all8) (aBW _)
         refine ⟨_,rfl,_,rfl,pf,_,rfl,DPut.k (k:=Sum.inl m0) g8 (by rw [Ae,szl]; lia),?_⟩
         refine ⟨_,addK ks8 m0,rfl,⟨aDf k8,by rw [zB,aK7],jz nd8,fun m hm=>?_⟩,fun m=>?_⟩
         ·rcases mem_addK.mp hm with h | rfl
          ·exact all8 m h
          ·exact aIa hN hb hv ⟨x,hxm,y,hym,Av hm0⟩
         ·rw [mem_addK,mem8,zT hm0]
          simp only [Ar,Af]
          exact or_assoc
        ·rintro σ H8 ⟨z7,ks8,rfl,⟨k8,g8,nd8,all8⟩,mem8⟩
         rw [Ae,AZ] at mem8
         refine ⟨_,_,ks8,rfl,⟨fun b o e n=>k8 b o (s7 _ _ (k6 b o e n)) n,g8,nd8,all8⟩,fun m=>?_⟩
         rw [mem8,mem6,zT hy]
         simp only [Ar,Af]
         constructor
         ·rintro ((h | ⟨y',h1,h2⟩) | h)
          ·exact .inl h
          ·exact .inr ⟨y',.inl h1,h2⟩
          ·exact .inr ⟨y,.inr rfl,h⟩
         ·rintro (h | ⟨y',h1 | h1,h2⟩)
          ·exact .inl (.inl h)
          ·exact .inl (.inr ⟨y',h1,h2⟩)
          ·exact .inr (by rw [<- h1]; exact h2)
       ·rintro σ H6 ⟨z6,z7,ks6,rfl,⟨k6,g6,nd6,all6⟩,mem6⟩
        rw [Ae,AZ] at mem6
        refine ⟨_,_,_,ks6,rfl,⟨k6,g6,nd6,all6⟩,fun m=>?_⟩
        rw [mem6,mem5,zT hx]
        simp only [Ar,Af]
        constructor
        ·rintro ((h | ⟨y',h1,h2⟩) | h)
         ·exact .inl h
         ·exact .inr ⟨y',.inl h1,h2⟩
         ·exact .inr ⟨x,.inr rfl,h⟩
        ·rintro (h | ⟨y',h1 | h1,h2⟩)
         ·exact .inl (.inl h)
         ·exact .inl (.inr ⟨y',h1,h2⟩)
         ·exact .inr (by rw [<- h1]; exact h2)
      ·rintro σ H5 ⟨z5,z6,z7,ks5,rfl,⟨k5,g5,nd5,all5⟩,mem5⟩
       rw [Ae,AZ] at mem5
       refine ⟨_,_,_,_,ks5,rfl,⟨fun b o e n=>k5 b o (k4 b o e n) n,g5,nd5,all5⟩,fun m=>?_⟩
       rw [mem5,hmem]
       constructor
       ·rintro ((h | ⟨v,hv,h1,h2⟩) | h)
        ·exact .inl h
        ·exact .inr ⟨v,hv,by lia,h2⟩
        ·exact .inr ⟨t + 1,hv,Ai _,h⟩
       ·rintro (h | ⟨v,hv',h1,h2⟩)
        ·exact .inl (.inl h)
        ·rcases Cv t v with h3 | h3
         ·have:v=t + 1:=by lia
          subst this
          exact .inr h2
         ·exact .inl (.inr ⟨v,hv',h3,h2⟩)
     ·have c2':¬ ((t + 1:Nat):Int) < ((i + 1:Nat):Int) - ((t + 1:Nat):Int):=fun z=>c2 (decide_eq_true z)
      exact ⟨_,_,_,_,ks,rfl,⟨k4,g4,nd,hall⟩,skip fun z=>by have:=(hin.mp z).2; lia⟩
    ·have c1':¬ (t + 1) &&& (i + 1)=t + 1:=fun z=>c1 (decide_eq_true z)
     exact iteF ⟨_,_,_,_,ks,rfl,⟨k4,g4,nd,hall⟩,skip fun z=>c1' (hin.mp z).1⟩
   ·rintro σ H4 ⟨z4,z5,z6,z7,ks,rfl,⟨k4,g4,nd,hall⟩,hmem⟩
    refine hX _ _ ⟨_,_,_,_,ks,rfl,⟨k4,g4,nd,hall⟩,fun m=>?_⟩
    rw [hmem]
    refine Iff.trans ?_ (aCH hN hb m)
    constructor
    ·rintro (h | ⟨v,hv,_,h2⟩)
     ·exact .inl h
     ·exact .inr ⟨v,hv,h2⟩
    ·rintro (h | ⟨v,hv,h2⟩)
     ·exact .inl h
     ·refine .inr ⟨v,hv,?_,h2⟩
      have h3:=(BS.mp hv).2
      rw [Bq,decide_eq_true_eq] at h3
      have:=h3.2
      lia
 ·rintro σ H1 ⟨z1,z2,z3,z4,z5,z6,z7,kvs,rfl,s1,g1,pk⟩
  exact ⟨_,rfl,q pr kvs H1 s1 hpr g1 pk⟩
noncomputable def aK8:Sp:=fun vs H Q _=>∃ (b n:Nat),vs=[.int b,.int n]/\b < 16/\n<=4/\∀ (p:Addr) (H':Hp),Same H H'->H p=none->H' p=some (.tup ((chB n b).map V.bl))->Q (.ref p) H'
noncomputable abbrev yM:Stmt:=top 24
theorem aBZ:FnScope ["bits","many"] ["bits","many"] (zF yM):=⟨rfl,rfl,rfl,by decide +kernel,rfl,by decide +kernel,by decide +kernel⟩
theorem aK9 {f:Addr} {fd:BL} (F:Fun K "_law_choice" "_law_choice" yM f fd) (B:Blt mg):FnOk P w K mg base CX0 1 f fd ["bits","many"] aK8:=by
 refine F.ok (k:=0) aBZ (fun vs H Q E h=>?_) (fun cdv A outer s H vs Q E hr h=>?_)
 ·obtain ⟨b,n,rfl,_⟩:=h
  rfl
 obtain ⟨b,n,rfl,hb,hn,q⟩:=h
 refine ⟨_,(zN (zh (zW zu rfl B.tuple qU (zA (qC (N:=["k","bits"]) rfl (qo [none,some 0] rfl (by decide +kernel) (by decide +kernel) rfl rfl) rfl (qO rfl B.range (zA (pv 1) zC)) (fun _ _ _ _=>(zP (i:=0) (show (["k","bits"]:List Str).Nodup by decide +kernel) rfl (by first | exact Bj rfl | exact Bi rfl))) (fun _ _ _ _=>aAR) (fun _ _ _ _=>(jM qM (zM aEX (zM aHJ (pv 1) (pv 0)) zD) zD (zZ _)))) zC)))),?_⟩
 try dsimp only [Cx.nox,kx1,kx2,kx3,kx4,kx5,kx6,kx7,kx8,kx9,kxa,kxb,kxc]
 have szl:=AW
 refine ⟨_,rfl,(n:Int),rfl,by lia,by lia,fun D hD C s2 fp=>?_⟩
 rw [BH]
 refine jv (n:=n) (tt:=fun _ H Q=>Q true H) (fun k zs σ H3=>∃ (o1:Option V),σ=[o1,some (.int (b:Int))]/\Same H H3/\zs=((Bc k).map (bitp b)).map V.bl) ⟨none,rfl,Same.new hD,rfl⟩ ?_ ?_
 ·rintro k zs σ H3 hk hzl ⟨o1,rfl,s3,rfl⟩ g3
  have et:=aGG ⟨b,hb⟩ ⟨k,by lia⟩
  refine ⟨_,rfl,_,rfl,_,_,rfl,rfl,(by show (0:Int)<=0 + (k:Int); lia),_,_,rfl,rfl,rfl,_,g3,by rw [szl]; lia,_,by rw [Al]; exact CS hzl,⟨_,rfl,zf s3 hD,?_⟩,zB⟩
  rw [Hq,AN,AN]
  show _++[V.bl (decide (V.int (DM ((b:Int) / 2 ^ (0 + (k:Int)).toNat) 1)=V.int 1))]=_
  rw [NA,show decide (V.int (DM ((b:Int) / 2 ^ ((k:Int)).toNat) 1)=V.int 1)=bitp b k from et]
  rfl
 ·rintro zs σ H3 ⟨o1,rfl,s3,rfl⟩ g3
  refine ⟨D,_,rfl,.inl ⟨SqL.of g3,fun p hp=>?_⟩⟩
  exact q p _ (s3.trans (Same.new hp)) (zc s3 hp) zB
theorem aCI {K:Ah} {H:Hp}:∀ l:List Int,Reps K H (l.map D.int) (l.map V.int)
 | []=>by unfold Reps; rfl
 | i :: r=>by
  show Reps K H (D.int i :: r.map D.int) (V.int i :: r.map V.int)
  unfold Reps
  exact ⟨_,_,rfl,by unfold Rep; rfl,aCI r⟩
theorem aCJ:∀ l:List Int,deps (l.map D.int)=0
 | []=>by rw [Cu,deps]
 | i :: r=>by
  rw [Aw,deps,aCJ r,D.dep]
  all_goals simp
theorem aHD {K:Ah} {H:Hp} {p:Addr} {r:List Int} (g:H p=some (.tup (r.map V.int))):Rep K H (.tup (r.map D.int)) (.ref p):=by
 unfold Rep
 exact ⟨p,_,rfl,SqT.of g,aCI r⟩
theorem aD1 (K:Ah):Gp K (.type "bool") (.type "bool")=some true:=by with_unfolding_all rfl
theorem aHd:∀ n,n<=4->(((Bc (2 ^ n - 1)).map (· + 1)).map (chB n)).Nodup
 | 0,_=>by decide | 1,_=>by decide | 2,_=>by decide | 3,_=>by decide | 4,_=>by decide +kernel | n + 5,h=>absurd h (by lia)
noncomputable def Pb (ns:List Int) (H:Hp) (y:V) (b:Nat):Prop:=∃ q ka qv,y=.ref q/\H q=some (.tup [.ref ka,.ref qv])/\H ka=some (.tup ((chB ns.length b).map V.bl))/\H qv=some (.tup ((rowF (zG ns (chB ns.length b))).map V.int))
theorem Pb.kt {ns:List Int} {H H':Hp} {y:V} {b:Nat} (k:KT H H') (h:Pb ns H y b):Pb ns H' y b:=let ⟨q,ka,qv,e,h1,h2,h3⟩:=h; ⟨q,ka,qv,e,k _ _ h1,k _ _ h2,k _ _ h3⟩
theorem aDg {ns:List Int} {H:Hp}:∀ {ys:List V} {bs:List Nat},Bm (Pb ns H) ys bs->∃ kps,Bm (aIL H) ys kps/\kps.map (·.1)=bs.map (chB ns.length)/\Bm (Ent ns H) (kps.map fun x=>(x.1,x.2.2)) (bs.map (chB ns.length))
 | _,_,.nil=>⟨[],.nil,rfl,.nil⟩
 | _,_,.cons h t=>by
  obtain ⟨q,ka,qv,rfl,h1,h2,h3⟩:=h
  obtain ⟨kps,p1,p2,p3⟩:=aDg t
  exact ⟨(_,ka,.ref qv) :: kps,.cons ⟨q,rfl,.inl h1,.inl h2⟩ p1,by rw [Aw,Aw,p2]; rfl,.cons ⟨rfl,qv,rfl,h3⟩ p3⟩
theorem aBa {n:Nat}:((Bc (2 ^ n - 1)).map (· + 1)).length=2 ^ n - 1:=by rw [Ae,Fk]
noncomputable abbrev Tabl:=List (List Bool×List Int)
noncomputable def lk (rs:Tabl) (k:List Bool):Option (List Int):=(rs.find? fun q=>decide (q.1=k)).map (·.2)
noncomputable def eqI (r1 r2:Tabl):Bool:=decide (r1.length=r2.length) && r1.all fun p=>decide (lk r2 p.1=some p.2)
noncomputable def dT (q:List Bool×List Int):List Bool×L2.D:=(q.1,.tup (q.2.map L2.D.int))
theorem aGH (k:List Bool):∀ rs:Tabl,lkD (rs.map dT) k=(lk rs k).map fun r=>L2.D.tup (r.map L2.D.int)
 | []=>rfl
 | q :: r=>by
  have ih:=aGH k r
  unfold lkD lk at ih ⊢
  rw [Aw,Cs,Cs]
  by_cases e:q.1=k
  ·rw [show decide ((dT q).1=k)=true from decide_eq_true e,decide_eq_true e]; rfl
  ·rw [show decide ((dT q).1=k)=false from decide_eq_false e,decide_eq_false e]; exact ih
theorem aKA {r1 r2:Tabl} {i:Nat} {q:List Bool×List Int} (h:r1[i]?=some q):okT (r1.map dT) (r2.map dT) i=decide (lk r2 q.1=some q.2):=by
 unfold okT
 rw [Bh,h]
 show (match lkD (r2.map dT) q.1 with | some e=>eqD (.tup (q.2.map L2.D.int)) e | none=>false)=_
 rw [aGH]
 cases e:lk r2 q.1 with
 | none=>simp
 | some r =>
  show eqD (.tup (q.2.map L2.D.int)) (.tup (r.map L2.D.int))=_
  rw [eqD,aC6]
  exact decide_eq_decide.mpr ⟨fun z=>by rw [z],fun z=>(BA z).symm⟩
theorem aHE (r1 r2:Tabl):eqT (r1.map dT) (r2.map dT)=eqI r1 r2:=by
 unfold eqT aBS eqI
 rw [Ae,Ae]
 congr 1
 rw [EY,CU,CU]
 constructor
 ·intro h p hp
  obtain ⟨i,hi⟩:=BG hp
  have:=h i (Cb.mpr (Ao.mp hi).1)
  rw [aKA hi] at this
  exact this
 ·intro h i hi
  have hl:=Cb.mp hi
  have e:r1[i]?=some r1[i]:=Au hl
  rw [aKA e]
  exact h _ (GF hl)
theorem aCK:∀ {rs:Tabl} {k:List Bool} {r:List Int},(rs.map (·.1)).Nodup->(lk rs k=some r↔(k,r)∈rs)
 | [],k,r,_=>by simp [lk]
 | q :: t,k,r,nd=>by
  obtain ⟨n1,n2⟩:=BY.mp nd
  have ih:=aCK (rs:=t) (k:=k) (r:=r) n2
  unfold lk at ih ⊢
  rw [Cs]
  by_cases e:q.1=k
  ·rw [decide_eq_true e]
   show some q.2=some r↔_
   constructor
   ·intro h
    have h2:=BA h
    rw [<- e,<- h2]; exact AL ..
   ·intro h
    rcases Aq.mp h with h | h
    ·rw [<- h]
    ·exact absurd (AJ.mpr ⟨_,h,rfl⟩) (by rw [<- e] at h ⊢; exact n1)
  ·rw [decide_eq_false e]
   show (List.find? _ t).map _=some r↔_
   rw [ih,Aq]
   exact ⟨.inr,fun h=>h.elim (fun z=>absurd (by rw [<- z]) e) id⟩
theorem aD2 {r1 r2:Tabl} (nd:(r2.map (·.1)).Nodup):eqI r1 r2=true↔r1.length=r2.length/\∀ p∈r1,p∈r2:=by
 unfold eqI
 rw [Bq,decide_eq_true_iff,CU]
 refine and_congr Iff.rfl ⟨fun h p hp=>(aCK nd).mp (of_decide_eq_true (h p hp)),fun h p hp=>decide_eq_true ((aCK nd).mpr (h p hp))⟩
theorem aHF {a a' b b':Tabl} (pa:a.Perm a') (pb:b.Perm b') (nd:(b.map (·.1)).Nodup):eqI a b=eqI a' b':=by
 have nd':(b'.map (·.1)).Nodup:=(pb.map (·.1)).nodup_iff.mp nd
 rw [EY,aD2 nd,aD2 nd',pa.length_eq,pb.length_eq]
 exact and_congr Iff.rfl ⟨fun h p hp=>pb.mem_iff.mp (h p (pa.mem_iff.mpr hp)),fun h p hp=>pb.mem_iff.mpr (h p (pa.mem_iff.mp hp))⟩
theorem aDh {a b:Tabl} (p:a.Perm b) (nd:(b.map (·.1)).Nodup):eqI a b=true:=(aD2 nd).mpr ⟨p.length_eq,fun q hq=>p.mem_iff.mp hq⟩
noncomputable def RowE (H:Hp) (p:List Bool×V) (q:List Bool×List Int):Prop:=p.1=q.1/\RowV H p.2 q.2
theorem RowE.kt {H H':Hp} (k:KT H H') {p:List Bool×V} {q:List Bool×List Int} (h:RowE H p q):RowE H' p q:=⟨h.1,h.2.kt k⟩
noncomputable def Tr (P:Ap) (w:AT) (H:Hp) (a:Addr) (rs:Tabl):Prop:=∃ kvs,TbR P w H a kvs/\Bm (RowE H) kvs rs
noncomputable def Tw (P:Ap) (w:AT) (H:Hp) (a:Addr) (rs:Tabl):Prop:=∃ kvs,TbW P w H a kvs/\Bm (RowE H) kvs rs
theorem Tw.r {H:Hp} {a:Addr} {rs:Tabl} (t:Tw P w H a rs):Tr P w H a rs:=let ⟨k,h1,h2⟩:=t; ⟨k,h1.r,h2⟩
theorem qj {H H':Hp} (k:KT H H') {kvs:List (List Bool×V)} {rs:Tabl} (h:Bm (RowE H) kvs rs):Bm (RowE H') kvs rs:=Paired.mapP h fun _ _ h=>h.kt k
theorem Tw.same {H H':Hp} {a:Addr} {rs:Tabl} (s:Same H H') (t:Tw P w H a rs):Tw P w H' a rs:=let ⟨k,h1,h2⟩:=t; ⟨k,h1.same s,qj (KT.same s) h2⟩
theorem Tr.same {H H':Hp} {a:Addr} {rs:Tabl} (s:Same H H') (t:Tr P w H a rs):Tr P w H' a rs:=let ⟨k,h1,h2⟩:=t; ⟨k,h1.same s,qj (KT.same s) h2⟩
theorem jY {H:Hp} {kvs:List (List Bool×V)} {rs:Tabl} (h:Bm (RowE H) kvs rs):kvs.map (·.1)=rs.map (·.1):=by
 induction h with
 | nil=>rfl
 | cons h t ih=>rw [Aw,Aw,ih,h.1]
theorem aCL {H:Hp} {a:Addr} {kvs:List (List Bool×V)} (t:TbR P w H a kvs):(kvs.map (·.1)).Nodup:=by
 obtain ⟨xs,_,_,_,h4,h5⟩:=t
 rw [<- KTR.keysE h4]; exact h5
theorem Tr.nd {H:Hp} {a:Addr} {rs:Tabl} (t:Tr P w H a rs):(rs.map (·.1)).Nodup:=by
 obtain ⟨k,h1,h2⟩:=t
 rw [<- jY h2]; exact aCL h1
theorem Tr.d {H:Hp} {a:Addr} {rs:Tabl} (t:Tr P w H a rs):∃ kvs,TbR P w H a kvs/\TbD K H kvs (rs.map dT):=by
 obtain ⟨k,h1,h2⟩:=t
 refine ⟨k,h1,?_⟩
 have:∀ {kvs:List (List Bool×V)} {rs:Tabl},Bm (RowE H) kvs rs->TbD K H kvs (rs.map dT):=by
  intro kvs rs h
  induction h with
  | nil=>exact .nil
  | cons h t ih =>
   obtain ⟨e,q,ev,g⟩:=h
   exact .cons ⟨e,by show (L2.D.tup _).dep<=50; rw [L2.D.dep,aCJ]; decide,by rw [ev]; exact aHD g⟩ ih
 exact this h2
theorem aAC {H:Hp} {kvs:List (List Bool×V)} {rs:Tabl} (h:Bm (RowE H) kvs rs) (nd:(kvs.map (·.1)).Nodup) {k:List Bool} (hk:k∈rs.map (·.1)):∃ v r,valV kvs k=some v/\RowV H v r/\(k,r)∈rs:=by
 obtain ⟨q,hq,rfl⟩:=AJ.mp hk
 obtain ⟨i,hi⟩:=BG hq
 obtain ⟨p,hp,e,rv⟩:=jS h hi
 refine ⟨p.2,q.2,?_,rv,hq⟩
 rw [<- e]
 have:∀ {l:List (List Bool×V)} {p:List Bool×V},(l.map (·.1)).Nodup->p∈l->valV l p.1=some p.2:=by
  intro l
  induction l with
  | nil=>intro p _ h; exact nomatch h
  | cons a t ih =>
   intro p nd h
   obtain ⟨n1,n2⟩:=BY.mp nd
   rcases Aq.mp h with rfl | h
   ·exact qJ rfl
   ·rw [qK (fun z=>n1 (by show a.1∈_; rw [z]; exact AJ.mpr ⟨_,h,rfl⟩))]
    exact ih n2 h
 exact this nd (Av hp)
noncomputable def putR (rs:Tabl) (k:List Bool) (r:List Int):Tabl:=if (rs.any fun q=>decide (q.1=k))=true then rs.map (fun q=>if q.1=k then (q.1,r) else q) else rs++[(k,r)]
theorem aGI {H:Hp} {kvs:List (List Bool×V)} {rs:Tabl} (h:Bm (RowE H) kvs rs) {k:List Bool} {v:V} {r:List Int} (rv:RowV H v r):Bm (RowE H) (putK kvs k v) (putR rs k r):=by
 have ea:(kvs.any fun kv=>decide (kv.1=k))=(rs.any fun q=>decide (q.1=k)):=by
  induction h with
  | nil=>rfl
  | cons h t ih=>rw [GT,GT,ih,h.1]
 unfold putK putR
 rw [ea]
 split
 ·rename_i hcc
  clear ea hcc
  induction h with
  | nil=>exact .nil
  | cons h t ih =>
   rw [Aw,Aw]
   refine .cons ?_ ih
   rw [h.1]
   split
   ·exact ⟨rfl,rv⟩
   ·exact ⟨h.1,h.2⟩
 ·exact yU h ⟨rfl,rv⟩
theorem aCM {rs:Tabl} {k:List Bool} {r:List Int} (h:k∈rs.map (·.1)):(putR rs k r).map (·.1)=rs.map (·.1):=by
 obtain ⟨q,hq,e⟩:=AJ.mp h
 unfold putR
 rw [if_pos (Fy.mpr ⟨q,hq,decide_eq_true e⟩),DO]
 apply Hr
 intro x _
 show (if x.1=k then (x.1,r) else x).1=x.1
 split <;> rfl
theorem jp (rs:Tabl) (k:List Bool) (r:List Int):(putR rs k r).length<=rs.length + 1:=by
 unfold putR
 split
 ·rw [Ae]; lia
 ·rw [Al]; exact Ai _
noncomputable def RL (rs:Tabl) (n:Nat):Prop:=∀ q∈rs,q.2.length<=n
theorem RL.put {rs:Tabl} {n:Nat} (h:RL rs n) {k:List Bool} {r:List Int} (hr:r.length<=n):RL (putR rs k r) n:=fun q hq=>by
 unfold putR at hq
 split at hq
 ·obtain ⟨p,hp,rfl⟩:=AJ.mp hq
  show (if p.1=k then (p.1,r) else p).2.length<=n
  split
  ·exact hr
  ·exact h p hp
 ·rcases Ar.mp hq with hq | hq
  ·exact h q hq
  ·rw [Af.mp hq]; exact hr
noncomputable def tabC (ns:List Int):Tabl:=((chL ns.length).filter (·.any id)).map fun c=>(c,rowF (zG ns c))
noncomputable def tabL (ns:List Int):Tabl:=(((Bc (2 ^ ns.length - 1)).map (· + 1)).map (chB ns.length)).map fun c=>(c,rowF (zG ns c))
theorem aGJ:∀ n,n<=4->(((Bc (2 ^ n - 1)).map (· + 1)).map (chB n)).Perm ((chL n).filter (·.any id))
 | 0,_=>Ge.mp (by decide) | 1,_=>Ge.mp (by decide) | 2,_=>Ge.mp (by decide) | 3,_=>Ge.mp (by decide +kernel) | 4,_=>Ge.mp (by decide +kernel) | n + 5,h=>absurd h (by lia)
theorem aBb {ns:List Int} (hN:Nums ns):(tabL ns).Perm (tabC ns):=(aGJ _ hN.1).map _
theorem aCN {ns:List Int}:(tabL ns).map (·.1)=((Bc (2 ^ ns.length - 1)).map (· + 1)).map (chB ns.length):=by
 unfold tabL
 rw [DO]
 exact NJ _
theorem aGK {ns:List Int} (hN:Nums ns):((tabL ns).map (·.1)).Nodup:=by rw [aCN]; exact aHd _ hN.1
theorem aGL {ns:List Int} (hN:Nums ns):((tabC ns).map (·.1)).Nodup:=((aBb hN).map (·.1)).nodup_iff.mp (aGK hN)
theorem aGM {ns:List Int} {H:Hp}:∀ {kvs:List (List Bool×V)} {cs:List (List Bool)},Bm (Ent ns H) kvs cs->Bm (RowE H) kvs (cs.map fun c=>(c,rowF (zG ns c)))
 | _,_,.nil=>.nil
 | _,_,.cons h t=>.cons ⟨h.1,h.2⟩ (aGM t)
noncomputable def aKB (P:Ap) (w:AT):Sp:=fun vs H Q _=>∃ (a b:Addr) (ns:List Int) (rs:Tabl),vs=[.ref a,.ref b]/\H a=some (.tup (ns.map V.int))/\Nums ns/\Tr P w H b rs/\∀ H',Same H H'->Q (.bl (eqI rs (tabC ns))) H'
noncomputable abbrev yC:Stmt:=top 18
theorem aAo:FnScope ["numbers","table"] ["numbers","table"] (zF yC):=⟨rfl,rfl,rfl,by decide +kernel,rfl,by decide +kernel,by decide +kernel⟩
theorem aKC {f:Addr} {fd:BL} (F:Fun K "table_shown" "table_shown" yC f fd) (Gtab:Def P w K mg base CX0 10 "table_of" (aK0 P w)):FnOk P w K mg base CX0 11 f fd ["numbers","table"] (aKB P w):=by
 refine F.ok (k:=10) aAo (fun vs H Q E h=>?_) (fun cdv A outer s H vs Q E hr h=>?_)
 ·obtain ⟨a,b,ns,rs,rfl,_⟩:=h
  rfl
 obtain ⟨a,b,ns,rs,rfl,ha,hN,tb,q⟩:=h
 refine ⟨_,(zN (zh (jM (aBT (hu60 hr)) (pv 1) (zj Gtab (hr.mono (by lia)) (zA (pv 0) zC)) (zZ _)))),?_⟩
 try dsimp only [Cx.nox,kx1,kx2,kx3,kx4,kx5,kx6,kx7,kx8,kx9,kxa,kxb,kxc]
 refine ⟨_,rfl,_,rfl,a,ns,rfl,ha,hN,fun pt kv2 H1 s1 npt tb2 pe2=>?_⟩
 have t2:Tr P w H1 pt (tabC ns):=⟨kv2,tb2.x.r,aGM pe2⟩
 obtain ⟨k1,r1,d1⟩:=(tb.same s1).d (K:=K)
 obtain ⟨k2,r2,d2⟩:=t2.d (K:=K)
 refine ⟨b,pt,k1,k2,_,_,rfl,rfl,r1,r2,d1,d2,?_⟩
 rw [aHE]
 exact q _ s1
noncomputable def aKD (P:Ap) (w:AT):Sp:=fun vs H Q _=>∃ (a:Addr) (ns:List Int),vs=[.ref a]/\H a=some (.tup (ns.map V.int))/\Nums ns/\∀ (p:Addr) (H':Hp),Same H H'->H p=none->Tw P w H' p (tabL ns)->Q (.ref p) H'
noncomputable abbrev yY:Stmt:=top 26
theorem sc_law_table:FnScope ["numbers","rows"] ["numbers"] (zF yY):=⟨rfl,rfl,rfl,by decide +kernel,rfl,by decide +kernel,by decide +kernel⟩
theorem aKE {f:Addr} {fd:BL} (F:Fun K "_law_table" "_law_table" yY f fd) (B:Blt mg) (Bdict:mg "dict"=none) (Grows:Def P w K mg base CX0 2 "_law_rows" aHc) (Glch:Def P w K mg base CX0 1 "_law_choice" aK8):FnOk P w K mg base CX0 4 f fd ["numbers"] (aKD P w):=by
 refine F.ok (k:=3) sc_law_table (fun vs H Q E h=>?_) (fun cdv A outer s H vs Q E hr h=>?_)
 ·obtain ⟨a,ns,rfl,_⟩:=h
  rfl
 obtain ⟨pn,ns,rfl,gn,hN,q⟩:=h
 refine ⟨_,(zH (zS (i:=1) sc_law_table.nd rfl (by first | exact Bj rfl | exact Bi rfl) (zj Grows (hr.mono (by lia)) (zA (pv 0) zC)))
   (zN (zh (zW (jT rfl (hu60 hr)) rfl Bdict aAf (zA (qC (N:=["bits","numbers","rows"]) rfl (qo [none,some 0,some 1] rfl (by decide +kernel) (by decide +kernel) rfl rfl) rfl (aGr (pv 1)) (fun _ _ _ _=>(zP (i:=0) (show (["bits","numbers","rows"]:List Str).Nodup by decide +kernel) rfl (by first | exact Bj rfl | exact Bi rfl))) (fun _ _ _ _=>aAR) (fun _ _ _ _=>(zv (zA (zj Glch (hr.mono (by lia)) (zA (pv 0) (zA (zO zQ rfl B.len yZ (zA (pv 1) zC)) zC))) (zA (zW zu rfl B.tuple qU (zA (aCp (yf hr) (pv 2) (pv 0) (fun _ _=>rfl)) zC)) zC))))) zC))))),?_⟩
 try dsimp only [Cx.nox,kx1,kx2,kx3,kx4,kx5,kx6,kx7,kx8,kx9,kxa,kxb,kxc]
 have szl:=AW
 refine ⟨_,rfl,pn,ns,rfl,gn,hN,fun pr kvs H2 s2 npr gr pk=>?_⟩
 have hN4:=hN.1
 have p16:=pow2 hN.1
 have kl:kvs.length<=16:=by rw [pk.length,aBa]; lia
 refine ⟨_,rfl,pr,kvs,rfl,.inl ⟨gr,fun o D hD C s2' fp=>?_⟩⟩
 obtain ⟨H3,eH3⟩:∃ H3,H3=upd H2 pr (.frz o (.dK kvs)):=⟨_,rfl⟩
 have k3:∀ b u,b≠pr->H2 b=some u->H3 b=some u:=fun b u nb e=>by rw [eH3,zI nb]; exact e
 have fz:H3 pr=some (.frz o (.dK kvs)):=by rw [eH3]; exact zB
 have sH3:Same H H3:=fun b u e=>k3 b u (zE e npr) (s2 _ _ e)
 have gn3:=sH3 _ _ gn
 have pk3:Bm (EntB ns H3) kvs ((Bc (2 ^ ns.length - 1)).map (· + 1)):=Paired.mapP pk fun _ _ h=>h.to fun q xs e=>k3 _ _ (fun z=>by rw [z,gr] at e; cases e) e
 replace hD:H3 D=none:=by rw [eH3]; exact hD
 refine aED (d:=pr) (o:=o) (kvs:=kvs) (tt:=fun _ H Q=>Q true H) (fun i zs σ H4=>∃ (o1:Option V),σ=[o1,some (.ref pn),some (.ref pr)]/\Same H3 H4/\Bm (Pb ns H4) zs (((Bc (2 ^ ns.length - 1)).map (· + 1)).take i))
  (fun i zs σ H4 ⟨_,_,g,_⟩=>g _ _ fz) ⟨none,rfl,fun b u e=>by rw [zI (zE e hD)]; rw [eH3] at e; exact e,by rw [CQ]; exact .nil⟩ ?_ ?_
 ·rintro i ky v zs σ H4 hi hzl ⟨o1,rfl,s4,hm⟩ g4
  obtain ⟨b,hb,eky,q1,rfl,gq⟩:=jl pk3 hi
  have eky':ky=Sum.inl (b:Int):=eky
  subst eky'
  have hil:=(Ao.mp hi).1
  obtain ⟨vv,ev1,qv,rfl,gv⟩:=aBY pk3 (Av hb)
  have hb16:b < 16:=by
   obtain ⟨j,hj,rfl⟩:=AJ.mp (Av hb)
   have:=Cb.mp hj
   lia
  refine ⟨_,rfl,_,rfl,pn,_,rfl,.inr (SqT.of (s4 _ _ gn3)),b,ns.length,by rw [Ae]; rfl,hb16,hN4,fun ka H5 s5 nka gka=>?_⟩
  have s35:=s4.trans s5
  refine ⟨_,rfl,_,rfl,pr,.ref qv,rfl,.inl ⟨kvs,Sum.inl (b:Int),.inr ⟨o,s35 _ _ fz⟩,rfl,ev1.symm⟩,qv,_,rfl,.inl ⟨SqL.of (s35 _ _ gv),fun qt hqt=>?_⟩⟩
  have st:=Same.new (o:=.tup ((rowF (zG ns (chB ns.length b))).map V.int)) hqt
  refine ⟨(by show 2<=sizeLine; decide),fun pu hpu=>?_⟩
  have su:=Same.new (o:=.tup [.ref ka,.ref qt]) hpu
  have s4u:=s5.trans (st.trans su)
  have g7:=s4u _ _ g4
  refine ⟨zs,g7,by rw [szl]; lia,zs++[.ref pu],by rw [Al]; exact CS hzl,⟨_,rfl,zf (s4.trans s4u) hD,?_⟩,zB⟩
  rw [zT hb]
  have kt7:=KT.upd (o:=.lst (zs++[.ref pu])) g7
  exact yU (aCm (R:=Pb ns) (fun v x h=>h.kt (KT.trans (KT.same s4u) kt7)) hm) ⟨pu,ka,qt,rfl,kt7 _ _ zB,kt7 _ _ (su _ _ (st _ _ gka)),kt7 _ _ (su _ _ zB)⟩
 ·rintro zs σ H4 ⟨o1,rfl,s4,hm⟩ g4
  rw [pk3.length,AZ] at hm
  obtain ⟨kps,p1,p2,p3⟩:=aDg hm
  have kpl:kps.length=2 ^ ns.length - 1:=by
   have:=congrArg Ix p2
   rw [Ae,Ae,aBa] at this
   exact this
  refine ⟨D,zs,kps,rfl,g4,p1,by rw [p2]; exact aHd _ hN4,by lia,fun pd H5 npd s5 tb=>?_⟩
  have s35:=s4.trans s5
  exact q pd H5 (sH3.trans s35) (zc (sH3.trans s4) npd) ⟨_,tb,aGM (Paired.mapP p3 fun _ _ h=>h.kt (KT.same s5))⟩
theorem jZ {D:Ends} {σ:St} {H:Hp} (h:D.nx σ H):aHm D σ H:=h
theorem aAD {H:Hp} {p:Addr} {r:List Int} {lo hi:Option Int} (g:H p=some (.tup (cutV (r.map V.int) lo hi))):∃ r':List Int,H p=some (.tup (r'.map V.int))/\r'.length<=r.length:=by
 obtain ⟨r',e,l⟩:=aH0 r lo hi
 exact ⟨r',by rw [g,e],l⟩
noncomputable def aHe:Sp:=fun vs H Q _=>∃ (n:Int) (a:Addr) (r:List Int),vs=[.int n,.ref a]/\0<=n/\n < 1000000/\H a=some (.tup (r.map V.int))/\r.length<=50000/\∀ (p:Addr) (r':List Int) (H':Hp),Same H H'->H' p=some (.tup (r'.map V.int))->r'.length<=3 * r.length + 1->Q (.ref p) H'
noncomputable abbrev yx:Stmt:=top 27
theorem sc_law_bent:FnScope ["number","row","at","way","more"] ["number","row"] (zF yx):=⟨rfl,rfl,rfl,by decide +kernel,rfl,by decide +kernel,by decide +kernel⟩
theorem aIc {f:Addr} {fd:BL} (F:Fun K "_law_bent" "_law_bent" yx f fd) (B:Blt mg) (Bmax:mg "max"=none) (Bsorted:mg "sorted"=none):FnOk P w K mg base CX0 1 f fd ["number","row"] aHe:=by
 refine F.ok (k:=0) sc_law_bent (fun vs H Q E h=>?_) (fun cdv A outer s H vs Q E hr h=>?_)
 ·obtain ⟨n,a,r,rfl,_⟩:=h
  rfl
 obtain ⟨n,a,r,rfl,n0,n1,ha,hl,q⟩:=h
 refine ⟨_,(zH (zS (i:=2) sc_law_bent.nd rfl (by first | exact Bj rfl | exact Bi rfl) (zM ze (zM yE (pv 0) zD) (zO (aBg rfl) rfl Bmax aHT (zA zD (zA (zO zQ rfl B.len yZ (zA (pv 1) zC)) zC)))))
   (zH (zS (i:=3) sc_law_bent.nd rfl (by first | exact Bj rfl | exact Bi rfl) (zM ze (pv 0) zD))
   (zH (yd (zU qM (pv 3) zD (zZ _)) (zN (zh (zM qV (yj qy (pv 1) jN (yR (pv 2))) (yj qy (pv 1) (yR (zM zn (pv 2) zD)) jN)))) zg)
   (zH (yd (zU qM (pv 3) zD (zZ _)) (zH (zS (i:=4) sc_law_bent.nd rfl (by first | exact Bj rfl | exact Bi rfl) (jJ yS (yz (zA zD (zA (zM aEW zD zD) (zA (zM aEW zD zD) zC)))) (zM ze (zM yE (pv 0) zD) zD) (fun _ _=>rfl)))
   (zN (zh (zW zu rfl B.tuple qU (zA (zO aAi rfl Bsorted qA (zA (zM qV (pv 1) (zv (zA (zM zn (zM zn zD (zM ze (zM yE (pv 0) zD) zD)) (pv 4)) zC))) zC)) zC))))) zg)
   (zH (yd (zU qM (pv 3) zD (zZ _)) (zN (zh (zM qV (zM qV (yj qy (pv 1) jN (yR (pv 2))) (yj qy (pv 1) (yR (pv 2)) (yR (zM zn (pv 2) zD)))) (yj qy (pv 1) (yR (pv 2)) jN)))) zg)
   (zH (yd (zU qM (pv 3) zD (zZ _)) (zN (zh (zM qV (zM qV (yj qy (pv 1) jN (yR (pv 2))) (aCf (yj qy (pv 1) (yR (pv 2)) (yR (zM zn (pv 2) zD))))) (yj qy (pv 1) (yR (zM zn (pv 2) zD)) jN)))) zg)
   (zH (yd (zU qM (pv 3) zD (zZ _)) (zN (zh (zW zu rfl B.tuple qU (zA (zO aAi rfl Bsorted qA (zA (zM qV (pv 1) (zv (zA zD zC))) zC)) zC)))) zg)
   (zN (zh (aCf (pv 1))))))))))),?_⟩
 try dsimp only [Cx.nox,kx1,kx2,kx3,kx4,kx5,kx6,kx7,kx8,kx9,kxa,kxb,kxc]
 have szl:=AW
 refine ⟨_,rfl,_,_,rfl,rfl,⟨by decide,by decide⟩,_,rfl,a,_,rfl,.inr (SqT.of ha),_,_,rfl,_,_,rfl,rfl,?_,?_⟩
 ·show (0:Int) < if _ then _ else _
  split <;> lia
 refine ⟨_,rfl,_,_,rfl,rfl,(by show (0:Int) < 6; decide),?_⟩
 dsimp only [jL]
 refine ⟨_,rfl,rfl,_,rfl,ite2 (fun _=>?_) (fun _=>jZ ?_)⟩
 ·refine ⟨_,rfl,_,rfl,_,rfl,a,_,rfl,ha,fun p1 H1 s1 g1=>?_⟩
  refine ⟨_,rfl,_,rfl,_,_,rfl,rfl,_,rfl,a,_,rfl,s1 _ _ ha,fun p2 H2 s2 g2=>?_⟩
  obtain ⟨r1,g1,l1⟩:=aAD g1
  obtain ⟨r2,g2,l2⟩:=aAD g2
  refine ⟨p1,p2,_,_,rfl,rfl,s2 _ _ g1,g2,by rw [Ae,Ae]; lia,fun p3 H3 s3 g3=>?_⟩
  exact q p3 (r1++r2) H3 (s1.trans (s2.trans s3)) (by rw [g3,AN]) (by rw [Al]; lia)
 refine ⟨_,rfl,rfl,_,rfl,ite2 (fun _=>?_) (fun _=>jZ ?_)⟩
 ·refine ⟨_,_,rfl,rfl,⟨by decide,by decide,by decide⟩,_,_,rfl,rfl,⟨by decide,by decide,by decide⟩,(by show 3<=sizeLine; decide),fun p0 hp0=>?_⟩
  have s0:=Same.new (o:=.lst ([0,10 ^ 6,10 ^ 24].map V.int)) hp0
  obtain ⟨v1,hv1,hmem1⟩:=qY (xs:=[0,10 ^ 6,10 ^ 24].map V.int) (r:=n / 20000 % 3) (Bo _ (by decide)) (AV _ (by decide))
  obtain ⟨m,hm,rfl⟩:=AJ.mp hmem1
  refine ⟨_,rfl,_,_,rfl,rfl,⟨by decide,by decide⟩,_,_,rfl,rfl,(by show (0:Int) < 3; decide),p0,_,_,_,rfl,rfl,SqL.of zB,hv1,?_⟩
  dsimp only [jL]
  refine ⟨_,rfl,_,rfl,_,_,rfl,rfl,⟨by decide,by decide⟩,_,_,rfl,rfl,(by show (0:Int) < 2000; decide),_,_,rfl,rfl,_,rfl,_,_,rfl,rfl,(by show 1<=sizeLine; decide),fun p1 hp1=>?_⟩
  have s1:=Same.new (o:=.tup [.int (1 + n / 64 % 2000 + m)]) hp1
  have s01:=s0.trans s1
  refine ⟨a,p1,_,_,rfl,rfl,s01 _ _ ha,zB,by rw [Ae]; show r.length + 1<=_; lia,fun p2 H2 s2 g2=>?_⟩
  have g2':H2 p2=some (.tup ((r++[1 + n / 64 % 2000 + m]).map V.int)):=by rw [g2,AN]; rfl
  refine ⟨p2,_,rfl,SqT.of g2',by rw [Al]; show r.length + 1<=_; lia,fun p3 ns' H3 s3 g3 pm=>?_⟩
  refine ⟨p3,_,rfl,.inl ⟨SqL.of g3,fun p4 hp4=>?_⟩⟩
  have l3:=pm.length_eq
  rw [Al] at l3
  exact q p4 ns' _ (s01.trans (s2.trans (s3.trans (Same.new hp4)))) zB (by have:([1 + n / 64 % 2000 + m]:List Int).length=1:=rfl; lia)
 refine ⟨_,rfl,rfl,_,rfl,ite2 (fun _=>?_) (fun _=>jZ ?_)⟩
 ·refine ⟨_,rfl,_,rfl,_,rfl,a,_,rfl,ha,fun p1 H1 s1 g1=>?_⟩
  refine ⟨_,rfl,_,rfl,_,rfl,_,rfl,_,_,rfl,rfl,_,rfl,a,_,rfl,s1 _ _ ha,fun p2 H2 s2 g2=>?_⟩
  obtain ⟨r1,g1,l1⟩:=aAD g1
  obtain ⟨r2,g2,l2⟩:=aAD g2
  refine ⟨p1,p2,_,_,rfl,rfl,s2 _ _ g1,g2,by rw [Ae,Ae]; lia,fun p3 H3 s3 g3=>?_⟩
  have s13:=s1.trans (s2.trans s3)
  refine ⟨_,rfl,_,rfl,_,rfl,a,_,rfl,s13 _ _ ha,fun p4 H4 s4 g4=>?_⟩
  obtain ⟨r4,g4,l4⟩:=aAD g4
  refine ⟨p3,p4,_,_,rfl,rfl,s4 _ _ g3,g4,by rw [Al,Ae,Ae,Ae]; lia,fun p5 H5 s5 g5=>?_⟩
  exact q p5 (r1++r2++r4) H5 (s13.trans (s4.trans s5)) (by rw [g5,AN,AN]) (by rw [Al,Al]; lia)
 refine ⟨_,rfl,rfl,_,rfl,ite2 (fun _=>?_) (fun _=>jZ ?_)⟩
 ·refine ⟨_,rfl,_,rfl,_,rfl,a,_,rfl,ha,fun p1 H1 s1 g1=>?_⟩
  refine ⟨_,rfl,_,rfl,_,rfl,_,rfl,_,_,rfl,rfl,_,rfl,a,_,rfl,s1 _ _ ha,fun p2 H2 s2 g2=>?_⟩
  obtain ⟨r1,g1,l1⟩:=aAD g1
  obtain ⟨r2,g2,l2⟩:=aAD g2
  refine ⟨p2,_,rfl,SqT.of g2,fun p6 hp6=>?_⟩
  have s6:=Same.new (o:=.tup (r2.map V.int).reverse) hp6
  refine ⟨p1,p6,_,_,rfl,rfl,s6 _ _ (s2 _ _ g1),zB,by rw [Cq,Ae,Ae]; lia,fun p3 H3 s3 g3=>?_⟩
  have s13:=s1.trans (s2.trans (s6.trans s3))
  refine ⟨_,rfl,_,rfl,_,_,rfl,rfl,_,rfl,a,_,rfl,s13 _ _ ha,fun p4 H4 s4 g4=>?_⟩
  obtain ⟨r4,g4,l4⟩:=aAD g4
  refine ⟨p3,p4,_,_,rfl,rfl,s4 _ _ g3,g4,by rw [Al,Cq,Ae,Ae,Ae]; lia,fun p5 H5 s5 g5=>?_⟩
  exact q p5 (r1++r2.reverse++r4) H5 (s13.trans (s4.trans s5)) (by rw [g5,AN,AN,IV]) (by rw [Al,Al,Cq]; lia)
 refine ⟨_,rfl,rfl,_,rfl,ite2 (fun _=>?_) (fun _=>jZ ?_)⟩
 ·refine ⟨_,rfl,(by show 1<=sizeLine; decide),fun p1 hp1=>?_⟩
  have s1:=Same.new (o:=.tup [.int 0]) hp1
  refine ⟨a,p1,_,_,rfl,rfl,s1 _ _ ha,zB,by rw [Ae]; show r.length + 1<=_; lia,fun p2 H2 s2 g2=>?_⟩
  have g2':H2 p2=some (.tup ((r++[0]).map V.int)):=by rw [g2,AN]; rfl
  refine ⟨p2,_,rfl,SqT.of g2',by rw [Al]; show r.length + 1<=_; lia,fun p3 ns' H3 s3 g3 pm=>?_⟩
  refine ⟨p3,_,rfl,.inl ⟨SqL.of g3,fun p4 hp4=>?_⟩⟩
  have l3:=pm.length_eq
  rw [Al] at l3
  exact q p4 ns' _ (s1.trans (s2.trans (s3.trans (Same.new hp4)))) zB (by have:([0]:List Int).length=1:=rfl; lia)
 ·refine ⟨_,rfl,a,_,rfl,SqT.of ha,fun p6 hp6=>?_⟩
  exact q p6 r.reverse _ (Same.new hp6) (by rw [IV]; exact zB) (by rw [Cq]; lia)
theorem aHf {α β:Type} {f:α->β}:∀ {l:List α} {a b:α},(l.map f).Nodup->a∈l->b∈l->f a=f b->a=b
 | x :: r,a,b,nd,ha,hb,e=>by
  obtain ⟨n1,n2⟩:=BY.mp nd
  rcases Aq.mp ha with e1 | ha' <;> rcases Aq.mp hb with e2 | hb'
  ·rw [e1,e2]
  ·exact absurd (by rw [<- e1,e]; exact AJ.mpr ⟨_,hb',rfl⟩) n1
  ·exact absurd (by rw [<- e2,<- e]; exact AJ.mpr ⟨_,ha',rfl⟩) n1
  ·exact aHf n2 ha' hb' e
noncomputable def all5:List (List Bool):=chL 0++(chL 1++(chL 2++(chL 3++(chL 4++chL 5))))
noncomputable def nIn (x:Int):List Int->Bool
 | []=>true
 | y :: r=>!(decide (x=y)) && nIn x r
noncomputable def ndL:List Int->Bool
 | []=>true
 | x :: r=>nIn x r && ndL r
theorem aHg {x:Int}:∀ {l:List Int},nIn x l=true->x ∉ l
 | [],_=>fun h=>nomatch h
 | y :: r,h=>by
  unfold nIn at h
  rw [Bq] at h
  intro hm
  rcases Aq.mp hm with e | hm
  ·rw [decide_eq_true e] at h; exact absurd h.1 (by decide)
  ·exact aHg h.2 hm
theorem aHh:∀ {l:List Int},ndL l=true->l.Nodup
 | [],_=>CZ
 | x :: r,h=>by
  unfold ndL at h
  rw [Bq] at h
  exact BY.mpr ⟨aHg h.1,aHh h.2⟩
set_option maxRecDepth 1000000 in
theorem aKF:ndL (all5.map hsB)=true:=by decide +kernel
theorem aGN {c:List Bool} (h:c.length<=5):c∈all5:=by
 unfold all5
 have:=aFZ c.length c rfl
 match hl:c.length,h with
 | 0,_=>rw [hl] at this; exact Ar.mpr (.inl this)
 | 1,_=>rw [hl] at this; exact Ar.mpr (.inr (Ar.mpr (.inl this)))
 | 2,_=>rw [hl] at this; exact Ar.mpr (.inr (Ar.mpr (.inr (Ar.mpr (.inl this)))))
 | 3,_=>rw [hl] at this; exact Ar.mpr (.inr (Ar.mpr (.inr (Ar.mpr (.inr (Ar.mpr (.inl this)))))))
 | 4,_=>rw [hl] at this; exact Ar.mpr (.inr (Ar.mpr (.inr (Ar.mpr (.inr (Ar.mpr (.inr (Ar.mpr (.inl this)))))))))
 | 5,_=>rw [hl] at this; exact Ar.mpr (.inr (Ar.mpr (.inr (Ar.mpr (.inr (Ar.mpr (.inr (Ar.mpr (.inr this)))))))))
theorem aId:∀ {ks:List (List Bool)},ks.Nodup->(∀ k∈ks,k.length<=5)->(ks.map hsB).Nodup
 | [],_,_=>CZ
 | k :: r,nd,h=>by
  obtain ⟨n1,n2⟩:=BY.mp nd
  refine BY.mpr ⟨fun hm=>?_,aId n2 fun x hx=>h x (AI _ hx)⟩
  obtain ⟨y,hy,e⟩:=AJ.mp hm
  have:=aHf (aHh aKF) (aGN (h y (AI _ hy))) (aGN (h k (AL ..))) e
  rw [this] at hy
  exact n1 hy
noncomputable def NT (H:Hp) (b:Addr):Prop:=∀ u,H b=some u->(∀ ys,u≠.tup ys)/\∀ o ys,u≠.frz o (.tup ys)
theorem aEN {H:Hp} {a:Addr} {kvs:List (List Bool×V)} (t:TbW P w H a kvs):NT H a:=fun u e=>by
 obtain ⟨xs,h,_⟩:=t
 rw [h] at e
 cases e
 exact ⟨fun ys z=>(by cases z),fun o ys z=>(by cases z)⟩
theorem jA {S:List Addr} {H H':Hp} (k:Keep S H H') (n:∀ b∈S,NT H b):KT H H':=fun b ys e=>k b _ e fun hb=>(n b hb _ e).1 ys rfl
theorem ja {S:List Addr} {H H':Hp} (k:Keep S H H') (n:∀ b∈S,NT H b) {b:Addr} {ys:List V} (h:Rd H b (.tup ys)):Rd H' b (.tup ys):=by
 rcases h with h | ⟨o,h⟩
 ·exact .inl (k _ _ h fun hb=>(n b hb _ h).1 ys rfl)
 ·exact .inr ⟨o,k _ _ h fun hb=>(n b hb _ h).2 o ys rfl⟩
theorem jq {H H':Hp} {a:Addr} (k:∀ c,c≠a->H' c=H c):Keep [a] H H':=fun b u e n=>by rw [k b (fun z=>n (Af.mpr z))]; exact e
noncomputable def KsOk (rs:Tabl):Prop:=rs.length<=20/\∀ q∈rs,q.1≠[]/\q.1.length<=4
theorem aIe (rs:Tabl):eqI rs []=decide (rs=[]):=by
 cases rs with
 | nil=>rfl
 | cons q r=>rfl
theorem aIf {X:Cx} {pos:Pos}:Wr (PE X (.Dict [] [] pos) (fun _ H Q=>∀ p,H p=none->(p == Bx)=false->Q (.ref p) (upd H p (DbO X.prog X.w p [])))):=⟨aBR⟩
theorem aHG {X:Cx} {ke ve:Expr} {tk tv:TE} {pos:Pos} (hu:X.A.units + 1 < cLine) (hk:Wr (PE X ke tk)) (hv:Wr (PE X ve tv)):Wr (PE X (.Dict [some ke] [ve] pos) (fun σ H Q=>∀ p,H p=none->tk σ (upd H p (DbO X.prog X.w p [])) fun x H1=>tv σ H1 fun y H2 =>
  ∃ (b:Addr) (k:List Bool),x=.ref b/\H2 p=some (DbO X.prog X.w p [])/\Rd H2 b (.tup (k.map V.bl))/\∀ H3:Hp,(∀ c,c≠p->H3 c=H2 c)->TbW X.prog X.w H3 p [(k,y)]->Q (.ref p) H3)):=⟨aG8 hu hk.un hv.un⟩
theorem aKG {X:Cx} {op:CmpOp} {r:R2} {a b:Expr} {ta tb:TE} {pos:Pos} (ho:OpR X (DV op) r) (ha:Wr (PE X a ta)) (hb:Wr (PE X b tb)) (h1:GQ op b=false):Wr (PT X (.Compare a [op] [b] pos) (aIv (tOp r ta tb))):=⟨zU ho ha.un hb.un h1⟩
theorem aL1 {X:Cx} {test:Expr} {body:List Stmt} {tt:TT} {tb:TS} {pos:Pos} (ht:Wr (PT X test tt)) (hb:Wr (PSs X body tb)):Wr (PS X (.If test body [] pos) (tIfS tt tb aHm)):=⟨yd ht.un hb.un zg⟩
theorem aKH {X:Cx} {e:Expr} {te:TE} {pos:Pos} (h:Wr (PE X e te)):Wr (PS X (.Return (some e) pos) (tRet te)):=⟨zh h.un⟩
noncomputable def aKI (P:Ap) (w:AT):Sp:=fun vs H Q _=>∃ (n:Int) (t:Addr) (m:Nat) (rs:Tabl) (L:Nat),vs=[.int n,.ref t,.int (m:Int)]/\0<=n/\n < 1000000/\m<=4/\Tr P w H t rs/\KsOk rs/\RL rs L/\L<=16000 /\
 ∀ (p:Addr) (rs':Tabl) (H':Hp),Same H H'->H p=none->Tw P w H' p rs'->rs'.length<=rs.length + 1->RL rs' (3 * L + 1)->(n % 8 < 4->(rs=[]/\rs'=[([true],[1])])\/rs'.map (·.1)=rs.map (·.1))->Q (.ref p) H'
theorem pr_erase {α β:Type} {R:α->β->Prop} {a:List α} {b:List β} (h:Bm R a b):∀ i:Nat,Bm R (a.eraseIdx i) (b.eraseIdx i):=by
 induction h with
 | nil=>intro i; exact .nil
 | cons h t ih =>
  intro i
  cases i with
  | zero=>exact t
  | succ i=>exact .cons h (ih i)
noncomputable abbrev yN:Stmt:=top 28
theorem sc_law_spoilt:FnScope ["number","table","many","found","keys","key","other","way"] ["number","table","many"] (zF yN):=⟨rfl,rfl,rfl,by decide +kernel,rfl,by decide +kernel,by decide +kernel⟩
theorem aKJ {f:Addr} {fd:BL} (F:Fun K "_law_spoilt" "_law_spoilt" yN f fd) (B:Blt mg) (Bdict:mg "dict"=none) (Bsorted:mg "sorted"=none) (Gbent:Def P w K mg base CX0 1 "_law_bent" aHe):FnOk P w K mg base CX0 2 f fd ["number","table","many"] (aKI P w):=by
 refine F.okW (k:=1) sc_law_spoilt (fun vs H Q E h=>?_) (fun cdv A outer s H vs Q E hr h=>?_)
 ·obtain ⟨n,t,m,rs,L,rfl,_⟩:=h
  rfl
 obtain ⟨n,t,m,rs,L,rfl,n0,n1,hm,⟨kvs,tt,pe⟩,⟨hk20,hks⟩,hRL,hL,q⟩:=h
 refine ⟨_,(zR (Wr.mk (zS (i:=3) sc_law_spoilt.nd rfl (by first | exact Bj rfl | exact Bi rfl) (zW (aAz (hu60 hr)) rfl Bdict aAf (zA (pv 1) zC))))
   (zR (aL1 (aKG (aBT (hu60 hr)) (Wr.mk (pv 3)) aIf (zZ _)) (jy (aKH (aHG (yf hr) (aAl (qD (Wr.mk qT) aAW)) (aAl (qD aKh aAW))))))
   (zR (Wr.mk (zS (i:=4) sc_law_spoilt.nd rfl (by first | exact Bj rfl | exact Bi rfl) (zO (jU rfl) rfl Bsorted qA (zA (pv 3) zC))))
   (zR (Wr.mk (zS (i:=5) sc_law_spoilt.nd rfl (by first | exact Bj rfl | exact Bi rfl) (jJ yS (pv 4) (zM ze (zM yE (pv 0) zD) (zO zQ rfl B.len yZ (zA (pv 4) zC))) (fun _ _=>rfl))))
   (zR (Wr.mk (zS (i:=6) sc_law_spoilt.nd rfl (by first | exact Bj rfl | exact Bi rfl) (jJ yS (pv 4) (zM ze (zM yE (pv 0) zD) (zO zQ rfl B.len yZ (zA (pv 4) zC))) (fun _ _=>rfl))))
   (zR (Wr.mk (zS (i:=7) sc_law_spoilt.nd rfl (by first | exact Bj rfl | exact Bi rfl) (zM ze (pv 0) zD)))
   (zR (Wr.mk (yd (zU aHn (pv 7) zD (zZ _)) (zN (jI (yf hr) (pv 3) (pv 5) (zj Gbent (hr.mono (by lia)) (zA (zM yE (pv 0) zD) (zA (qa (yf hr) (pv 3) (pv 5) (fun _ _=>rfl)) zC))) rfl)) zg))
   (zR (Wr.mk (yd (zU qM (pv 7) zD (zZ _)) (zN (yy (aG6 (yf hr) (pv 3) (pv 5)))) zg))
   (zR (Wr.mk (yd (zU qM (pv 7) zD (zZ _)) (zN (jI (yf hr) (pv 3) (zM aFu (zv (zA qT zC)) (pv 2)) (zv zC) rfl)) zg))
   (zR (Wr.mk (yd (zU qM (pv 7) zD (zZ _)) (zH (jI (yf hr) (pv 3) (pv 5) (qa (yf hr) (pv 1) (pv 6) (fun _ _=>rfl)) rfl)
   (zN (jI (yf hr) (pv 3) (pv 6) (qa (yf hr) (pv 1) (pv 5) (fun _ _=>rfl)) rfl))) zg))
   (zR (Wr.mk (yd (zU qM (pv 7) zD (zZ _)) (zN (jI (yf hr) (pv 3) (jJ yS (yz (zA (zM aCU (pv 5) (zv (zA qT zC))) (zA (yj aEu (pv 5) jN (yR (aDm aAq zD))) zC))) (zM ze (zM yE (pv 0) zD) zD) (fun _ _=>rfl)) (qa (yf hr) (pv 1) (pv 5) (fun _ _=>rfl)) rfl)) zg))
   (jy (Wr.mk (zh (pv 3))))))))))))))),?_⟩
 try dsimp only [Cx.nox,kx1,kx2,kx3,kx4,kx5,kx6,kx7,kx8,kx9,kxa,kxb,kxc]
 have szl:=AW
 have ek:=jY pe
 have kl:kvs.length=rs.length:=pe.length
 have nd:=aCL tt
 have ndr:(rs.map (·.1)).Nodup:=by rw [<- ek]; exact nd
 have hkm:∀ k∈rs.map (·.1),k≠[]/\k.length<=4:=fun k hk=>by
  obtain ⟨q,hq,rfl⟩:=AJ.mp hk
  exact hks q hq
 have hnd:(kvs.map fun y=>hsB y.1).Nodup:=by
  have:(kvs.map fun y=>hsB y.1)=(rs.map (·.1)).map hsB:=by rw [<- ek,DO]; rfl
  rw [this]
  exact aId ndr fun k hk=>At (hkm k hk).2 (by decide)
 refine ⟨_,rfl,t,kvs,rfl,tt,hnd,fun pf H1 npf s1 tw=>?_⟩
 have pe1:=qj (KT.same s1) pe
 refine ⟨_,rfl,fun p0 hp0 hsys=>?_⟩
 have s0:=Same.new (o:=DbO P w p0 []) hp0
 have tw0:Tw P w (upd H1 p0 (DbO P w p0 [])) pf rs:=⟨kvs,tw.same s0,qj (KT.same s0) pe1⟩
 have te0:Tr P w (upd H1 p0 (DbO P w p0 [])) p0 []:=⟨[],⟨[],.inl zB,AS _,hsys,.nil,CZ⟩,.nil⟩
 obtain ⟨k1,r1,d1⟩:=tw0.r.d (K:=K)
 obtain ⟨k2,r2,d2⟩:=te0.d (K:=K)
 refine ⟨pf,p0,k1,k2,_,_,rfl,rfl,r1,r2,d1,d2,_,rfl,?_⟩
 rw [aHE,aIe]
 have s10:=s1.trans s0
 refine ite2 (fun c=>?_) (fun c=>jZ ?_)
 ·have er:rs=[]:=of_decide_eq_true c
  refine fun p hp=>⟨(by show 1<=sizeLine; decide),fun pk hpk=>⟨(by show 1<=sizeLine; decide),fun pv hpv=>?_⟩⟩
  have sp:=Same.new (o:=DbO P w p []) hp
  have sk:=Same.new (o:=.tup [.bl true]) hpk
  have sv:=Same.new (o:=.tup [.int 1]) hpv
  refine ⟨pk,[true],rfl,sv _ _ (sk _ _ zB),.inl (sv _ _ zB),fun H3 k3 t3=>?_⟩
  have np:H p=none:=zc s10 hp
  have nvp:pv≠p:=(zE (sk _ _ (show (upd (upd H1 p0 (DbO P w p0 [])) p (DbO P w p [])) p=some (DbO P w p []) from zB)) hpv).symm
  refine q p [([true],[1])] H3 (fun b u e=>by rw [k3 b (zE e np)]; exact sv _ _ (sk _ _ (sp _ _ (s10 _ _ e)))) np ⟨_,t3,.cons ⟨rfl,pv,rfl,by rw [k3 pv nvp]; exact zB⟩ .nil⟩ (by show 1<=_; lia) (fun x hx=>by rw [Af.mp hx]; show 1<=_; lia) (fun _=>.inl ⟨er,rfl⟩)
 have rne:rs≠[]:=fun z=>c (decide_eq_true z)
 have rpos:0 < rs.length:=BQ.mpr rne
 obtain ⟨kv0,tw1,pe0⟩:=tw0
 have ek0:=jY pe0
 refine ⟨_,rfl,pf,kv0,rfl,tw1.r,by rw [pe0.length]; lia,fun p hp=>(hkm p.1 (by rw [<- ek0]; exact AJ.mpr ⟨p,hp,rfl⟩)).1,fun ps ys ks Hs ss nps gs pk pys=>?_⟩
 have sHs:=s10.trans ss
 have twS:=tw1.same ss
 have peS:=qj (KT.same ss) pe0
 have yl:ys.length=rs.length:=by
  rw [pys.length,pk.length_eq,Ae,pe0.length]
 have ntS:∀ c∈[pf],NT Hs c:=fun c hc=>by rw [Af.mp hc]; exact aEN twS
 have getk:∀ {i:Int} ,0<=i->i < (ys.length:Int)->∃ va,atI ys i=some va/\∃ b k,va=.ref b/\Rd Hs b (.tup (k.map V.bl))/\k∈rs.map (·.1):=fun {i} h0 h1=>by
  obtain ⟨va,hva,hm⟩:=qY (xs:=ys) (r:=i) h0 h1
  obtain ⟨j,hj⟩:=BG hm
  obtain ⟨k,hk,b,e,rd⟩:=yH pys hj
  exact ⟨va,hva,b,k,e,rd,by rw [<- ek0]; exact pk.mem_iff.mp (Av hk)⟩
 obtain ⟨va,hva,kb,kk,rfl,rkb,hkk⟩:=getk (i:=n / 384 % (ys.length:Int)) (Bo _ (by lia)) (AV _ (by lia))
 obtain ⟨vo,hvo,ob,ok,rfl,rob,hok⟩:=getk (i:=n / 20011 % (ys.length:Int)) (Bo _ (by lia)) (AV _ (by lia))
 refine ⟨_,rfl,_,rfl,_,_,rfl,rfl,⟨by decide,by decide⟩,_,rfl,ps,_,rfl,.inl (SqL.of gs),_,_,rfl,rfl,(by show (0:Int) < (ys.length:Int); lia),ps,_,_,_,rfl,rfl,SqL.of gs,hva,?_⟩
 refine ⟨_,rfl,_,rfl,_,_,rfl,rfl,⟨by decide,by decide⟩,_,rfl,ps,_,rfl,.inl (SqL.of gs),_,_,rfl,rfl,(by show (0:Int) < (ys.length:Int); lia),ps,_,_,_,rfl,rfl,SqL.of gs,hvo,?_⟩
 refine ⟨_,rfl,_,_,rfl,rfl,(by show (0:Int) < 8; decide),?_⟩
 have w0:0<=n % 8:=Bo _ (by decide)
 have w8:n % 8 < 8:=AV _ (by decide)
 obtain ⟨wy,ewy⟩:∃ wy:Int,n % 8=wy:=⟨_,rfl⟩
 dsimp only [jL]
 rw [ewy] at q w0 w8 ⊢
 obtain ⟨σ0,eσ0⟩:∃ σ0:St,σ0=[some (.int n),some (.ref t),some (.int (m:Int)),some (.ref pf),some (.ref ps),some (.ref kb),some (.ref ob),some (.int wy)]:=⟨_,rfl⟩
 obtain ⟨Fin,eFin⟩:∃ Fin:Hp->Prop,Fin=fun H'=>∃ rs',Keep [pf] Hs H'/\Tw P w H' pf rs'/\rs'.length<=rs.length + 1/\RL rs' (3 * L + 1)/\(wy < 4->rs'.map (·.1)=rs.map (·.1)):=⟨_,rfl⟩
 have sameOf:∀ {H':Hp},Keep [pf] Hs H'->Same H H':=fun {H'} k b u e=>k _ _ (sHs _ _ e) (fun z=>zE e npf (Af.mp z))
 have rlm:∀ {r:List Int} {k:List Bool},(k,r)∈rs->r.length<=L:=fun {r k} h=>hRL _ h
 have putF:∀ {H3 H4:Hp} {kv:List (List Bool×V)} {rr:Tabl} {k:List Bool} {v:V} {r:List Int},Keep [pf] Hs H3->TbW P w H3 pf kv->Bm (RowE H3) kv rr->RowV H3 v r->(∀ c,c≠pf->H4 c=H3 c)->TbW P w H4 pf (putK kv k v)->Keep [pf] Hs H4/\Tw P w H4 pf (putR rr k r):=fun {H3 H4 kv rr k v r} k3 t3 p3 rv k4 t4=>by
  have kk4:=jq k4
  have n3:∀ c∈[pf],NT H3 c:=fun c hc=>by rw [Af.mp hc]; exact aEN t3
  exact ⟨fun b u e nb=>kk4 _ _ (k3 _ _ e nb) nb,_,t4,qj (jA kk4 n3) (aGI p3 rv)⟩
 refine yF (fun σ' H'=>σ'=σ0/\(Fin H'/\wy < 4\/4<=wy/\Keep [pf] Hs H'/\TbW P w H' pf kv0)) ?_ ?_
 rotate_left
 ·intro X' hX
  refine ⟨_,rfl,_,_,rfl,rfl,_,rfl,ite2 (fun c=>?_) (fun c=>jZ ?_)⟩
  ·have c':wy < 4:=of_decide_eq_true c
   obtain ⟨v,r,ev,⟨qv,rfl,gqv⟩,hmr⟩:=aAC peS twS.nd hkk
   refine ⟨_,rfl,_,_,rfl,rfl,⟨by decide,by decide⟩,_,rfl,_,rfl,pf,kb,kv0,kk,_,rfl,rfl,twS.r,rkb,ev,?_⟩
   have lr:=rlm hmr
   refine ⟨n / 8,qv,r,rfl,JE n0 (by decide),by lia,gqv,by lia,fun p' r' H5 s5 g5 l5=>?_⟩
   refine ⟨_,rfl,_,rfl,pf,kb,kv0,kk,rfl,rfl,twS.same s5,zi s5 rkb,by rw [szl,pe0.length]; lia,fun H6 k6 t6=>?_⟩
   obtain ⟨k6',tw6⟩:=putF (Keep.same s5) (twS.same s5) (qj (KT.same s5) peS) ⟨p',rfl,g5⟩ k6 t6
   refine hX _ _ ⟨eσ0.symm,.inl ⟨?_,c'⟩⟩
   rw [eFin]
   have hk':(putR rs kk r').map (·.1)=rs.map (·.1):=aCM hkk
   exact ⟨_,k6',tw6,jp _ _ _,RL.put (fun q hq=>At (hRL q hq) (by lia)) (by lia),fun _=>hk'⟩
  ·exact hX _ _ ⟨eσ0.symm,.inr ⟨by have:=fun z:wy < 4=>c (decide_eq_true z); lia,Keep.refl _ _,twS⟩⟩
 have rest:∀ {j j':Int} {H':Hp},(Fin H'/\wy < j\/j<=wy/\Keep [pf] Hs H'/\TbW P w H' pf kv0)->¬ decide (V.int wy=V.int j)=true->j'=j + 1->(Fin H'/\wy < j'\/j'<=wy/\Keep [pf] Hs H'/\TbW P w H' pf kv0):=fun {j j' H'} h c e=>by
  rcases h with ⟨f,l⟩ | ⟨l,k4,t4⟩
  ·exact .inl ⟨f,by lia⟩
  ·exact .inr ⟨by have:=fun z:wy=j=>c (decide_eq_true (by rw [z])); lia,k4,t4⟩
 have only:∀ {j:Int} {H':Hp},(Fin H'/\wy < j\/j<=wy/\Keep [pf] Hs H'/\TbW P w H' pf kv0)->decide (V.int wy=V.int j)=true->wy=j/\Keep [pf] Hs H'/\TbW P w H' pf kv0:=fun {j H'} h c=>by
  have c':wy=j:=V.int.inj (of_decide_eq_true c)
  exact ⟨c',(h.resolve_left fun z=>by lia).2⟩
 have ktp:∀ {a b c:Hp},Keep [pf] a b->Keep [pf] b c->Keep [pf] a c:=fun k1 k2 b u e n=>k2 _ _ (k1 _ _ e n) n
 have npfH:∀ {H':Hp} {b:Addr} {u:HO},H b=some u->b≠pf:=fun e=>zE e npf
 clear getk
 intro σ' H4 h4
 obtain ⟨e4,h4⟩:=h4
 subst e4
 subst eσ0
 refine yF (fun σ' H'=>σ'=[some (.int n),some (.ref t),some (.int (m:Int)),some (.ref pf),some (.ref ps),some (.ref kb),some (.ref ob),some (.int wy)]/\(Fin H'/\wy < 5\/5<=wy/\Keep [pf] Hs H'/\TbW P w H' pf kv0)) ?_ ?_
 rotate_left
 ·intro X' hX
  refine ⟨_,rfl,rfl,_,rfl,ite2 (fun c=>?_) (fun c=>jZ (hX _ _ ⟨rfl,rest h4 c rfl⟩))⟩
  obtain ⟨c',k4,t4⟩:=only h4 c
  obtain ⟨p0,hp0,ep0⟩:=AJ.mp (show kk∈kv0.map (·.1) from by rw [ek0]; exact hkk)
  obtain ⟨i,hi⟩:=BG hp0
  refine ⟨_,rfl,pf,kv0,rfl,t4,_,rfl,kb,kv0,kk,i,p0.2,rfl,t4,ja k4 ntS rkb,by rw [hi,<- ep0],fun H5 k5 t5=>?_⟩
  refine hX _ _ ⟨rfl,.inl ⟨?_,by lia⟩⟩
  rw [eFin]
  have k45:=ktp k4 (jq k5)
  have pe5:=qj (jA k45 ntS) peS
  exact ⟨rs.eraseIdx i,k45,⟨_,t5,pr_erase pe5 i⟩,by rw [Dj]; split <;> lia,fun q hq=>At (hRL q ((Fh rs i).subset hq)) (by lia),fun z=>by lia⟩
 intro σ' H5 h5
 obtain ⟨e5,h5⟩:=h5
 subst e5
 refine yF (fun σ' H'=>σ'=[some (.int n),some (.ref t),some (.int (m:Int)),some (.ref pf),some (.ref ps),some (.ref kb),some (.ref ob),some (.int wy)]/\(Fin H'/\wy < 6\/6<=wy/\Keep [pf] Hs H'/\TbW P w H' pf kv0)) ?_ ?_
 rotate_left
 ·intro X' hX
  refine ⟨_,rfl,rfl,_,rfl,ite2 (fun c=>?_) (fun c=>jZ (hX _ _ ⟨rfl,rest h5 c rfl⟩))⟩
  obtain ⟨c',k4,t4⟩:=only h5 c
  refine ⟨(by show 0<=sizeLine; decide),fun pv hpv=>⟨_,rfl,(by show 1<=sizeLine; decide),fun pl hpl=>⟨_,rfl,pl,.bl false,m,rfl,rfl,zB,hm,fun pk H6 s6 g6=>?_⟩⟩⟩
  have sv:=Same.new (o:=.tup []) hpv
  have sl:=Same.new (o:=.tup [.bl false]) hpl
  have sA:=(sv.trans sl).trans s6
  refine ⟨pf,pk,kv0,CD m false,rfl,rfl,t4.same sA,.inl (by rw [g6,HK]),by rw [szl,pe0.length]; lia,fun H7 k7 t7=>?_⟩
  have k46:Keep [pf] Hs H6:=fun b u e n=>sA _ _ (k4 _ _ e n)
  obtain ⟨k7',tw7⟩:=putF (r:=[]) k46 (t4.same sA) (qj (jA k46 ntS) peS) ⟨pv,rfl,s6 _ _ (sl _ _ zB)⟩ k7 t7
  refine hX _ _ ⟨rfl,.inl ⟨?_,by lia⟩⟩
  rw [eFin]
  exact ⟨_,k7',tw7,jp _ _ _,RL.put (fun q hq=>At (hRL q hq) (by lia)) (by show 0<=_; lia),fun z=>by lia⟩
 intro σ' H6 h6
 obtain ⟨e6,h6⟩:=h6
 subst e6
 refine yF (fun σ' H'=>σ'=[some (.int n),some (.ref t),some (.int (m:Int)),some (.ref pf),some (.ref ps),some (.ref kb),some (.ref ob),some (.int wy)]/\(Fin H'/\wy < 7\/7<=wy/\Keep [pf] Hs H'/\TbW P w H' pf kv0)) ?_ ?_
 rotate_left
 ·intro X' hX
  refine ⟨_,rfl,rfl,_,rfl,ite2 (fun c=>?_) (fun c=>jZ (hX _ _ ⟨rfl,rest h6 c rfl⟩))⟩
  obtain ⟨c',k4,t4⟩:=only h6 c
  obtain ⟨v1,r1,ev1,rv1,hm1⟩:=aAC pe nd hok
  obtain ⟨v2,r2,ev2,rv2,hm2⟩:=aAC pe nd hkk
  have sA:=sameOf k4
  refine ⟨_,rfl,_,rfl,t,ob,kvs,ok,v1,rfl,rfl,tt.same sA,ja k4 ntS rob,ev1,_,rfl,_,rfl,pf,kb,kv0,kk,rfl,rfl,t4,ja k4 ntS rkb,by rw [szl,pe0.length]; lia,fun H7 k7 t7=>?_⟩
  have pe6:=qj (jA k4 ntS) peS
  obtain ⟨k7',tw7⟩:=putF (r:=r1) k4 t4 pe6 (rv1.kt (KT.same sA)) k7 t7
  have sB:=sameOf k7'
  have n6:∀ c∈[pf],NT H6 c:=fun c hc=>by rw [Af.mp hc]; exact aEN t4
  have pe7:=qj (jA (jq k7) n6) (aGI pe6 (k:=kk) (rv1.kt (KT.same sA)))
  have hk':(putR rs kk r1).map (·.1)=rs.map (·.1):=aCM hkk
  have hl':(putR rs kk r1).length=rs.length:=by rw [<- Ae (f:=(·.1)),hk',Ae]
  refine ⟨_,rfl,_,rfl,t,kb,kvs,kk,v2,rfl,rfl,tt.same sB,ja k7' ntS rkb,ev2,_,rfl,_,rfl,pf,ob,_,ok,rfl,rfl,t7,ja k7' ntS rob,by rw [szl,pe7.length,hl']; lia,fun H8 k8 t8=>?_⟩
  obtain ⟨k8',tw8⟩:=putF (r:=r2) k7' t7 pe7 (rv2.kt (KT.same sB)) k8 t8
  have l1:=rlm hm1
  have l2:=rlm hm2
  refine hX _ _ ⟨rfl,.inl ⟨?_,by lia⟩⟩
  rw [eFin]
  exact ⟨_,k8',tw8,At (jp _ _ _) (by rw [hl']; exact Ai _),RL.put (RL.put (fun q hq=>At (hRL q hq) (by lia)) (by lia)) (by lia),fun z=>by lia⟩
 intro σ' H7 h7
 obtain ⟨e7,h7⟩:=h7
 subst e7
 refine yF (fun σ' H'=>σ'=[some (.int n),some (.ref t),some (.int (m:Int)),some (.ref pf),some (.ref ps),some (.ref kb),some (.ref ob),some (.int wy)]/\Fin H') ?_ ?_
 rotate_left
 ·intro X' hX
  refine ⟨_,rfl,rfl,_,rfl,ite2 (fun c=>?_) (fun c=>jZ (hX _ _ ⟨rfl,?_⟩))⟩
  rotate_left
  ·rcases rest (j':=8) h7 c rfl with z | z
   ·exact z.1
   ·exact absurd z.1 (by lia)
  obtain ⟨c',k4,t4⟩:=only h7 c
  obtain ⟨v2,r2,ev2,rv2,hm2⟩:=aAC pe nd hkk
  have sA:=sameOf k4
  have l2:=rlm hm2
  have rk7:=ja k4 ntS rkb
  obtain ⟨kn0,kl4⟩:=hkm kk hkk
  have klp:0 < kk.length:=BQ.mpr kn0
  refine ⟨_,rfl,_,rfl,t,kb,kvs,kk,v2,rfl,rfl,tt.same sA,rk7,ev2,_,rfl,_,rfl,(by show 1<=sizeLine; decide),fun p1 hp1=>⟨kb,p1,kk.map V.bl,[.bl true],rfl,rfl,.inl (zi (Same.new hp1) rk7),.inl (.inl zB),(fun z=>kn0 (FG.mp z)),(by rw [szl,Ae]; show kk.length + 1<=_; lia),(fun z=>nomatch z),fun _ p2 hp2=>?_⟩⟩
  have s1':=Same.new (o:=.tup [.bl true]) hp1
  have s2':=Same.new (o:=.tup (kk.map V.bl++[.bl true])) hp2
  refine ⟨_,rfl,_,rfl,_,rfl,kb,kk.map V.bl,rfl,.inl (zi s2' (zi s1' rk7)),(fun z=>absurd z.2 ?_),fun _ p3 hp3=>⟨(by show 2<=sizeLine; decide),fun p4 hp4=>?_⟩⟩
  ·rw [Ae]
   show ¬ (if (-1:Int) < 0 then ((-1:Int) + (kk.length:Int)).toNat else min (-1:Int).toNat kk.length)=kk.length
   rw [if_pos (by decide)]
   lia
  obtain ⟨kc,ekc⟩:∃ kc:List Bool,cutV (kk.map V.bl) none (some (-1))=kc.map V.bl:=⟨(kk.drop _).take _,by unfold cutV; rw [Nk,Nj]⟩
  have s3':=Same.new (o:=.tup (cutV (kk.map V.bl) none (some (-1)))) hp3
  have s4':=Same.new (o:=.lst [.ref p2,.ref p3]) hp4
  have sX:=((s1'.trans s2').trans s3').trans s4'
  have m0:0<=n / 4096 % 2:=Bo _ (by decide)
  have m1:n / 4096 % 2 < 2:=AV _ (by decide)
  obtain ⟨va,hva,hvm⟩:=qY (xs:=[V.ref p2,V.ref p3]) (r:=n / 4096 % 2) m0 m1
  obtain ⟨bq,kq,rfl,rdq⟩:∃ b k,va=.ref b/\Rd (upd (upd (upd (upd H7 p1 (.tup [.bl true])) p2 (.tup (kk.map V.bl++[.bl true]))) p3 (.tup (cutV (kk.map V.bl) none (some (-1))))) p4 (.lst [.ref p2,.ref p3])) b (.tup (Mi V.bl k)):=by
   rcases Aq.mp hvm with z | z
   ·exact ⟨p2,kk++[true],z,.inl (by rw [AN]; exact s4' _ _ (s3' _ _ zB))⟩
   ·exact ⟨p3,kc,Af.mp z,.inl (by rw [<- ekc]; exact s4' _ _ zB)⟩
  refine ⟨_,rfl,_,_,rfl,rfl,⟨by decide,by decide⟩,_,_,rfl,rfl,(by show (0:Int) < 2; decide),p4,_,_,_,rfl,rfl,SqL.of zB,hva,pf,bq,kv0,kq,rfl,rfl,t4.same sX,rdq,by rw [szl,pe0.length]; lia,fun H8 k8 t8=>?_⟩
  have k47:=ktp k4 (Keep.same sX)
  obtain ⟨k8',tw8⟩:=putF (r:=r2) k47 (t4.same sX) (qj (jA k47 ntS) peS) (rv2.kt (KT.same (sA.trans sX))) k8 t8
  refine hX _ _ ⟨rfl,?_⟩
  rw [eFin]
  exact ⟨_,k8',tw8,jp _ _ _,RL.put (fun q hq=>At (hRL q hq) (by lia)) (by lia),fun z=>by lia⟩
 intro σ' H8 h8
 obtain ⟨e8,h8⟩:=h8
 subst e8
 rw [eFin] at h8
 obtain ⟨rs',k8,tw8,l8,R8,e8⟩:=h8
 exact ⟨_,rfl,q pf rs' H8 (sameOf k8) npf tw8 l8 R8 fun z=>.inr (e8 z)⟩
noncomputable def aKK (P:Ap) (w:AT):Sp:=fun vs H Q _=>∃ (n:Int) (t:Addr) (m:Nat) (rs:Tabl) (L:Nat),vs=[.int n,.ref t,.int (m:Int)]/\0<=n/\n < 1000000/\m<=4/\Tr P w H t rs/\KsOk rs/\RL rs L /\
 ∀ (p:Addr) (rs':Tabl) (H':Hp),Same H H'->H p=none->Tw P w H' p rs'->rs'.length<=rs.length + 1->RL rs' (L + 1)->Q (.ref p) H'
noncomputable def StrE (H:Hp) (n:Nat) (v:V):Prop:=∃ (e b c:Addr) (k:List Bool) (r:List Int),v=.ref e/\H e=some (.tup [.ref b,.ref c])/\Rd H b (.tup (k.map V.bl))/\H c=some (.tup (r.map V.int))/\r.length<=n
theorem StrE.same {H H':Hp} {n:Nat} {v:V} (s:Same H H') (h:StrE H n v):StrE H' n v:=by
 obtain ⟨e,b,c,k,r,h1,h2,h3,h4,h5⟩:=h
 exact ⟨e,b,c,k,r,h1,s _ _ h2,zi s h3,s _ _ h4,h5⟩
noncomputable abbrev zd:Stmt:=top 29
theorem sc_law_counted_alike:FnScope ["number","table","many","found","keys","strange","key","row"] ["number","table","many"] (zF zd):=⟨rfl,rfl,rfl,by decide +kernel,rfl,by decide +kernel,by decide +kernel⟩
theorem aKL {f:Addr} {fd:BL} (F:Fun K "_law_counted_alike" "_law_counted_alike" zd f fd) (B:Blt mg) (Bdict:mg "dict"=none) (Bsorted:mg "sorted"=none):FnOk P w K mg base CX0 1 f fd ["number","table","many"] (aKK P w):=by
 refine F.okW (k:=0) sc_law_counted_alike (fun vs H Q E h=>?_) (fun cdv A outer s H vs Q E hr h=>?_)
 ·obtain ⟨n,t,m,rs,L,rfl,_⟩:=h
  rfl
 obtain ⟨n,t,m,rs,L,rfl,n0,n1,hm,⟨kvs,tt,pe⟩,⟨hk20,hks⟩,hRL,q⟩:=h
 refine ⟨_,(zR (Wr.mk (zS (i:=3) sc_law_counted_alike.nd rfl (by first | exact Bj rfl | exact Bi rfl) (zW (aAz (hu60 hr)) rfl Bdict aAf (zA (pv 1) zC))))
   (zR (Wr.mk (zS (i:=4) sc_law_counted_alike.nd rfl (by first | exact Bj rfl | exact Bi rfl) (zO (jU rfl) rfl Bsorted qA (zA (pv 3) zC))))
   (zR (Wr.mk (yd (zU (aDG (hu60 hr)) (pv 4) (yz zC) (zZ _)) (zH (yy (aG6 (yf hr) (pv 3) (jJ yS (yz (zA (jJ yS (pv 4) (aDm aAq zD) (fun _ _=>rfl)) (zA (jJ yS (pv 4) (zM ze (zM yE (pv 0) zD) (zO zQ rfl B.len yZ (zA (pv 4) zC))) (fun _ _=>rfl)) zC))) (zM ze (pv 0) zD) (fun _ _=>rfl))))
   (zH (zS (i:=5) sc_law_counted_alike.nd rfl (by first | exact Bj rfl | exact Bi rfl) (yz (zA (zv (zA (zM aFu (zv (zA qT zC)) (pv 2)) (zA (zv zC) zC zx))) (zA (zv (zA (zM aDZ (zv (zA qT zC)) (zM zn (pv 2) zD)) (zA (qa (yf hr) (pv 1) (jJ yS (pv 4) (aDm aAq zD) (fun _ _=>rfl)) (fun _ _=>rfl)) zC))) (zA (zv (zA (zM aCU (jJ yS (pv 4) (aDm aAq zD) (fun _ _=>rfl)) (zv (zA qT zC))) (zA (zv (zA zD zC)) zC zx))) zC zx) zx) zx)))
   (zH (aIq (jJ yS (pv 5) (zM zn (zM ze (zM yE (pv 0) zD) zD) (zW aAO rfl B.int aEn (zA (jM qM (zM ze (pv 0) zD) zD (zZ _)) zC))) (fun _ _=>rfl)) (aA7 rfl (zk (zP (i:=6) sc_law_counted_alike.nd rfl (by first | exact Bj rfl | exact Bi rfl)) (zk (zP (i:=7) sc_law_counted_alike.nd rfl (by first | exact Bj rfl | exact Bi rfl)) qk))))
   (zN (jI (yf hr) (pv 3) (pv 6) (pv 7) rfl))))) zg))
   (jy (Wr.mk (zh (pv 3))))))),?_⟩
 try dsimp only [Cx.nox,kx1,kx2,kx3,kx4,kx5,kx6,kx7,kx8,kx9,kxa,kxb,kxc]
 have szl:=AW
 have ek:=jY pe
 have nd:=aCL tt
 have kl:kvs.length=rs.length:=pe.length
 have ndr:(rs.map (·.1)).Nodup:=by rw [<- ek]; exact nd
 have hkm:∀ k∈rs.map (·.1),k≠[]/\k.length<=4:=fun k hk=>by
  obtain ⟨q,hq,rfl⟩:=AJ.mp hk
  exact hks q hq
 have hnd:(kvs.map fun y=>hsB y.1).Nodup:=by
  have:(kvs.map fun y=>hsB y.1)=(rs.map (·.1)).map hsB:=by rw [<- ek,DO]; rfl
  rw [this]
  exact aId ndr fun k hk=>At (hkm k hk).2 (by decide)
 refine ⟨_,rfl,t,kvs,rfl,tt,hnd,fun pf H1 npf s1 tw1=>?_⟩
 refine ⟨_,rfl,pf,kvs,rfl,tw1.r,by rw [kl]; lia,fun p hp=>(hkm p.1 (by rw [<- ek]; exact AJ.mpr ⟨p,hp,rfl⟩)).1,fun ps ys ks Hs ss nps gs pk pys=>?_⟩
 refine ⟨_,rfl,(by show 0<=sizeLine; decide),fun p0 hp0=>?_⟩
 have s0:=Same.new (o:=.lst []) hp0
 have sA:=(s1.trans ss).trans s0
 have twS:=tw1.same (ss.trans s0)
 have peS:=qj (KT.same sA) pe
 have gs0:=s0 _ _ gs
 have yl:ys.length=rs.length:=by rw [pys.length,pk.length_eq,Ae,kl]
 refine ⟨ps,p0,ys,rfl,rfl,SqL.of gs0,SqL.of zB,_,rfl,ite2 (fun c=>?_) (fun c=>jZ ?_)⟩
 rotate_left
 ·exact ⟨_,rfl,q pf rs _ sA npf ⟨_,twS,peS⟩ (by lia) (fun x hx=>At (hRL x hx) (by lia))⟩
 have yne:ys≠[]:=fun z=>by rw [z] at c; exact absurd c (by decide)
 have ypos:0 < ys.length:=BQ.mpr yne
 have getk:∀ {va:V},va∈ys->∃ b k,va=.ref b/\Rd (upd Hs p0 (.lst [])) b (.tup (k.map V.bl))/\k∈rs.map (·.1):=fun {va} hm=>by
  obtain ⟨j,hj⟩:=BG hm
  obtain ⟨k,hk,b,e,rd⟩:=yH pys hj
  exact ⟨b,k,e,zi s0 rd,by rw [<- ek]; exact pk.mem_iff.mp (Av hk)⟩
 obtain ⟨yi,yv,ey⟩:∃ yi yv,ys=yi++[yv]:=⟨_,_,(GS yne).symm⟩
 have hlast:atI ys (-1)=some yv:=by rw [ey]; exact aGW _ _
 obtain ⟨lb,lk0,rfl,rlb,hlk⟩:=getk (show yv∈ys by rw [ey]; exact Ar.mpr (.inr (Af.mpr rfl)))
 obtain ⟨va,hva,hvm⟩:=qY (xs:=ys) (r:=n / 4 % (ys.length:Int)) (Bo _ (by lia)) (AV _ (by lia))
 obtain ⟨ab,ak,rfl,rab,hak⟩:=getk hvm
 obtain ⟨vc,hvc,hcm⟩:=qY (xs:=[V.ref lb,V.ref ab]) (r:=n % 2) (Bo _ (by decide)) (AV _ (by decide))
 obtain ⟨cb,ck,rfl,rcb,hck⟩:∃ b k,vc=.ref b/\Rd (upd Hs p0 (.lst [])) b (.tup (k.map V.bl))/\k∈rs.map (·.1):=by
  rcases Aq.mp hcm with z | z
  ·exact ⟨lb,lk0,z,rlb,hlk⟩
  ·exact ⟨ab,ak,Af.mp z,rab,hak⟩
 obtain ⟨e0,he0,ee0⟩:=AJ.mp (show ck∈kvs.map (·.1) from by rw [ek]; exact hck)
 obtain ⟨i,hi⟩:=BG he0
 refine ⟨_,rfl,pf,kvs,rfl,twS,_,rfl,_,rfl,ps,_,_,_,rfl,rfl,SqL.of gs0,hlast,_,rfl,_,rfl,_,_,rfl,rfl,⟨by decide,by decide⟩,_,rfl,ps,_,rfl,.inl (SqL.of gs0),_,_,rfl,rfl,(by show (0:Int) < (ys.length:Int); lia),ps,_,_,_,rfl,rfl,SqL.of gs0,hva,(by show 2<=sizeLine; decide),fun pl hpl=>?_⟩
 have sl:=Same.new (o:=.lst [.ref lb,.ref ab]) hpl
 refine ⟨_,rfl,_,_,rfl,rfl,(by show (0:Int) < 2; decide),pl,_,_,_,rfl,rfl,SqL.of zB,hvc,cb,kvs,ck,i,e0.2,rfl,twS.same sl,zi sl rcb,by rw [hi,<- ee0],fun H5 k5 t5=>?_⟩
 have kB:Keep [pf] (upd Hs p0 (.lst [])) H5:=fun b u e nb=>jq k5 _ _ (sl _ _ e) nb
 have ntS:∀ c∈[pf],NT (upd Hs p0 (.lst [])) c:=fun c hc=>by rw [Af.mp hc]; exact aEN twS
 have nps':ps≠pf:=(zE (show H1 pf=some _ from tw1.choose_spec.1) nps).symm
 have g5:H5 ps=some (.lst ys):=kB _ _ gs0 (fun z=>nps' (Af.mp z))
 have s5:Same H H5:=fun b u e=>kB _ _ (sA _ _ e) (fun z=>zE e npf (Af.mp z))
 have pe5:Bm (RowE H5) (kvs.eraseIdx i) (rs.eraseIdx i):=pr_erase (qj (jA kB ntS) peS) i
 have rl5:=ja kB ntS rlb
 obtain ⟨v2,r2,ev2,rv2,hm2⟩:=aAC pe nd hlk
 have l2:r2.length<=L:=hRL _ hm2
 clear getk
 refine ⟨(by show 1<=sizeLine; decide),fun a1 ha1=>⟨_,rfl,a1,.bl false,m,rfl,rfl,zB,hm,fun b1 J1 sJ1 g1=>⟨(by show 0<=sizeLine; decide),fun c1 hc1=>⟨(by show 2<=sizeLine; decide),fun e1 he1=>?_⟩⟩⟩⟩
 have sE1:Same H5 _:=(((Same.new (o:=.tup [.bl false]) ha1).trans sJ1).trans (Same.new (o:=.tup []) hc1)).trans (Same.new (o:=.tup [.ref b1,.ref c1]) he1)
 have st1:StrE (upd (upd J1 c1 (.tup [])) e1 (.tup [.ref b1,.ref c1])) (L + 1) (.ref e1):=⟨e1,b1,c1,CD m false,[],rfl,zB,.inl (by rw [HK]; exact Same.new (o:=.tup [.ref b1,.ref c1]) he1 _ _ (Same.new (o:=.tup []) hc1 _ _ g1)),Same.new (o:=.tup [.ref b1,.ref c1]) he1 _ _ zB,AS _⟩
 obtain ⟨J,eJ⟩:∃ J:Hp,upd (upd J1 c1 (.tup [])) e1 (.tup [.ref b1,.ref c1])=J:=⟨_,rfl⟩
 rw [eJ] at sE1 st1 ⊢
 refine ⟨(by show 1<=sizeLine; decide),fun a2 ha2=>⟨_,rfl,_,_,rfl,rfl,a2,.bl true,m + 1,rfl,rfl,zB,by lia,fun b2 J2 sJ2 g2=>?_⟩⟩
 have sE2:Same H5 J2:=(sE1.trans (Same.new (o:=.tup [.bl true]) ha2)).trans sJ2
 obtain ⟨qv,rfl,gqv⟩:=rv2.kt (KT.same (s5.trans sE2))
 refine ⟨_,rfl,_,rfl,_,rfl,ps,_,_,_,rfl,rfl,SqL.of (sE2 _ _ g5),hlast,t,lb,kvs,lk0,_,rfl,rfl,tt.same (s5.trans sE2),zi sE2 rl5,ev2,(by show 2<=sizeLine; decide),fun e2 he2=>?_⟩
 have sF:=Same.new (o:=.tup [.ref b2,.ref qv]) he2
 have sE3:=sE2.trans sF
 have st1':=st1.same (((Same.new (o:=.tup [.bl true]) ha2).trans sJ2).trans sF)
 have st2:StrE (upd J2 e2 (.tup [.ref b2,.ref qv])) (L + 1) (.ref e2):=⟨e2,b2,qv,CD (m + 1) true,r2,rfl,zB,.inl (by rw [HK]; exact sF _ _ g2),sF _ _ gqv,by lia⟩
 refine ⟨_,rfl,_,rfl,ps,_,_,_,rfl,rfl,SqL.of (sE3 _ _ g5),hlast,(by show 1<=sizeLine; decide),fun a3 ha3=>⟨lb,a3,lk0.map V.bl,[.bl false],rfl,rfl,.inl (zi (Same.new ha3) (zi sE3 rl5)),.inl (.inl zB),(fun z=>(hkm _ hlk).1 (FG.mp z)),(by rw [szl,Ae]; have:=(hkm _ hlk).2; show lk0.length + 1<=_; lia),(fun z=>nomatch z),fun _ b3 hb3=>⟨(by show 1<=sizeLine; decide),fun c3 hc3=>⟨(by show 2<=sizeLine; decide),fun e3 he3=>⟨(by show 3<=sizeLine; decide),fun p5 hp5=>?_⟩⟩⟩⟩⟩
 have sa:=Same.new (o:=.tup [.bl false]) ha3
 have sb:=Same.new (o:=.tup (lk0.map V.bl++[.bl false])) hb3
 have sc:=Same.new (o:=.tup [.int 1]) hc3
 have sd:=Same.new (o:=.tup [.ref b3,.ref c3]) he3
 have s5':=Same.new (o:=.lst [.ref e1,.ref e2,.ref e3]) hp5
 have sG:=(((sa.trans sb).trans sc).trans sd).trans s5'
 have sT:=sE3.trans sG
 have hst:∀ v∈[V.ref e1,V.ref e2,V.ref e3],StrE (upd (upd (upd (upd (upd (upd J2 e2 (.tup [.ref b2,.ref qv])) a3 (.tup [.bl false])) b3 (.tup (lk0.map V.bl++[.bl false]))) c3 (.tup [.int 1])) e3 (.tup [.ref b3,.ref c3])) p5 (.lst [.ref e1,.ref e2,.ref e3])) (L + 1) v:=fun v hv=>by
  rcases Aq.mp hv with z | hv
  ·rw [z]; exact st1'.same sG
  ·rcases Aq.mp hv with z | hv
   ·rw [z]; exact st2.same sG
   ·rw [Af.mp hv]
    exact ⟨e3,b3,c3,lk0++[false],[1],rfl,s5' _ _ zB,.inl (by rw [AN]; exact s5' _ _ (sd _ _ (sc _ _ zB))),s5' _ _ (sd _ _ zB),by show 1<=L + 1; lia⟩
 obtain ⟨z,ez⟩:∃ z:Int,n / 2 % 2 + (if decide (V.int (n % 5)=V.int 0)=true then 1 else 0)=z:=⟨_,rfl⟩
 have hz:0<=z/\z < 3:=by
  have h1:0<=n / 2 % 2:=Bo _ (by decide)
  have h2:n / 2 % 2 < 2:=AV _ (by decide)
  rw [<- ez]
  split <;> constructor <;> lia
 obtain ⟨vz,hvz,hzm⟩:=qY (xs:=[V.ref e1,V.ref e2,V.ref e3]) (r:=z) hz.1 hz.2
 obtain ⟨ez',bz,cz,kz,rz,rfl,gz1,gz2,gz3,gz4⟩:=hst vz hzm
 refine ⟨_,rfl,_,rfl,_,_,rfl,rfl,⟨by decide,by decide⟩,_,_,rfl,rfl,(by show (0:Int) < 2; decide),_,rfl,_,_,rfl,rfl,(by show (0:Int) < 5; decide),rfl,.inr ⟨_,rfl,_,_,rfl,rfl,p5,_,_,_,rfl,rfl,SqL.of zB,(by rw [ez]; exact hvz),ez',_,rfl,SqT.of gz1,rfl,_,_,rfl,_,_,rfl,rfl,?_⟩⟩
 refine ⟨_,rfl,_,rfl,_,rfl,pf,bz,_,kz,rfl,rfl,t5.same sT,gz2,?_,fun H6 k6 t6=>?_⟩
 ·rw [szl,pe5.length,Dj]; split <;> lia
 have n5:NT H5 pf:=aEN t5
 have n6:∀ c∈[pf],NT _ c:=fun c hc=>by rw [Af.mp hc]; exact aEN (t5.same sT)
 have k6':=jq k6
 have p6:=qj (jA k6' n6) (aGI (qj (KT.same sT) pe5) (k:=kz) ⟨cz,rfl,gz3⟩)
 refine ⟨_,rfl,q pf _ H6 (fun b u e=>k6' _ _ (sT _ _ (s5 _ _ e)) (fun y=>zE e npf (Af.mp y))) npf ⟨_,t6,p6⟩ ?_ (RL.put (fun x hx=>At (hRL x ((Fh rs i).subset hx)) (by lia)) gz4)⟩
 refine At (jp _ _ _) ?_
 rw [Dj]; split <;> lia
noncomputable def KR (H H':Hp):Prop:=∀ b ys,Rd H b (.tup ys)->Rd H' b (.tup ys)
theorem KR.same {H H':Hp} (s:Same H H'):KR H H':=fun _ _ h=>zi s h
theorem KR.trans {H H' H2:Hp} (a:KR H H') (b:KR H' H2):KR H H2:=fun _ _ h=>b _ _ (a _ _ h)
theorem KR.updL {H:Hp} {l:Addr} {xs ys:List V} (g:H l=some (.lst xs)):KR H (upd H l (.lst ys)):=fun b zs h=>by
 rcases h with h | ⟨o,h⟩
 ·exact .inl (by rw [zI (fun z=>by rw [z,g] at h; cases h)]; exact h)
 ·exact .inr ⟨o,by rw [zI (fun z=>by rw [z,g] at h; cases h)]; exact h⟩
theorem RdT.kr {H H':Hp} (k:KR H H') {v:V} {x:List Bool} (h:RdT H v x):RdT H' v x:=let ⟨t,e,r⟩:=h; ⟨t,e,k _ _ r⟩
theorem prT {H H':Hp} (k:KR H H') {ys:List V} {ks:List (List Bool)} (h:Bm (RdT H) ys ks):Bm (RdT H') ys ks:=Paired.mapP h fun _ _ h=>RdT.kr k h
theorem aHi {α β:Type} {R:α->β->Prop} {a:List α} {b:List β} (h:Bm R a b):Bm R a.reverse b.reverse:=by
 induction h with
 | nil=>exact .nil
 | cons h t ih=>rw [Gn,Gn]; exact yU ih h
theorem erase_perm {α:Type}:∀ {l:List α} {j:Nat} {x:α},l[j]?=some x->(l.eraseIdx j++[x]).Perm l
 | a :: r,0,x,h=>by
  have e:a=x:=BA h
  rw [<- e]
  exact (List.perm_append_singleton a r)
 | a :: r,j + 1,x,h=>(erase_perm (l:=r) h).cons a
theorem aKM {α:Type}:∀ {l:List α} {i j:Nat} {x:α},l.Nodup->l[i]?=some x->l[j]?=some x->i=j
 | a :: r,0,0,x,nd,h1,h2=>rfl
 | a :: r,0,j + 1,x,nd,h1,h2=>absurd (by have e:a=x:=BA h1; rw [e]; exact Av h2) (BY.mp nd).1
 | a :: r,i + 1,0,x,nd,h1,h2=>absurd (by have e:a=x:=BA h2; rw [e]; exact Av h1) (BY.mp nd).1
 | a :: r,i + 1,j + 1,x,nd,h1,h2=>by rw [aKM (BY.mp nd).2 h1 h2]
noncomputable def Pk (kvs:List (List Bool×V)) (H:Hp) (v:V) (k:List Bool):Prop:=∃ (pu b:Addr) (x:V),v=.ref pu/\Rd H pu (.tup [.ref b,x])/\Rd H b (.tup (k.map V.bl))/\valV kvs k=some x
theorem Pk.kr {kvs:List (List Bool×V)} {H H':Hp} (s:KR H H') {v:V} {k:List Bool} (h:Pk kvs H v k):Pk kvs H' v k:=let ⟨pu,b,x,h1,h2,h3,h4⟩:=h; ⟨pu,b,x,h1,s _ _ h2,s _ _ h3,h4⟩
theorem aDi {kvs:List (List Bool×V)} {H:Hp} {zs:List V} {ks:List (List Bool)} (h:Bm (Pk kvs H) zs ks):∃ kps,Bm (aIL H) zs kps/\kps.map (·.1)=ks/\(kps.map fun x=>(x.1,x.2.2))=ks.map fun k=>(k,(valV kvs k).getD .non):=by
 induction h with
 | nil=>exact ⟨[],.nil,rfl,rfl⟩
 | cons h t ih =>
  obtain ⟨kps,h1,h2,h3⟩:=ih
  obtain ⟨pu,b,x,rfl,g1,g2,g3⟩:=h
  exact ⟨(_,b,x) :: kps,.cons ⟨pu,rfl,g1,g2⟩ h1,by rw [Aw,h2],by rw [Aw,Aw,h3,g3]; rfl⟩
theorem aGO {H H':Hp} {kvs:List (List Bool×V)} {rs:Tabl} {ks:List (List Bool)} (pe:Bm (RowE H) kvs rs) (nd:(kvs.map (·.1)).Nodup) (kt:KT H H') (pk:ks.Perm (rs.map (·.1))):∃ rs',Bm (RowE H') (ks.map fun k=>(k,(valV kvs k).getD .non)) rs'/\rs'.Perm rs:=by
 have ndr:(rs.map (·.1)).Nodup:=by rw [<- jY pe]; exact nd
 refine ⟨ks.map fun k=>(k,(lk rs k).getD []),?_,?_⟩
 ·have:∀ l:List (List Bool),(∀ k∈l,k∈rs.map (·.1))->Bm (RowE H') (l.map fun k=>(k,(valV kvs k).getD .non)) (l.map fun k=>(k,(lk rs k).getD [])):=by
   intro l
   induction l with
   | nil=>intro _; exact .nil
   | cons k r ih =>
    intro h
    obtain ⟨v,x,ev,rv,hm⟩:=aAC pe nd (h k (AL ..))
    refine .cons ⟨rfl,?_⟩ (ih fun y hy=>h y (AI _ hy))
    show RowV H' ((valV kvs k).getD .non) ((lk rs k).getD [])
    rw [ev,(aCK ndr).mpr hm]
    exact rv.kt kt
  exact this ks fun k hk=>pk.mem_iff.mp hk
 ·have e:rs=(rs.map (·.1)).map fun k=>(k,(lk rs k).getD []):=by
   rw [DO]
   refine (NJ rs).symm.trans (Hr fun p hp=>?_)
   show p=(p.1,(lk rs p.1).getD [])
   rw [(aCK ndr).mpr hp]
   rfl
  exact (pk.map _).trans (MA e.symm)
noncomputable def aKN (P:Ap) (w:AT):Sp:=fun vs H Q _=>∃ (n:Int) (t:Addr) (rs:Tabl),vs=[.int n,.ref t]/\0<=n/\n < 1000000/\Tr P w H t rs/\rs.length<=30 /\
 ∀ (p:Addr) (rs':Tabl) (H':Hp),Same H H'->H p=none->Tw P w H' p rs'->rs'.Perm rs->Q (.ref p) H'
noncomputable abbrev yD:Stmt:=top 30
theorem sc_law_ordered:FnScope ["number","some","keys","waiting","key"] ["number","some"] (zF yD):=⟨rfl,rfl,rfl,by decide +kernel,rfl,by decide +kernel,by decide +kernel⟩
theorem aKO {f:Addr} {fd:BL} (F:Fun K "_law_ordered" "_law_ordered" yD f fd) (B:Blt mg) (Bdict:mg "dict"=none) (Blist:mg "list"=none):FnOk P w K mg base CX0 1 f fd ["number","some"] (aKN P w):=by
 refine F.okW (k:=0) sc_law_ordered (fun vs H Q E h=>?_) (fun cdv A outer s H vs Q E hr h=>?_)
 ·obtain ⟨n,t,rs,rfl,_⟩:=h
  rfl
 obtain ⟨n,t,rs,rfl,n0,n1,⟨kvs,tt,pe⟩,hl,q⟩:=h
 refine ⟨_,(zR (Wr.mk (zS (i:=2) sc_law_ordered.nd rfl (by first | exact Bj rfl | exact Bi rfl) (zW (jV rfl) rfl Blist aAQ (zA (pv 1) zC))))
   (zR (Wr.mk (yd (zU qM (zM ze (pv 0) zD) zD (zZ _)) (zN (zS (i:=2) sc_law_ordered.nd rfl (by first | exact Bj rfl | exact Bi rfl) (aHM (pv 2)))) zg))
   (zR (Wr.mk (zS (i:=3) sc_law_ordered.nd rfl (by first | exact Bj rfl | exact Bi rfl) (zW aA8 rfl Blist aAQ (zA (pv 2) zC))))
   (zR (Wr.mk (aGT BT (PW.pt (aBd (zU qM (zM ze (pv 0) zD) zD (zZ _)) (aB3 (zU (aDG (hu60 hr)) (pv 3) (yz zC) (zZ _))))) (zH (zS (i:=4) sc_law_ordered.nd rfl (by first | exact Bj rfl | exact Bi rfl) (aB4 Ca PySem.F.slot_list_pop PySem.F.type_list_pop aGX (pv 3) (zA (zM ze (zM yE (pv 0) zD) (zO zQ rfl B.len yZ (zA (pv 3) zC))) zC)))
   (zH (yy (aB4 Ca Iu PySem.F.type_list_remove (aEI (hu60 hr)) (pv 2) (zA (pv 4) zC)))
   (zH (yy (aB4 Ca Cz CA yO (pv 2) (zA (pv 4) zC)))
   (zH (zS (i:=0) sc_law_ordered.nd rfl (by first | exact Bj rfl | exact Bi rfl) (zM zn (zM qf (pv 0) zD) zD))
   (zN (zS (i:=0) sc_law_ordered.nd rfl (by first | exact Bj rfl | exact Bi rfl) (zM zn (zM qf (zM yE (zM ze (pv 0) zD) zD) zD) zD)))))))))
   (jy (Wr.mk (zh (zW (jT rfl (hu60 hr)) rfl Bdict aAf (zA (qC (N:=["key","some"]) rfl (qo [none,some 1] rfl (by decide +kernel) (by decide +kernel) rfl rfl) rfl (ye (pv 2)) (fun _ _ _ _=>(zP (i:=0) (show (["key","some"]:List Str).Nodup by decide +kernel) rfl (by first | exact Bj rfl | exact Bi rfl))) (fun _ _ _ _=>aAR) (fun _ _ _ _=>(zv (zA (pv 0) (zA (qa (yf hr) (pv 1) (pv 0) (fun _ _=>rfl)) zC))))) zC))))))))),?_⟩
 try dsimp only [Cx.nox,kx1,kx2,kx3,kx4,kx5,kx6,kx7,kx8,kx9,kxa,kxb,kxc]
 have szl:=AW
 have ek:=jY pe
 have nd:=aCL tt
 have kl:kvs.length=rs.length:=pe.length
 have ndr:(rs.map (·.1)).Nodup:=by rw [<- ek]; exact nd
 refine ⟨_,rfl,t,kvs,rfl,tt,fun p1 ys1 H1 s1 np1 g1 py1=>?_⟩
 dsimp only [jL]
 refine yF (fun σ' H'=>∃ (pk:Addr) (ys:List V) (ks:List (List Bool)),σ'=[some (.int n),some (.ref t),some (.ref pk),none,none]/\Same H H'/\H pk=none/\H' pk=some (.lst ys)/\Bm (RdT H') ys ks/\ks.Perm (rs.map (·.1))) ?_ ?_
 rotate_left
 ·intro X' hX
  refine ⟨_,rfl,_,_,rfl,rfl,(by show (0:Int) < 3; decide),rfl,_,rfl,ite2 (fun c=>?_) (fun c=>jZ (hX _ _ ⟨p1,ys1,_,rfl,s1,np1,g1,py1,MA ek⟩))⟩
  refine ⟨_,rfl,p1,ys1,rfl,SqL.of g1,fun p2 hp2=>hX _ _ ⟨p2,ys1.reverse,(kvs.map (·.1)).reverse,rfl,s1.trans (Same.new hp2),zc s1 hp2,zB,prT (KR.same (Same.new hp2)) (aHi py1),?_⟩⟩
  rw [<- ek]
  exact Lz _
 rintro σ' H2 ⟨pk,ys,ks,rfl,s2,npk,g2,py2,pm2⟩
 have kl2:ks.length=rs.length:=by rw [pm2.length_eq,Ae]
 refine ⟨_,rfl,pk,ys,rfl,.inl (SqL.of g2),fun pw hpw=>?_⟩
 have nkw:pk≠pw:=zE g2 hpw
 have npw:H pw=none:=zc s2 hpw
 dsimp only [jL]
 obtain ⟨W,eW⟩:∃ W:Nat->St->Hp->Prop,W=fun j σ H'=>∃ (n':Int) (ys:List V) (ks:List (List Bool)) (ws:List V) (wk:List (List Bool)) (o4:Option V),σ=[some (.int n'),some (.ref t),some (.ref pk),some (.ref pw),o4]/\0<=n'/\n' < 1000000/\Same H H'/\H' pk=some (.lst ys)/\Bm (RdT H') ys ks/\ks.Perm (rs.map (·.1))/\H' pw=some (.lst ws)/\Bm (RdT H') ws wk/\(∀ k∈wk,k∈ks)/\ws.length<=30/\j=ws.length:=⟨_,rfl⟩
 refine yF (fun σ' H'=>∃ j,W j σ' H') ?_ ?_
 rotate_left
 ·intro X' hX
  have sw:=Same.new (o:=.lst ys) hpw
  refine ⟨W,⟨ys.length,by rw [eW]; exact ⟨n,ys,ks,ys,ks,_,rfl,n0,n1,s2.trans sw,sw _ _ g2,prT (KR.same sw) py2,pm2,zB,prT (KR.same sw) py2,fun _ h=>h,by rw [py2.length,kl2]; exact hl,rfl⟩⟩,?_⟩
  intro j σ3 H3 hW
  have hW0:=hW
  rw [eW] at hW
  obtain ⟨n',ys3,ks3,ws,wk,o4,rfl,a0,a1,s3,g3,py3,pm3,gw,pw3,sub,wl,rfl⟩:=hW
  refine ⟨_,rfl,_,_,rfl,rfl,(by show (0:Int) < 3; decide),rfl,_,rfl,ite2 (fun c=>?_) (fun c=>ite2 (fun z=>nomatch z) fun _=>hX _ _ ⟨_,hW0⟩)⟩
  refine ⟨_,rfl,(by show 0<=sizeLine; decide),fun p0 hp0=>⟨pw,p0,ws,rfl,rfl,SqL.of (Same.new hp0 _ _ gw),SqL.of zB,_,rfl,ite2 (fun c2=>?_) (fun c2=>hX _ _ ⟨ws.length,?_⟩)⟩⟩
  all_goals have s0:=Same.new (o:=.lst []) hp0
  all_goals have s4:=s3.trans s0
  all_goals have g4:=s0 _ _ g3
  all_goals have gw4:=s0 _ _ gw
  all_goals have py4:=prT (KR.same s0) py3
  all_goals have pw4:=prT (KR.same s0) pw3
  rotate_left
  ·rw [eW]
   exact ⟨n',ys3,ks3,ws,wk,o4,rfl,a0,a1,s4,g4,py4,pm3,gw4,pw4,sub,wl,rfl⟩
  have wne:ws≠[]:=fun z=>by rw [z] at c2; exact absurd c2 (by decide)
  have wpos:0 < ws.length:=BQ.mpr wne
  have yl3:ys3.length<=30:=by rw [py3.length,pm3.length_eq,Ae]; exact hl
  obtain ⟨va,hva,hvm⟩:=qY (xs:=ws) (r:=n' / 3 % (ws.length:Int)) (Bo _ (by lia)) (AV _ (by lia))
  obtain ⟨i,hi1,hi2,hi3,hi4,hi5⟩:=aCV hva
  obtain ⟨k,hk,b,rfl,rb⟩:=yH pw4 hi2
  have ndk:ks3.Nodup:=pm3.nodup_iff.mpr ndr
  obtain ⟨jj,hjj⟩:=BG (sub k (Av hk))
  have dv3:n' / 3 % (ws.length:Int) < 2 ^ 63:=by
   have:=AV (n' / 3) (show (0:Int) < (ws.length:Int) by lia)
   lia
  have dv0:0<=n' / 3 % (ws.length:Int):=Bo _ (by lia)
  refine ⟨fun σ' H'=>W (ws.length - 1) σ' H',fun σ' H' h=>⟨_,by lia,h⟩,?_⟩
  refine ⟨_,rfl,.inl ⟨rfl,_,SqL.of gw4⟩,_,rfl,_,_,rfl,rfl,⟨by decide,by decide⟩,_,rfl,pw,_,rfl,.inl (SqL.of gw4),_,_,rfl,rfl,(by show (0:Int) < (ws.length:Int); lia),pw,ws,_,i,_,rfl,rfl,gw4,by lia,dv3,hi1,hi2,?_⟩
  have kr5:KR _ (upd (upd H3 p0 (.lst [])) pw (.lst (ws.eraseIdx i))):=KR.updL gw4
  have g5:upd (upd H3 p0 (.lst [])) pw (.lst (ws.eraseIdx i)) pk=some (.lst ys3):=by rw [zI nkw]; exact g4
  have py5:=prT kr5 py4
  refine ⟨_,rfl,.inl ⟨rfl,_,SqL.of g5⟩,_,rfl,pk,b,ys3,ks3,k,jj,rfl,rfl,g5,py5,kr5 _ _ rb,hjj,fun i' hi' z=>absurd (aKM ndk z hjj) (AE hi'),?_⟩
  have kr6:KR _ (upd (upd (upd H3 p0 (.lst [])) pw (.lst (ws.eraseIdx i))) pk (.lst (ys3.eraseIdx jj))):=KR.updL g5
  refine ⟨_,rfl,.inl ⟨rfl,_,SqL.of zB⟩,_,rfl,pk,ys3.eraseIdx jj,_,rfl,rfl,zB,by rw [szl,Dj]; split <;> lia,?_⟩
  refine ⟨_,rfl,_,_,rfl,rfl,?_,_,_,rfl,rfl,?_⟩
  ·exact .inr ⟨by decide,by decide⟩
  refine ⟨_,rfl,_,_,rfl,rfl,(by show (0:Int) < 999983; decide),_,_,rfl,rfl,⟨by decide,by decide⟩,_,_,rfl,rfl,.inr ⟨by decide,by decide⟩,_,_,rfl,rfl,?_⟩
  show W (ws.length - 1) _ _
  rw [eW]
  have m0:0<=(n' * 4 + 3) % 999983:=Bo _ (by decide)
  have m1:(n' * 4 + 3) % 999983 < 999983:=AV _ (by decide)
  have kr7:KR _ (upd (upd (upd (upd H3 p0 (.lst [])) pw (.lst (ws.eraseIdx i))) pk (.lst (ys3.eraseIdx jj))) pk (.lst (ys3.eraseIdx jj++[.ref b]))):=KR.updL zB
  have kr57:=kr6.trans kr7
  have kr47:=kr5.trans kr57
  refine ⟨_,ys3.eraseIdx jj++[.ref b],ks3.eraseIdx jj++[k],ws.eraseIdx i,wk.eraseIdx i,_,rfl,by lia,by lia,zf (zf (zf s4 npw) npk) npk,zB,yU (pr_erase (prT kr57 py5) jj) ⟨b,rfl,kr47 _ _ rb⟩,(erase_perm hjj).trans pm3,?_,pr_erase (prT kr47 pw4) i,?_,?_,?_⟩
  ·rw [zI nkw.symm,zI nkw.symm]; exact zB
  ·intro k' hk'
   exact (erase_perm hjj).mem_iff.mpr (sub k' ((Fh wk i).subset hk'))
  ·rw [Dj]; split <;> lia
  ·rw [Dj,if_pos hi3]
 rintro σ' H3 ⟨j,hW⟩
 rw [eW] at hW
 obtain ⟨n',ys3,ks3,ws,wk,o4,rfl,a0,a1,s3,g3,py3,pm3,gw,pw3,sub,wl,rfl⟩:=hW
 have pe3:=qj (KT.same s3) pe
 have tt3:=tt.same s3
 have ks3l:ks3.length<=30:=by rw [pm3.length_eq,Ae]; exact hl
 refine ⟨_,rfl,pk,rfl,⟨_,SqL.of g3⟩,fun D hD C s' fp=>?_⟩
 refine jd (K:=K) (a:=pk) (xs:=ys3) (tt:=fun _ H Q=>Q true H) (fun i zs σ H5=>∃ o:Option V,σ=[o,some (.ref t)]/\Same H3 H5/\Bm (Pk kvs H5) zs (ks3.take i)) (fun i zs σ H5 ⟨_,_,g,_⟩=>SqL.of (g _ _ g3)) ⟨none,rfl,Same.new hD,by rw [CQ]; exact .nil⟩ ?_ ?_
 ·rintro i x zs σ H5 hi hzl ⟨o,rfl,s5,hz⟩ g5
  obtain ⟨k,hk,b,rfl,rb⟩:=yH py3 hi
  have hil:=(Ao.mp hi).1
  have yl3:=py3.length
  obtain ⟨v,r,ev,rv,hm⟩:=aAC pe nd (pm3.mem_iff.mp (Av hk))
  have rb5:=zi s5 rb
  refine ⟨_,rfl,_,rfl,_,rfl,t,b,kvs,k,v,rfl,rfl,tt3.same s5,rb5,ev,(by show 2<=sizeLine; decide),fun pu hpu=>?_⟩
  have su:=Same.new (o:=.tup [.ref b,v]) hpu
  have g6:=su _ _ g5
  refine ⟨zs,g6,by rw [szl]; lia,zs++[.ref pu],by rw [Al]; exact CS hzl,⟨_,rfl,zf (s5.trans su) hD,?_⟩,zB⟩
  rw [zT hk]
  have kr:=KR.updL (ys:=zs++[.ref pu]) g6
  have kr2:=(KR.same su).trans kr
  exact yU (Paired.mapP hz fun _ _ h=>Pk.kr kr2 h) ⟨pu,b,v,rfl,kr _ _ (.inl zB),kr2 _ _ rb5,ev⟩
 ·rintro zs σ H5 ⟨o,rfl,s5,hz⟩ g5
  rw [py3.length,AZ] at hz
  obtain ⟨kps,h1,h2,h3⟩:=aDi hz
  have kpl:kps.length=ks3.length:=by rw [<- h2,Ae]
  refine ⟨D,zs,kps,rfl,g5,h1,by rw [h2]; exact pm3.nodup_iff.mpr ndr,by lia,fun d H6 nd6 s6 tb=>?_⟩
  have s36:=s5.trans s6
  obtain ⟨rs',pr',pm'⟩:=aGO pe3 nd (KT.same s36) pm3
  exact q d rs' H6 (s3.trans s36) (zc (s3.trans s5) nd6) ⟨_,by rw [<- h3]; exact tb,pr'⟩ pm'
noncomputable def KK (H H':Hp):Prop:=∀ b u,H b=some u->(∀ xs,u≠.lst xs)->H' b=some u
theorem KK.same {H H':Hp} (s:Same H H'):KK H H':=fun b u e _=>s b u e
theorem KK.trans {H H' H2:Hp} (a:KK H H') (b:KK H' H2):KK H H2:=fun x u e n=>b x u (a x u e n) n
theorem KK.updL {H:Hp} {l:Addr} {xs ys:List V} (g:H l=some (.lst xs)):KK H (upd H l (.lst ys)):=fun b u e n=>by
 rw [zI (fun z=>by rw [z,g] at e; cases e; exact n _ rfl)]; exact e
theorem KK.rd {H H':Hp} (k:KK H H') {b:Addr} {u:HO} (n:∀ xs,u≠.lst xs) (h:Rd H b u):Rd H' b u:=by
 rcases h with h | ⟨o,h⟩
 ·exact .inl (k _ _ h n)
 ·exact .inr ⟨o,k _ _ h fun xs z=>by cases z⟩
theorem KK.kt {H H':Hp} (k:KK H H'):KT H H':=fun b ys e=>k b _ e fun xs z=>by cases z
theorem Tr.kk {H H':Hp} {a:Addr} {rs:Tabl} (k:KK H H') (t:Tr P w H a rs):Tr P w H' a rs:=by
 obtain ⟨kvs,⟨xs,h1,h2,h3,h4,h5⟩,pe⟩:=t
 exact ⟨kvs,⟨xs,k.rd (fun xs z=>by unfold DbO at z; cases z) h1,h2,h3,Paired.mapP h4 fun _ _ z=>⟨z.1,k.rd (fun xs y=>by cases y) z.2.1,z.2.2⟩,h5⟩,qj k.kt pe⟩
noncomputable def Dc (P:Ap) (w:AT) (H:Hp) (v:V):Prop:=∃ (b:Addr) (rs:Tabl),v=.ref b/\Tr P w H b rs/\rs.length<=30
theorem Dc.kk {H H':Hp} {v:V} (k:KK H H') (h:Dc P w H v):Dc P w H' v:=let ⟨b,rs,h1,h2,h3⟩:=h; ⟨b,rs,h1,Tr.kk k h2,h3⟩
theorem jr {ns:List Int} (hN:Nums ns):(tabL ns).length<=15:=by
 have:=pow2 hN.1
 have e:(tabL ns).length=2 ^ ns.length - 1:=by unfold tabL; rw [Ae,Ae,aBa]
 rw [e]; lia
theorem aIg {ns:List Int} (hN:Nums ns):KsOk (tabL ns):=by
 refine ⟨At (jr hN) (by decide),fun q hq=>?_⟩
 have hk:q.1∈(tabL ns).map (·.1):=AJ.mpr ⟨q,hq,rfl⟩
 rw [aCN] at hk
 obtain ⟨b,hb,e⟩:=AJ.mp hk
 have hl:q.1.length=ns.length:=by rw [<- e]; exact jR _ _
 obtain ⟨j,hj,rfl⟩:=AJ.mp hb
 have hj:=Cb.mp hj
 refine ⟨fun z=>?_,by rw [hl]; exact hN.1⟩
 rw [z] at hl
 rw [<- hl] at hj
 exact absurd hj (by show ¬ j < 2 ^ 0 - 1; lia)
theorem aIh {ns:List Int} (hN:Nums ns):RL (tabL ns) 3240:=fun q hq=>by
 unfold tabL at hq
 obtain ⟨c,hc,rfl⟩:=AJ.mp hq
 exact At (aCk (At (yG ns c) hN.1)) (aBW _)
theorem Nums.rev {ns:List Int} (hN:Nums ns):Nums ns.reverse:=⟨by rw [Cq]; exact hN.1,fun n hn=>hN.2 n (List.mem_reverse.mp hn)⟩
theorem KsOk.of {rs rs':Tabl} (h:KsOk rs) (e:(rs=[]/\rs'=[([true],[1])])\/rs'.map (·.1)=rs.map (·.1)):KsOk rs':=by
 rcases e with ⟨_,e⟩ | e
 ·rw [e]
  exact ⟨by decide,fun q hq=>by rw [Af.mp hq]; exact ⟨by decide,by decide⟩⟩
 ·have hl:rs'.length=rs.length:=by rw [<- Ae (f:=(·.1)),e,Ae]
  refine ⟨by rw [hl]; exact h.1,fun q hq=>?_⟩
  have:q.1∈rs.map (·.1):=by rw [<- e]; exact AJ.mpr ⟨q,hq,rfl⟩
  obtain ⟨x,hx,ex⟩:=AJ.mp this
  rw [<- ex]
  exact h.2 x hx
theorem aGP:∀ l:List Bool,deps (l.map L2.D.bl)=0
 | []=>rfl
 | b :: r=>by
  rw [Aw,deps,aGP r]
  rfl
noncomputable def dK (k:List Bool):L2.D:=.tup (k.map L2.D.bl)
theorem aGQ:∀ l:List (List Bool),deps (l.map dK)<=1
 | []=>by rw [Cu,deps]; decide
 | k :: r=>by
  have:=aGQ r
  rw [Aw,deps,dK,D.dep,aGP]
  lia
theorem aGR {H:Hp}:∀ l:List Bool,Reps K H (l.map L2.D.bl) (l.map V.bl)
 | []=>by rw [Cu,Cu,Reps]
 | b :: r=>by
  rw [Aw,Aw,Reps]
  exact ⟨_,_,rfl,by rw [Rep],aGR r⟩
theorem aIi {H:Hp} {ys:List V} {ks:List (List Bool)} (h:Bm (RdT H) ys ks):Reps K H (ks.map dK) ys:=by
 induction h with
 | nil=>rw [Cu,Reps]
 | cons h t ih =>
  obtain ⟨b,rfl,rd⟩:=h
  rw [Aw,Reps]
  exact ⟨_,_,rfl,by rw [dK,Rep]; exact ⟨b,_,rfl,.inl rd,aGR _⟩,ih⟩
theorem aDj {H:Hp} {p:Addr} {ys:List V} {ks:List (List Bool)} (g:H p=some (.lst ys)) (h:Bm (RdT H) ys ks):Rep K H (.lst (ks.map dK)) (.ref p):=by
 rw [Rep]
 exact ⟨p,ys,rfl,SqL.of g,aIi h⟩
structure Lw (P:Ap) (w:AT) (H:Hp) (pn pt:Addr) (ns:List Int) (pd:Addr) (ds:List V) (Hx:Hp):Prop where
 sH:Same H Hx
 gn:Hx pn=some (.tup (ns.map V.int))
 tw:Tr P w Hx pt (tabL ns)
 gd:Hx pd=some (.lst ds)
 hd:∀ v∈ds,Dc P w Hx v
theorem Lw.same {H:Hp} {pn pt pd:Addr} {ns:List Int} {ds:List V} {Hx Hy:Hp} (h:Lw P w H pn pt ns pd ds Hx) (s:Same Hx Hy):Lw P w H pn pt ns pd ds Hy :=
 ⟨h.sH.trans s,s _ _ h.gn,h.tw.same s,s _ _ h.gd,fun v hv=>Dc.kk (KK.same s) (h.hd v hv)⟩
theorem Lw.app {H:Hp} {pn pt pd:Addr} {ns:List Int} {ds:List V} {Hx:Hp} (h:Lw P w H pn pt ns pd ds Hx) (np:H pd=none) {v:V} (hv:Dc P w Hx v):Lw P w H pn pt ns pd (ds++[v]) (upd Hx pd (.lst (ds++[v]))):=by
 have k:KK Hx (upd Hx pd (.lst (ds++[v]))):=KK.updL h.gd
 refine ⟨zf h.sH np,k.kt _ _ h.gn,Tr.kk k h.tw,zB,fun x hx=>?_⟩
 rcases Ar.mp hx with hx | hx
 ·exact Dc.kk k (h.hd x hx)
 ·rw [Af.mp hx]; exact Dc.kk k hv
theorem Lw.cat {H:Hp} {pn pt pd pe:Addr} {ns:List Int} {ds zs:List V} {Hx:Hp} (h:Lw P w H pn pt ns pd ds Hx) (hz:∀ v∈zs,Dc P w Hx v) (hp:Hx pe=none):Lw P w H pn pt ns pe (ds++zs) (upd Hx pe (.lst (ds++zs))):=by
 have s:=Same.new (o:=.lst (ds++zs)) hp
 refine ⟨h.sH.trans s,s _ _ h.gn,h.tw.same s,zB,fun x hx=>?_⟩
 rcases Ar.mp hx with hx | hx
 ·exact Dc.kk (KK.same s) (h.hd x hx)
 ·exact Dc.kk (KK.same s) (hz x hx)
noncomputable abbrev aBc:Stmt:=top 31
theorem sc_law:FnScope ["script","numbers","table","other","dicts","twice","k","some","handed","keys","found","right"] ["script"] (zF aBc):=⟨rfl,rfl,rfl,by decide +kernel,rfl,by decide +kernel,by decide +kernel⟩
theorem aKP {f:Addr} {fd:BL} (F:Fun K "law" "law" aBc f fd) (B:Blt mg) (Bdict:mg "dict"=none) (Blist:mg "list"=none) (Bsorted:mg "sorted"=none) (Benum:mg "enumerate"=none) (Gnum:Def P w K mg base CX0 1 "_law_number" (aIY K)) (Gnums:Def P w K mg base CX0 2 "_law_numbers" (aHb K)) (Gtbl:Def P w K mg base CX0 4 "_law_table" (aKD P w)) (Gspo:Def P w K mg base CX0 2 "_law_spoilt" (aKI P w)) (Gcou:Def P w K mg base CX0 1 "_law_counted_alike" (aKK P w)) (Gorl:Def P w K mg base CX0 1 "_law_ordered" (aKN P w)) (Gts:Def P w K mg base CX0 11 "table_shown" (aKB P w)):FnOk P w K mg base CX0 30 f fd ["script"] (aGp K):=by
 refine F.okW (k:=29) sc_law (fun vs H Q E h=>?_) (fun cdv A outer s H vs Q E hr h=>?_)
 ·obtain ⟨a,xs,rfl,_⟩:=h
  rfl
 obtain ⟨a,xs,rfl,hS,hl,q⟩:=h
 refine ⟨_,(zR (Wr.mk (zS (i:=1) sc_law.nd rfl (by first | exact Bj rfl | exact Bi rfl) (zj Gnums (hr.mono (by lia)) (zA (pv 0) (zA zD (zA zD zC))))))
   (zR (Wr.mk (zS (i:=2) sc_law.nd rfl (by first | exact Bj rfl | exact Bi rfl) (zj Gtbl (hr.mono (by lia)) (zA (pv 1) zC))))
   (zR (Wr.mk (zS (i:=3) sc_law.nd rfl (by first | exact Bj rfl | exact Bi rfl) (zj Gnums (hr.mono (by lia)) (zA (pv 0) (zA zD (zA zD zC))))))
   (zR (Wr.mk (zS (i:=4) sc_law.nd rfl (by first | exact Bj rfl | exact Bi rfl) (yz (zA (pv 2) (zA (zj Gtbl (hr.mono (by lia)) (zA (aCf (pv 1)) zC)) (zA (zj Gtbl (hr.mono (by lia)) (zA (pv 3) zC)) (zA aBR zC)))))))
   (zR (Wr.mk (zS (i:=4) sc_law.nd rfl (by first | exact Bj rfl | exact Bi rfl) (zM aEi (pv 4) (qC (N:=["k","table","script","numbers"]) rfl (qo [none,some 2,some 0,some 1] rfl (by decide +kernel) (by decide +kernel) rfl rfl) rfl (qO rfl B.range (zA zD zC)) (fun _ _ _ _=>(zP (i:=0) (show (["k","table","script","numbers"]:List Str).Nodup by decide +kernel) rfl (by first | exact Bj rfl | exact Bi rfl))) (fun _ _ _ _=>aAR) (fun _ _ _ _=>(zj Gspo (hr.mono (by lia)) (zA (zj Gnum (hr.mono (by lia)) (zA (pv 2) (zA (zM zn zD (pv 0)) zC))) (zA (pv 1) (zA (zO zQ rfl B.len yZ (zA (pv 3) zC)) zC)))))))))
   (zR (Wr.mk (zS (i:=5) sc_law.nd rfl (by first | exact Bj rfl | exact Bi rfl) (zj Gspo (hr.mono (by lia)) (zA (zM qf (zM yE (zj Gnum (hr.mono (by lia)) (zA (pv 0) (zA zD zC))) zD) zD) (zA (pv 2) (zA (zO zQ rfl B.len yZ (zA (pv 1) zC)) zC))))))
   (zR (Wr.mk (yy (aB4 Ca Cz CA yO (pv 4) (zA (zj Gcou (hr.mono (by lia)) (zA zD (zA (pv 2) (zA (zO zQ rfl B.len yZ (zA (pv 1) zC)) zC)))) zC))))
   (zR (Wr.mk (yy (aB4 Ca Cz CA yO (pv 4) (zA (zj Gcou (hr.mono (by lia)) (zA (zj Gnum (hr.mono (by lia)) (zA (pv 0) (zA zD zC))) (zA (pv 2) (zA (zO zQ rfl B.len yZ (zA (pv 1) zC)) zC)))) zC))))
   (zR (Wr.mk (zS (i:=4) sc_law.nd rfl (by first | exact Bj rfl | exact Bi rfl) (zM aEi (pv 4) (yz (zA (pv 2) (zA (pv 2) (zA (zj Gspo (hr.mono (by lia)) (zA (zj Gnum (hr.mono (by lia)) (zA (pv 0) (zA zD zC))) (zA (pv 5) (zA (zO zQ rfl B.len yZ (zA (pv 1) zC)) zC)))) zC)))))))
   (zR (Wr.mk (yg BT rfl (aH1 Benum (zA (pv 4) zC)) (aA7 rfl (zk (zP (i:=6) sc_law.nd rfl (by first | exact Bj rfl | exact Bi rfl)) (zk (zP (i:=7) sc_law.nd rfl (by first | exact Bj rfl | exact Bi rfl)) qk))) (zH (zS (i:=8) sc_law.nd rfl (by first | exact Bj rfl | exact Bi rfl) (zj Gorl (hr.mono (by lia)) (zA (zM zn (zM qf (zj Gnum (hr.mono (by lia)) (zA (pv 0) (zA (zM zn zD (pv 6)) zC))) (zW aAO rfl B.int aEn (zA (jM aHo (pv 6) zD (zZ _)) zC))) (zM qf zD (zW aAO rfl B.int aEn (zA (jM qM (pv 6) zD (zZ _)) zC)))) (zA (pv 7) zC))))
   (zH (zS (i:=9) sc_law.nd rfl (by first | exact Bj rfl | exact Bi rfl) (zW (jV rfl) rfl Blist aAQ (zA (pv 8) zC)))
   (zH (zS (i:=10) sc_law.nd rfl (by first | exact Bj rfl | exact Bi rfl) (zj Gts (hr.mono (by lia)) (zA (pv 1) (zA (pv 8) zC))))
   (zH (yd (PW.pt (aIo (aIp (aD4 (aHy B.isinstance B.bool aHx (pv 10)))) (aHI (zU aIt (pv 10) (jM (aBT (hu60 hr)) (pv 7) (pv 2) (zZ _)) (zZ _))))) (zN (zh qT)) zg)
   (zN (yd (PW.pt (aIo (zU (aGx (hu60 hr)) (pv 8) (pv 7) (zZ _)) (aHI (zU (aJ7 (hu60 hr)) (zW (jV rfl) rfl Blist aAQ (zA (pv 8) zC)) (pv 9) (zZ _))))) (zN (zh qT)) zg))))))))
   (zR (Wr.mk (zS (i:=11) sc_law.nd rfl (by first | exact Bj rfl | exact Bi rfl) (zW (jT rfl (hu60 hr)) rfl Bdict aAf (zA (qC (N:=["key","table"]) rfl (qo [none,some 2] rfl (by decide +kernel) (by decide +kernel) rfl rfl) rfl (ye (aHM (zO (jU rfl) rfl Bsorted qA (zA (pv 2) zC)))) (fun _ _ _ _=>(zP (i:=0) (show (["key","table"]:List Str).Nodup by decide +kernel) rfl (by first | exact Bj rfl | exact Bi rfl))) (fun _ _ _ _=>aAR) (fun _ _ _ _=>(zv (zA (pv 0) (zA (qa (yf hr) (pv 1) (pv 0) (fun _ _=>rfl)) zC))))) zC))))
   (jy (Wr.mk (zh (jM aJn (zj Gts (hr.mono (by lia)) (zA (pv 1) (zA (pv 11) zC))) qT (zZ _)))))))))))))))),?_⟩
 try dsimp only [Cx.nox,kx1,kx2,kx3,kx4,kx5,kx6,kx7,kx8,kx9,kxa,kxb,kxc]
 have szl:=AW
 refine ⟨_,rfl,a,xs,0,4,rfl,hS,hl,by decide,by decide,by decide,fun pn ns H1 s1 _ gn hN _=>?_⟩
 refine ⟨_,rfl,pn,ns,rfl,gn,hN,fun pt H2 s2 npt tw=>?_⟩
 refine ⟨_,rfl,a,xs,6,4,rfl,yo (s1.trans s2) hS,hl,by decide,by decide,by decide,fun po os H3 s3 _ go hO _=>?_⟩
 refine ⟨_,rfl,_,rfl,pn,ns.map V.int,rfl,SqT.of ((s2.trans s3) _ _ gn),fun pr hpr=>⟨pr,ns.reverse,rfl,by rw [IV]; exact zB,hN.rev,fun p2 H4 s4 np2 tw2=>?_⟩⟩
 have sr:=Same.new (o:=.tup (ns.map V.int).reverse) hpr
 have s34:=sr.trans s4
 refine ⟨_,rfl,po,os,rfl,s34 _ _ go,hO,fun p3 H5 s5 np3 tw3=>fun p4 hp4 hsys=>⟨(by show 4<=sizeLine; decide),fun pd hpd=>?_⟩⟩
 have sd4:=Same.new (o:=DbO P w p4 []) hp4
 have sdd:=Same.new (o:=.lst [.ref pt,.ref p2,.ref p3,.ref p4]) hpd
 have s56:=sd4.trans sdd
 have s26:=s3.trans (s34.trans (s5.trans s56))
 have gn6:=s26 _ _ (s2 _ _ gn)
 have tw6:Tr P w _ pt (tabL ns):=(tw.same s26).r
 have hS6:=yo ((s1.trans s2).trans s26) hS
 have hd6:∀ v∈[V.ref pt,.ref p2,.ref p3,.ref p4],Dc P w (upd (upd H5 p4 (DbO P w p4 [])) pd (.lst [.ref pt,.ref p2,.ref p3,.ref p4])) v:=by
  intro v hv
  rcases Aq.mp hv with z | hv
  ·exact ⟨pt,_,z,tw6,At (jr hN) (by decide)⟩
  rcases Aq.mp hv with z | hv
  ·exact ⟨p2,_,z,(tw2.same (s5.trans s56)).r,At (jr hN.rev) (by decide)⟩
  rcases Aq.mp hv with z | hv
  ·exact ⟨p3,_,z,(tw3.same s56).r,At (jr hO) (by decide)⟩
  ·exact ⟨p4,[],Af.mp hv,⟨[],⟨[],.inl (sdd _ _ zB),AS _,hsys,.nil,CZ⟩,.nil⟩,AS _⟩
 have gd6:upd (upd H5 p4 (DbO P w p4 [])) pd (.lst [.ref pt,.ref p2,.ref p3,.ref p4]) pd=some (.lst [.ref pt,.ref p2,.ref p3,.ref p4]):=zB
 have lw6:Lw P w H pn pt ns pd _ _:=⟨(s1.trans s2).trans s26,gn6,tw6,gd6,hd6⟩
 generalize upd (upd H5 p4 (DbO P w p4 [])) pd (.lst [.ref pt,.ref p2,.ref p3,.ref p4])=H6 at lw6 ⊢
 have ksT:=aIg hN
 have rlT:=aIh hN
 have lnT:=jr hN
 clear sdd sd4 s56 s26 s34 sr tw tw2 tw3 hpd hp4 gn6 tw6 hS6 hd6 gd6
 refine ⟨_,rfl,6,rfl,by decide,by decide,fun D hD C s' fp=>?_⟩
 refine jv (n:=6) (tt:=fun _ H Q=>Q true H) (fun i zs σ H7=>∃ o:Option V,σ=[o,some (.ref pt),some (.ref a),some (.ref pn)]/\Same H6 H7/\zs.length=i/\∀ v∈zs,Dc P w H7 v) ⟨none,rfl,Same.new hD,rfl,fun v hv=>nomatch hv⟩ ?_ ?_
 ·rintro i zs σ H7 hi hzl ⟨o,rfl,s7,zl,hz⟩ g7
  refine ⟨_,rfl,_,rfl,_,_,rfl,rfl,a,xs,_,rfl,yo (lw6.same s7).sH hS,hl,by lia,by lia,fun r H8 r0 r1 s8=>?_⟩
  have s68:=s7.trans s8
  refine ⟨_,rfl,_,rfl,pn,_,rfl,.inr (SqT.of (lw6.same s68).gn),r,pt,ns.length,tabL ns,3240,by rw [Ae]; rfl,r0,r1,hN.1,(lw6.same s68).tw,ksT,rlT,by decide,fun p rs' H9 s9 np tw9 l9 R9 _=>?_⟩
  have g9:=s9 _ _ (s8 _ _ g7)
  refine ⟨zs,g9,by rw [szl]; lia,zs++[.ref p],by rw [Al]; exact CS hzl,⟨_,rfl,zf (s68.trans s9) hD,by rw [Al,zl]; rfl,?_⟩,zB⟩
  have k1:KK H9 (upd H9 D (.lst (zs++[.ref p]))):=KK.updL g9
  intro v hv
  rcases Ar.mp hv with hv | hv
  ·exact Dc.kk ((KK.same (s8.trans s9)).trans k1) (hz v hv)
  ·exact ⟨p,rs',Af.mp hv,Tr.kk k1 tw9.r,by lia⟩
 rintro zs σ H7 ⟨o,rfl,s7,zl,hz⟩ g7
 have lw7:=lw6.same s7
 refine ⟨pd,D,_,zs,rfl,rfl,lw7.gd,g7,by rw [szl,zl]; show 4 + 6<=_; lia,fun pe hpe=>?_⟩
 have lw8:=lw7.cat hz hpe
 have npe:H pe=none:=zc lw7.sH hpe
 obtain ⟨ds8,ed8⟩:∃ ds8,[V.ref pt,.ref p2,.ref p3,.ref p4]++zs=ds8:=⟨_,rfl⟩
 have dl8:ds8.length=10:=by rw [<- ed8,Al,zl]; rfl
 rw [ed8] at lw8 ⊢
 generalize upd H7 pe (.lst ds8)=H8 at lw8 ⊢
 refine ⟨_,rfl,a,xs,18,rfl,yo lw8.sH hS,hl,by decide,by decide,fun r H9 r0 r1 s9=>?_⟩
 have lw9:=lw8.same s9
 refine ⟨_,_,rfl,rfl,⟨by decide,by decide⟩,_,_,rfl,rfl,.inr ⟨by decide,by decide⟩,_,rfl,_,rfl,pn,_,rfl,.inr (SqT.of lw9.gn),r / 8 * 8,pt,ns.length,tabL ns,3240,by rw [Ae]; rfl,by lia,by lia,hN.1,lw9.tw,ksT,rlT,by decide,fun pw rsT H10 s10 npT twT lT RT eT=>?_⟩
 have lw10:=lw9.same s10
 have ksW:KsOk rsT:=ksT.of (eT (by lia))
 refine ⟨_,rfl,.inl ⟨rfl,_,SqL.of lw10.gd⟩,_,rfl,_,rfl,pn,_,rfl,.inr (SqT.of lw10.gn),4,pt,ns.length,tabL ns,3240,by rw [Ae]; rfl,by decide,by decide,hN.1,lw10.tw,ksT,rlT,fun pc rc H11 s11 npc twc lc Rc=>?_⟩
 have lw11:=lw10.same s11
 refine ⟨pe,ds8,_,rfl,rfl,lw11.gd,by rw [szl]; lia,?_⟩
 have lw12:=lw11.app npe ⟨pc,rc,rfl,twc.r,by lia⟩
 have k12:KK H11 _:=KK.updL (ys:=ds8++[.ref pc]) lw11.gd
 have tT12:Tr P w _ pw rsT:=Tr.kk k12 (twT.r.same s11)
 generalize upd H11 pe (.lst (ds8++[.ref pc]))=H12 at lw12 tT12 ⊢
 refine ⟨_,rfl,.inl ⟨rfl,_,SqL.of lw12.gd⟩,_,rfl,a,xs,40,rfl,yo lw12.sH hS,hl,by decide,by decide,fun r' H13 r0' r1' s13=>?_⟩
 have lw13:=lw12.same s13
 refine ⟨_,rfl,_,rfl,pn,_,rfl,.inr (SqT.of lw13.gn),r',pt,ns.length,tabL ns,3240,by rw [Ae]; rfl,r0',r1',hN.1,lw13.tw,ksT,rlT,fun pc' rc' H14 s14 npc' twc' lc' Rc'=>?_⟩
 have lw14:=lw13.same s14
 refine ⟨pe,_,_,rfl,rfl,lw14.gd,by rw [szl,Al,dl8]; show 10 + 1 < _; lia,?_⟩
 have lw15:=lw14.app npe ⟨pc',rc',rfl,twc'.r,by lia⟩
 have k15:KK H14 _:=KK.updL (ys:=ds8++[.ref pc]++[.ref pc']) lw14.gd
 have tT15:Tr P w _ pw rsT:=Tr.kk k15 ((tT12.same s13).same s14)
 obtain ⟨ds,eds⟩:∃ ds,ds8++[.ref pc]++[.ref pc']=ds:=⟨_,rfl⟩
 have dsl:ds.length=12:=by rw [<- eds,Al,Al,dl8]; rfl
 rw [eds] at lw15 tT15 ⊢
 generalize upd H14 pe (.lst ds)=H15 at lw15 tT15 ⊢
 refine ⟨_,rfl,_,rfl,_,rfl,_,rfl,a,xs,19,rfl,yo lw15.sH hS,hl,by decide,by decide,fun r2 H16 r02 r12 s16=>?_⟩
 have lw16:=lw15.same s16
 refine ⟨_,rfl,_,rfl,pn,_,rfl,.inr (SqT.of lw16.gn),r2,pw,ns.length,rsT,3 * 3240 + 1,by rw [Ae]; rfl,r02,r12,hN.1,tT15.same s16,ksW,RT,by decide,fun p5 rs5 H17 s17 np5 tw5 l5 R5 _=>⟨(by show 3<=sizeLine; decide),fun p6 hp6=>?_⟩⟩
 have s18:=Same.new (o:=.lst [.ref pt,.ref pt,.ref p5]) hp6
 have lw18:=(lw16.same s17).same s18
 refine ⟨pe,p6,ds,_,rfl,rfl,lw18.gd,zB,by rw [szl,dsl]; show 12 + 3<=_; lia,fun p7 hp7=>?_⟩
 have hz5:∀ v∈[V.ref pt,.ref pt,.ref p5],Dc P w (upd H17 p6 (.lst [.ref pt,.ref pt,.ref p5])) v:=by
  intro v hv
  rcases Aq.mp hv with z | hv
  ·exact ⟨pt,_,z,lw18.tw,by lia⟩
  rcases Aq.mp hv with z | hv
  ·exact ⟨pt,_,z,lw18.tw,by lia⟩
  ·exact ⟨p5,_,Af.mp hv,(tw5.same s18).r,by lia⟩
 have lw19:=lw18.cat hz5 hp7
 obtain ⟨dz,edz⟩:∃ dz,ds++[V.ref pt,.ref pt,.ref p5]=dz:=⟨_,rfl⟩
 have dzl:dz.length=15:=by rw [<- edz,Al,dsl]; rfl
 rw [edz] at lw19 ⊢
 generalize upd (upd H17 p6 (.lst [.ref pt,.ref pt,.ref p5])) p7 (.lst dz)=H19 at lw19 ⊢
 clear lw18 lw16 lw15 lw14 lw13 lw12 lw11 lw10 lw9 lw8 lw7 lw6 tT12 tT15 hz hz5 k12 k15
 refine ⟨_,rfl,p7,rfl,⟨dz,SqL.of lw19.gd⟩,aG9 (p:=p7) (xs:=dz) (fun i σ Hx=>∃ z6 z7 z8 z9 z10:Option V,σ=[some (.ref a),some (.ref pn),some (.ref pt),some (.ref po),some (.ref p7),some (.ref pw),z6,z7,z8,z9,z10,none]/\Same H19 Hx) ⟨none,none,none,none,none,rfl,Same.refl _⟩ (fun i σ Hx _ ⟨_,_,_,_,_,_,g⟩=>SqL.of (g _ _ lw19.gd)) ?_ ?_⟩
 ·rintro i T x σ Hx hx ⟨z6,z7,z8,z9,z10,rfl,sx⟩ hT
  have hil:=(Ao.mp hx).1
  have sT:=Same.new (o:=.tup [.int (i:Int),x]) hT
  have lwx:=lw19.same (sx.trans sT)
  have s19x:=sx.trans sT
  refine ⟨T,_,rfl,SqT.of zB,rfl,_,_,rfl,_,_,rfl,rfl,?_⟩
  obtain ⟨b,rs,rfl,tb,rl⟩:=lwx.hd x (Av hx)
  generalize upd Hx T (.tup [.int (i:Int),.ref b])=Hy at lwx s19x tb ⊢
  refine ⟨_,rfl,_,rfl,_,_,rfl,rfl,a,xs,_,rfl,yo lwx.sH hS,hl,by lia,by lia,fun r H2 r0 r1 s2=>?_⟩
  obtain ⟨N,eN⟩:∃ N:Int,r * (if decide ((0:Int) < (i:Int))=true then 1 else 0) + 2 * (if decide (V.int (i:Int)=V.int 0)=true then 1 else 0)=N:=⟨_,rfl⟩
  have hNN:0<=N/\N < 1000000:=by
   rw [<- eN]
   split <;> split <;> constructor <;> lia
  refine ⟨_,rfl,_,_,rfl,rfl,.inr ⟨_,rfl,_,_,rfl,rfl,.inl ⟨by lia,by lia⟩,_,rfl,rfl,.inr ⟨_,rfl,_,_,rfl,rfl,.inl ⟨by decide,by decide⟩,_,_,rfl,rfl,_,rfl,N,b,rs,(by rw [<- eN]; rfl),hNN.1,hNN.2,tb.same s2,rl,fun ph rh H3 s3 nph twh pmh=>?_⟩⟩⟩
  have tb3:=(tb.same s2).same s3
  obtain ⟨kvh,tth,peh⟩:=twh.r
  refine ⟨_,rfl,ph,kvh,rfl,tth,fun pk yk H4 s4 npk gk pyk=>?_⟩
  have lw4:=((lwx.same s2).same s3).same s4
  have twh4:=twh.r.same s4
  refine ⟨_,rfl,_,rfl,pn,ph,ns,rh,rfl,lw4.gn,hN,twh4,fun H5 s5=>?_⟩
  have lw5:=lw4.same s5
  have s45:=s4.trans s5
  have tb5:=tb3.same s45
  have twh5:=twh4.same s5
  obtain ⟨k1,r1',d1⟩:=tb5.d (K:=K)
  obtain ⟨k2,r2',d2⟩:=lw5.tw.d (K:=K)
  obtain ⟨k3,r3',d3⟩:=twh5.d (K:=K)
  have e1:eqI rh (tabC ns)=eqT (rs.map dT) ((tabL ns).map dT):=by
   rw [aHE]
   exact aHF pmh (aBb hN).symm (aGL hN)
  have e2:eqT (rh.map dT) (rs.map dT)=true:=by
   rw [aHE]
   exact aDh pmh tb5.nd
  refine ⟨_,rfl,_,_,TyOf.bl _,aD1 _,_,rfl,iteF ?_⟩
  refine ⟨_,rfl,_,rfl,_,rfl,b,pt,k1,k2,_,_,rfl,rfl,r1',r2',d1,d2,rfl,_,rfl,ite2 (fun c=>?_) (fun _=>jZ ?_)⟩
  ·rw [e1,decide_eq_true rfl] at c
   exact absurd c (by decide)
  refine ⟨_,rfl,_,rfl,ph,b,k3,k1,_,_,rfl,rfl,r3',r1',d3,d1,_,rfl,ite2 (fun c=>?_) (fun _=>?_)⟩
  ·rw [e2] at c
   exact absurd c (by decide)
  refine ⟨_,rfl,ph,kvh,rfl,tth.same s45,fun pk2 yk2 H6 s6 npk2 gk2 pyk2=>⟨_,rfl,_,_,.inl ⟨aDj gk2 pyk2,aDj (s6 _ _ (s5 _ _ gk)) (prT (KR.same (s5.trans s6)) pyk)⟩,At (aGQ _) (by decide),_,rfl,ite2 (fun c=>?_) (fun _=>jZ ⟨_,_,_,_,_,rfl,s19x.trans (s2.trans (s3.trans (s45.trans s6)))⟩)⟩⟩
  rw [if_pos rfl,eqDs_refl] at c
  exact absurd c (by decide)
 ·rintro σ Hx ⟨z6,z7,z8,z9,z10,rfl,sx⟩
  have lwx:=lw19.same sx
  obtain ⟨kvs,tt,pe⟩:=lwx.tw
  have nd:=aCL tt
  have kl:kvs.length=(tabL ns).length:=pe.length
  have ek:=jY pe
  refine ⟨_,rfl,pt,kvs,rfl,tt,by lia,fun p hp=>?_,fun ps ys ks Hs ss nps gs pk pys=>⟨ps,ys,rfl,SqL.of gs,fun p8 hp8=>⟨p8,rfl,⟨_,SqL.of zB⟩,fun D hD C s' fp=>?_⟩⟩⟩
  ·have hp':p.1∈(tabL ns).map (·.1):=by rw [<- ek]; exact AJ.mpr ⟨p,hp,rfl⟩
   obtain ⟨y,hy,ey⟩:=AJ.mp hp'
   rw [<- ey]
   exact (ksT.2 y hy).1
  have s8:=Same.new (o:=.lst ys.reverse) hp8
  have pys8:Bm (RdT (upd Hs p8 (.lst ys.reverse))) ys.reverse ks.reverse:=prT (KR.same s8) (aHi pys)
  have pk8:ks.reverse.Perm ((tabL ns).map (·.1)):=by rw [<- ek]; exact (Lz ks).trans pk
  have g8:upd Hs p8 (.lst ys.reverse) p8=some (.lst ys.reverse):=zB
  have s28:=ss.trans s8
  generalize upd Hs p8 (.lst ys.reverse)=H3 at s28 pys8 g8 hD ⊢
  have lw3:=lwx.same s28
  generalize ys.reverse=ys3 at pys8 g8 ⊢
  generalize ks.reverse=ks3 at pys8 pk8 ⊢
  have ks3l:ks3.length<=15:=by rw [pk8.length_eq,Ae]; exact lnT
  have tt3:=tt.same s28
  refine jd (K:=K) (a:=p8) (xs:=ys3) (tt:=fun _ H Q=>Q true H) (fun i zs σ H5=>∃ o:Option V,σ=[o,some (.ref pt)]/\Same H3 H5/\Bm (Pk kvs H5) zs (ks3.take i)) (fun i zs σ H5 ⟨_,_,g,_⟩=>SqL.of (g _ _ g8)) ⟨none,rfl,Same.new hD,by rw [CQ]; exact .nil⟩ ?_ ?_
  ·rintro i x zs σ H5 hi hzl ⟨o,rfl,s5,hz⟩ g5
   obtain ⟨k,hk,b,rfl,rb⟩:=yH pys8 hi
   have hil:=(Ao.mp hi).1
   have yl3:=pys8.length
   obtain ⟨v,r,ev,rv,hm⟩:=aAC pe nd (pk8.mem_iff.mp (Av hk))
   have rb5:=zi s5 rb
   refine ⟨_,rfl,_,rfl,_,rfl,pt,b,kvs,k,v,rfl,rfl,tt3.same s5,rb5,ev,(by show 2<=sizeLine; decide),fun pu hpu=>?_⟩
   have su:=Same.new (o:=.tup [.ref b,v]) hpu
   have g6:=su _ _ g5
   refine ⟨zs,g6,by rw [szl]; lia,zs++[.ref pu],by rw [Al]; exact CS hzl,⟨_,rfl,zf (s5.trans su) hD,?_⟩,zB⟩
   rw [zT hk]
   have kr:=KR.updL (ys:=zs++[.ref pu]) g6
   have kr2:=(KR.same su).trans kr
   exact yU (Paired.mapP hz fun _ _ h=>Pk.kr kr2 h) ⟨pu,b,v,rfl,kr _ _ (.inl zB),kr2 _ _ rb5,ev⟩
  ·rintro zs σ H5 ⟨o,rfl,s5,hz⟩ g5
   rw [pys8.length,AZ] at hz
   obtain ⟨kps,h1,h2,h3⟩:=aDi hz
   have kpl:kps.length=ks3.length:=by rw [<- h2,Ae]
   refine ⟨D,zs,kps,rfl,g5,h1,by rw [h2]; exact pk8.nodup_iff.mpr (aGK hN),by lia,fun d H6 nd6 s6 tb=>?_⟩
   have s36:=s5.trans s6
   obtain ⟨rs',pr',pm'⟩:=aGO pe nd (KT.same (s28.trans s36)) pk8
   have lw6:=lw3.same s36
   refine ⟨_,rfl,_,rfl,pn,d,ns,rs',rfl,lw6.gn,hN,⟨_,by rw [<- h3]; exact tb.r,pr'⟩,fun H7 s7=>⟨_,_,rfl,rfl,?_⟩⟩
   have e:eqI rs' (tabC ns)=true:=aDh (pm'.trans (aBb hN)) (aGL hN)
   rw [e]
   exact q _
end
noncomputable def aL2 (a b c d:Addr) (wd:Str):Addr:=if wd="plus" then a else if wd="less" then b else if wd="times" then c else d
theorem all_mk {l:Jp} {w:AT} {K:Ah} {h:Heap} {mg:Str->Option Value} {fa:Addr} (X:K.In h) (G:h.Ns AK mg) (hfa:mg "law"=some (.ref fa))
  {f_choices_of:Addr} {od_choices_of an_choices_of:Option Addr} {sl_choices_of:Array (Option Value)} {oc_choices_of kV_choices_of dc_choices_of pm_choices_of cd_choices_of ct_choices_of:Value}
  {f_splits_of:Addr} {od_splits_of an_splits_of:Option Addr} {sl_splits_of:Array (Option Value)} {oc_splits_of kV_splits_of dc_splits_of pm_splits_of cd_splits_of ct_splits_of:Value}
  {f_plus:Addr} {od_plus an_plus:Option Addr} {sl_plus:Array (Option Value)} {oc_plus kV_plus dc_plus pm_plus cd_plus ct_plus:Value}
  {f_less:Addr} {od_less an_less:Option Addr} {sl_less:Array (Option Value)} {oc_less kV_less dc_less pm_less cd_less ct_less:Value}
  {f_times:Addr} {od_times an_times:Option Addr} {sl_times:Array (Option Value)} {oc_times kV_times dc_times pm_times cd_times ct_times:Value}
  {f_share:Addr} {od_share an_share:Option Addr} {sl_share:Array (Option Value)} {oc_share kV_share dc_share pm_share cd_share ct_share:Value}
  {f_worth_by:Addr} {od_worth_by an_worth_by:Option Addr} {sl_worth_by:Array (Option Value)} {oc_worth_by kV_worth_by dc_worth_by pm_worth_by cd_worth_by ct_worth_by:Value}
  {f_deeds_between:Addr} {od_deeds_between an_deeds_between:Option Addr} {sl_deeds_between:Array (Option Value)} {oc_deeds_between kV_deeds_between dc_deeds_between pm_deeds_between cd_deeds_between ct_deeds_between:Value}
  {f_chosen_of:Addr} {od_chosen_of an_chosen_of:Option Addr} {sl_chosen_of:Array (Option Value)} {oc_chosen_of kV_chosen_of dc_chosen_of pm_chosen_of cd_chosen_of ct_chosen_of:Value}
  {f_table_of:Addr} {od_table_of an_table_of:Option Addr} {sl_table_of:Array (Option Value)} {oc_table_of kV_table_of dc_table_of pm_table_of cd_table_of ct_table_of:Value}
  {f_row_for:Addr} {od_row_for an_row_for:Option Addr} {sl_row_for:Array (Option Value)} {oc_row_for kV_row_for dc_row_for pm_row_for cd_row_for ct_row_for:Value}
  {f_law_number:Addr} {od_law_number an_law_number:Option Addr} {sl_law_number:Array (Option Value)} {oc_law_number kV_law_number dc_law_number pm_law_number cd_law_number ct_law_number:Value}
  {f_law_numbers:Addr} {od_law_numbers an_law_numbers:Option Addr} {sl_law_numbers:Array (Option Value)} {oc_law_numbers kV_law_numbers dc_law_numbers pm_law_numbers cd_law_numbers ct_law_numbers:Value}
  {f_law_words:Addr} {od_law_words an_law_words:Option Addr} {sl_law_words:Array (Option Value)} {oc_law_words kV_law_words dc_law_words pm_law_words cd_law_words ct_law_words:Value}
  {f_law_rows:Addr} {od_law_rows an_law_rows:Option Addr} {sl_law_rows:Array (Option Value)} {oc_law_rows kV_law_rows dc_law_rows pm_law_rows cd_law_rows ct_law_rows:Value}
  {f_law_choice:Addr} {od_law_choice an_law_choice:Option Addr} {sl_law_choice:Array (Option Value)} {oc_law_choice kV_law_choice dc_law_choice pm_law_choice cd_law_choice ct_law_choice:Value}
  {f_table_shown:Addr} {od_table_shown an_table_shown:Option Addr} {sl_table_shown:Array (Option Value)} {oc_table_shown kV_table_shown dc_table_shown pm_table_shown cd_table_shown ct_table_shown:Value}
  {f_law_table:Addr} {od_law_table an_law_table:Option Addr} {sl_law_table:Array (Option Value)} {oc_law_table kV_law_table dc_law_table pm_law_table cd_law_table ct_law_table:Value}
  {f_law_bent:Addr} {od_law_bent an_law_bent:Option Addr} {sl_law_bent:Array (Option Value)} {oc_law_bent kV_law_bent dc_law_bent pm_law_bent cd_law_bent ct_law_bent:Value}
  {f_law_spoilt:Addr} {od_law_spoilt an_law_spoilt:Option Addr} {sl_law_spoilt:Array (Option Value)} {oc_law_spoilt kV_law_spoilt dc_law_spoilt pm_law_spoilt cd_law_spoilt ct_law_spoilt:Value}
  {f_law_counted_alike:Addr} {od_law_counted_alike an_law_counted_alike:Option Addr} {sl_law_counted_alike:Array (Option Value)} {oc_law_counted_alike kV_law_counted_alike dc_law_counted_alike pm_law_counted_alike cd_law_counted_alike ct_law_counted_alike:Value}
  {f_law_ordered:Addr} {od_law_ordered an_law_ordered:Option Addr} {sl_law_ordered:Array (Option Value)} {oc_law_ordered kV_law_ordered dc_law_ordered pm_law_ordered cd_law_ordered ct_law_ordered:Value}
  {f_law:Addr} {od_law an_law:Option Addr} {sl_law:Array (Option Value)} {oc_law kV_law dc_law pm_law cd_law ct_law:Value}
  {d_DEEDS:Addr} {es_DEEDS:Array CP} {n_DEEDS:Nat}
  {C_WishError N_WishError:Addr} {nm_WishError qn_WishError:Str} {bs_WishError sub_WishError:List Value} {sn_WishError:List Str} {ab_WishError:Bool} {col_WishError:Option Bool} {dd_WishError:Option Addr} {k0_WishError k1_WishError k2_WishError k3_WishError k5_WishError:Option Value}
  {C_NoWay N_NoWay:Addr} {nm_NoWay qn_NoWay:Str} {bs_NoWay sub_NoWay:List Value} {sn_NoWay:List Str} {ab_NoWay:Bool} {col_NoWay:Option Bool} {dd_NoWay:Option Addr} {k0_NoWay k1_NoWay k2_NoWay k3_NoWay k5_NoWay:Option Value} {bm_NoWay:List Value}
  {f_init:Addr}
  {od_init an_init:Option Addr} {sl_init:Array (Option Value)} {oc_init kV_init dc_init pm_init cd_init ct_init:Value}
  (a_choices_of:AH K AK "choices_of"=some (some (.ref f_choices_of))) (l_choices_of:K.lookup f_choices_of=some ⟨oc_choices_of,od_choices_of,.func (Bn "choices_of" "choices_of" (za yK) (zV yK) (zF yK) .none kV_choices_of dc_choices_of pm_choices_of an_choices_of cd_choices_of ct_choices_of),sl_choices_of⟩) (c_choices_of:Bg K cd_choices_of "choices_of"=true) (k_choices_of:AQ K (.ref f_choices_of)=true)
  (a_splits_of:AH K AK "splits_of"=some (some (.ref f_splits_of))) (l_splits_of:K.lookup f_splits_of=some ⟨oc_splits_of,od_splits_of,.func (Bn "splits_of" "splits_of" (za yV) (zV yV) (zF yV) .none kV_splits_of dc_splits_of pm_splits_of an_splits_of cd_splits_of ct_splits_of),sl_splits_of⟩) (c_splits_of:Bg K cd_splits_of "splits_of"=true) (k_splits_of:AQ K (.ref f_splits_of)=true)
  (a_plus:AH K AK "plus"=some (some (.ref f_plus))) (l_plus:K.lookup f_plus=some ⟨oc_plus,od_plus,.func (Bn "plus" "plus" (za aB1) (zV aB1) (zF aB1) .none kV_plus dc_plus pm_plus an_plus cd_plus ct_plus),sl_plus⟩) (c_plus:Bg K cd_plus "plus"=true) (k_plus:AQ K (.ref f_plus)=true)
  (a_less:AH K AK "less"=some (some (.ref f_less))) (l_less:K.lookup f_less=some ⟨oc_less,od_less,.func (Bn "less" "less" (za aB2) (zV aB2) (zF aB2) .none kV_less dc_less pm_less an_less cd_less ct_less),sl_less⟩) (c_less:Bg K cd_less "less"=true) (k_less:AQ K (.ref f_less)=true)
  (a_times:AH K AK "times"=some (some (.ref f_times))) (l_times:K.lookup f_times=some ⟨oc_times,od_times,.func (Bn "times" "times" (za aA4) (zV aA4) (zF aA4) .none kV_times dc_times pm_times an_times cd_times ct_times),sl_times⟩) (c_times:Bg K cd_times "times"=true) (k_times:AQ K (.ref f_times)=true)
  (a_share:AH K AK "share"=some (some (.ref f_share))) (l_share:K.lookup f_share=some ⟨oc_share,od_share,.func (Bn "share" "share" (za aA5) (zV aA5) (zF aA5) .none kV_share dc_share pm_share an_share cd_share ct_share),sl_share⟩) (c_share:Bg K cd_share "share"=true) (k_share:AQ K (.ref f_share)=true)
  (a_worth_by:AH K AK "worth_by"=some (some (.ref f_worth_by))) (l_worth_by:K.lookup f_worth_by=some ⟨oc_worth_by,od_worth_by,.func (Bn "worth_by" "worth_by" (za yt) (zV yt) (zF yt) .none kV_worth_by dc_worth_by pm_worth_by an_worth_by cd_worth_by ct_worth_by),sl_worth_by⟩) (c_worth_by:Bg K cd_worth_by "worth_by"=true) (k_worth_by:AQ K (.ref f_worth_by)=true)
  (a_deeds_between:AH K AK "deeds_between"=some (some (.ref f_deeds_between))) (l_deeds_between:K.lookup f_deeds_between=some ⟨oc_deeds_between,od_deeds_between,.func (Bn "deeds_between" "deeds_between" (za zr) (zV zr) (zF zr) .none kV_deeds_between dc_deeds_between pm_deeds_between an_deeds_between cd_deeds_between ct_deeds_between),sl_deeds_between⟩) (c_deeds_between:Bg K cd_deeds_between "deeds_between"=true) (k_deeds_between:AQ K (.ref f_deeds_between)=true)
  (a_chosen_of:AH K AK "chosen_of"=some (some (.ref f_chosen_of))) (l_chosen_of:K.lookup f_chosen_of=some ⟨oc_chosen_of,od_chosen_of,.func (Bn "chosen_of" "chosen_of" (za yW) (zV yW) (zF yW) .none kV_chosen_of dc_chosen_of pm_chosen_of an_chosen_of cd_chosen_of ct_chosen_of),sl_chosen_of⟩) (c_chosen_of:Bg K cd_chosen_of "chosen_of"=true) (k_chosen_of:AQ K (.ref f_chosen_of)=true)
  (a_table_of:AH K AK "table_of"=some (some (.ref f_table_of))) (l_table_of:K.lookup f_table_of=some ⟨oc_table_of,od_table_of,.func (Bn "table_of" "table_of" (za yu) (zV yu) (zF yu) .none kV_table_of dc_table_of pm_table_of an_table_of cd_table_of ct_table_of),sl_table_of⟩) (c_table_of:Bg K cd_table_of "table_of"=true) (k_table_of:AQ K (.ref f_table_of)=true)
  (a_row_for:AH K AK "row_for"=some (some (.ref f_row_for))) (l_row_for:K.lookup f_row_for=some ⟨oc_row_for,od_row_for,.func (Bn "row_for" "row_for" (za qS) (zV qS) (zF qS) .none kV_row_for dc_row_for pm_row_for an_row_for cd_row_for ct_row_for),sl_row_for⟩) (c_row_for:Bg K cd_row_for "row_for"=true) (k_row_for:AQ K (.ref f_row_for)=true)
  (a_law_number:AH K AK "_law_number"=some (some (.ref f_law_number))) (l_law_number:K.lookup f_law_number=some ⟨oc_law_number,od_law_number,.func (Bn "_law_number" "_law_number" (za yL) (zV yL) (zF yL) .none kV_law_number dc_law_number pm_law_number an_law_number cd_law_number ct_law_number),sl_law_number⟩) (c_law_number:Bg K cd_law_number "_law_number"=true) (k_law_number:AQ K (.ref f_law_number)=true)
  (a_law_numbers:AH K AK "_law_numbers"=some (some (.ref f_law_numbers))) (l_law_numbers:K.lookup f_law_numbers=some ⟨oc_law_numbers,od_law_numbers,.func (Bn "_law_numbers" "_law_numbers" (za yB) (zV yB) (zF yB) .none kV_law_numbers dc_law_numbers pm_law_numbers an_law_numbers cd_law_numbers ct_law_numbers),sl_law_numbers⟩) (c_law_numbers:Bg K cd_law_numbers "_law_numbers"=true) (k_law_numbers:AQ K (.ref f_law_numbers)=true)
  (a_law_words:AH K AK "_law_words"=some (some (.ref f_law_words))) (l_law_words:K.lookup f_law_words=some ⟨oc_law_words,od_law_words,.func (Bn "_law_words" "_law_words" (za yX) (zV yX) (zF yX) .none kV_law_words dc_law_words pm_law_words an_law_words cd_law_words ct_law_words),sl_law_words⟩) (c_law_words:Bg K cd_law_words "_law_words"=true) (k_law_words:AQ K (.ref f_law_words)=true)
  (a_law_rows:AH K AK "_law_rows"=some (some (.ref f_law_rows))) (l_law_rows:K.lookup f_law_rows=some ⟨oc_law_rows,od_law_rows,.func (Bn "_law_rows" "_law_rows" (za yw) (zV yw) (zF yw) .none kV_law_rows dc_law_rows pm_law_rows an_law_rows cd_law_rows ct_law_rows),sl_law_rows⟩) (c_law_rows:Bg K cd_law_rows "_law_rows"=true) (k_law_rows:AQ K (.ref f_law_rows)=true)
  (a_law_choice:AH K AK "_law_choice"=some (some (.ref f_law_choice))) (l_law_choice:K.lookup f_law_choice=some ⟨oc_law_choice,od_law_choice,.func (Bn "_law_choice" "_law_choice" (za yM) (zV yM) (zF yM) .none kV_law_choice dc_law_choice pm_law_choice an_law_choice cd_law_choice ct_law_choice),sl_law_choice⟩) (c_law_choice:Bg K cd_law_choice "_law_choice"=true) (k_law_choice:AQ K (.ref f_law_choice)=true)
  (a_table_shown:AH K AK "table_shown"=some (some (.ref f_table_shown))) (l_table_shown:K.lookup f_table_shown=some ⟨oc_table_shown,od_table_shown,.func (Bn "table_shown" "table_shown" (za yC) (zV yC) (zF yC) .none kV_table_shown dc_table_shown pm_table_shown an_table_shown cd_table_shown ct_table_shown),sl_table_shown⟩) (c_table_shown:Bg K cd_table_shown "table_shown"=true) (k_table_shown:AQ K (.ref f_table_shown)=true)
  (a_law_table:AH K AK "_law_table"=some (some (.ref f_law_table))) (l_law_table:K.lookup f_law_table=some ⟨oc_law_table,od_law_table,.func (Bn "_law_table" "_law_table" (za yY) (zV yY) (zF yY) .none kV_law_table dc_law_table pm_law_table an_law_table cd_law_table ct_law_table),sl_law_table⟩) (c_law_table:Bg K cd_law_table "_law_table"=true) (k_law_table:AQ K (.ref f_law_table)=true)
  (a_law_bent:AH K AK "_law_bent"=some (some (.ref f_law_bent))) (l_law_bent:K.lookup f_law_bent=some ⟨oc_law_bent,od_law_bent,.func (Bn "_law_bent" "_law_bent" (za yx) (zV yx) (zF yx) .none kV_law_bent dc_law_bent pm_law_bent an_law_bent cd_law_bent ct_law_bent),sl_law_bent⟩) (c_law_bent:Bg K cd_law_bent "_law_bent"=true) (k_law_bent:AQ K (.ref f_law_bent)=true)
  (a_law_spoilt:AH K AK "_law_spoilt"=some (some (.ref f_law_spoilt))) (l_law_spoilt:K.lookup f_law_spoilt=some ⟨oc_law_spoilt,od_law_spoilt,.func (Bn "_law_spoilt" "_law_spoilt" (za yN) (zV yN) (zF yN) .none kV_law_spoilt dc_law_spoilt pm_law_spoilt an_law_spoilt cd_law_spoilt ct_law_spoilt),sl_law_spoilt⟩) (c_law_spoilt:Bg K cd_law_spoilt "_law_spoilt"=true) (k_law_spoilt:AQ K (.ref f_law_spoilt)=true)
  (a_law_counted_alike:AH K AK "_law_counted_alike"=some (some (.ref f_law_counted_alike))) (l_law_counted_alike:K.lookup f_law_counted_alike=some ⟨oc_law_counted_alike,od_law_counted_alike,.func (Bn "_law_counted_alike" "_law_counted_alike" (za zd) (zV zd) (zF zd) .none kV_law_counted_alike dc_law_counted_alike pm_law_counted_alike an_law_counted_alike cd_law_counted_alike ct_law_counted_alike),sl_law_counted_alike⟩) (c_law_counted_alike:Bg K cd_law_counted_alike "_law_counted_alike"=true) (k_law_counted_alike:AQ K (.ref f_law_counted_alike)=true)
  (a_law_ordered:AH K AK "_law_ordered"=some (some (.ref f_law_ordered))) (l_law_ordered:K.lookup f_law_ordered=some ⟨oc_law_ordered,od_law_ordered,.func (Bn "_law_ordered" "_law_ordered" (za yD) (zV yD) (zF yD) .none kV_law_ordered dc_law_ordered pm_law_ordered an_law_ordered cd_law_ordered ct_law_ordered),sl_law_ordered⟩) (c_law_ordered:Bg K cd_law_ordered "_law_ordered"=true) (k_law_ordered:AQ K (.ref f_law_ordered)=true)
  (a_law:AH K AK "law"=some (some (.ref f_law))) (l_law:K.lookup f_law=some ⟨oc_law,od_law,.func (Bn "law" "law" (za aBc) (zV aBc) (zF aBc) .none kV_law dc_law pm_law an_law cd_law ct_law),sl_law⟩) (c_law:Bg K cd_law "law"=true) (k_law:AQ K (.ref f_law)=true)
  (a_DEEDS:AH K AK "DEEDS"=some (some (.ref d_DEEDS))) (l_DEEDS:K.lookup d_DEEDS=some ⟨.type "dict",none,.dict es_DEEDS n_DEEDS,#[]⟩) (k_DEEDS:FS w.params es_DEEDS.toList)
  (e_DEEDS_plus:AH K d_DEEDS "plus"=some (some (.ref f_plus)))
  (e_DEEDS_less:AH K d_DEEDS "less"=some (some (.ref f_less)))
  (e_DEEDS_times:AH K d_DEEDS "times"=some (some (.ref f_times)))
  (e_DEEDS_share:AH K d_DEEDS "share"=some (some (.ref f_share)))
  (z_max:AH K AK "max"=some none)
  (z_min:AH K AK "min"=some none)
  (z_sorted:AH K AK "sorted"=some none)
  (z_any:AH K AK "any"=some none)
  (z_list:AH K AK "list"=some none)
  (z_set:AH K AK "set"=some none)
  (z_abs:AH K AK "abs"=some none)
  (z_dict:AH K AK "dict"=some none)
  (z_enumerate:AH K AK "enumerate"=some none)
  (sm_DEEDS:(d_DEEDS == Bx)=false)
  (kt_DEEDS:KeyTs es_DEEDS.toList dW)
  (a_WishError:AH K AK "WishError"=some (some (.ref C_WishError)))
  (l_WishError:K.lookup C_WishError=some (Hi nm_WishError qn_WishError C_WishError N_WishError bs_WishError vMro true sn_WishError sub_WishError ab_WishError col_WishError dd_WishError k0_WishError k1_WishError k2_WishError k3_WishError k5_WishError "ValueError.__new__"))
  (t_WishError:EM K vMro vMro=true)
  (kp_WishError:AQ K (.ref C_WishError)=true)
  (ga_WishError:BO K (.ref C_WishError) "__getattribute__"=some (some (.builtin "BaseException.__getattribute__")))
  (gh_WishError:BO K (.ref C_WishError) "__getattr__"=some none)
  (gc_WishError:BO K (.ref C_WishError) "__class__"=some (some (.builtin "object.__class__")))
  (sa_WishError:BO K (.ref C_WishError) "__setattr__"=some (some (.builtin "object.__setattr__")))
  (a_NoWay:AH K AK "NoWay"=some (some (.ref C_NoWay)))
  (l_NoWay:K.lookup C_NoWay=some (Hi nm_NoWay qn_NoWay C_NoWay N_NoWay bs_NoWay bm_NoWay true sn_NoWay sub_NoWay ab_NoWay col_NoWay dd_NoWay k0_NoWay k1_NoWay k2_NoWay k3_NoWay k5_NoWay "ValueError.__new__"))
  (t_NoWay:EM K vMro bm_NoWay=true)
  (kp_NoWay:AQ K (.ref C_NoWay)=true)
  (ga_NoWay:BO K (.ref C_NoWay) "__getattribute__"=some (some (.builtin "BaseException.__getattribute__")))
  (gh_NoWay:BO K (.ref C_NoWay) "__getattr__"=some none)
  (gc_NoWay:BO K (.ref C_NoWay) "__class__"=some (some (.builtin "object.__class__")))
  (sa_NoWay:BO K (.ref C_NoWay) "__setattr__"=some (some (.builtin "object.__setattr__")))
  (i_NoWay:BO K (.ref C_NoWay) "__init__"=some (some (.ref f_init)))
  (y_init:ME K (.ref f_init)=some (.type "function"))
  (l_init:K.lookup f_init=some ⟨oc_init,od_init,.func (Bn "__init__" "NoWay.__init__" (za aB0) (zV aB0) (zF aB0) .none kV_init dc_init pm_init an_init cd_init ct_init),sl_init⟩)
  (cd_ok_init:Bg K cd_init "NoWay.__init__"=true)
  (k_init:AQ K (.ref f_init)=true)
  (w_NoWay:BO K (.ref C_NoWay) "word"=some none)
  (z_len:AH K AK "len"=some none)
  (z_sum:AH K AK "sum"=some none)
  (z_range:AH K AK "range"=some none)
  (z_isinstance:AH K AK "isinstance"=some none)
  (z_int:AH K AK "int"=some none)
  (z_str:AH K AK "str"=some none)
  (z_bool:AH K AK "bool"=some none)
  (z_tuple:AH K AK "tuple"=some none)
  (z_zip:AH K AK "zip"=some none) :
  ∃ fd:BL,(∀ (s:Ad) (v:Value),Ml s fd ⟨[v],[]⟩ [("script",v)])/\∀ base:Heap,K.In base->base.Ns AK mg->FnOk l.prog w K mg base CX0 30 fa fd ["script"] (aGp K):=by
 have e:=hfa.symm.trans (Bw X G a_law)
 cases e
 have F_choices_of:=zw (st:=yK) l_choices_of c_choices_of k_choices_of
 have b_choices_of:=F_choices_of.binds (ps:=["many"]) fun _ _ _ _ _ _ us hl=>match us,hl with | [_],_=>rfl
 have m_choices_of:=Bw X G a_choices_of
 have F_splits_of:=zw (st:=yV) l_splits_of c_splits_of k_splits_of
 have b_splits_of:=F_splits_of.binds (ps:=["choice"]) fun _ _ _ _ _ _ us hl=>match us,hl with | [_],_=>rfl
 have m_splits_of:=Bw X G a_splits_of
 have F_plus:=zw (st:=aB1) l_plus c_plus k_plus
 have b_plus:=F_plus.binds (ps:=["first","second"]) fun _ _ _ _ _ _ us hl=>match us,hl with | [_,_],_=>rfl
 have m_plus:=Bw X G a_plus
 have F_less:=zw (st:=aB2) l_less c_less k_less
 have b_less:=F_less.binds (ps:=["first","second"]) fun _ _ _ _ _ _ us hl=>match us,hl with | [_,_],_=>rfl
 have m_less:=Bw X G a_less
 have F_times:=zw (st:=aA4) l_times c_times k_times
 have b_times:=F_times.binds (ps:=["first","second"]) fun _ _ _ _ _ _ us hl=>match us,hl with | [_,_],_=>rfl
 have m_times:=Bw X G a_times
 have F_share:=zw (st:=aA5) l_share c_share k_share
 have b_share:=F_share.binds (ps:=["first","second"]) fun _ _ _ _ _ _ us hl=>match us,hl with | [_,_],_=>rfl
 have m_share:=Bw X G a_share
 have F_worth_by:=zw (st:=yt) l_worth_by c_worth_by k_worth_by
 have b_worth_by:=F_worth_by.binds (ps:=["word","first","second"]) fun _ _ _ _ _ _ us hl=>match us,hl with | [_,_,_],_=>rfl
 have m_worth_by:=Bw X G a_worth_by
 have F_deeds_between:=zw (st:=zr) l_deeds_between c_deeds_between k_deeds_between
 have b_deeds_between:=F_deeds_between.binds (ps:=["firsts","seconds"]) fun _ _ _ _ _ _ us hl=>match us,hl with | [_,_],_=>rfl
 have m_deeds_between:=Bw X G a_deeds_between
 have F_chosen_of:=zw (st:=yW) l_chosen_of c_chosen_of k_chosen_of
 have b_chosen_of:=F_chosen_of.binds (ps:=["numbers","choice"]) fun _ _ _ _ _ _ us hl=>match us,hl with | [_,_],_=>rfl
 have m_chosen_of:=Bw X G a_chosen_of
 have F_table_of:=zw (st:=yu) l_table_of c_table_of k_table_of
 have b_table_of:=F_table_of.binds (ps:=["numbers"]) fun _ _ _ _ _ _ us hl=>match us,hl with | [_],_=>rfl
 have m_table_of:=Bw X G a_table_of
 have F_row_for:=zw (st:=qS) l_row_for c_row_for k_row_for
 have b_row_for:=F_row_for.binds (ps:=["numbers","choice","table"]) fun _ _ _ _ _ _ us hl=>match us,hl with | [_,_,_],_=>rfl
 have m_row_for:=Bw X G a_row_for
 have F_law_number:=zw (st:=yL) l_law_number c_law_number k_law_number
 have b_law_number:=F_law_number.binds (ps:=["script","k"]) fun _ _ _ _ _ _ us hl=>match us,hl with | [_,_],_=>rfl
 have m_law_number:=Bw X G a_law_number
 have F_law_numbers:=zw (st:=yB) l_law_numbers c_law_numbers k_law_numbers
 have b_law_numbers:=F_law_numbers.binds (ps:=["script","start","most"]) fun _ _ _ _ _ _ us hl=>match us,hl with | [_,_,_],_=>rfl
 have m_law_numbers:=Bw X G a_law_numbers
 have F_law_words:=zw (st:=yX) l_law_words c_law_words k_law_words
 have b_law_words:=F_law_words.binds (ps:=["one","other"]) fun _ _ _ _ _ _ us hl=>match us,hl with | [_,_],_=>rfl
 have m_law_words:=Bw X G a_law_words
 have F_law_rows:=zw (st:=yw) l_law_rows c_law_rows k_law_rows
 have b_law_rows:=F_law_rows.binds (ps:=["numbers"]) fun _ _ _ _ _ _ us hl=>match us,hl with | [_],_=>rfl
 have m_law_rows:=Bw X G a_law_rows
 have F_law_choice:=zw (st:=yM) l_law_choice c_law_choice k_law_choice
 have b_law_choice:=F_law_choice.binds (ps:=["bits","many"]) fun _ _ _ _ _ _ us hl=>match us,hl with | [_,_],_=>rfl
 have m_law_choice:=Bw X G a_law_choice
 have F_table_shown:=zw (st:=yC) l_table_shown c_table_shown k_table_shown
 have b_table_shown:=F_table_shown.binds (ps:=["numbers","table"]) fun _ _ _ _ _ _ us hl=>match us,hl with | [_,_],_=>rfl
 have m_table_shown:=Bw X G a_table_shown
 have F_law_table:=zw (st:=yY) l_law_table c_law_table k_law_table
 have b_law_table:=F_law_table.binds (ps:=["numbers"]) fun _ _ _ _ _ _ us hl=>match us,hl with | [_],_=>rfl
 have m_law_table:=Bw X G a_law_table
 have F_law_bent:=zw (st:=yx) l_law_bent c_law_bent k_law_bent
 have b_law_bent:=F_law_bent.binds (ps:=["number","row"]) fun _ _ _ _ _ _ us hl=>match us,hl with | [_,_],_=>rfl
 have m_law_bent:=Bw X G a_law_bent
 have F_law_spoilt:=zw (st:=yN) l_law_spoilt c_law_spoilt k_law_spoilt
 have b_law_spoilt:=F_law_spoilt.binds (ps:=["number","table","many"]) fun _ _ _ _ _ _ us hl=>match us,hl with | [_,_,_],_=>rfl
 have m_law_spoilt:=Bw X G a_law_spoilt
 have F_law_counted_alike:=zw (st:=zd) l_law_counted_alike c_law_counted_alike k_law_counted_alike
 have b_law_counted_alike:=F_law_counted_alike.binds (ps:=["number","table","many"]) fun _ _ _ _ _ _ us hl=>match us,hl with | [_,_,_],_=>rfl
 have m_law_counted_alike:=Bw X G a_law_counted_alike
 have F_law_ordered:=zw (st:=yD) l_law_ordered c_law_ordered k_law_ordered
 have b_law_ordered:=F_law_ordered.binds (ps:=["number","some"]) fun _ _ _ _ _ _ us hl=>match us,hl with | [_,_],_=>rfl
 have m_law_ordered:=Bw X G a_law_ordered
 have F_law:=zw (st:=aBc) l_law c_law k_law
 have b_law:=F_law.binds (ps:=["script"]) fun _ _ _ _ _ _ us hl=>match us,hl with | [_],_=>rfl
 have m_law:=Bw X G a_law
 have B:Blt mg:=⟨Bu X G z_len,Bu X G z_sum,Bu X G z_range,Bu X G z_isinstance,Bu X G z_int,Bu X G z_str,Bu X G z_bool,Bu X G z_tuple,Bu X G z_zip⟩
 refine ⟨Bn "law" "law" (za aBc) (zV aBc) (zF aBc) .none kV_law dc_law pm_law an_law cd_law ct_law,fun s v=>.of_eq rfl,fun base _ _=>?_⟩
 have c_WishError:XC K C_WishError vMro:=⟨⟨_,_,_,_,_,_,_,_,_,_,_,_,_,_,l_WishError⟩,t_WishError,kp_WishError,ga_WishError,gh_WishError,gc_WishError,sa_WishError⟩
 have c_NoWay:XC K C_NoWay bm_NoWay:=⟨⟨_,_,_,_,_,_,_,_,_,_,_,_,_,_,l_NoWay⟩,t_NoWay,kp_NoWay,ga_NoWay,gh_NoWay,gc_NoWay,sa_NoWay⟩
 have F_init:=zw (st:=aB0) l_init cd_ok_init k_init
 have b_init:=F_init.binds (ps:=["self","word"]) fun _ _ _ _ _ _ us hl=>match us,hl with | [_,_],_=>rfl
 have R:Refs l.prog w K mg base C_WishError C_NoWay bm_NoWay :=
  ⟨c_WishError,c_NoWay,Bw X G a_NoWay,⟨f_init,_,_,i_NoWay,y_init,aIR F_init c_NoWay w_NoWay,b_init⟩,w_NoWay⟩
 have De:DeedsX l.prog w K mg base C_NoWay d_DEEDS (aL2 f_plus f_less f_times f_share):=by
  refine ⟨⟨_,_,l_DEEDS,k_DEEDS⟩,Bw X G a_DEEDS,fun wd hw=>?_,fun wd hw=>?_⟩
  ·rcases hw with rfl | rfl | rfl | rfl
   ·exact e_DEEDS_plus
   ·exact e_DEEDS_less
   ·exact e_DEEDS_times
   ·exact e_DEEDS_share
  ·rcases hw with rfl | rfl | rfl | rfl
   ·exact ⟨⟨_,_,aH2 F_plus,b_plus⟩,k_plus⟩
   ·exact ⟨⟨_,_,aH4 F_less R,b_less⟩,k_less⟩
   ·exact ⟨⟨_,_,aGB F_times,b_times⟩,k_times⟩
   ·exact ⟨⟨_,_,aGC F_share R,b_share⟩,k_share⟩
 have TK:aCt w K d_DEEDS dW:=⟨sm_DEEDS,by decide +kernel,_,_,l_DEEDS,k_DEEDS,kt_DEEDS⟩
 have Bmax:mg "max"=none:=Bu X G z_max
 have Bmin:mg "min"=none:=Bu X G z_min
 have Blist:mg "list"=none:=Bu X G z_list
 have Bsorted:=Bu X G z_sorted
 have Bset:=Bu X G z_set
 have Bany:=Bu X G z_any
 have Babs:=Bu X G z_abs
 have Gwb:=qi (aJq F_worth_by B De) b_worth_by m_worth_by k_worth_by
 have Gchs:=qi (aJt (P:=l.prog) (w:=w) (base:=base) F_choices_of B) b_choices_of m_choices_of k_choices_of
 have Gspl:=qi (aJv (P:=l.prog) (w:=w) (base:=base) F_splits_of Bany) b_splits_of m_splits_of k_splits_of
 have Gcho:=qi (aJz (P:=l.prog) (w:=w) (base:=base) F_chosen_of B) b_chosen_of m_chosen_of k_chosen_of
 have Gdb:=qi (aKy F_deeds_between R De TK Gwb) b_deeds_between m_deeds_between k_deeds_between
 have Grf:=qi (aKz F_row_for B Bset Bsorted Gcho Gspl Gdb) b_row_for m_row_for k_row_for
 have Gtab:=qi (aK3 F_table_of B Bany Gchs Grf) b_table_of m_table_of k_table_of
 have Gnum:=qi (aK5 (P:=l.prog) (w:=w) (base:=base) F_law_number B Bmax Bmin Blist) b_law_number m_law_number k_law_number
 have Gnums:=qi (aIZ F_law_numbers B Gnum) b_law_numbers m_law_numbers k_law_numbers
 have Gwords:=qi (aH9 (P:=l.prog) (w:=w) (base:=base) F_law_words Babs) b_law_words m_law_words k_law_words
 have Grows:=qi (aIb F_law_rows B Bsorted Gwords) b_law_rows m_law_rows k_law_rows
 have Bdict:=Bu X G z_dict
 have Glch:=qi (aK9 (P:=l.prog) (w:=w) (base:=base) F_law_choice B) b_law_choice m_law_choice k_law_choice
 have Gts:=qi (aKC F_table_shown Gtab) b_table_shown m_table_shown k_table_shown
 have Gtbl:=qi (aKE F_law_table B Bdict Grows Glch) b_law_table m_law_table k_law_table
 have Gbent:=qi (aIc (P:=l.prog) (w:=w) (base:=base) F_law_bent B Bmax Bsorted) b_law_bent m_law_bent k_law_bent
 have Gspo:=qi (aKJ F_law_spoilt B Bdict Bsorted Gbent) b_law_spoilt m_law_spoilt k_law_spoilt
 have Gcou:=qi (aKL (P:=l.prog) (w:=w) (base:=base) F_law_counted_alike B Bdict Bsorted) b_law_counted_alike m_law_counted_alike k_law_counted_alike
 have Gorl:=qi (aKO (P:=l.prog) (w:=w) (base:=base) F_law_ordered B Bdict Blist) b_law_ordered m_law_ordered k_law_ordered
 exact aKP F_law B Bdict Blist Bsorted (Bu X G z_enumerate) Gnum Gnums Gtbl Gspo Gcou Gorl Gts
theorem walk {l:Jp} {q:Ap} {loose:List Str} {XP:(Str->Option Value)->Heap->Prop} {YP:AT->Heap->Prop} {d:DefRec} {K:Params->Ah} (hn:l.most=some 63) (hdf:d.params.defaults=[])
  (hY:∀ (w:AT) (h:Heap),YP w h->(K w.params).In h)
  (F:∀ (w:AT) (mg:Str->Option Value) (fa:Addr) (h:Heap),(K w.params).In h->h.Ns AK mg->mg d.name=some (.ref fa) ->
   ∃ fd:BL,(∀ (s:Ad) (u:Value),Ml s fd ⟨[u],[]⟩ [("script",u)])/\∀ base:Heap,(K w.params).In base->base.Ns AK mg->FnOk l.prog w (K w.params) mg base CX0 30 fa fd ["script"] (aGp (K w.params))) :
  MZ q loose XP YP l.row.toRowW d [] (fun f vs=>MO f vs) :=
 L2.walk_of (n:=63) (k:=30) (x:="script") (CX:=fun _=>CX0) (sp:=fun w=>aGp (K w.params)) hn (by decide) hdf ⟨rfl,by decide,by decide⟩ hY F (fun _ _ a ns hl _ hS=>⟨a,ns,rfl,hS,hl,fun _=>rfl⟩) fun _ _ _ _ _ z=>z
end Law
open PySem PySem.W PyProof.Rows
namespace PySem.W.Fast
def tw10613010522131691503:Unit:=()
def tw17613605864197090522:Unit:=()
def tw11370564901034627809:Unit:=()
def tw5710659445832835545:Unit:=()
def tw8867369923024771346:Unit:=()
def tw17301182737861901427:Unit:=()
def tw9655395539786634082:Unit:=()
def tw13418381657853330992:Unit:=()
def tw12628675131050685504:Unit:=()
def tw16837534880868050806:Unit:=()
def tw10351920568931371577:Unit:=()
def tw1794221583140772245:Unit:=()
def tw2118245594155632778:Unit:=()
def tw16202971649327481708:Unit:=()
def tw797189843182014074:Unit:=()
def tw16308727782864728553:Unit:=()
def tw16042221277909346595:Unit:=()
def tw15117272473309040892:Unit:=()
def tw16458895160868732161:Unit:=()
def tw2950594711179514328:Unit:=()
def tw2128669909445889818:Unit:=()
def tw389811185372152584:Unit:=()
def tw9933866641613424096:Unit:=()
def tw8552307028549233905:Unit:=()
def tw11776919213103237371:Unit:=()
def tw15364993035890321702:Unit:=()
def tw18332647787399333424:Unit:=()
def tw10423721093221139740:Unit:=()
def tw14346614385784097567:Unit:=()
def tw5568755694742578011:Unit:=()
def tw14722425268666358673:Unit:=()
def tw9566222633646308662:Unit:=()
def tw2460673296368651432:Unit:=()
def tw8042001678627809721:Unit:=()
def tw11942953113791235476:Unit:=()
def tw13449928416527856968:Unit:=()
def tw1789309961500335640:Unit:=()
def tw8147128040133754734:Unit:=()
def tw8366819417520313317:Unit:=()
def tw1082398485290226331:Unit:=()
def tw8399927247746421333:Unit:=()
def tw14910582326224304596:Unit:=()
def tw16340978855888582182:Unit:=()
def tw15282867172229270862:Unit:=()
def tw1058068440938749896:Unit:=()
def tw12374342849372768423:Unit:=()
def tw15671136456740531389:Unit:=()
def tw10160628823032416009:Unit:=()
def tw7489291693803942332:Unit:=()
def tw18248974347827017522:Unit:=()
def tw17636019147354304137:Unit:=()
def tw12573932601141835357:Unit:=()
def tw6630272417855962917:Unit:=()
def tw4318301736236134826:Unit:=()
def tw11995678589172029343:Unit:=()
def tw5520999253177922818:Unit:=()
def tw13680185212090430269:Unit:=()
def tw6274958401011145018:Unit:=()
def tw14981317753630006191:Unit:=()
def tw6652180697735555629:Unit:=()
def tw9017025080125525157:Unit:=()
def tw17465698219425241734:Unit:=()
def tw2140953178117150931:Unit:=()
def tw3089928382145421832:Unit:=()
def tw6148264198159512587:Unit:=()
def tw4553614688332761185:Unit:=()
def tw15286303846198809434:Unit:=()
def tw14070405965890829281:Unit:=()
def tw2216640381929981830:Unit:=()
def tw9323760582962892045:Unit:=()
def tw11845245049223070432:Unit:=()
def tw4300516927852305628:Unit:=()
def tw343105928629990489:Unit:=()
def tw126048476120382558:Unit:=()
def tw10645730318736496173:Unit:=()
def tw8087837125155364603:Unit:=()
def tw7197667508796897613:Unit:=()
def tw16268360546639633455:Unit:=()
def tw7997516887815784679:Unit:=()
def tw13688173926642531788:Unit:=()
def tw13229711267939823098:Unit:=()
def tw17656271044619020712:Unit:=()
def tw1948290485036220215:Unit:=()
def tw16479320970947199240:Unit:=()
def tw9960819151119193670:Unit:=()
def tw2091466374889393705:Unit:=()
def tw14477879396191652984:Unit:=()
def tw16897999693874121534:Unit:=()
def tw14770437766268073136:Unit:=()
def tw16135230683363678395:Unit:=()
def tw14380628539305381011:Unit:=()
def tw2989235810780720857:Unit:=()
def tw8412282441019313382:Unit:=()
def tw4492391215239739949:Unit:=()
def tw18109883006305348695:Unit:=()
def tw12835015948789952420:Unit:=()
def tw541156650204108648:Unit:=()
def tw18282087402283309327:Unit:=()
def tw9416532815632898805:Unit:=()
def tw14349621151505062838:Unit:=()
def tw3857996508750470478:Unit:=()
def tw9934077635714417276:Unit:=()
def tw10852176754821452435:Unit:=()
def tw10517835725002516951:Unit:=()
def tw17179353562549369335:Unit:=()
def tw10401656390516087810:Unit:=()
def tw3110622206484963084:Unit:=()
def tw12887971439209508662:Unit:=()
def tw5697861127655299608:Unit:=()
def tw1037315732116161232:Unit:=()
def tw5169373067054597433:Unit:=()
def tw11585825980067238364:Unit:=()
end PySem.W.Fast
set_option maxRecDepth 100000 in
set_option maxHeartbeats 0 in
theorem PySem.Challenge.cw_ledtowish_k20_tables_looked_at_holds : PySem.Challenge.rw_ledtowish_k20_tables_looked_at.Holds := by
 w_on; o_law; k_head; (case hw=>w_witness2)
 k_fill
 refine Law.walk (l:=PySem.Challenge.rw_ledtowish_k20_tables_looked_at) rfl rfl (fun w h Y=>PySem.W.kIn_of Y) ?F
 case F =>
  intro w mg fa h KX G hmg
  refine' Law.all_mk KX G hmg ?a_choices_of ?l_choices_of ?c_choices_of ?k_choices_of ?a_splits_of ?l_splits_of ?c_splits_of ?k_splits_of ?a_plus ?l_plus ?c_plus ?k_plus ?a_less ?l_less ?c_less ?k_less ?a_times ?l_times ?c_times ?k_times ?a_share ?l_share ?c_share ?k_share ?a_worth_by ?l_worth_by ?c_worth_by ?k_worth_by ?a_deeds_between ?l_deeds_between ?c_deeds_between ?k_deeds_between ?a_chosen_of ?l_chosen_of ?c_chosen_of ?k_chosen_of ?a_table_of ?l_table_of ?c_table_of ?k_table_of ?a_row_for ?l_row_for ?c_row_for ?k_row_for ?a_law_number ?l_law_number ?c_law_number ?k_law_number ?a_law_numbers ?l_law_numbers ?c_law_numbers ?k_law_numbers ?a_law_words ?l_law_words ?c_law_words ?k_law_words ?a_law_rows ?l_law_rows ?c_law_rows ?k_law_rows ?a_law_choice ?l_law_choice ?c_law_choice ?k_law_choice ?a_table_shown ?l_table_shown ?c_table_shown ?k_table_shown ?a_law_table ?l_law_table ?c_law_table ?k_law_table ?a_law_bent ?l_law_bent ?c_law_bent ?k_law_bent ?a_law_spoilt ?l_law_spoilt ?c_law_spoilt ?k_law_spoilt ?a_law_counted_alike ?l_law_counted_alike ?c_law_counted_alike ?k_law_counted_alike ?a_law_ordered ?l_law_ordered ?c_law_ordered ?k_law_ordered ?a_law ?l_law ?c_law ?k_law ?a_DEEDS ?l_DEEDS ?k_DEEDS ?e_DEEDS_plus ?e_DEEDS_less ?e_DEEDS_times ?e_DEEDS_share ?z_max ?z_min ?z_sorted ?z_any ?z_list ?z_set ?z_abs ?z_dict ?z_enumerate ?sm_DEEDS ?kt_DEEDS ?a_WishError ?l_WishError ?t_WishError ?kp_WishError ?ga_WishError ?gh_WishError ?gc_WishError ?sa_WishError ?a_NoWay ?l_NoWay ?t_NoWay ?kp_NoWay ?ga_NoWay ?gh_NoWay ?gc_NoWay ?sa_NoWay ?i_NoWay ?y_init ?l_init ?cd_ok_init ?k_init ?w_NoWay ?z_len ?z_sum ?z_range ?z_isinstance ?z_int ?z_str ?z_bool ?z_tuple ?z_zip
  (case a_choices_of=>k_is)
  (case l_choices_of=>k_is)
  (case c_choices_of=>k_is)
  (case k_choices_of=>k_is)
  (case a_splits_of=>k_is)
  (case l_splits_of=>k_is)
  (case c_splits_of=>k_is)
  (case k_splits_of=>k_is)
  (case a_plus=>k_is)
  (case l_plus=>k_is)
  (case c_plus=>k_is)
  (case k_plus=>k_is)
  (case a_less=>k_is)
  (case l_less=>k_is)
  (case c_less=>k_is)
  (case k_less=>k_is)
  (case a_times=>k_is)
  (case l_times=>k_is)
  (case c_times=>k_is)
  (case k_times=>k_is)
  (case a_share=>k_is)
  (case l_share=>k_is)
  (case c_share=>k_is)
  (case k_share=>k_is)
  (case a_worth_by=>k_is)
  (case l_worth_by=>k_is)
  (case c_worth_by=>k_is)
  (case k_worth_by=>k_is)
  (case a_deeds_between=>k_is)
  (case l_deeds_between=>k_is)
  (case c_deeds_between=>k_is)
  (case k_deeds_between=>k_is)
  (case a_chosen_of=>k_is)
  (case l_chosen_of=>k_is)
  (case c_chosen_of=>k_is)
  (case k_chosen_of=>k_is)
  (case a_table_of=>k_is)
  (case l_table_of=>k_is)
  (case c_table_of=>k_is)
  (case k_table_of=>k_is)
  (case a_row_for=>k_is)
  (case l_row_for=>k_is)
  (case c_row_for=>k_is)
  (case k_row_for=>k_is)
  (case a_law_number=>k_is)
  (case l_law_number=>k_is)
  (case c_law_number=>k_is)
  (case k_law_number=>k_is)
  (case a_law_numbers=>k_is)
  (case l_law_numbers=>k_is)
  (case c_law_numbers=>k_is)
  (case k_law_numbers=>k_is)
  (case a_law_words=>k_is)
  (case l_law_words=>k_is)
  (case c_law_words=>k_is)
  (case k_law_words=>k_is)
  (case a_law_rows=>k_is)
  (case l_law_rows=>k_is)
  (case c_law_rows=>k_is)
  (case k_law_rows=>k_is)
  (case a_law_choice=>k_is)
  (case l_law_choice=>k_is)
  (case c_law_choice=>k_is)
  (case k_law_choice=>k_is)
  (case a_table_shown=>k_is)
  (case l_table_shown=>k_is)
  (case c_table_shown=>k_is)
  (case k_table_shown=>k_is)
  (case a_law_table=>k_is)
  (case l_law_table=>k_is)
  (case c_law_table=>k_is)
  (case k_law_table=>k_is)
  (case a_law_bent=>k_is)
  (case l_law_bent=>k_is)
  (case c_law_bent=>k_is)
  (case k_law_bent=>k_is)
  (case a_law_spoilt=>k_is)
  (case l_law_spoilt=>k_is)
  (case c_law_spoilt=>k_is)
  (case k_law_spoilt=>k_is)
  (case a_law_counted_alike=>k_is)
  (case l_law_counted_alike=>k_is)
  (case c_law_counted_alike=>k_is)
  (case k_law_counted_alike=>k_is)
  (case a_law_ordered=>k_is)
  (case l_law_ordered=>k_is)
  (case c_law_ordered=>k_is)
  (case k_law_ordered=>k_is)
  (case a_law=>k_is)
  (case l_law=>k_is)
  (case c_law=>k_is)
  (case k_law=>k_is)
  (case a_DEEDS=>k_is)
  (case l_DEEDS=>k_is)
  (case k_DEEDS=>k_keys)
  (case e_DEEDS_plus=>k_is)
  (case e_DEEDS_less=>k_is)
  (case e_DEEDS_times=>k_is)
  (case e_DEEDS_share=>k_is)
  (case z_max=>k_is)
  (case z_min=>k_is)
  (case z_sorted=>k_is)
  (case z_any=>k_is)
  (case z_list=>k_is)
  (case z_set=>k_is)
  (case z_abs=>k_is)
  (case z_dict=>k_is)
  (case z_enumerate=>k_is)
  (case sm_DEEDS=>decide +kernel)
  (case kt_DEEDS=>exact .cons rfl (.cons rfl (.cons rfl (.cons rfl .nil))))
  (case a_WishError=>k_is)
  (case l_WishError=>k_is)
  (case t_WishError=>kernel_rfl)
  (case kp_WishError=>k_is)
  (case ga_WishError=>k_is)
  (case gh_WishError=>k_is)
  (case gc_WishError=>k_is)
  (case sa_WishError=>k_is)
  (case a_NoWay=>k_is)
  (case l_NoWay=>k_is)
  (case t_NoWay=>kernel_rfl)
  (case kp_NoWay=>k_is)
  (case ga_NoWay=>k_is)
  (case gh_NoWay=>k_is)
  (case gc_NoWay=>k_is)
  (case sa_NoWay=>k_is)
  (case i_NoWay=>k_is)
  (case y_init=>k_is)
  (case l_init=>k_is)
  (case cd_ok_init=>k_is)
  (case k_init=>k_is)
  (case w_NoWay=>k_is)
  (case z_len=>k_is)
  (case z_sum=>k_is)
  (case z_range=>k_is)
  (case z_isinstance=>k_is)
  (case z_int=>k_is)
  (case z_str=>k_is)
  (case z_bool=>k_is)
  (case z_tuple=>k_is)
  (case z_zip=>k_is)
#print axioms PySem.Challenge.cw_ledtowish_k20_tables_looked_at_holds
