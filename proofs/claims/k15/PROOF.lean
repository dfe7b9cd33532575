import PyProof.Rows.All
import Wide.All
import OpenK.AllK
import Wide.FinOn
import HandS.ForMost
import HandS.Exc
import HandS.WordsExc
import HandS.Gcd
import HandS.FStr
import HandS.Property
import HandS.Wide
import HandS.Zip
import HandS.IsInst
import HandS.SlotsOwn
import KE.KOpsOwn
import KE.KCallOwn
import PyProof.InstEq
import HandS.Defaults
import HandS.ClsMeth
import HandS.Star
import HandS.ExcIs
import HandS.ExcOwn
import HandS.ExcBuiltin
import PyProof.ReprNest
import HandS.OwnEq
import HandS.Walk
import HandS.DictComp
import HandS.ListItems
import HandS.WordsDict
import HandS.Finally
import HandS.Conv
import HandS.More
import KE.KStar
import KE.KDictList
import HandS.Style
import HandS.Text
import HandS.MakeKwOnly
import HandS.MakeKw
import HandS.ExcInit
import HandS.ExcField
import HandS.TryMany
import HandS.ExcValue
import HandS.TupLen
import HandS.DictTup
import KE.SortKeyHeap
import HandS.Lambda
import HandS.SortKw
import KE.KDictCopyH
import KE.GoesMore
import KE.KMathG
import HandS.Rev
import PyProof.DictTruth
import KE.SortData
import PyProof.ReprRoads
import HandS.EndTab
import PySem.Challenge.RW_notesums_k15_texts_of_questions
set_option Elab.async false
set_option linter.all false
set_option maxRecDepth 100000
set_option maxHeartbeats 4000000
namespace N3
open PySem PySem.Spec L2
/-! ### what is known of the heap: a list of objects by their addresses -/
abbrev LH := List (Addr × HO)
/-- a tuple, which never changes -/
def tupB : HO → Bool
  | .tup _ => true
  | _ => false
/-- no two addresses alike, but where the same tuple is known twice -/
def Apart : LH → Prop
  | [] => True
  | p :: r => (∀ q ∈ r, q.1 = p.1 → q = p ∧ tupB p.2 = true) ∧ Apart r
structure Holds (L : LH) (H : Hp) : Prop where
  nd : Apart L
  at_ : ∀ a o, (a, o) ∈ L → H a = some o
inductive Mem (a : Addr) (o : HO) : LH → Prop where
  | head {L : LH} : Mem a o ((a, o) :: L)
  | tail {p : Addr × HO} {L : LH} : Mem a o L → Mem a o (p :: L)
theorem Mem.mem {a : Addr} {o : HO} {L : LH} (h : Mem a o L) : (a, o) ∈ L := by
  induction h with
  | head => exact List.mem_cons_self
  | tail _ ih => exact List.mem_cons_of_mem _ ih
theorem Holds.get {L : LH} {H : Hp} {a : Addr} {o : HO} (h : Holds L H) (m : Mem a o L) : H a = some o := h.at_ a o m.mem
/-- the place of a in L: what L is with another object there -/
inductive Hole (a : Addr) (o : HO) : LH → (HO → LH) → Prop where
  | head {L : LH} : Hole a o ((a, o) :: L) (fun o' => (a, o') :: L)
  | tail {p : Addr × HO} {L : LH} {F : HO → LH} : Hole a o L F → Hole a o (p :: L) (fun o' => p :: F o')
theorem Hole.mem {a : Addr} {o : HO} {L : LH} {F : HO → LH} (h : Hole a o L F) : (a, o) ∈ L := by
  induction h with
  | head => exact List.mem_cons_self
  | tail _ ih => exact List.mem_cons_of_mem _ ih
theorem Hole.mem' {a : Addr} {o : HO} {L : LH} {F : HO → LH} (h : Hole a o L F) (o' : HO) (nt : tupB o = false) (nd : Apart L) : ∀ b u, (b, u) ∈ F o' → (b = a ∧ u = o') ∨ (b ≠ a ∧ (b, u) ∈ L) := by
  induction h with
  | head =>
    rename_i L
    intro b u hm
    rcases List.mem_cons.mp hm with e | hm2
    · cases e
      exact .inl ⟨rfl, rfl⟩
    · refine .inr ⟨fun e => ?_, List.mem_cons_of_mem _ hm2⟩
      have z := (nd.1 _ hm2 e).2
      rw [nt] at z
      cases z
  | tail hh ih =>
    rename_i p L F
    intro b u hm
    rcases List.mem_cons.mp hm with e | hm
    · refine .inr ⟨fun e' => ?_, by rw [e]; exact List.mem_cons_self⟩
      subst e
      have z := nd.1 _ hh.mem e'.symm
      have z2 : tupB o = true := by
        have e3 := z.1
        have z3 := z.2
        rw [← e3] at z3
        exact z3
      rw [nt] at z2
      cases z2
    · rcases ih nd.2 b u hm with h | ⟨h1, h2⟩
      · exact .inl h
      · exact .inr ⟨h1, List.mem_cons_of_mem _ h2⟩
theorem Hole.apart {a : Addr} {o : HO} {L : LH} {F : HO → LH} (h : Hole a o L F) (o' : HO) (nt : tupB o = false) (nd : Apart L) : Apart (F o') := by
  induction h with
  | head =>
    refine ⟨fun q hq e => ?_, nd.2⟩
    have z := (nd.1 q hq e).2
    rw [nt] at z
    cases z
  | tail hh ih =>
    rename_i p L F
    refine ⟨fun q hq e => ?_, ih nd.2⟩
    rcases hh.mem' o' nt nd.2 q.1 q.2 hq with ⟨e1, _⟩ | ⟨_, h2⟩
    · have z := nd.1 _ hh.mem (e1.symm.trans e)
      have z3 := z.2
      rw [← z.1] at z3
      rw [nt] at z3
      cases z3
    · exact nd.1 _ h2 e
theorem Apart.fresh {L : LH} {H : Hp} (h : ∀ a o, (a, o) ∈ L → H a = some o) {p : Addr} {o : HO} (hp : H p = none) : ∀ q ∈ L, q.1 = p → q = (p, o) ∧ tupB o = true := fun q hq e => by
  have := h q.1 q.2 hq
  rw [e, hp] at this
  cases this
theorem Holds.new {L : LH} {H : Hp} {p : Addr} {o : HO} (h : Holds L H) (hp : H p = none) : Holds ((p, o) :: L) (upd H p o) := by
  have nm : ∀ b u, (b, u) ∈ L → b ≠ p := fun b u hm e => by
    have := h.at_ b u hm
    rw [e, hp] at this
    cases this
  refine ⟨⟨Apart.fresh h.at_ hp, h.nd⟩, fun a u hm => ?_⟩
  · rcases List.mem_cons.mp hm with e | hm
    · cases e
      exact upd_same
    · rw [upd_ne (nm a u hm)]
      exact h.at_ a u hm
theorem Holds.put {L : LH} {H : Hp} {a : Addr} {o o' : HO} {F : HO → LH} (h : Holds L H) (f : Hole a o L F) (nt : tupB o = false := by rfl) : Holds (F o') (upd H a o') := by
  refine ⟨f.apart o' nt h.nd, fun b u hm => ?_⟩
  rcases f.mem' o' nt h.nd b u hm with ⟨e1, e2⟩ | ⟨h1, h2⟩
  · subst e1 e2
    exact upd_same
  · rw [upd_ne h1]
    exact h.at_ b u h2
/-- what is forgotten -/
theorem Holds.drop {p : Addr × HO} {L : LH} {H : Hp} (h : Holds (p :: L) H) : Holds L H :=
  ⟨h.nd.2, fun a o m => h.at_ a o (List.mem_cons_of_mem _ m)⟩
theorem Holds.drop1 {p q : Addr × HO} {L : LH} {H : Hp} (h : Holds (p :: q :: L) H) : Holds (p :: L) H := by
  have n := h.nd
  refine ⟨⟨fun q hq => n.1 q (List.mem_cons_of_mem _ hq), n.2.2⟩, fun a o m => h.at_ a o ?_⟩
  · rcases List.mem_cons.mp m with e | m
    · rw [e]
      exact List.mem_cons_self
    · exact List.mem_cons_of_mem _ (List.mem_cons_of_mem _ m)
/-- a tuple that lies there, known or not -/
theorem Holds.tup {L : LH} {H : Hp} {q : Addr} {xs : List V} (h : Holds L H) (e : H q = some (.tup xs)) : Holds ((q, .tup xs) :: L) H := by
  refine ⟨⟨fun r hr er => ?_, h.nd⟩, fun a o m => ?_⟩
  · have z := h.at_ r.1 r.2 hr
    rw [er] at z
    have z2 := Option.some.inj (e.symm.trans z)
    exact ⟨Prod.ext er z2.symm, rfl⟩
  · rcases List.mem_cons.mp m with z | z
    · cases z
      exact e
    · exact h.at_ a o z
theorem Apart.sub {L L' : LH} (h : L'.Sublist L) (nd : Apart L) : Apart L' := by
  induction h with
  | slnil => exact nd
  | cons a _ ih => exact ih nd.2
  | cons_cons a hs ih => exact ⟨fun q hq => nd.1 q (hs.mem hq), ih nd.2⟩
/-- L' holds wherever L does -/
def Sub (L L' : LH) : Prop := ∀ H, Holds L H → Holds L' H
theorem Sub.refl (L : LH) : Sub L L := fun _ h => h
/-! ### readings that every piece of syntax has -/
def SemE (X : Cx) (e : Expr) : TE := fun σ H Q => ∀ pins s, Inv X pins σ H s → wpAny (model X.prog X.w) X.A (eval e X.env) (EP X pins σ Q) X.xe s
def SemT (X : Cx) (e : Expr) : TT := fun σ H Q => ∀ pins s, Inv X pins σ H s → wpAny (model X.prog X.w) X.A (isTrue e X.env (eval e X.env)) (TP X pins σ Q) X.xe s
def SemW (X : Cx) (e : Expr) : TT := fun σ H Q => ∀ (whole : Sem Value) pins s, Inv X pins σ H s → wpAny (model X.prog X.w) X.A (isTrue e X.env whole) (TP X pins σ Q) X.xe s
def SemA (X : Cx) (es : List Expr) : TA := fun σ H Q => ∀ (pos : Pos) pins s, Inv X pins σ H s → wpAny (model X.prog X.w) X.A (spliced (backTo pos (starEach es X.env))) (AP X pins σ Q) X.xe s
def SemS (X : Cx) (st : Stmt) : TS := fun D σ H => ∀ pins s, Inv X pins σ H s → wpAny (model X.prog X.w) X.A (exec st X.env) (SP X pins D) X.xe s
def SemSs (X : Cx) (st : List Stmt) : TS := fun D σ H => ∀ pins s, Inv X pins σ H s → wpAny (model X.prog X.w) X.A (execs st X.env) (SP X pins D) X.xe s
def SemG (X : Cx) (tg : Expr) : TG := fun v σ H Q => ∀ pins s u, Inv X pins σ H s → RelV v u → wpAny (model X.prog X.w) X.A (assign tg X.env u) (fun _ s' => ∃ σ' H', Inv X pins σ' H' s' ∧ Q σ' H') X.xe s
def SemGs (X : Cx) (ts : List Expr) : TGs := fun vs σ H Q => ∀ pins s us, Inv X pins σ H s → Vals vs us → wpAny (model X.prog X.w) X.A (assignInOrder ((assignEach ts X.env).map (·.2)) us) (fun _ s' => ∃ σ' H', Inv X pins σ' H' s' ∧ Q σ' H') X.xe s
def SemO (X : Cx) (f : Value → Value → Sem Value) : R2 := fun x y H Q => ∀ pins s σ v u, Inv X pins σ H s → RelV x v → RelV y u → wpAny (model X.prog X.w) X.A (f v u) (EP X pins σ Q) X.xe s
def SemU (X : Cx) (f : Value → Sem Value) : V → Hp → VK → Prop := fun x H Q => ∀ pins s σ v, Inv X pins σ H s → RelV x v → wpAny (model X.prog X.w) X.A (f v) (EP X pins σ Q) X.xe s
def SemC (X : Cx) (f : Value) : List V → Hp → VK → Prop := fun xs H Q => ∀ pins s σ us, Inv X pins σ H s → Vals xs us → wpAny (model X.prog X.w) X.A (call f us) (EP X pins σ Q) X.xe s
section
variable {X : Cx} {e : Expr} {es : List Expr} {st : Stmt} {sts : List Stmt}
theorem pe_sem : PE X e (SemE X e) := ⟨fun pins s _ _ _ I h => h pins s I⟩
theorem pt_sem : PT X e (SemT X e) := ⟨fun pins s _ _ _ I h => h pins s I⟩
theorem pw_sem : PW X e (SemW X e) := ⟨fun wh pins s _ _ _ I h => h wh pins s I⟩
theorem pa_sem : PA X es (SemA X es) := ⟨fun pos pins s _ _ _ I h => h pos pins s I⟩
theorem ps_sem : PS X st (SemS X st) := ⟨fun pins s _ _ _ I h => h pins s I⟩
theorem pss_sem : PSs X sts (SemSs X sts) := ⟨fun pins s _ _ _ I h => h pins s I⟩
theorem pg_sem : PG X e (SemG X e) := ⟨fun pins s _ _ _ u _ I r h => h pins s u I r⟩
theorem pgs_sem : PGs X es (SemGs X es) := ⟨fun pins s _ _ _ us _ I r h => h pins s us I r⟩
theorem op_sem {f : Value → Value → Sem Value} : OpR X f (SemO X f) := fun pins s σ _ _ _ v u _ I r1 r2 h => h pins s σ v u I r1 r2
theorem un_sem {f : Value → Sem Value} : UnR X f (SemU X f) := fun pins s σ _ _ v _ I r h => h pins s σ v I r
theorem call_sem {f : Value} : CallR X f (SemC X f) := fun pins s σ _ _ us _ I r h => h pins s σ us I r
variable {σ : St} {H : Hp}
theorem SemE.mono {Q Q' : VK} (h : SemE X e σ H Q) (k : ∀ v H, Q v H → Q' v H) : SemE X e σ H Q' := fun pins s I => thn (h pins s I) fun _ _ ⟨v, H1, I1, r1, q⟩ => ⟨v, H1, I1, r1, k _ _ q⟩
theorem SemT.mono {Q Q' : Bool → Hp → Prop} (h : SemT X e σ H Q) (k : ∀ v H, Q v H → Q' v H) : SemT X e σ H Q' := fun pins s I => thn (h pins s I) fun _ _ ⟨H1, I1, q⟩ => ⟨H1, I1, k _ _ q⟩
theorem SemW.mono {Q Q' : Bool → Hp → Prop} (h : SemW X e σ H Q) (k : ∀ v H, Q v H → Q' v H) : SemW X e σ H Q' := fun wh pins s I => thn (h wh pins s I) fun _ _ ⟨H1, I1, q⟩ => ⟨H1, I1, k _ _ q⟩
theorem SemA.mono {Q Q' : List V → Hp → Prop} (h : SemA X es σ H Q) (k : ∀ v H, Q v H → Q' v H) : SemA X es σ H Q' := fun pos pins s I => thn (h pos pins s I) fun _ _ ⟨v, H1, I1, r1, q⟩ => ⟨v, H1, I1, r1, k _ _ q⟩
theorem SemO.mono {f : Value → Value → Sem Value} {x y : V} {Q Q' : VK} (h : SemO X f x y H Q) (k : ∀ v H, Q v H → Q' v H) : SemO X f x y H Q' := fun pins s σ v u I r1 r2 => thn (h pins s σ v u I r1 r2) fun _ _ ⟨v, H1, I1, r1, q⟩ => ⟨v, H1, I1, r1, k _ _ q⟩
theorem SemG.mono {v : V} {Q Q' : St → Hp → Prop} (h : SemG X e v σ H Q) (k : ∀ v H, Q v H → Q' v H) : SemG X e v σ H Q' := fun pins s u I r => thn (h pins s u I r) fun _ _ ⟨v, H1, I1, q⟩ => ⟨v, H1, I1, k _ _ q⟩
theorem SemGs.mono {v : List V} {Q Q' : St → Hp → Prop} (h : SemGs X es v σ H Q) (k : ∀ v H, Q v H → Q' v H) : SemGs X es v σ H Q' := fun pins s u I r => thn (h pins s u I r) fun _ _ ⟨v, H1, I1, q⟩ => ⟨v, H1, I1, k _ _ q⟩
def Ends.Le (D D' : Ends) : Prop := (∀ σ H, D.nx σ H → D'.nx σ H) ∧ (∀ v H, D.rt v H → D'.rt v H) ∧ (∀ σ H, D.bk σ H → D'.bk σ H) ∧ (∀ σ H, D.ct σ H → D'.ct σ H)
theorem sp_mono {pins : List (Addr × Obj)} {D D' : Ends} (k : Ends.Le D D') : ∀ f s, SP X pins D f s → SP X pins D' f s := by
  intro f s h
  cases f with
  | next => obtain ⟨σ, H, I, q⟩ := h; exact ⟨σ, H, I, k.1 _ _ q⟩
  | brk => obtain ⟨σ, H, I, q⟩ := h; exact ⟨σ, H, I, k.2.2.1 _ _ q⟩
  | cont => obtain ⟨σ, H, I, q⟩ := h; exact ⟨σ, H, I, k.2.2.2 _ _ q⟩
  | ret u => obtain ⟨v, σ, H, I, r, q⟩ := h; exact ⟨v, σ, H, I, r, k.2.1 _ _ q⟩
theorem SemS.mono {D D' : Ends} (h : SemS X st D σ H) (k : Ends.Le D D') : SemS X st D' σ H := fun pins s I => thn (h pins s I) (sp_mono k)
theorem SemSs.mono {D D' : Ends} (h : SemSs X sts D σ H) (k : Ends.Le D D') : SemSs X sts D' σ H := fun pins s I => thn (h pins s I) (sp_mono k)
end
/-! ### the goals -/
def QE (K : V → LH → Prop) : VK := fun v H => ∃ L, Holds L H ∧ K v L
def QT (K : Bool → LH → Prop) : Bool → Hp → Prop := fun b H => ∃ L, Holds L H ∧ K b L
def QA (K : List V → LH → Prop) : List V → Hp → Prop := fun vs H => ∃ L, Holds L H ∧ K vs L
def QS (K : St → LH → Prop) : St → Hp → Prop := fun σ H => ∃ L, Holds L H ∧ K σ L
structure EndsL where
  nx : St → LH → Prop
  rt : V → LH → Prop
  bk : St → LH → Prop := fun _ _ => False
  ct : St → LH → Prop := fun _ _ => False
def EndsL.to (D : EndsL) : Ends := ⟨QS D.nx, QE D.rt, QS D.bk, QS D.ct⟩
def WE (X : Cx) (e : Expr) (σ : St) (L : LH) (K : V → LH → Prop) : Prop := ∀ H, Holds L H → SemE X e σ H (QE K)
def WT (X : Cx) (e : Expr) (σ : St) (L : LH) (K : Bool → LH → Prop) : Prop := ∀ H, Holds L H → SemT X e σ H (QT K)
def WW (X : Cx) (e : Expr) (σ : St) (L : LH) (K : Bool → LH → Prop) : Prop := ∀ H, Holds L H → SemW X e σ H (QT K)
def WA (X : Cx) (es : List Expr) (σ : St) (L : LH) (K : List V → LH → Prop) : Prop := ∀ H, Holds L H → SemA X es σ H (QA K)
def WG (X : Cx) (tg : Expr) (v : V) (σ : St) (L : LH) (K : St → LH → Prop) : Prop := ∀ H, Holds L H → SemG X tg v σ H (QS K)
def WGs (X : Cx) (tgs : List Expr) (vs : List V) (σ : St) (L : LH) (K : St → LH → Prop) : Prop := ∀ H, Holds L H → SemGs X tgs vs σ H (QS K)
def WO (X : Cx) (f : Value → Value → Sem Value) (x y : V) (L : LH) (K : V → LH → Prop) : Prop := ∀ H, Holds L H → SemO X f x y H (QE K)
def WU (X : Cx) (f : Value → Sem Value) (x : V) (L : LH) (K : V → LH → Prop) : Prop := ∀ H, Holds L H → SemU X f x H (QE K)
def WC (X : Cx) (f : Value) (vs : List V) (L : LH) (K : V → LH → Prop) : Prop := ∀ H, Holds L H → SemC X f vs H (QE K)
def WS (X : Cx) (st : Stmt) (σ : St) (L : LH) (D : EndsL) : Prop := ∀ H, Holds L H → SemS X st D.to σ H
def WSs (X : Cx) (sts : List Stmt) (σ : St) (L : LH) (D : EndsL) : Prop := ∀ H, Holds L H → SemSs X sts D.to σ H
section
variable {X : Cx} {e a b : Expr} {es : List Expr} {st : Stmt} {sts : List Stmt} {σ : St} {L : LH} {K : V → LH → Prop} {KT : Bool → LH → Prop} {KA : List V → LH → Prop} {KS : St → LH → Prop} {D : EndsL} {pos : Pos}
theorem we_of {te : TE} (h : PE X e te) (q : ∀ H, Holds L H → te σ H (QE K)) : WE X e σ L K := fun H hL pins s I => h.run pins s σ H _ I (q H hL)
theorem wt_of {te : TT} (h : PT X e te) (q : ∀ H, Holds L H → te σ H (QT KT)) : WT X e σ L KT := fun H hL pins s I => h.run pins s σ H _ I (q H hL)
theorem ww_of {te : TT} (h : PW X e te) (q : ∀ H, Holds L H → te σ H (QT KT)) : WW X e σ L KT := fun H hL wh pins s I => h.run wh pins s σ H _ I (q H hL)
theorem wa_of {te : TA} (h : PA X es te) (q : ∀ H, Holds L H → te σ H (QA KA)) : WA X es σ L KA := fun H hL pos pins s I => h.run pos pins s σ H _ I (q H hL)
theorem wg_of {v : V} {te : TG} (h : PG X e te) (q : ∀ H, Holds L H → te v σ H (QS KS)) : WG X e v σ L KS := fun H hL pins s u I r => h.run pins s σ H v u _ I r (q H hL)
theorem wgs_of {vs : List V} {te : TGs} (h : PGs X es te) (q : ∀ H, Holds L H → te vs σ H (QS KS)) : WGs X es vs σ L KS := fun H hL pins s u I r => h.run pins s σ H vs u _ I r (q H hL)
theorem wo_of {f : Value → Value → Sem Value} {r : R2} {x y : V} (h : OpR X f r) (q : ∀ H, Holds L H → r x y H (QE K)) : WO X f x y L K := fun H hL pins s σ v u I r1 r2 => h pins s σ H x y v u _ I r1 r2 (q H hL)
theorem wu_of {f : Value → Sem Value} {r : V → Hp → VK → Prop} {x : V} (h : UnR X f r) (q : ∀ H, Holds L H → r x H (QE K)) : WU X f x L K := fun H hL pins s σ v I r1 => h pins s σ H x v _ I r1 (q H hL)
theorem wc_of {f : Value} {r : List V → Hp → VK → Prop} {vs : List V} (h : CallR X f r) (q : ∀ H, Holds L H → r vs H (QE K)) : WC X f vs L K := fun H hL pins s σ us I r1 => h pins s σ H vs us _ I r1 (q H hL)
theorem ws_of {t : TS} (h : PS X st t) (q : ∀ H, Holds L H → t D.to σ H) : WS X st σ L D := fun H hL pins s I => h.run pins s σ H _ I (q H hL)
theorem wss_of {t : TS} (h : PSs X sts t) (q : ∀ H, Holds L H → t D.to σ H) : WSs X sts σ L D := fun H hL pins s I => h.run pins s σ H _ I (q H hL)
/-- then -/
theorem e_then {H : Hp} {Q : VK} (h : WE X e σ L K) (hL : Holds L H) (k : ∀ v L' H', Holds L' H' → K v L' → Q v H') : SemE X e σ H Q := (h H hL).mono fun v H' ⟨L', h', q⟩ => k v L' H' h' q
theorem t_then {H : Hp} {Q : Bool → Hp → Prop} (h : WT X e σ L KT) (hL : Holds L H) (k : ∀ v L' H', Holds L' H' → KT v L' → Q v H') : SemT X e σ H Q := (h H hL).mono fun v H' ⟨L', h', q⟩ => k v L' H' h' q
theorem a_then {H : Hp} {Q : List V → Hp → Prop} (h : WA X es σ L KA) (hL : Holds L H) (k : ∀ v L' H', Holds L' H' → KA v L' → Q v H') : SemA X es σ H Q := (h H hL).mono fun v H' ⟨L', h', q⟩ => k v L' H' h' q
theorem g_then {v : V} {H : Hp} {Q : St → Hp → Prop} (h : WG X e v σ L KS) (hL : Holds L H) (k : ∀ v L' H', Holds L' H' → KS v L' → Q v H') : SemG X e v σ H Q := (h H hL).mono fun v H' ⟨L', h', q⟩ => k v L' H' h' q
theorem o_then {f : Value → Value → Sem Value} {x y : V} {H : Hp} {Q : VK} (h : WO X f x y L K) (hL : Holds L H) (k : ∀ v L' H', Holds L' H' → K v L' → Q v H') : SemO X f x y H Q := (h H hL).mono fun v H' ⟨L', h', q⟩ => k v L' H' h' q
/-- forgetting -/
theorem we_sub {L' : LH} (s : Sub L L') (h : WE X e σ L' K) : WE X e σ L K := fun H hL => h H (s H hL)
theorem wss_sub {L' : LH} (s : Sub L L') (h : WSs X sts σ L' D) : WSs X sts σ L D := fun H hL => h H (s H hL)
/-! ### expressions -/
theorem we_int {i : Int} {j : Nat} (k : K (.int i) L) : WE X (.Constant (.int i) j pos) σ L K := we_of pe_int fun _ hL => ⟨L, hL, k⟩
theorem we_bool {i : Bool} {j : Nat} (k : K (.bl i) L) : WE X (.Constant (.bool i) j pos) σ L K := we_of pe_bl fun _ hL => ⟨L, hL, k⟩
theorem we_str {i : Str} {j : Nat} (k : K (.str i) L) : WE X (.Constant (.str i) j pos) σ L K := we_of pe_str fun _ hL => ⟨L, hL, k⟩
theorem we_none {j : Nat} (k : K .non L) : WE X (.Constant .none j pos) σ L K := we_of pe_non fun _ hL => ⟨L, hL, k⟩
theorem we_name (i : Nat) {x : Str} {v : V} (hN : X.N[i]? = some x) (hv : Vis X.env.scope x) (hσ : σ[i]? = some (some v)) (k : K v L) (hd : (x == ("__debug__" : Str)) = false := by decide) (hcd : (x == ("__classdict__" : Str)) = false := by decide) :
    WE X (.Name x pos) σ L K := we_of (pe_var hN hv hd hcd) fun _ hL => ⟨v, hσ, L, hL, k⟩
theorem we_glob {x : Str} {v : V} {u : Value} (hm : X.mg x = some u) (r : RelV v u) (k : K v L) (hg : Gl X x := by rfl) (hd : (x == ("__debug__" : Str)) = false := by decide) : WE X (.Name x pos) σ L K := we_of (pe_glob hg hm r hd) fun _ hL => ⟨L, hL, k⟩
theorem we_bin {op : Operator} (h : WE X a σ L fun x L1 => WE X b σ L1 fun y L2 => WO X (binaryOp op) x y L2 K) : WE X (.BinOp a op b pos) σ L K :=
  we_of (pe_op op_sem pe_sem pe_sem) fun _ hL => e_then h hL fun _ _ _ h1 k1 => e_then k1 h1 fun _ _ H2 h2 k2 => k2 H2 h2
theorem we_un {op : UnaryOp} (h : WE X a σ L fun x L1 => WU X (unaryOp op) x L1 K) : WE X (.UnaryOp op a pos) σ L K :=
  we_of (pe_un un_sem pe_sem) fun _ hL => e_then h hL fun _ _ H1 h1 k1 => k1 H1 h1
theorem we_cmp {op : CmpOp} (hm : behindInMarks op b = false) (h : WE X a σ L fun x L1 => WE X b σ L1 fun y L2 => WO X (compareOp op) x y L2 K) : WE X (.Compare a [op] [b] pos) σ L K :=
  we_of (pe_cmpR op_sem pe_sem pe_sem hm) fun _ hL => e_then h hL fun _ _ _ h1 k1 => e_then k1 h1 fun _ _ H2 h2 k2 => k2 H2 h2
/-- what a bool value leads to -/
def KB (KT : Bool → LH → Prop) (v : V) (L : LH) : Prop := ∃ c, v = .bl c ∧ KT c L
theorem wt_cmp {op : CmpOp} (hm : behindInMarks op b = false) (h : WE X a σ L fun x L1 => WE X b σ L1 fun y L2 => WO X (compareOp op) x y L2 (KB KT)) : WT X (.Compare a [op] [b] pos) σ L KT :=
  wt_of (pt_cmpR op_sem pe_sem pe_sem hm) fun _ hL => e_then h hL fun _ _ _ h1 k1 => e_then k1 h1 fun _ _ _ h2 k2 => o_then k2 h2 fun _ L3 _ h3 ⟨c, ev, k3⟩ => ⟨c, ev, L3, h3, k3⟩
theorem wt_val (h : WE X e σ L (KB KT)) (he : ∀ whole, isTrue e X.env whole = (do let v ← whole; standAt e.pos; holding [v] (truthy v)) := by intro _; rfl) : WT X e σ L KT :=
  wt_of (pt_val pe_sem he) fun _ hL => e_then h hL fun _ L1 _ h1 ⟨c, ev, k⟩ => ⟨c, ev, L1, h1, k⟩
theorem wt_not (h : WT X a σ L fun c L1 => KT (!c) L1) : WT X (.UnaryOp .Not a pos) σ L KT := wt_of (pt_not pt_sem) fun _ hL => t_then h hL fun _ L1 _ h1 k => ⟨L1, h1, k⟩
theorem ww_and1 (h : WT X a σ L KT) : WW X (.BoolOp .And [a] pos) σ L KT := ww_of (pw_and1 pt_sem) fun H hL => h H hL
theorem ww_or1 (h : WT X a σ L KT) : WW X (.BoolOp .Or [a] pos) σ L KT := ww_of (pw_or1 pt_sem) fun H hL => h H hL
theorem ww_and (h : WT X a σ L fun c L1 => (c = true → WW X (.BoolOp .And (b :: es) pos) σ L1 KT) ∧ (c = false → KT false L1)) : WW X (.BoolOp .And (a :: b :: es) pos) σ L KT :=
  ww_of (pw_and pt_sem pw_sem) fun _ hL => t_then h hL fun c L1 H1 h1 k => by
    cases c with
    | true => exact iteT (k.1 rfl H1 h1)
    | false => exact iteF ⟨L1, h1, k.2 rfl⟩
theorem ww_or (h : WT X a σ L fun c L1 => (c = false → WW X (.BoolOp .Or (b :: es) pos) σ L1 KT) ∧ (c = true → KT true L1)) : WW X (.BoolOp .Or (a :: b :: es) pos) σ L KT :=
  ww_of (pw_or pt_sem pw_sem) fun _ hL => t_then h hL fun c L1 H1 h1 k => by
    cases c with
    | true => exact iteT ⟨L1, h1, k.2 rfl⟩
    | false => exact iteF (k.1 rfl H1 h1)
theorem wt_ww (h : WW X e σ L KT) : WT X e σ L KT := fun H hL pins s I => h H hL _ pins s I
theorem we_one {op} (h : WE X a σ L K) : WE X (.BoolOp op [a] pos) σ L K := we_of (pe_one pe_sem) fun H hL => h H hL
theorem we_and (h : WE X a σ L (KB fun c L1 => (c = true → WE X (.BoolOp .And (b :: es) pos) σ L1 K) ∧ (c = false → K (.bl false) L1))) : WE X (.BoolOp .And (a :: b :: es) pos) σ L K :=
  we_of (pe_and pe_sem pe_sem) fun _ hL => e_then h hL fun _ L1 H1 h1 ⟨c, ev, k⟩ => ⟨c, ev, by
    cases c with
    | true => exact iteT (k.1 rfl H1 h1)
    | false => exact iteF ⟨L1, h1, k.2 rfl⟩⟩
theorem we_or (h : WE X a σ L (KB fun c L1 => (c = false → WE X (.BoolOp .Or (b :: es) pos) σ L1 K) ∧ (c = true → K (.bl true) L1))) : WE X (.BoolOp .Or (a :: b :: es) pos) σ L K :=
  we_of (pe_or pe_sem pe_sem) fun _ hL => e_then h hL fun _ L1 H1 h1 ⟨c, ev, k⟩ => ⟨c, ev, by
    cases c with
    | true => exact iteT ⟨L1, h1, k.2 rfl⟩
    | false => exact iteF (k.1 rfl H1 h1)⟩
theorem we_not (h : WE X a σ L (KB fun c L1 => K (.bl (!c)) L1)) : WE X (.UnaryOp .Not a pos) σ L K := we_of (pe_not pe_sem) fun _ hL => e_then h hL fun _ L1 _ h1 ⟨c, ev, k⟩ => ⟨c, ev, L1, h1, k⟩
theorem we_ifExp {c : Expr} (h : WT X c σ L fun t L1 => (t = true → WE X a σ L1 K) ∧ (t = false → WE X b σ L1 K)) : WE X (.IfExp c a b pos) σ L K :=
  we_of (pe_ifExp pt_sem pe_sem pe_sem) fun _ hL => t_then h hL fun t _ H1 h1 k => by
    cases t with
    | true => exact iteT (k.1 rfl H1 h1)
    | false => exact iteF (k.2 rfl H1 h1)
theorem wa_nil (k : KA [] L) : WA X [] σ L KA := wa_of pa_nil fun _ hL => ⟨L, hL, k⟩
theorem wa_cons (h : WE X e σ L fun v L1 => WA X es σ L1 fun vs L2 => KA (v :: vs) L2) (hs : starEach (e :: es) X.env = (false, eval e X.env) :: starEach es X.env := by rfl) : WA X (e :: es) σ L KA :=
  wa_of (pa_cons pe_sem pa_sem hs) fun _ hL => e_then h hL fun _ _ _ h1 k1 => a_then k1 h1 fun _ L2 _ h2 k2 => ⟨L2, h2, k2⟩
theorem we_tup {j} (h : WA X es σ L fun vs L1 => vs.length ≤ sizeLine ∧ ∀ p, K (.ref p) ((p, .tup vs) :: L1)) : WE X (.Tuple es j pos) σ L K :=
  we_of (pe_tup pa_sem) fun _ hL => a_then h hL fun _ L1 _ h1 k => ⟨k.1, fun p hp => ⟨_, h1.new hp, k.2 p⟩⟩
theorem we_lst (h : WA X es σ L fun vs L1 => vs.length ≤ sizeLine ∧ ∀ p, K (.ref p) ((p, .lst vs) :: L1)) : WE X (.List es pos) σ L K :=
  we_of (pe_lst pa_sem) fun _ hL => a_then h hL fun _ L1 _ h1 k => ⟨k.1, fun p hp => ⟨_, h1.new hp, k.2 p⟩⟩
theorem we_fld {f : Str} (h : WE X e σ L fun x L1 => ∃ a C dx fs v, x = .ref a ∧ Mem a (.ins C dx fs) L1 ∧ Cls X.K C ∧ NoAttr X.K C f ∧ fs.lookup f = some v ∧ K v L1) (hb : attributeBase e f X.env (eval e X.env) = eval e X.env := by rfl) :
    WE X (.Attribute e f pos) σ L K := we_of (pe_fld pe_sem hb) fun _ hL => e_then h hL fun _ L1 _ h1 ⟨a, C, dx, fs, v, e1, m, c, n, l, k⟩ => ⟨a, C, dx, fs, v, e1, h1.get m, c, n, l, L1, h1, k⟩
/-! ### statements -/
theorem wss_nil (k : D.nx σ L) : WSs X [] σ L D := wss_of pss_nil fun _ hL => ⟨L, hL, k⟩
theorem wss_cons (h : WS X st σ L { D with nx := fun σ' L' => WSs X sts σ' L' D }) : WSs X (st :: sts) σ L D :=
  wss_of (pss_cons ps_sem pss_sem) fun H hL => (h H hL).mono ⟨fun _ H' ⟨_, h1, k⟩ => k H' h1, fun _ _ q => q, fun _ _ q => q, fun _ _ q => q⟩
theorem ws_expr (h : WE X e σ L fun _ L1 => D.nx σ L1) (hs : swapsWith e none pos.line X.env = pure false := by rfl) : WS X (.Expr e pos) σ L D :=
  ws_of (ps_expr pe_sem hs) fun _ hL => e_then h hL fun _ L1 _ h1 k => ⟨L1, h1, k⟩
theorem ws_ret (h : WE X e σ L D.rt) : WS X (.Return (some e) pos) σ L D := ws_of (ps_ret pe_sem) fun H hL => h H hL
theorem ws_pass (k : D.nx σ L) : WS X (.Pass pos) σ L D := ws_of ps_pass fun _ hL => ⟨L, hL, k⟩
theorem ws_if {c : Expr} {ss ts : List Stmt} (h : WT X c σ L fun t L1 => (t = true → WSs X ss σ L1 D) ∧ (t = false → WSs X ts σ L1 D)) : WS X (.If c ss ts pos) σ L D :=
  ws_of (ps_if pt_sem pss_sem pss_sem) fun _ hL => t_then h hL fun t _ H1 h1 k => by
    cases t with
    | true => exact iteT (k.1 rfl H1 h1)
    | false => exact iteF (k.2 rfl H1 h1)
theorem ws_asg {tg : Expr} (h : WE X e σ L fun v L1 => WG X tg v σ L1 D.nx) (hs : swapsWithSole [tg] e pos.line X.env = pure false := by rfl) (hw : swappedStores [tg] e X.env = pure none := by rfl) (h1 : (assignEach [tg] X.env).map (·.2) = [assign tg X.env] := by rfl) : WS X (.Assign [tg] e pos) σ L D :=
  ws_of (ps_asg pe_sem pg_sem hs hw h1) fun _ hL => e_then h hL fun _ _ H1 h1 k => k H1 h1
theorem ws_set (i : Nat) {x : Str} {pos' : Pos} (h : WE X e σ L fun v L1 => D.nx (σ.set i (some v)) L1) (hN : X.N.Nodup) (hi : X.N[i]? = some x) (hx : Loc X.env.scope x) (hs : swapsWith e (some (.Name x pos')) pos.line X.env = pure false := by rfl)
    (hf : X.fn x = true ∨ X.env.scope.names.lookup x = some .local := by first | exact .inl rfl | exact .inr rfl | assumption) : WS X (.Assign [.Name x pos'] e pos) σ L D :=
  ws_of (ps_set hN hi hx pe_sem hs hf) fun _ hL => e_then h hL fun _ L1 _ h1 k => ⟨L1, h1, k⟩
theorem wg_name (i : Nat) {x : Str} {v : V} (k : KS (σ.set i (some v)) L) (hN : X.N.Nodup) (hi : X.N[i]? = some x) (hx : Loc X.env.scope x) (hf : X.fn x = true ∨ X.env.scope.names.lookup x = some .local := by first | exact .inl rfl | exact .inr rfl | assumption) :
    WG X (.Name x pos) v σ L KS := wg_of (pg_name hN hi hx hf) fun _ hL => ⟨L, hL, k⟩
theorem wgs_nil (k : KS σ L) : WGs X [] [] σ L KS := wgs_of pgs_nil fun _ hL => ⟨rfl, L, hL, k⟩
theorem wgs_cons {v : V} {vs : List V} (h : WG X e v σ L fun σ1 L1 => WGs X es vs σ1 L1 KS) (hs : (assignEach (e :: es) X.env).map (·.2) = assign e X.env :: (assignEach es X.env).map (·.2) := by rfl) : WGs X (e :: es) (v :: vs) σ L KS :=
  wgs_of (pgs_cons pg_sem pgs_sem hs) fun _ hL => ⟨v, vs, rfl, g_then h hL fun _ _ H1 h1 k => k H1 h1⟩
theorem wg_tup {a : Addr} {vs : List V} {j : Nat} (hc : X.calm = true) (m : Mem a (.tup vs) L) (h : WGs X es vs σ L KS) (hl : vs.length = es.length) (hn : (assignEach es X.env).length = es.length := by rfl) (hst : (assignEach es X.env).findIdx? (·.1) = none := by rfl) :
    WG X (.Tuple es j pos) (.ref a) σ L KS := wg_of (pg_tup (n := es.length) hc pgs_sem hn hst) fun H hL => ⟨a, vs, rfl, SqT.of (hL.get m), hl, h H hL⟩
end
end N3
set_option Elab.async false
set_option linter.all false
set_option maxRecDepth 100000
set_option maxHeartbeats 4000000
namespace N3
open PySem PySem.Spec L2
open PyProof.Rows (envOfC)
/-! ### forgetting -/
theorem Sub.of_sublist {L L' : LH} (h : L'.Sublist L) : Sub L L' := fun _ hL => ⟨Apart.sub h hL.nd, fun a o m => hL.at_ a o (h.mem m)⟩
theorem Sub.trans {L L' L2 : LH} (a : Sub L L') (b : Sub L' L2) : Sub L L2 := fun H h => b H (a H h)
theorem Mem.app {a : Addr} {o : HO} {L : LH} (h : Mem a o L) : ∀ J : LH, Mem a o (J ++ L)
  | [] => h
  | _ :: J => .tail (Mem.app h J)
theorem Hole.app {a : Addr} {o : HO} {L : LH} {F : HO → LH} (h : Hole a o L F) : ∀ J : LH, Hole a o (J ++ L) (fun o' => J ++ F o')
  | [] => h
  | _ :: J => .tail (Hole.app h J)
/-- a written-part or tracked list, tuple -/
def SqLL (K : PySem.W.Frag) (a : Addr) (xs : List V) (L : LH) : Prop := ∀ H, Holds L H → SqL K H a xs
theorem SqLL.of {K : PySem.W.Frag} {a : Addr} {xs : List V} {L : LH} (m : Mem a (.lst xs) L) : SqLL K a xs L := fun _ h => SqL.of (h.get m)
theorem SqLL.fz {K : PySem.W.Frag} {a : Addr} {xs : List V} {L : LH} {ob : Obj} (m : Mem a (.frz ob (.lst xs)) L) : SqLL K a xs L := fun _ h => .inl (.inr ⟨ob, h.get m⟩)
/-! ### promises -/
/-- a promise by what is known: the arguments, what is known, what is to follow -/
abbrev Pre := List V → LH → (V → LH → Prop) → Prop
def SpL (pre : Pre) : Sp := fun vs H Q _ => ∃ L K, Holds L H ∧ pre vs L K ∧ ∀ v H', QE K v H' → Q v H'
/-- what a body is to reach: the promise's end, some things forgotten -/
def EndOf (K : V → LH → Prop) : EndsL := ⟨fun _ L => ∃ L', Sub L L' ∧ K .non L', fun v L => ∃ L', Sub L L' ∧ K v L', fun _ _ => False, fun _ _ => False⟩
theorem QE.sub {K : V → LH → Prop} {v : V} {H : Hp} (h : QE (fun v L => ∃ L', Sub L L' ∧ K v L') v H) : QE K v H := by
  obtain ⟨L, hL, L', s, k⟩ := h
  exact ⟨L', s H hL, k⟩
section
variable {P : Program} {w : World} {K : PySem.W.Frag} {mg : Str → Option Value} {base : Heap}
theorem fnL {x qual : Str} {st : Stmt} {f : Addr} {fd : FuncData} {N ps : List Str} {k : Nat} {pre : Pre} (F : Fun K x qual st f fd) (S : FnScope N ps (defScope st)) (len : ∀ vs L Kk, pre vs L Kk → vs.length = ps.length)
    (body : ∀ (cdv : Value) (A : Around) (outer : List Env) (s : Shared) (H : Hp) (vs : List V) (E : XK) (L : LH) (Kk : V → LH → Prop), Room k (A.deeper (envOfC qual (defScope st) s.heap.objs.size f cdv)) → pre vs L Kk →
      WSs (cxOf CX0 P w K mg base N qual (defScope st) f cdv A outer s H E).nox (defBody st) (start N vs) L (EndOf Kk)) : FnOk P w K mg base CX0 (k + 1) f fd ps (SpL pre) := by
  refine F.ok S (fun vs H Q E h => ?_) (fun cdv A outer s H vs Q E hr h => ?_)
  · obtain ⟨L, Kk, _, hp, _⟩ := h
    exact len vs L Kk hp
  · obtain ⟨L, Kk, hL, hp, hk⟩ := h
    refine ⟨_, pss_sem, (body cdv A outer s H vs E L Kk hr hp H hL).mono ⟨fun σ H' q => ?_, fun v H' q => hk v H' q.sub, fun _ _ q => ?_, fun _ _ q => ?_⟩⟩
    · obtain ⟨L1, h1, L2, s2, k2⟩ := q
      exact hk _ _ ⟨L2, s2 _ h1, k2⟩
    · obtain ⟨_, _, q⟩ := q
      exact q.elim
    · obtain ⟨_, _, q⟩ := q
      exact q.elim
/-- a def of the module, with what is known of it -/
structure GFn (P : Program) (w : World) (K : PySem.W.Frag) (mg : Str → Option Value) (base : Heap) (x : Str) (k : Nat) (ps : List Str) (dvs : List V) (pre : Pre) : Prop where
  ex : ∃ f fd ds, FnOk P w K mg base CX0 k f fd ps (SpL pre) ∧ mg x = some (.ref f) ∧ PySem.W.keepIn K (.ref f) = true ∧ Binds K fd ps ds ∧ Vals dvs ds
/-- a method of the class at C -/
structure GMe (P : Program) (w : World) (K : PySem.W.Frag) (mg : Str → Option Value) (base : Heap) (C : Addr) (m : Str) (k : Nat) (ps : List Str) (dvs : List V) (pre : Pre) : Prop where
  ex : ∃ f fd ds, FnOk P w K mg base CX0 k f fd ps (SpL pre) ∧ Cls K C ∧ Meth K C m f ∧ Binds K fd ps ds ∧ Vals dvs ds
/-- a property -/
structure GPr (P : Program) (w : World) (K : PySem.W.Frag) (mg : Str → Option Value) (base : Heap) (C : Addr) (m : Str) (k : Nat) (ps : List Str) (pre : Pre) : Prop where
  ex : ∃ p f fd, FnOk P w K mg base CX0 k f fd ps (SpL pre) ∧ Cls K C ∧ PropOf K C m p f ∧ Binds K fd ps []
/-- a class by its name, made -/
structure GMk (P : Program) (w : World) (K : PySem.W.Frag) (mg : Str → Option Value) (base : Heap) (x : Str) (C : Addr) (k : Nat) (ps : List Str) (dvs : List V) (pre : Pre) : Prop where
  ex : ∃ f fd ds, FnOk P w K mg base CX0 k f fd ps (SpL pre) ∧ mg x = some (.ref C) ∧ Mk K C f ∧ Binds K fd ps ds ∧ Vals dvs ds
end
section
variable {X : Cx} {e a b l : Expr} {es : List Expr} {st : Stmt} {sts body : List Stmt} {σ : St} {L : LH} {K : V → LH → Prop} {KT : Bool → LH → Prop} {KA : List V → LH → Prop} {KS : St → LH → Prop} {D : EndsL} {pos apos p : Pos} {x m f : Str} {C : Addr} {k : Nat} {ps : List Str} {dvs : List V} {pre : Pre}
theorem we_call (G : GFn X.prog X.w X.K X.mg X.base x k ps dvs pre) (hr : Room k X.A) (h : WA X (e :: es) σ L fun vs L1 => pre (vs ++ dvs) L1 K) (hg : Gl X x := by rfl) (hdb : (x == ("__debug__" : Str)) = false := by decide)
    (he : starEach (e :: es) X.env = (false, eval e X.env) :: starEach es X.env := by rfl) (hpl : (backTo pos (starEach es X.env)).any (·.1) = false := by rfl) : WE X (.Call (.Name x p) (e :: es) [] pos) σ L K := by
  obtain ⟨f, fd, ds, F, hm, hk, hb, hd⟩ := G.ex
  exact we_of (pe_call (E := E0) F hr hg hm hk hb hd pass0 pa_sem hdb he hpl) fun _ hL => a_then h hL fun vs L1 _ h1 k1 => ⟨L1, K, h1, k1, fun _ _ q => q⟩
/-- o.m(e, ..): the object's own attributes don't hide m -/
theorem we_meth {pl : Sem Bool} (G : GMe X.prog X.w X.K X.mg X.base C m k ps dvs pre) (hr : Room k X.A) (h : WE X a σ L fun x L1 => ∃ o dx fs, x = .ref o ∧ Mem o (.ins C dx fs) L1 ∧ fs.lookup m = none ∧ WA X (e :: es) σ L1 fun vs L2 => pre (.ref o :: (vs ++ dvs)) L2 K)
    (hst : starEach (e :: es) X.env = (false, eval e X.env) :: starEach es X.env := by rfl) (hpl : (backTo pos (starEach es X.env)).any (·.1) = false := by rfl)
    (ht : eval (.Call (.Attribute a m apos) (e :: es) [] pos) X.env = (do
      let ov ← eval a X.env
      standAt apos.atName
      let (f, first) ← holding [ov] (getMethod ov m pl)
      callWith pos f first (backTo pos (starEach (e :: es) X.env)) (backToKw pos (keywordEach [] X.env))) := by rfl) : WE X (.Call (.Attribute a m apos) (e :: es) [] pos) σ L K := by
  obtain ⟨f, fd, ds, F, hc, hm, hb, hd⟩ := G.ex
  exact we_of (pe_meth (E := E0) (pl := pl) pe_sem hc hm F hr hb hd pass0 pa_sem hst hpl ht) fun _ hL => e_then h hL fun x L1 _ h1 ⟨o, dx, fs, ex, mm, hl, k1⟩ => by
    subst ex
    exact ⟨o, dx, fs, rfl, h1.get mm, hl, a_then k1 h1 fun vs L2 _ h2 k2 => ⟨L2, K, h2, k2, fun _ _ q => q⟩⟩
theorem we_meth0 {pl : Sem Bool} (G : GMe X.prog X.w X.K X.mg X.base C m k ps dvs pre) (hr : Room k X.A) (h : WE X a σ L fun x L1 => ∃ o dx fs, x = .ref o ∧ Mem o (.ins C dx fs) L1 ∧ fs.lookup m = none ∧ pre (.ref o :: dvs) L1 K)
    (ht : eval (.Call (.Attribute a m apos) [] [] pos) X.env = (do
      let ov ← eval a X.env
      standAt apos.atName
      let (f, first) ← holding [ov] (getMethod ov m pl)
      callWith pos f first (backTo pos (starEach [] X.env)) (backToKw pos (keywordEach [] X.env))) := by rfl) : WE X (.Call (.Attribute a m apos) [] [] pos) σ L K := by
  obtain ⟨f, fd, ds, F, hc, hm, hb, hd⟩ := G.ex
  exact we_of (pe_meth0 (E := E0) (pl := pl) pe_sem hc hm F hr hb hd pass0 ht) fun _ hL => e_then h hL fun x L1 _ h1 ⟨o, dx, fs, ex, mm, hl, k1⟩ => by
    subst ex
    exact ⟨o, dx, fs, rfl, h1.get mm, hl, L1, K, h1, k1, fun _ _ q => q⟩
theorem we_prop (G : GPr X.prog X.w X.K X.mg X.base C m k ps pre) (hr : Room (k + 1) X.A) (h : WE X e σ L fun x L1 => ∃ o dx fs, x = .ref o ∧ Mem o (.ins C dx fs) L1 ∧ pre [.ref o] L1 K) (hab : attributeBase e m X.env (eval e X.env) = eval e X.env := by rfl) :
    WE X (.Attribute e m pos) σ L K := by
  obtain ⟨p, f, fd, F, hc, hp, hb⟩ := G.ex
  exact we_of (pe_prop (E := E0) (dvs := []) pe_sem hc hp F hr hb .nil (fun _ _ _ _ _ _ _ h => h.elim) hab) fun _ hL => e_then h hL fun x L1 _ h1 ⟨o, dx, fs, ex, mm, k1⟩ => by
    subst ex
    exact ⟨o, dx, fs, rfl, h1.get mm, L1, K, h1, k1, fun _ _ q => q⟩
/-- X(e, ..): a new instance; its __init__ is told with the instance ahead of what is known -/
theorem we_make (G : GMk X.prog X.w X.K X.mg X.base x C k ps dvs pre) (hr : Room (k + 1) X.A)
    (h : WA X (e :: es) σ L fun vs L1 => ∀ o dx, pre (.ref o :: (vs ++ dvs)) ((o, .ins C dx []) :: L1) fun v L2 => v = .non ∧ K (.ref o) L2) (hg : Gl X x := by rfl) (hdb : (x == ("__debug__" : Str)) = false := by decide)
    (he : starEach (e :: es) X.env = (false, eval e X.env) :: starEach es X.env := by rfl) (hpl : (backTo pos (starEach es X.env)).any (·.1) = false := by rfl) : WE X (.Call (.Name x p) (e :: es) [] pos) σ L K := by
  obtain ⟨f, fd, ds, F, hm, M, hb, hd⟩ := G.ex
  exact we_of (pe_make (E := E0) M F hr hg hm hb hd pass0 pa_sem hdb he hpl) fun _ hL => a_then h hL fun vs L1 H1 h1 k1 o dx ho hdx ne => by
    have hh : Holds ((o, HO.ins C dx []) :: L1) (upd (upd H1 dx (.own o)) o (.ins C dx [])) := by
      have z := h1.new (o := .own o) hdx
      have z2 := z.new (p := o) (o := .ins C dx []) (by rw [upd_ne ne.symm]; exact ho)
      exact z2.drop1
    refine ⟨_, fun v L2 => v = .non ∧ K (.ref o) L2, hh, k1 o dx, fun v H' q => ?_⟩
    obtain ⟨L2, h2, ev, q⟩ := q
    exact ⟨ev, L2, h2, q⟩
/-- built-ins by their names -/
theorem we_callB {id : String} (hm : X.mg x = none) (hv : bootBuiltins x = some (.builtin id)) (h : WA X (e :: es) σ L fun vs L1 => WC X (.builtin id) vs L1 K) (hg : Gl X x := by rfl) (hn : x ≠ "__name__" := by decide) (hdb : (x == ("__debug__" : Str)) = false := by decide)
    (he : starEach (e :: es) X.env = (false, eval e X.env) :: starEach es X.env := by rfl) (hpl : (backTo pos (starEach es X.env)).any (·.1) = false := by rfl) : WE X (.Call (.Name x p) (e :: es) [] pos) σ L K :=
  we_of (pe_callB call_sem hg hm hv pa_sem hn hdb he hpl) fun _ hL => a_then h hL fun _ _ H1 h1 k1 => k1 H1 h1
theorem we_callTy {T : String} (hm : X.mg x = none) (hv : bootBuiltins x = some (.type T)) (h : WA X (e :: es) σ L fun vs L1 => WC X (.type T) vs L1 K) (hg : Gl X x := by rfl) (hn : x ≠ "__name__" := by decide) (hdb : (x == ("__debug__" : Str)) = false := by decide)
    (he : starEach (e :: es) X.env = (false, eval e X.env) :: starEach es X.env := by rfl) (hpl : (backTo pos (starEach es X.env)).any (·.1) = false := by rfl) : WE X (.Call (.Name x p) (e :: es) [] pos) σ L K :=
  we_of (pe_callTy call_sem hg hm hv pa_sem hn hdb he hpl) fun _ hL => a_then h hL fun _ _ H1 h1 k1 => k1 H1 h1
theorem we_bltn {v : V} {u : Value} (hm : X.mg x = none) (hv : bootBuiltins x = some u) (r : RelV v u) (k : K v L) (hg : Gl X x := by rfl) (hn : x ≠ "__name__" := by decide) (hdb : (x == ("__debug__" : Str)) = false := by decide) : WE X (.Name x pos) σ L K :=
  we_of (pe_bltn hg hm hv r hn hdb) fun _ hL => ⟨L, hL, k⟩
/-- a module's name for a built-in function -/
theorem we_callFn {id : String} (hm : X.mg x = some (.builtin id)) (h : WA X (e :: es) σ L fun vs L1 => WC X (.builtin id) vs L1 K) (hg : Gl X x := by rfl) (hdb : (x == ("__debug__" : Str)) = false := by decide)
    (he : starEach (e :: es) X.env = (false, eval e X.env) :: starEach es X.env := by rfl) (hpl : (backTo pos (starEach es X.env)).any (·.1) = false := by rfl) : WE X (.Call (.Name x p) (e :: es) [] pos) σ L K :=
  we_of (pe_callBfun call_sem hg hm pa_sem hdb he hpl) fun _ hL => a_then h hL fun _ _ H1 h1 k1 => k1 H1 h1
/-! ### operations on values -/
theorem wo_I0 {g : Int → Int → V} {fo : Value → Value → Sem Value} {i j : Int} (ho : OpR X fo (rI0 g)) (k : K (g i j) L) : WO X fo (.int i) (.int j) L K := wo_of ho fun _ hL => ⟨i, j, rfl, rfl, L, hL, k⟩
theorem wo_I {g : Int → Int → V} {Cc : Int → Int → Prop} {fo : Value → Value → Sem Value} {i j : Int} (ho : OpR X fo (rI Cc g)) (hc : Cc i j) (k : K (g i j) L) : WO X fo (.int i) (.int j) L K := wo_of ho fun _ hL => ⟨i, j, rfl, rfl, hc, L, hL, k⟩
theorem wo_add {i j : Int} (k : K (.int (i + j)) L) : WO X (binaryOp .Add) (.int i) (.int j) L K := wo_I0 op_add k
theorem wo_sub {i j : Int} (k : K (.int (i - j)) L) : WO X (binaryOp .Sub) (.int i) (.int j) L K := wo_I0 op_sub k
theorem wo_lt {i j : Int} (k : K (.bl (decide (i < j))) L) : WO X (compareOp .Lt) (.int i) (.int j) L K := wo_I0 op_lt k
theorem wo_le {i j : Int} (k : K (.bl (decide (i ≤ j))) L) : WO X (compareOp .LtE) (.int i) (.int j) L K := wo_I0 op_le k
theorem wo_gt {i j : Int} (k : K (.bl (decide (j < i))) L) : WO X (compareOp .Gt) (.int i) (.int j) L K := wo_I0 op_gt k
theorem wo_ge {i j : Int} (k : K (.bl (decide (j ≤ i))) L) : WO X (compareOp .GtE) (.int i) (.int j) L K := wo_I0 op_ge k
theorem wo_mod {i j : Int} (hj : 0 < j) (k : K (.int (i % j)) L) : WO X (binaryOp .Mod) (.int i) (.int j) L K := wo_I op_mod hj k
theorem wo_pow {i j : Int} (hc : CPow i j) (k : K (.int (i ^ j.toNat)) L) : WO X (binaryOp .Pow) (.int i) (.int j) L K := wo_I op_pow hc k
theorem wo_mul {i j : Int} (hc : CMul i j) (k : K (.int (i * j)) L) : WO X (binaryOp .Mult) (.int i) (.int j) L K := wo_I op_mul hc k
theorem wo_fdiv {i j : Int} (hc : CDiv i j) (k : K (.int (i / j)) L) : WO X (binaryOp .FloorDiv) (.int i) (.int j) L K := wo_I op_fdiv hc k
theorem wo_cat {i j : Str} (hl : i.length + j.length ≤ sizeLine) (k : K (.str (i ++ j)) L) : WO X (binaryOp .Add) (.str i) (.str j) L K := wo_of op_add_str fun _ hL => ⟨i, j, rfl, rfl, hl, L, hL, k⟩
theorem wo_eq {v u : V} (hs : scal v u = true) (k : K (.bl (decide (v = u))) L) : WO X (compareOp .Eq) v u L K := wo_of op_eq fun _ hL => ⟨hs, L, hL, k⟩
theorem wo_ne {v u : V} (hs : scal v u = true) (k : K (.bl (!decide (v = u))) L) : WO X (compareOp .NotEq) v u L K := wo_of op_ne fun _ hL => ⟨hs, L, hL, k⟩
theorem wu_neg {i : Int} (k : K (.int (-i)) L) : WU X (unaryOp .USub) (.int i) L K := wu_of un_neg fun _ hL => ⟨i, rfl, L, hL, k⟩
theorem wc_abs {i : Int} (k : K (.int (if i < 0 then -i else i)) L) : WC X (.builtin "abs") [.int i] L K := wc_of call_abs fun _ hL => ⟨i, rfl, L, hL, k⟩
theorem wc_max {i j : Int} (hc : X.calm = true) (k : K (.int (if j > i then j else i)) L) : WC X (.builtin "max") [.int i, .int j] L K := wc_of (call_max2 hc) fun _ hL => ⟨i, j, rfl, L, hL, k⟩
theorem wc_min {i j : Int} (hc : X.calm = true) (k : K (.int (if j < i then j else i)) L) : WC X (.builtin "min") [.int i, .int j] L K := wc_of (call_min2 hc) fun _ hL => ⟨i, j, rfl, L, hL, k⟩
theorem wc_int {i : Int} (k : K (.int i) L) : WC X (.type "int") [.int i] L K := wc_of call_int1 fun _ hL => .inl ⟨i, rfl, L, hL, k⟩
theorem wc_strI {i : Int} (hi : i.natAbs.log2 < 1920) (k : K (.str (toString i)) L) : WC X (.type "str") [.int i] L K := wc_of call_str_int fun _ hL => ⟨i, rfl, hi, L, hL, k⟩
theorem wc_gcd {i j : Int} (k : K (.int ((Nat.gcd i.natAbs j.natAbs : Nat) : Int)) L) : WC X (.builtin "math.gcd") [.int i, .int j] L K := wc_of cr_gcd fun _ hL => ⟨i, j, rfl, L, hL, k⟩
theorem wc_divmod {i j : Int} (hc : CDiv i j) (k : ∀ p, K (.ref p) ((p, .tup [.int (i / j), .int (i % j)]) :: L)) : WC X (.builtin "divmod") [.int i, .int j] L K := wc_of call_divmod fun _ hL => ⟨i, j, rfl, hc, fun p hp => ⟨_, hL.new hp, k p⟩⟩
theorem wc_len {q : Addr} {xs : List V} (h : SqLL X.K q xs L) (k : K (.int (xs.length : Int)) L) : WC X (.builtin "len") [.ref q] L K := wc_of call_len_seq fun H hL => ⟨q, xs, rfl, .inl (h H hL), L, hL, k⟩
/-- what type a value has, as isinstance asks -/
def TyL (K : PySem.W.Frag) (v : V) (t : Value) (L : LH) : Prop := ∀ H, Holds L H → TyX K H v t
theorem wc_isi {v c : V} {t u : Value} {r : Bool} (hc : ClsV c u) (ht : TyL X.K v t L) (hk : PySem.W.kitOne X.K t u = some r) (k : K (.bl r) L) : WC X (.builtin "isinstance") [v, c] L K :=
  wc_of call_isi fun H hL => ⟨v, c, t, u, r, rfl, hc, ht H hL, hk, L, hL, k⟩
end
end N3
set_option Elab.async false
set_option linter.all false
set_option maxRecDepth 100000
set_option maxHeartbeats 4000000
namespace PySem.W
open PySem PySem.Calls PyProof.Rows Builtin
end PySem.W
namespace N3
open PySem PySem.Spec L2
/-- an own operator of the class at C -/
structure GOp (P : Program) (w : World) (K : PySem.W.Frag) (mg : Str → Option Value) (base : Heap) (C : Addr) (x : Str) (k : Nat) (ps : List Str) (pre : Pre) : Prop where
  ex : ∃ f fd, FnOk P w K mg base CX0 k f fd ps (SpL pre) ∧ PySem.W.findIn K (.ref C) x = some (some (.ref f)) ∧ PySem.W.isFn K (.ref f) = true ∧ Binds K fd ps []
/-- the type of the other operand -/
inductive Rhs (L : LH) : V → Value → Prop where
  | int (i : Int) : Rhs L (.int i) (.type "int")
  | str (i : Str) : Rhs L (.str i) (.type "str")
  | tup {p : Addr} {xs : List V} (m : Mem p (.tup xs) L) : Rhs L (.ref p) (.type "tuple")
  | ins {p C dx : Addr} {fs : List (Str × V)} (m : Mem p (.ins C dx fs) L) : Rhs L (.ref p) (.ref C)
  | dK {p : Addr} {kvs : List (Key × V)} (m : Mem p (.dK kvs) L) : Rhs L (.ref p) (.type "dict")
section
variable {X : Cx} {σ : St} {L : LH} {K : V → LH → Prop} {C o p dx dy : Addr} {fs gs : List (Str × V)} {k : Nat} {ps : List Str} {pre : Pre}
theorem rhs_looks {pins : List (Addr × Obj)} {H : Hp} {s : Shared} {v : V} {u t : Value} (hL : Holds L H) (I : Inv X pins σ H s) (h : Rhs L v t) (r : RelV v u) : PySem.W.Looks (model X.prog X.w) s.heap (typeOf u) t := by
  cases h with
  | int i => obtain ⟨tk, e⟩ := (show ∃ tk, u = Value.int i tk from r); cases e; exact PySem.W.Looks.of_pure rfl
  | str i => obtain ⟨tk, e⟩ := (show ∃ tk, u = Value.str i tk from r); cases e; exact PySem.W.Looks.of_pure rfl
  | tup m =>
    cases r
    obtain ⟨_, its, _, ob, ho, hc, _⟩ := I.hok _ _ (hL.get m)
    have h2 : PySem.W.Looks (model X.prog X.w) s.heap (typeOf (.ref _)) ob.cls := fun A Q E s' k q => wpAny_typeOf_ref (k _ _ ho) q
    rw [hc] at h2
    exact h2
  | ins m =>
    cases r
    obtain ⟨mB, J, _⟩ := ins_get I.hok (hL.get m)
    obtain ⟨od, J, _⟩ := J.look
    exact J.type
  | dK m =>
    cases r
    obtain ⟨_, _, vs, _, ob, es, ep, ho, hc, _⟩ := I.hok _ _ (hL.get m)
    have h2 : PySem.W.Looks (model X.prog X.w) s.heap (typeOf (.ref _)) ob.cls := fun A Q E s' k q => wpAny_typeOf_ref (k _ _ ho) q
    rw [hc.1] at h2
    exact h2
/-- the call of an own operator's def -/
theorem run_op {pins : List (Addr × Obj)} {H : Hp} {s : Shared} {x : Str} {us : List Value} {vs : List V} {L : LH} {K : V → LH → Prop} (G : GOp X.prog X.w X.K X.mg X.base C x k ps pre) {A : Around} (hr : Room k A) (he : A.frames = X.A.frames)
    (hL : Holds L H) (I : Inv X pins σ H s) (r : Vals vs us) (h : pre vs L K) : ∃ f, PySem.W.findIn X.K (.ref C) x = some (some (.ref f)) ∧ PySem.W.isFn X.K (.ref f) = true ∧ wpAny (model X.prog X.w) A (call (.ref f) us) (EP X pins σ (QE K)) X.xe s := by
  obtain ⟨f, fd, F, hs, hf, hb⟩ := G.ex
  refine ⟨f, hs, hf, ?_⟩
  have hsp : SpL pre vs H (QE K) E0 := ⟨L, K, hL, h, fun _ _ q => q⟩
  have e0 : Env0 X.prog X.w X.K X.mg X.base A X.stack s H := by
    have e := I.env0
    exact ⟨by rw [he]; exact e.frames, e.mod, e.bs, e.bsz, e.funs, e.frf, e.hok, e.bare⟩
  have hl := F.len _ _ _ _ hsp
  refine wpAny_call (codeAny_mono (F.run A X.stack s H ⟨us, []⟩ us vs _ E0 hr e0 (by
    have := hb s us I.kIn (by rw [List.append_nil, ← r.length]; exact hl)
    simpa using this) r hsp) fun r s' hq => ?_)
  cases r with
  | error e => exact (hq : False).elim
  | ok fl =>
    cases fl with
    | ret w => exact I.after hq
    | next => exact False.elim hq
    | brk => exact False.elim hq
    | cont => exact False.elim hq
/-- o op o', both of the class -/
theorem wo_own {op : Operator} (G : GOp X.prog X.w X.K X.mg X.base C (PySem.dunder op.info.2) k ps pre) (hc : PySem.W.selfFirst X.K C = true) (hr : Room k X.A) (m : Mem o (.ins C dx fs) L) (m2 : Mem p (.ins C dy gs) L) (h : pre [.ref o, .ref p] L K) :
    WO X (binaryOp op) (.ref o) (.ref p) L K := by
  intro H hL pins s σ v u I r1 r2
  cases r1
  cases r2
  obtain ⟨mA, J, _⟩ := ins_get I.hok (hL.get m)
  obtain ⟨mB, J', _⟩ := ins_get I.hok (hL.get m2)
  obtain ⟨od, J, _⟩ := J.look
  obtain ⟨od', J', _⟩ := J'.look
  obtain ⟨mm, hF⟩ := I.fr
  obtain ⟨f, hs, hf, hrun⟩ := run_op (us := [.ref o, .ref p]) (vs := [.ref o, .ref p]) G hr rfl hL I (.cons rfl (.cons rfl .nil)) h
  refine PySem.W.binop_K hF I.ok.mod.kin J J'.type hc hs hf (wpAny_mono hrun (fun w s' z => ?_) fun _ _ x => x)
  obtain ⟨z', H', I', rz, qz⟩ := z
  exact SlX.cmpback rz ⟨z', H', I', rz, qz⟩
/-- -o -/
theorem wu_own (G : GOp X.prog X.w X.K X.mg X.base C "__neg__" k ps pre) (hr : Room k X.A) (m : Mem o (.ins C dx fs) L) (h : pre [.ref o] L K) : WU X (unaryOp .USub) (.ref o) L K := by
  intro H hL pins s σ v I r1
  cases r1
  obtain ⟨mA, J, _⟩ := ins_get I.hok (hL.get m)
  obtain ⟨od, J, _⟩ := J.look
  obtain ⟨mm, hF⟩ := I.fr
  obtain ⟨f, hs, hf, hrun⟩ := run_op (us := [.ref o]) (vs := [.ref o]) G hr rfl hL I (.cons rfl .nil) h
  exact PySem.W.ksp_neg hF I.ok.mod.kin J hs hf hrun
/-- o == v, by the own __eq__ -/
theorem wo_ownEq {v : V} {t : Value} (G : GOp X.prog X.w X.K X.mg X.base C "__eq__" k ps pre) (hr : Room k X.A) (m : Mem o (.ins C dx fs) L) (ht : Rhs L v t) (hn : PySem.W.notFirst X.K C t = true) (h : pre [.ref o, v] L K) :
    WO X (compareOp .Eq) (.ref o) v L K := by
  intro H hL pins s σ v1 u I r1 r2
  cases r1
  obtain ⟨mA, J, _⟩ := ins_get I.hok (hL.get m)
  obtain ⟨od, J, _⟩ := J.look
  obtain ⟨mm, hF⟩ := I.fr
  obtain ⟨f, hs, hf, hrun⟩ := run_op (us := [.ref o, u]) (vs := [.ref o, v]) G hr rfl hL I (.cons rfl (.cons r2 .nil)) h
  show wpAny _ _ (richCompare .Eq (.ref o) u) _ _ _
  refine PySem.W.cmp_K (op := .Eq) hr.units0 hF I.ok.mod.kin J (rhs_looks hL I ht r2) hn hs hf (wpAny_mono hrun (fun w s' z => ?_) fun _ _ x => x)
  obtain ⟨z', H', I', rz, qz⟩ := z
  exact SlX.cmpback rz ⟨z', H', I', rz, qz⟩
/-- repr(o), str(o) -/
def KStr (K : V → LH → Prop) (v : V) (L : LH) : Prop := ∃ y, v = .str y ∧ K (.str y) L
theorem wc_ownStr (G : GOp X.prog X.w X.K X.mg X.base C "__str__" k ps pre) (hr : Room (k + 2) X.A) (m : Mem o (.ins C dx fs) L) (h : pre [.ref o] L (KStr K)) : WC X (.type "str") [.ref o] L K := by
  intro H hL pins s σ us I r1
  cases r1 with
  | cons r rr =>
    cases rr
    cases r
    obtain ⟨mA, J, _⟩ := ins_get I.hok (hL.get m)
    obtain ⟨od, J, _⟩ := J.look
    obtain ⟨f, hs, hf, hrun⟩ := run_op (A := X.A.in1.in1) (us := [.ref o]) (vs := [.ref o]) G hr.in1.in1 rfl hL I (.cons rfl .nil) h
    refine PySem.W.kso_call hr.in1.in1.units0 I.kIn J hs hf (wpAny_mono hrun (fun w s' z => ?_) fun _ _ x => x)
    obtain ⟨z', H', I', rz, L2, h2, y, ez, qz⟩ := z
    subst ez
    obtain ⟨t, rfl⟩ := rz
    exact ⟨.str y, H', I', ⟨t, rfl⟩, L2, h2, qz⟩
end
end N3
set_option Elab.async false
set_option linter.all false
set_option maxRecDepth 100000
set_option maxHeartbeats 4000000
namespace N3
open PySem PySem.Spec L2 PySem.W PySem.Calls
open PyProof.Rows hiding St
/-- a promise that holds where no container is being shown (so that repr of a list can't meet itself) -/
structure FnG (P : Program) (w : World) (K : PySem.W.Frag) (mg : Str → Option Value) (base : Heap) (k : Nat) (f : Addr) (fd : FuncData) (ps : List Str) (pre : Pre) : Prop where
  len : ∀ vs L Kk, pre vs L Kk → vs.length = ps.length
  run : ∀ (A : Around) (outer : List Env) (s : Shared) (H : Hp) (args : Args) (us : List Value) (vs : List V) (L : LH) (Kk : V → LH → Prop), Room k A → A.guards = some [] → Env0 P w K mg base A outer s H → BindsTo s fd args (ps.zip us) → Vals vs us → Holds L H →
    pre vs L Kk → codeAny (model P w) A (.call (.ref f) args) (CR CX0 outer P w H s (QE Kk) E0) s
section
variable {P : Program} {w : World} {K : PySem.W.Frag} {mg : Str → Option Value} {base : Heap}
theorem FnG.of {k : Nat} {f : Addr} {fd : FuncData} {ps : List Str} {pre : Pre} (F : FnOk P w K mg base CX0 k f fd ps (SpL pre)) (len : ∀ vs L Kk, pre vs L Kk → vs.length = ps.length) : FnG P w K mg base k f fd ps pre :=
  ⟨len, fun A outer s H args us vs L Kk hr _ e0 hb r hL h => F.run A outer s H args us vs (QE Kk) E0 hr e0 hb r ⟨L, Kk, hL, h, fun _ _ q => q⟩⟩
theorem fnG {x qual : Str} {st : Stmt} {f : Addr} {fd : FuncData} {N ps : List Str} {k : Nat} {pre : Pre} (F : Fun K x qual st f fd) (S : FnScope N ps (defScope st)) (len : ∀ vs L Kk, pre vs L Kk → vs.length = ps.length)
    (body : ∀ (cdv : Value) (A : Around) (outer : List Env) (s : Shared) (H : Hp) (vs : List V) (E : XK) (L : LH) (Kk : V → LH → Prop), Room k (A.deeper (envOfC qual (defScope st) s.heap.objs.size f cdv)) → A.guards = some [] → pre vs L Kk →
      WSs (cxOf CX0 P w K mg base N qual (defScope st) f cdv A outer s H E).nox (defBody st) (start N vs) L (EndOf Kk)) : FnG P w K mg base (k + 1) f fd ps pre := by
  refine ⟨len, fun A outer s H args us vs L Kk hr hg e0 hb r hL hp => ?_⟩
  obtain ⟨oc, od, kV, doc, pm, an, cdv, ct, osl, rfl, lk, hcd⟩ := F.ex
  have hvl := len vs L Kk hp
  have kept : ∀ b o, base.get? b = some o → s.heap.get? b = some o := fun b o e => (e0.bs b o e).1
  have inK : K.In s.heap := e0.mod.kin.keeps kept
  have kinds : ∀ y ∈ ps.zip us, (defScope st).names.lookup y.1 = some .local ∨ ((defScope st).names.lookup y.1 = some .cell ∧ ((cellsFrom (s.heap.objs.size + 1) (defScope st).names []).lookup y.1).isSome = true) := by
    rintro ⟨n, v⟩ hy
    rcases S.par n (List.of_mem_zip hy).1 with q | q
    · exact .inl q
    · exact .inr ⟨q, PySem.W.cellsFrom_some _ _ _ (.inl q)⟩
  refine codeAny_call_function hr.depth (inK _ _ lk) rfl S.co S.gen rfl (PySem.W.codeRec_of inK hcd) (hb _ _ _ _ (wpAny_newFunctionEnv_cells S.kind kinds fun env he s1 x => ?_))
  subst he
  refine ⟨(e0.mod.nolimit.keeps kept).keeps x.toInCall.keep, codeAny_func ?_⟩
  have I := inv_start (CX := CX0) (E := E0) S hr.hd e0 hvl r x
  have q := (body cdv A outer s H vs E0 L Kk (hr.deeper _) hg hp H hL).mono (D' := ⟨fun _ H' => QE Kk .non H', QE Kk, fun _ _ => False, fun _ _ => False⟩) ⟨fun _ _ z => QE.sub z, fun _ _ z => QE.sub z, fun _ _ ⟨_, _, z⟩ => z.elim, fun _ _ ⟨_, _, z⟩ => z.elim⟩
  refine wpAny_mono (q [] s1 (I.wish _)) (fun fl s' hs => ?_) fun _ _ z => z.elim
  have done : ∀ {σ' : L2.St} {H' : Hp} {v : V} {u : Value}, Inv (cxOf CX0 P w K mg base N qual (defScope st) f cdv A outer s H E0).nox [] σ' H' s' → RelV v u → QE Kk v H' → CE outer P w H s (QE Kk) u s' :=
    fun {_ H' v _} J rv z => ⟨v, H', J.os, J.bare, J.base, J.hok, rv, z⟩
  cases fl with
  | ret u => obtain ⟨v, σ', H', J, rv, z⟩ := hs; exact done J rv z
  | next => obtain ⟨σ', H', J, z⟩ := hs; exact done (v := V.non) (u := Value.none) J rfl z
  | brk => obtain ⟨_, _, _, z⟩ := hs; exact z.elim
  | cont => obtain ⟨_, _, _, z⟩ := hs; exact z.elim
/-- a def of the module, where nothing is being shown -/
structure GFg (P : Program) (w : World) (K : PySem.W.Frag) (mg : Str → Option Value) (base : Heap) (x : Str) (k : Nat) (ps : List Str) (dvs : List V) (pre : Pre) : Prop where
  ex : ∃ f fd ds, FnG P w K mg base k f fd ps pre ∧ mg x = some (.ref f) ∧ PySem.W.keepIn K (.ref f) = true ∧ Binds K fd ps ds ∧ Vals dvs ds
end
section
variable {X : Cx} {e : Expr} {es : List Expr} {σ : L2.St} {L : LH} {K : V → LH → Prop} {pos p : Pos} {x : Str} {k : Nat} {ps : List Str} {dvs : List V} {pre : Pre}
theorem we_callG (G : GFg X.prog X.w X.K X.mg X.base x k ps dvs pre) (hr : Room k X.A) (hgd : X.A.guards = some []) (h : WA X (e :: es) σ L fun vs L1 => pre (vs ++ dvs) L1 K) (hg : Gl X x := by rfl) (hdb : (x == ("__debug__" : Str)) = false := by decide)
    (he : starEach (e :: es) X.env = (false, eval e X.env) :: starEach es X.env := by rfl) (hpl : (backTo pos (starEach es X.env)).any (·.1) = false := by rfl) : WE X (.Call (.Name x p) (e :: es) [] pos) σ L K := by
  obtain ⟨f, fd, ds, F, hm, hk, hb, hd⟩ := G.ex
  intro H hL pins s I
  refine wpAny_Call_Name_kw (ld_glob I hg hm ?_ hdb)
  refine PySem.W.callWith_K (h₀ := X.base) I.ok.mod.kin hk (thn (h H hL pos pins s I) fun us s1 ⟨vs, H1, I1, r, L1, h1, q⟩ => ⟨I1.kIn, ?_⟩) he hpl
  have r2 : Vals (vs ++ dvs) (us ++ ds) := r.append hd
  have hl : (us ++ ds).length = ps.length := by rw [← r2.length]; exact F.len _ _ _ q
  refine wpAny_call (codeAny_mono (F.run X.A X.stack s1 H1 ⟨us, []⟩ (us ++ ds) (vs ++ dvs) L1 K hr hgd I1.env0 (hb s1 us I1.kIn hl) r2 h1 q) fun r s' hq => ?_)
  cases r with
  | error e => exact (hq : False).elim
  | ok fl =>
    cases fl with
    | ret u => exact I1.after hq
    | next => exact False.elim hq
    | brk => exact False.elim hq
    | cont => exact False.elim hq
/-- repr of data -/
def DpL (K : PySem.W.Frag) (v : V) (d : PyData) (L : LH) : Prop := ∀ H, Holds L H → Dp K H v d
theorem noDict_of : ∀ {K : PySem.W.Frag} {H : Hp} (d : PyData) {v : V}, Dp K H v d → d.hasDict = false
  | _, _, .none, _, _ => rfl
  | _, _, .bool _, _, _ => rfl
  | _, _, .int _, _, _ => rfl
  | _, _, .str _, _, _ => rfl
  | K, H, .list ds, v, h => by
    cases h with
    | lst _ hd => exact noDictAll ds hd
  | K, H, .tuple ds, v, h => by
    cases h with
    | tup _ hd => exact noDictAll ds hd
  | _, _, .dict _, _, h => nomatch h
where noDictAll : ∀ {K : PySem.W.Frag} {H : Hp} (ds : List PyData) {vs : List V}, DpAll K H vs ds → PyData.hasDictAll ds = false
  | _, _, [], _, _ => rfl
  | K, H, d :: ds, _, .cons h hs => by
    show (d.hasDict || PyData.hasDictAll ds) = false
    rw [noDict_of d h, noDictAll ds hs]
    rfl
theorem wc_reprD {v : V} {d : PyData} (hgd : X.A.guards = some []) (hu : X.A.units + (d.depth + 1) < cLine) (hd : DpL X.K v d L) (hs : d.showable = true) (hz : d.shown.length ≤ sizeLine) (k : K (.str d.shown) L) : WC X (.builtin "repr") [v] L K := by
  intro H hL pins s σ us I r1
  cases r1 with
  | cons r rr =>
    cases rr
    have h := hd H hL
    have fin : ∀ (s' : Shared) (tk : Tok), Inv X pins σ H s' → EP X pins σ (QE K) (.str d.shown tk) s' := fun s' tk J => ⟨.str d.shown, H, J, ⟨tk, rfl⟩, L, hL, k⟩
    obtain ⟨as, rd⟩ := Dp.reads I d v _ h r
    have nd := noDict_of d h
    cases h with
    | non => cases r; exact PySem.P.repr_of_none (fin _ _ (I.tok _))
    | bl b => cases r; exact PySem.P.repr_of_bool (by have := fin _ s.toks (I.tok (s.toks + 1)); rw [PyData.shown_bool] at this; exact this)
    | int i => obtain ⟨t, rfl⟩ := r; exact PySem.P.repr_of_int (by simpa [PyData.showable] using hs) (by have := fin _ s.toks (I.tok (s.toks + 1)); rw [PyData.shown_int] at this; exact this)
    | str x => obtain ⟨t, rfl⟩ := r; exact PySem.P.repr_of_str (by have := fin _ s.toks (I.tok (s.toks + 1)); rw [PyData.shown_str] at this; exact this) (by rw [PyData.shown_str] at hz; exact hz)
    | lst _ _ => cases r; exact repr_of_reads' rd hs (fun z => by rw [nd] at z; cases z) hgd hu (fun _ _ z => z) (fun h' u tk kp => fin _ _ (I.kept kp)) hz
    | tup _ _ => cases r; exact repr_of_reads' rd hs (fun z => by rw [nd] at z; cases z) hgd hu (fun _ _ z => z) (fun h' u tk kp => fin _ _ (I.kept kp)) hz
end
end N3
set_option Elab.async false
set_option linter.all false
set_option maxRecDepth 100000
set_option maxHeartbeats 4000000
namespace N3
open PySem PySem.Spec L2
section
variable {X : Cx} {e a b l tg iter : Expr} {es : List Expr} {st : Stmt} {sts body : List Stmt} {σ : L2.St} {L : LH} {K : V → LH → Prop} {KT : Bool → LH → Prop} {KA : List V → LH → Prop} {KS : L2.St → LH → Prop} {D : EndsL} {pos apos p : Pos} {x m f : Str}
def SqTL (K : PySem.W.Frag) (a : Addr) (xs : List V) (L : LH) : Prop := ∀ H, Holds L H → SqT K H a xs
theorem SqTL.of {K : PySem.W.Frag} {a : Addr} {xs : List V} {L : LH} (m : Mem a (.tup xs) L) : SqTL K a xs L := fun _ h => SqT.of (h.get m)
/-! ### items -/
theorem we_ixL (h : WE X a σ L fun x L1 => WE X b σ L1 fun y L2 => ∃ q xs i v, x = .ref q ∧ y = .int i ∧ SqLL X.K q xs L2 ∧ atI xs i = some v ∧ K v L2) (hs : PlainIx b := by intro _ _; rfl) : WE X (.Subscript a b pos) σ L K :=
  we_of (pe_ix ix_list pe_sem pe_sem hs) fun _ hL => e_then h hL fun _ _ _ h1 k1 => e_then k1 h1 fun _ L2 H2 h2 ⟨q, xs, i, v, ex, ey, sq, ha, k⟩ => ⟨q, xs, i, v, ex, ey, sq H2 h2, ha, L2, h2, k⟩
theorem we_ixT (h : WE X a σ L fun x L1 => WE X b σ L1 fun y L2 => ∃ q xs i v, x = .ref q ∧ y = .int i ∧ SqTL X.K q xs L2 ∧ atI xs i = some v ∧ K v L2) (hs : PlainIx b := by intro _ _; rfl) : WE X (.Subscript a b pos) σ L K :=
  we_of (pe_ix ix_tup pe_sem pe_sem hs) fun _ hL => e_then h hL fun _ _ _ h1 k1 => e_then k1 h1 fun _ L2 H2 h2 ⟨q, xs, i, v, ex, ey, sq, ha, k⟩ => ⟨q, xs, i, v, ex, ey, sq H2 h2, ha, L2, h2, k⟩
/-- o[i] = v of a list -/
theorem wg_setL {v : V} (h : WE X a σ L fun x L1 => WE X b σ L1 fun y L2 => ∃ q xs k j F, x = .ref q ∧ y = .int k ∧ Hole q (.lst xs) L2 F ∧ ixN xs.length k = some j ∧ KS σ (F (.lst (xs.set j v))))
    (ha : ∀ v, assign (.Subscript a b pos) X.env v = (do
      let ov ← holding [v] (eval a X.env)
      let iv ← holding [v, ov] (eval b X.env)
      standAt pos
      holding [v, ov, iv] (setItem ov iv v)
      release [v, ov, iv] []) := by intro _; rfl) : WG X (.Subscript a b pos) v σ L KS :=
  wg_of (pg_sub pe_sem pe_sem set_list ha) fun _ hL => e_then h hL fun _ _ _ h1 k1 => e_then k1 h1 fun _ L2 H2 h2 ⟨q, xs, k, j, F, ex, ey, hf, hj, kk⟩ =>
    ⟨q, xs, k, j, ex, ey, h2.at_ _ _ hf.mem, hj, _, h2.put hf, kk⟩
/-! ### lists -/
theorem wo_catL {p q : Addr} {xs ys : List V} (m : Mem p (.lst xs) L) (m2 : Mem q (.lst ys) L) (hl : xs.length + ys.length ≤ sizeLine) (k : ∀ r, K (.ref r) ((r, .lst (xs ++ ys)) :: L)) : WO X (binaryOp .Add) (.ref p) (.ref q) L K :=
  wo_of op_cat fun _ hL => ⟨p, q, xs, ys, rfl, rfl, hL.get m, hL.get m2, hl, fun r hr => ⟨_, hL.new hr, k r⟩⟩
theorem wc_all {q : Addr} {bs : List Bool} (hc : X.calm = true) (h : SqLL X.K q (bs.map V.bl) L) (k : K (.bl (bs.all id)) L) : WC X (.builtin "all") [.ref q] L K := wc_of (cr_all hc) fun H hL => ⟨q, bs, rfl, h H hL, L, hL, k⟩
theorem wo_eqD {v u : V} {d d' : PyData} (hu : X.A.units + 64 < cLine) (h1 : DpL X.K v d L) (h2 : DpL X.K u d' L) (s1 : SeqAt.shaped d = true) (s2 : SeqAt.shaped d' = true) (k : K (.bl (PyData.eqv d d')) L) : WO X (compareOp .Eq) v u L K :=
  wo_of (op_eqD hu) fun H hL => ⟨d, d', h1 H hL, h2 H hL, s1, s2, L, hL, k⟩
/-! ### texts with braces -/
/-- the parts of an f-string, one behind the other -/
inductive WJ (X : Cx) (σ : L2.St) : List Expr → Str → LH → (Str → LH → Prop) → Prop where
  | nil {acc : Str} {L : LH} {Kj : Str → LH → Prop} (k : Kj acc L) : WJ X σ [] acc L Kj
  | cons {e : Expr} {es : List Expr} {acc : Str} {L : LH} {Kj : Str → LH → Prop} (y : Str) (L1 : LH) (h : WE X e σ L fun v L' => v = .str y ∧ L' = L1) (hl : (acc ++ y).length ≤ sizeLine) (r : WJ X σ es (acc ++ y) L1 Kj) : WJ X σ (e :: es) acc L Kj
theorem wj_pj {es : List Expr} {acc : Str} {Kj : Str → LH → Prop} (h : WJ X σ es acc L Kj) : PJ X es (es.map (SemE X)) ∧ ∀ H, Holds L H → tJs (es.map (SemE X)) acc σ H (fun y H' => ∃ L', Holds L' H' ∧ Kj y L') := by
  induction h with
  | nil k => exact ⟨.nil, fun H hL => ⟨_, hL, k⟩⟩
  | cons y L1 h hl _ ih => exact ⟨.cons pe_sem ih.1, fun H hL => e_then h hL fun v L' H' h' ⟨ev, el⟩ => by
      subst ev el
      exact ⟨y, rfl, hl, ih.2 H' h'⟩⟩
theorem we_joined {v1 v2 : Expr} (h : WJ X σ (v1 :: v2 :: es) Str.empty L fun y L' => K (.str y) L') : WE X (.JoinedStr (v1 :: v2 :: es) pos) σ L K :=
  we_of (pe_joined (wj_pj h).1) fun H hL => (wj_pj h).2 H hL
theorem we_fmtI (h : WE X e σ L fun v L1 => ∃ i : Int, v = .int i ∧ i.natAbs.log2 < 1920 ∧ K (.str (toString i)) L1) : WE X (.FormattedValue e (-1) none pos) σ L K :=
  we_of (pe_fmt pe_sem) fun _ hL => e_then h hL fun _ L1 _ h1 ⟨i, ev, hi, k⟩ => .inr ⟨i, ev, hi, L1, h1, k⟩
/-! ### loops -/
/-- where the loop's word stands: things may be forgotten on the way -/
def LoopNx (I : Nat → L2.St → LH → Prop) (i : Nat) : L2.St → LH → Prop := fun σ L => ∃ L', Sub L L' ∧ I i σ L'
theorem LoopNx.qs {I : Nat → L2.St → LH → Prop} {i : Nat} {σ : L2.St} {H : Hp} (h : QS (LoopNx I i) σ H) : QS (I i) σ H := by
  obtain ⟨L, hL, L', s, k⟩ := h
  exact ⟨L', s H hL, k⟩
def loopEnds (D : EndsL) (I : Nat → L2.St → LH → Prop) (i : Nat) : EndsL := ⟨LoopNx I i, D.rt, D.nx, LoopNx I i⟩
theorem loop_le {D : EndsL} {I : Nat → L2.St → LH → Prop} {i : Nat} : Ends.Le (loopEnds D I i).to { D.to with nx := QS (I i), ct := QS (I i), bk := D.to.nx } :=
  ⟨fun _ _ q => LoopNx.qs q, fun _ _ q => q, fun _ _ q => q, fun _ _ q => LoopNx.qs q⟩
theorem ws_forR (hc : X.calm = true) (hp : PassesOwn (model X.prog X.w) X.A X.env X.xe) (hm : X.mg "range" = none)
    (h : WA X [a] σ L fun vs L1 => ∃ j : Int, vs = [.int j] ∧ -(2 ^ 62) ≤ j ∧ j < 2 ^ 62 ∧ ∃ I : Nat → L2.St → LH → Prop, I 0 σ L1 ∧
      (∀ i σ' L', i < j.toNat → I i σ' L' → WG X tg (.int (0 + (i : Int))) σ' L' fun σ2 L2 => WSs X body σ2 L2 (loopEnds D I (i + 1))) ∧ (∀ σ' L', I j.toNat σ' L' → D.nx σ' L'))
    (hg : Gl X "range" := by rfl) (hst : starEach [a] X.env = [(false, eval a X.env)] := by rfl)
    (hs : ∀ x, foldedSetIterable (.Call (.Name "range" p) [a] [] apos) X.env x = pure x := by intro _; rfl) : WS X (.For tg (.Call (.Name "range" p) [a] [] apos) body [] pos) σ L D :=
  ws_of (ps_for hp hc (pi_range1 hg hm pa_sem hst) pg_sem pss_sem hs) fun _ hL => a_then h hL fun _ L1 H1 h1 ⟨j, ev, j0, j1, I, i0, turn, fin⟩ =>
    ⟨j, ev, j0, j1, for_range (lo := 0) (n := j.toNat) (fun i => QS (I i)) ⟨L1, h1, i0⟩
      (fun i σ' H' hi ⟨L', h', k⟩ => g_then (turn i σ' L' hi k) h' fun σ2 L2 H2 h2 k2 => (k2 H2 h2).mono loop_le) (fun σ' H' ⟨L', h', k⟩ => ⟨L', h', fin σ' L' k⟩)⟩
/-- while: a word and a number that falls -/
theorem ws_while {c : Expr} (hp : PassesOwn (model X.prog X.w) X.A X.env X.xe) (I : Nat → L2.St → LH → Prop) {n : Nat} (h0 : I n σ L)
    (h : ∀ n σ' L', I n σ' L' → WT X c σ' L' fun t L1 => (t = true → WSs X body σ' L1 ⟨fun σ2 L2 => ∃ m, m < n ∧ LoopNx I m σ2 L2, D.rt, D.nx, fun σ2 L2 => ∃ m, m < n ∧ LoopNx I m σ2 L2⟩) ∧ (t = false → D.nx σ' L1)) :
    WS X (.While c body [] pos) σ L D :=
  ws_of (ps_while hp pt_sem pss_sem) fun H hL => ⟨fun n σ' H' => QS (I n) σ' H', ⟨n, L, hL, h0⟩, fun n σ' H' ⟨L', h', k⟩ => t_then (h n σ' L' k) h' fun t L1 H1 h1 kk => by
    cases t with
    | true => exact iteT ⟨fun σ2 H2 => ∃ m, m < n ∧ QS (I m) σ2 H2, fun _ _ q => q, (kk.1 rfl H1 h1).mono ⟨fun _ _ ⟨L2, h2, m, hm, q⟩ => ⟨m, hm, LoopNx.qs ⟨L2, h2, q⟩⟩, fun _ _ q => q, fun _ _ q => q, fun _ _ ⟨L2, h2, m, hm, q⟩ => ⟨m, hm, LoopNx.qs ⟨L2, h2, q⟩⟩⟩⟩
    | false => exact iteF ⟨L1, h1, kk.2 rfl⟩⟩
end
end N3
set_option Elab.async false
set_option linter.all false
set_option maxRecDepth 100000
set_option maxHeartbeats 4000000
namespace N3
open PySem PySem.Spec L2
section
variable {X : Cx} {e a b l tg elt : Expr} {es : List Expr} {σ : L2.St} {L : LH} {K : V → LH → Prop} {D : EndsL} {pos apos p : Pos} {x : Str} {scope : Scope} {own : List (Str × Nat)}
/-- the inner of a comprehension: in whatever block it runs -/
def SemEB (X : Cx) (scope : Scope) (e : Expr) : TE := fun σ H Q => ∀ (s : Shared) (H' : Hp) (C : Addr) (cl : List (Str × Addr)) (fp : List Addr), SemE (X.blk s H' scope (compEnvC scope cl C X.env) fp) e σ H Q
def SemGB (X : Cx) (scope : Scope) (e : Expr) : TG := fun v σ H Q => ∀ (s : Shared) (H' : Hp) (C : Addr) (cl : List (Str × Addr)) (fp : List Addr), SemG (X.blk s H' scope (compEnvC scope cl C X.env) fp) e v σ H Q
/-- one item's turn -/
def Turn1 (X : Cx) (scope : Scope) (own : List (Str × Nat)) (tg elt : Expr) (σ : L2.St) (D : Addr) (y : V) (L' : LH) (Nx : LH → Prop) : Prop :=
  ∀ (s : Shared) (H' : Hp) (C : Addr) (cl : List (Str × Addr)) (fp : List Addr), WG (X.blk s H' scope (compEnvC scope cl C X.env) fp) tg y (wipe σ (own.map (·.2))) L' fun σ2 L2 =>
    wipe σ2 (own.map (·.2)) = wipe σ (own.map (·.2)) ∧ ∀ (s : Shared) (H' : Hp) (C : Addr) (cl : List (Str × Addr)) (fp : List Addr), WE (X.blk s H' scope (compEnvC scope cl C X.env) fp) elt σ2 L2 fun z L3 =>
      ∃ acc F, Hole D (.lst acc) L3 F ∧ acc.length < sizeLine ∧ ∃ L4, Sub (F (.lst (acc ++ [z]))) L4 ∧ Nx L4
def QL (N : LH → Prop) : Hp → Prop := fun H => ∃ L, Holds L H ∧ N L
theorem turn1 {D : Addr} {y : V} {L' : LH} {Nx : LH → Prop} {H : Hp} (h : Turn1 X scope own tg elt σ D y L' Nx) (hL : Holds L' H) :
    SemGB X scope tg y (wipe σ (own.map (·.2))) H fun σ2 H2 => wipe σ2 (own.map (·.2)) = wipe σ (own.map (·.2)) ∧ tYes σ2 H2 fun b H3 =>
      if b = true then SemEB X scope elt σ2 H3 fun z H4 => ∃ acc, H4 D = some (.lst acc) ∧ acc.length < sizeLine ∧ QL Nx (upd H4 D (.lst (acc ++ [z]))) else QL Nx H3 := by
  intro s H' C cl fp
  refine g_then (h s H' C cl fp) hL fun σ2 L2 H2 h2 ⟨hw, k2⟩ => ⟨hw, ?_⟩
  show if true = true then SemEB X scope elt σ2 H2 (fun z H4 => ∃ acc, H4 D = some (.lst acc) ∧ acc.length < sizeLine ∧ QL Nx (upd H4 D (.lst (acc ++ [z])))) else QL Nx H2
  rw [if_pos rfl]
  intro s H' C cl fp
  refine e_then (k2 s H' C cl fp) h2 fun z L3 H3 h3 ⟨acc, F, hf, hl, L4, sb, nx⟩ => ?_
  exact ⟨acc, h3.at_ _ _ hf.mem, hl, L4, sb _ (h3.put hf), nx⟩
theorem peB {s : Shared} {H' : Hp} {C : Addr} {cl : List (Str × Addr)} {fp : List Addr} : PE (X.blk s H' scope (compEnvC scope cl C X.env) fp) e (SemEB X scope e) := ⟨fun pins s1 _ _ _ I h => h s H' C cl fp pins s1 I⟩
theorem pgB {s : Shared} {H' : Hp} {C : Addr} {cl : List (Str × Addr)} {fp : List Addr} : PG (X.blk s H' scope (compEnvC scope cl C X.env) fp) e (SemGB X scope e) := ⟨fun pins s1 _ _ _ u _ I r h => h s H' C cl fp pins s1 u I r⟩
end
end N3
set_option Elab.async false
set_option linter.all false
set_option maxRecDepth 100000
set_option maxHeartbeats 4000000
namespace N3
open PySem PySem.Spec L2 PySem.W PySem.Calls
open PyProof.Rows hiding St
end N3
set_option Elab.async false
set_option linter.all false
set_option maxRecDepth 100000
set_option maxHeartbeats 4000000
namespace N3
open PySem PySem.Spec L2
open PyProof.Rows (envOfC)
/-! ### what is asked of a body's names, once -/
inductive At (x : Str) : List Str → Nat → Prop where
  | head {l : List Str} : At x (x :: l) 0
  | tail {y : Str} {l : List Str} {i : Nat} : At x l i → At x (y :: l) (i + 1)
inductive InS (x : Str) : List Str → Prop where
  | head {l : List Str} : InS x (x :: l)
  | tail {y : Str} {l : List Str} : InS x l → InS x (y :: l)
theorem At.get {x : Str} {l : List Str} {i : Nat} (h : At x l i) : l[i]? = some x := by
  induction h with
  | head => rfl
  | tail _ ih => rw [List.getElem?_cons_succ]; exact ih
theorem At.mem {x : Str} {l : List Str} {i : Nat} (h : At x l i) : x ∈ l := List.mem_of_getElem? h.get
def visB (sc : Scope) (x : Str) : Bool := (match sc.names.lookup x with | some .local => true | some .cell => true | some .free => true | _ => false) && !(x == "__debug__") && !(x == "__classdict__")
def locB (sc : Scope) (x : Str) : Bool := match sc.names.lookup x with | some .local => true | _ => false
def gloB (sc : Scope) (x : Str) : Bool := (match sc.names.lookup x with | some .globalImplicit => true | _ => false) && decide (x ≠ "__name__") && !(x == "__debug__")
def scopeB (N : List Str) (sc : Scope) (Vn Ln Gn : List Str) : Bool := decide N.Nodup && Vn.all (visB sc) && Ln.all (locB sc) && Gn.all (gloB sc)
structure XOk (N : List Str) (sc : Scope) (Vn Ln Gn : List Str) (X : Cx) : Prop where
  hN : X.N = N
  hsc : X.env.scope = sc
  ok : scopeB N sc Vn Ln Gn = true
  calm : X.calm = true
  pas : PassesOwn (model X.prog X.w) X.A X.env X.xe
section
variable {N Vn Ln Gn : List Str} {sc : Scope} {X : Cx} {x : Str} {i j : Nat}
theorem XOk.all (h : XOk N sc Vn Ln Gn X) : N.Nodup ∧ (∀ x ∈ Vn, visB sc x = true) ∧ (∀ x ∈ Ln, locB sc x = true) ∧ ∀ x ∈ Gn, gloB sc x = true := by
  have o := h.ok
  unfold scopeB at o
  simp only [Bool.and_eq_true, decide_eq_true_eq, List.all_eq_true] at o
  obtain ⟨⟨⟨a, b⟩, c⟩, d⟩ := o
  exact ⟨a, b, c, d⟩
theorem XOk.nd (h : XOk N sc Vn Ln Gn X) : X.N.Nodup := by rw [h.hN]; exact h.all.1
theorem XOk.ix (h : XOk N sc Vn Ln Gn X) (a : At x N i) : X.N[i]? = some x := by rw [h.hN]; exact a.get
theorem XOk.vis (h : XOk N sc Vn Ln Gn X) (a : At x Vn j) : Vis X.env.scope x ∧ (x == ("__debug__" : Str)) = false ∧ (x == ("__classdict__" : Str)) = false := by
  have v := h.all.2.1 x a.mem
  rw [h.hsc]
  unfold visB at v
  simp only [Bool.and_eq_true, Bool.not_eq_true'] at v
  obtain ⟨⟨v, d1⟩, d2⟩ := v
  refine ⟨?_, d1, d2⟩
  unfold Vis
  split at v
  · rename_i e; exact .inl e
  · rename_i e; exact .inr (.inl e)
  · rename_i e; exact .inr (.inr e)
  · cases v
theorem XOk.loc (h : XOk N sc Vn Ln Gn X) (a : At x Ln j) : X.env.scope.names.lookup x = some .local := by
  have v := h.all.2.2.1 x a.mem
  rw [h.hsc]
  unfold locB at v
  split at v
  · rename_i e; exact e
  · cases v
theorem XOk.glo (h : XOk N sc Vn Ln Gn X) (a : At x Gn j) : Gl X x ∧ x ≠ "__name__" ∧ (x == ("__debug__" : Str)) = false := by
  have v := h.all.2.2.2 x a.mem
  unfold gloB at v
  simp only [Bool.and_eq_true, Bool.not_eq_true', decide_eq_true_eq] at v
  obtain ⟨⟨v, d1⟩, d2⟩ := v
  refine ⟨?_, d1, d2⟩
  show X.env.scope.names.lookup x = some .globalImplicit
  rw [h.hsc]
  split at v
  · rename_i e; exact e
  · cases v
theorem XOk.blk {scope : Scope} {Vb Lb Gb : List Str} (h : XOk N sc Vn Ln Gn X) (hb : scopeB N (relS scope sc) Vb Lb Gb = true) (s : Shared) (H : Hp) (C : Addr) (cl : List (Str × Addr)) (fp : List Addr) :
    XOk N (relS scope sc) Vb Lb Gb (X.blk s H scope (compEnvC scope cl C X.env) fp) := ⟨h.hN, by rw [← h.hsc]; rfl, hb, h.calm, PassesOwn.never⟩
end
section
variable {P : Program} {w : World} {K : PySem.W.Frag} {mg : Str → Option Value} {base : Heap}
theorem fnX {x qual : Str} {st : Stmt} {f : Addr} {fd : FuncData} {N ps Gn : List Str} {k : Nat} {pre : Pre} (F : Fun K x qual st f fd) (S : FnScope N ps (defScope st)) (ok : scopeB N (defScope st) N N Gn = true) (len : ∀ vs L Kk, pre vs L Kk → vs.length = ps.length)
    (body : ∀ (X : Cx), X.prog = P → X.w = w → X.K = K → X.mg = mg → X.base = base → XOk N (defScope st) N N Gn X → Room k X.A → ∀ vs L Kk, pre vs L Kk → WSs X (defBody st) (start N vs) L (EndOf Kk)) : FnOk P w K mg base CX0 (k + 1) f fd ps (SpL pre) :=
  fnL F S len fun cdv A outer s H vs E L Kk hr hp => body _ rfl rfl rfl rfl rfl ⟨rfl, rfl, ok, rfl, PassesOwn.never⟩ hr vs L Kk hp
theorem fnXG {x qual : Str} {st : Stmt} {f : Addr} {fd : FuncData} {N ps Gn : List Str} {k : Nat} {pre : Pre} (F : Fun K x qual st f fd) (S : FnScope N ps (defScope st)) (ok : scopeB N (defScope st) N N Gn = true) (len : ∀ vs L Kk, pre vs L Kk → vs.length = ps.length)
    (body : ∀ (X : Cx), X.prog = P → X.w = w → X.K = K → X.mg = mg → X.base = base → XOk N (defScope st) N N Gn X → Room k X.A → X.A.guards = some [] → ∀ vs L Kk, pre vs L Kk → WSs X (defBody st) (start N vs) L (EndOf Kk)) : FnG P w K mg base (k + 1) f fd ps pre :=
  fnG F S len fun cdv A outer s H vs E L Kk hr hg hp => body _ rfl rfl rfl rfl rfl ⟨rfl, rfl, ok, rfl, PassesOwn.never⟩ hr hg vs L Kk hp
end
/-! ### the rules, over XOk -/
section
variable {N Vn Ln Gn : List Str} {sc : Scope} {X : Cx} {i j : Nat} {e a b l tg elt : Expr} {es : List Expr} {sts body : List Stmt} {σ : L2.St} {L : LH} {K : V → LH → Prop} {KS : L2.St → LH → Prop} {D : EndsL} {pos apos p : Pos} {x m f : Str} {C : Addr} {k : Nat} {ps : List Str} {dvs : List V} {pre : Pre}
theorem x_name {v : V} (h : XOk N sc Vn Ln Gn X) (a : At x N i) (c : At x Vn j) (hσ : σ[i]? = some (some v)) (k : K v L) : WE X (.Name x pos) σ L K := we_name i (h.ix a) (h.vis c).1 hσ k (h.vis c).2.1 (h.vis c).2.2
theorem x_glob {v : V} {u : Value} (h : XOk N sc Vn Ln Gn X) (a : At x Gn i) (hm : X.mg x = some u) (r : RelV v u) (k : K v L) : WE X (.Name x pos) σ L K := we_glob hm r k (h.glo a).1 (h.glo a).2.2
theorem x_bltn {v : V} {u : Value} (h : XOk N sc Vn Ln Gn X) (a : At x Gn i) (hm : X.mg x = none) (hv : bootBuiltins x = some u) (r : RelV v u) (k : K v L) : WE X (.Name x pos) σ L K := we_bltn hm hv r k (h.glo a).1 (h.glo a).2.1 (h.glo a).2.2
theorem x_set {pos' : Pos} (h : XOk N sc Vn Ln Gn X) (a : At x N i) (c : At x Ln j) (q : WE X e σ L fun v L1 => D.nx (σ.set i (some v)) L1) (hs : swapsWith e (some (.Name x pos')) pos.line X.env = pure false := by rfl) : WS X (.Assign [.Name x pos'] e pos) σ L D :=
  ws_set i q h.nd (h.ix a) (.inl (h.loc c)) hs (.inr (h.loc c))
theorem x_tgt {v : V} (h : XOk N sc Vn Ln Gn X) (a : At x N i) (c : At x Ln j) (k : KS (σ.set i (some v)) L) : WG X (.Name x pos) v σ L KS := wg_name i k h.nd (h.ix a) (.inl (h.loc c)) (.inr (h.loc c))
theorem x_tup {q : Addr} {vs : List V} {kk : Nat} (h : XOk N sc Vn Ln Gn X) (m : Mem q (.tup vs) L) (g : WGs X es vs σ L KS) (hl : vs.length = es.length := by rfl) (hn : (assignEach es X.env).length = es.length := by rfl) (hst : (assignEach es X.env).findIdx? (·.1) = none := by rfl) :
    WG X (.Tuple es kk pos) (.ref q) σ L KS := wg_tup h.calm m g hl hn hst
theorem x_call (h : XOk N sc Vn Ln Gn X) (g : At x Gn i) (G : GFn X.prog X.w X.K X.mg X.base x k ps dvs pre) (hr : Room k X.A) (q : WA X (e :: es) σ L fun vs L1 => pre (vs ++ dvs) L1 K)
    (he : starEach (e :: es) X.env = (false, eval e X.env) :: starEach es X.env := by rfl) (hpl : (backTo pos (starEach es X.env)).any (·.1) = false := by rfl) : WE X (.Call (.Name x p) (e :: es) [] pos) σ L K := we_call G hr q (h.glo g).1 (h.glo g).2.2 he hpl
theorem x_callG (h : XOk N sc Vn Ln Gn X) (g : At x Gn i) (G : GFg X.prog X.w X.K X.mg X.base x k ps dvs pre) (hr : Room k X.A) (hgd : X.A.guards = some []) (q : WA X (e :: es) σ L fun vs L1 => pre (vs ++ dvs) L1 K)
    (he : starEach (e :: es) X.env = (false, eval e X.env) :: starEach es X.env := by rfl) (hpl : (backTo pos (starEach es X.env)).any (·.1) = false := by rfl) : WE X (.Call (.Name x p) (e :: es) [] pos) σ L K := we_callG G hr hgd q (h.glo g).1 (h.glo g).2.2 he hpl
theorem x_make (h : XOk N sc Vn Ln Gn X) (g : At x Gn i) (G : GMk X.prog X.w X.K X.mg X.base x C k ps dvs pre) (hr : Room (k + 1) X.A) (q : WA X (e :: es) σ L fun vs L1 => ∀ o dx, pre (.ref o :: (vs ++ dvs)) ((o, .ins C dx []) :: L1) fun v L2 => v = .non ∧ K (.ref o) L2)
    (he : starEach (e :: es) X.env = (false, eval e X.env) :: starEach es X.env := by rfl) (hpl : (backTo pos (starEach es X.env)).any (·.1) = false := by rfl) : WE X (.Call (.Name x p) (e :: es) [] pos) σ L K := we_make G hr q (h.glo g).1 (h.glo g).2.2 he hpl
theorem x_callB {id : String} (h : XOk N sc Vn Ln Gn X) (g : At x Gn i) (hm : X.mg x = none) (hv : bootBuiltins x = some (.builtin id)) (q : WA X (e :: es) σ L fun vs L1 => WC X (.builtin id) vs L1 K)
    (he : starEach (e :: es) X.env = (false, eval e X.env) :: starEach es X.env := by rfl) (hpl : (backTo pos (starEach es X.env)).any (·.1) = false := by rfl) : WE X (.Call (.Name x p) (e :: es) [] pos) σ L K := we_callB hm hv q (h.glo g).1 (h.glo g).2.1 (h.glo g).2.2 he hpl
theorem x_callTy {T : String} (h : XOk N sc Vn Ln Gn X) (g : At x Gn i) (hm : X.mg x = none) (hv : bootBuiltins x = some (.type T)) (q : WA X (e :: es) σ L fun vs L1 => WC X (.type T) vs L1 K)
    (he : starEach (e :: es) X.env = (false, eval e X.env) :: starEach es X.env := by rfl) (hpl : (backTo pos (starEach es X.env)).any (·.1) = false := by rfl) : WE X (.Call (.Name x p) (e :: es) [] pos) σ L K := we_callTy hm hv q (h.glo g).1 (h.glo g).2.1 (h.glo g).2.2 he hpl
theorem x_callFn {id : String} (h : XOk N sc Vn Ln Gn X) (g : At x Gn i) (hm : X.mg x = some (.builtin id)) (q : WA X (e :: es) σ L fun vs L1 => WC X (.builtin id) vs L1 K)
    (he : starEach (e :: es) X.env = (false, eval e X.env) :: starEach es X.env := by rfl) (hpl : (backTo pos (starEach es X.env)).any (·.1) = false := by rfl) : WE X (.Call (.Name x p) (e :: es) [] pos) σ L K := we_callFn hm q (h.glo g).1 (h.glo g).2.2 he hpl
theorem x_setF {f : Str} {pos' : Pos} (h : WE X b σ L fun y L1 => WE X a σ L1 fun z L2 => ∃ o C dx fs F, z = .ref o ∧ Hole o (.ins C dx fs) L2 F ∧ Cls X.K C ∧ NoAttr X.K C f ∧ fs.length < 1000 ∧ D.nx σ (F (.ins C dx (putF f y fs))))
    (hs : swapsWith b (some (.Attribute a f pos')) pos.line X.env = pure false := by rfl) : WS X (.Assign [.Attribute a f pos'] b pos) σ L D :=
  ws_of (ps_fld pe_sem pe_sem hs) fun _ hL => e_then h hL fun _ _ _ h1 k1 => e_then k1 h1 fun _ _ _ h2 ⟨o, C, dx, fs, F, ez, hf, c, n, hl, k⟩ => ⟨o, C, dx, fs, ez, h2.at_ _ _ hf.mem, c, n, hl, _, h2.put hf, k⟩
end
end N3
namespace N3
open PySem PySem.Spec L2
section
variable {P : Program} {w : World} {K : PySem.W.Frag} {mg : Str → Option Value} {base : Heap}
/-- a def with defaults -/
theorem fnXD {x qual : Str} {st : Stmt} {f : Addr} {fd : FuncData} {N ps Gn : List Str} {k : Nat} {pre : Pre} {dvs : List V} (F : FunD K x qual (defArgs st) (defBody st) (defScope st) dvs [] f fd) (S : FnScope N ps (defScope st)) (ok : scopeB N (defScope st) N N Gn = true)
    (len : ∀ vs L Kk, pre vs L Kk → vs.length = ps.length)
    (body : ∀ (X : Cx), X.prog = P → X.w = w → X.K = K → X.mg = mg → X.base = base → XOk N (defScope st) N N Gn X → Room k X.A → ∀ vs L Kk, pre vs L Kk → WSs X (defBody st) (start N vs) L (EndOf Kk)) : FnOk P w K mg base CX0 (k + 1) f fd ps (SpL pre) := by
  refine F.ok S (fun vs H Q E h => ?_) (fun cdv A outer s H vs Q E hr h => ?_)
  · obtain ⟨L, Kk, _, hp, _⟩ := h
    exact len vs L Kk hp
  · obtain ⟨L, Kk, hL, hp, hk⟩ := h
    have b := body (cxOf CX0 P w K mg base N qual (defScope st) f cdv A outer s H E).nox rfl rfl rfl rfl rfl ⟨rfl, rfl, ok, rfl, PassesOwn.never⟩ hr vs L Kk hp
    refine ⟨_, PSs.nox pss_sem, (b H hL).mono ⟨fun σ H' q => ?_, fun v H' q => hk v H' q.sub, fun _ _ q => ?_, fun _ _ q => ?_⟩⟩
    · obtain ⟨L1, h1, L2, s2, k2⟩ := q
      exact hk _ _ ⟨L2, s2 _ h1, k2⟩
    · obtain ⟨_, _, q⟩ := q
      exact q.elim
    · obtain ⟨_, _, q⟩ := q
      exact q.elim
end
/-! ### steps, by the syntax -/
theorem ret_sub {v : V} {L L' : LH} {K : V → LH → Prop} (k : K v L') (s : Sub L L') : (EndOf K).rt v L := ⟨L', s, k⟩
theorem nx_sub {σ : L2.St} {L L' : LH} {K : V → LH → Prop} (k : K .non L') (s : Sub L L') : (EndOf K).nx σ L := ⟨L', s, k⟩
end N3
set_option Elab.async false
set_option linter.all false
set_option maxRecDepth 100000
set_option maxHeartbeats 4000000
namespace N3
open PySem PySem.Spec L2 ClX StX
section
variable {P : Program} {w : World} {K : PySem.W.Frag} {mg : Str → Option Value} {base : Heap}
/-- a classmethod of the class at C, called off the class -/
structure GCm (P : Program) (w : World) (K : PySem.W.Frag) (mg : Str → Option Value) (base : Heap) (C : Addr) (m : Str) (k : Nat) (pre : Pre) : Prop where
  ex : ∃ mc p g, CRead K C mc ∧ CMet K C mc m p g ∧ FnR P w K mg base CX0 k g (SpL pre)
end
section
variable {N Vn Ln Gn : List Str} {sc : Scope} {X : Cx} {i j : Nat} {e a b : Expr} {es : List Expr} {σ : L2.St} {L : LH} {K : V → LH → Prop} {pos apos p : Pos} {x m : Str} {C : Addr} {k : Nat} {ps : List Str} {dvs : List V} {pre : Pre}
theorem we_cmeth {pl : Sem Bool} (G : GCm X.prog X.w X.K X.mg X.base C m k pre) (hr : Room k X.A) (h : WE X a σ L fun x L1 => x = .ref C ∧ WA X (e :: es) σ L1 fun vs L2 => pre (.ref C :: vs) L2 K)
    (hst : starEach (e :: es) X.env = (false, eval e X.env) :: starEach es X.env := by rfl) (hpl : (backTo pos (starEach es X.env)).any (·.1) = false := by rfl)
    (ht : eval (.Call (.Attribute a m apos) (e :: es) [] pos) X.env = (do
      let ov ← eval a X.env
      standAt apos.atName
      let (f, first) ← holding [ov] (getMethod ov m pl)
      callWith pos f first (backTo pos (starEach (e :: es) X.env)) (backToKw pos (keywordEach [] X.env))) := by rfl) : WE X (.Call (.Attribute a m apos) (e :: es) [] pos) σ L K := by
  obtain ⟨mc, p, g, r, c, F⟩ := G.ex
  exact we_of (pe_cmeth (E := E0) (pl := pl) pe_sem r c F hr pass0 pa_sem hst hpl ht) fun _ hL => e_then h hL fun _ _ _ h1 ⟨ex, k1⟩ => ⟨ex, a_then k1 h1 fun vs L2 _ h2 k2 => ⟨L2, K, h2, k2, fun _ _ q => q⟩⟩
/-- x(e, ..), x a local name that holds a class -/
theorem x_makeL {cn : Str} (h : XOk N sc Vn Ln Gn X) (g : At x N i) (c : At x Vn j) (hσ : σ[i]? = some (some (.ref C))) (G : GMk X.prog X.w X.K X.mg X.base cn C k ps dvs pre) (hr : Room (k + 1) X.A)
    (q : WA X (e :: es) σ L fun vs L1 => ∀ o dx, pre (.ref o :: (vs ++ dvs)) ((o, .ins C dx []) :: L1) fun v L2 => v = .non ∧ K (.ref o) L2)
    (he : starEach (e :: es) X.env = (false, eval e X.env) :: starEach es X.env := by rfl) (hpl : (backTo pos (starEach es X.env)).any (·.1) = false := by rfl) : WE X (.Call (.Name x p) (e :: es) [] pos) σ L K := by
  obtain ⟨f, fd, ds, F, hm, M, hb, hd⟩ := G.ex
  intro H hL pins s I
  refine wpAny_Call_Name_kw (thn ((pe_var (pos := p) (h.ix g) (h.vis c).1 (h.vis c).2.1 (h.vis c).2.2).run pins s σ H (fun v H1 => v = .ref C ∧ H1 = H) I ⟨.ref C, hσ, rfl, rfl⟩) fun u s1 ⟨v, H1, I1, r1, q1⟩ => ?_)
  obtain ⟨rfl, rfl⟩ := q1
  cases r1
  refine PySem.W.callWith_K (h₀ := X.base) I.ok.mod.kin M.kp (thn (q _ hL pos pins s1 I1) fun us s2 ⟨vs, H2, I2, r, L1, h1, k1⟩ => ⟨I2.kIn, ?_⟩) he hpl
  refine run_make (E := E0) M F hr hb hd pass0 I2 r fun o dx ho hdx ne => ?_
  have z2 := (h1.new (o := .own o) hdx).new (p := o) (o := .ins C dx []) (by rw [upd_ne ne.symm]; exact ho)
  exact ⟨_, fun v L2 => v = .non ∧ K (.ref o) L2, z2.drop1, k1 o dx, fun v H' ⟨L2, h2, ev, qq⟩ => ⟨ev, L2, h2, qq⟩⟩
end
end N3
set_option Elab.async false
set_option linter.all false
set_option maxRecDepth 100000
set_option maxHeartbeats 4000000
namespace N3
open PySem PySem.Spec L2
theorem Hole.self {a : Addr} {o : HO} {L : LH} {F : HO → LH} (h : Hole a o L F) : F o = L := by
  induction h with
  | head => rfl
  | tail _ ih => exact congrArg (_ :: ·) ih
theorem Hole.again {a : Addr} {o : HO} {L : LH} {F : HO → LH} (h : Hole a o L F) (o' : HO) : Hole a o' (F o') F := by
  induction h with
  | head => exact .head
  | tail _ ih => exact .tail ih
section
variable {N Vn Ln Gn : List Str} {sc : Scope} {X : Cx} {i j i' j' : Nat} {a b : Expr} {σ : L2.St} {L : LH} {D : EndsL} {pos : Pos} {x y : Str}
/-- x, y = a, b -/
theorem x_par {px py pt : Pos} {kt k2 : Nat} {pt2 : Pos} (h : XOk N sc Vn Ln Gn X) (a1 : At x N i) (c1 : At x Ln i') (a2 : At y N j) (c2 : At y Ln j') (hij : i ≠ j)
    (q : WE X a σ L fun v L1 => WE X b σ L1 fun w L2 => D.nx ((σ.set i (some v)).set j (some w)) L2)
    (hw : ∀ env : Env, env.scope = sc → swappedStores [.Tuple [.Name x px, .Name y py] kt pt] (.Tuple [a, b] k2 pt2) env = pure (some [x, y]) := by intro env e; cases env with | mk => dsimp only at e; subst e; rfl)
    (e1 : starEach [a, b] X.env = (false, eval a X.env) :: starEach [b] X.env := by rfl) (e2 : starEach [b] X.env = (false, eval b X.env) :: starEach [] X.env := by rfl)
    (hs : swapsWithSole [.Tuple [.Name x px, .Name y py] kt pt] (.Tuple [a, b] k2 pt2) pos.line X.env = pure false := by rfl) : WS X (.Assign [.Tuple [.Name x px, .Name y py] kt pt] (.Tuple [a, b] k2 pt2) pos) σ L D :=
  ws_of (ps_par h.calm h.nd (h.ix a1) (h.ix a2) hij (h.loc c1) (h.loc c2) (pa_cons pe_sem (pa_cons pe_sem pa_nil e2) e1) (hw X.env h.hsc) hs) fun _ hL => e_then q hL fun v _ _ h1 k1 => e_then k1 h1 fun w L2 _ h2 k2 => ⟨v, w, rfl, L2, h2, k2⟩
end
end N3
set_option Elab.async false
set_option linter.all false
set_option maxRecDepth 100000
set_option maxHeartbeats 4000000
namespace L2
open PySem PySem.Spec PyProof.Rows
end L2
namespace N3
open PySem PySem.Spec L2
open PyProof.Rows (envOfC)
end N3
set_option Elab.async false
set_option linter.all false
set_option maxRecDepth 100000
set_option maxHeartbeats 4000000
namespace PySem.W
open PySem PySem.Calls PyProof.Rows
section
variable {prog : Program} {w : World} {A : Around} {E : Value → Shared → Prop} {s : Shared} {K : Frag} {x C f : Addr} {ox : Obj} {od : Option Obj} {b : Nat}
/-- an item's own __repr__, below a list's -/
theorem n3_under {Q : Str → Shared → Prop} (hb : b ≤ sizeLine) (hu : A.units < cLine) (X : K.In s.heap) (I : InstAt s.heap x ox C od) (hs : findIn K (.ref C) "__repr__" = some (some (.ref f))) (hf : isFn K (.ref f) = true)
    (h : wpAny (model prog w) A (call (.ref f) [.ref x]) (fun v s' => ∃ y u, v = .str y u ∧ Q y s') E s) : wpAny (model prog w) A (pyReprUnder b (.ref x)) Q E s := by
  refine wpAny_pyReprUnder_ref hb ?_
  unfold pyReprObjUnder pyReprObjBy
  refine wpAny_bind (wpAny_cRoomFor hu ?_)
  refine wpAny_bind (wpAny_bind (I.type.here ((looks_findIn X hs).here ?_)))
  show wpAny _ _ (if (some (Value.ref f)).isNone = true then _ else _) _ _ _
  rw [if_neg (by simp)]
  have inner : wpAny (model prog w) A (callSpecialIfBoundBy? (fun g first => match reprUnder? g, first with | some twin, [self] => call twin [self, rawInt b] | _, _ => call g (first ++ [])) (.ref x) "__repr__")
      (fun r s' => ∃ y u, r = some (.str y u) ∧ Q y s') E s := by
    simp only [callSpecialIfBoundBy?, bindSpecialIfBound?]
    refine wpAny_holding (wpAny_bind (wpAny_bind (wpAny_bind (I.type.here ((looks_findIn X hs).here ?_)))))
    refine wpAny_bind (wpAny_askSetting (wpAny_ite ?_))
    have fin : wpAny (model prog w) A (call (.ref f) [.ref x] >>= fun v => pure (some v)) (fun r s' => ∃ y u, r = some (.str y u) ∧ Q y s') E s := wpAny_bind (wpAny_mono h (fun v s' ⟨y, u, e, q⟩ => wpAny_pure ⟨y, u, by rw [e], q⟩) fun _ _ h' => h')
    split
    · exact wpAny_bind ((bind_fn X _ (beq_iff_eq.mp hf)).here (wpAny_pure (by exact fin)))
    · exact wpAny_tryCatch (wpAny_bind ((bind_fn X _ (beq_iff_eq.mp hf)).here (wpAny_pure (by exact fin))))
  refine wpAny_bind (wpAny_mono inner (fun r s' hr => ?_) fun _ _ y => y)
  obtain ⟨y, u, rfl, q⟩ := hr
  exact wpAny_bind (wpAny_isInstance (T := "str") (b := true) rfl isSubtype_str_str (wpAny_pure ⟨y, u, rfl, q⟩))
end
end PySem.W
namespace N3
open PySem PySem.Spec L2
theorem room_loop {k : Nat} {A : Around} (r : Room (k + 1) A) (args : Args) : Room k (A.under (.builtin "list.__repr__.loop" args)) := by
  have d : (A.under (.builtin "list.__repr__.loop" args)).depth = A.depth + 1 := by first | rfl | simp [Around.under, Code.weight, Code.isCreation, Code.isGuard, Code.isCaller, Code.frames, Code.isFrame, guardIds]
  have u := units_under_list_loop A args
  refine ⟨r.hd, ?_, ?_⟩
  · have := r.dp
    rw [d]
    omega
  · have := r.un
    rw [u]
    omega
theorem strs_of : ∀ {l : List Str} {its : List Value}, Vals (l.map V.str) its → ∃ done : List (Str × Tok), its = strValues done ∧ done.map (·.1) = l
  | [], _, .nil => ⟨[], rfl, rfl⟩
  | x :: l, _, .cons r t => by
    obtain ⟨tk, rfl⟩ := r
    obtain ⟨done, e1, e2⟩ := strs_of t
    exact ⟨(x, tk) :: done, by rw [e1]; rfl, by rw [List.map_cons, e2]⟩
/-- where the loop of a list's repr stands -/
def LoopR (X : Cx) (pins : List (Addr × Obj)) (σ : L2.St) (L : LH) (P : Addr) (ts : List Str) (i : Nat) (s : Shared) : Prop := ∃ H, Inv X pins σ H s ∧ Holds ((P, .lst ((ts.take i).map V.str)) :: L) H
end N3
set_option Elab.async false
set_option linter.all false
set_option maxRecDepth 100000
set_option maxHeartbeats 4000000
namespace N3
open PySem PySem.SeqAt PySem.Spec PySem.Calls PyProof.Rows Builtin L2
open AutoSeq1 (wpAny_loadPart')
open MeetsSeq MeetsSeq2 MeetsSeq3 SeqRoads2
end N3
set_option Elab.async false
set_option linter.all false
set_option maxRecDepth 100000
set_option maxHeartbeats 4000000
namespace N3
open PySem PySem.Spec L2
open PyProof.Rows (envOfC)
/-! ### [.. for a, b in zip(x, y)] -/
end N3
set_option Elab.async false
set_option linter.all false
set_option maxRecDepth 100000
set_option maxHeartbeats 4000000
namespace N3
open PySem PySem.Spec L2
/-! ### comprehensions, over XOk -/
end N3
set_option Elab.async false
set_option linter.all false
set_option maxRecDepth 100000
set_option maxHeartbeats 4000000
namespace N3
open PySem PySem.Spec L2
/-! ### what is walked, by what is known -/
/-- n turns while GL holds; turn i hands v on, what is known becomes L' -/
structure SrcL (J : It) (n : Nat) (GL : LH → Prop) (YL : Nat → LH → V → LH → Prop) : Prop where
  ex : ∃ G Y, Walk J n G Y ∧ (∀ L H, GL L → Holds L H → G H) ∧ ∀ i L H v H', GL L → Holds L H → Y i H v H' → ∃ L', Holds L' H' ∧ YL i L v L'
abbrev SK := Nat → (LH → Prop) → (Nat → LH → V → LH → Prop) → LH → Prop
def WI (X : Cx) (tg iter : Expr) (σ : L2.St) (L : LH) (S : SK) : Prop :=
  ∃ wi : TI, PI X tg iter wi ∧ ∀ H, Holds L H → ∀ R : It → Hp → Prop, (∀ J L1 H1 n GL YL, Holds L1 H1 → SrcL J n GL YL → S n GL YL L1 → R J H1) → wi σ H R
def YLat (xs : List V) : Nat → LH → V → LH → Prop := fun i L v L' => L' = L ∧ xs[i]? = some v
def YLfn (f : Nat → V) : Nat → LH → V → LH → Prop := fun i L v L' => L' = L ∧ v = f i
def YLpair (xs ys : Nat → Option V) : Nat → LH → V → LH → Prop := fun i L v L' => ∃ T x y, v = .ref T ∧ L' = (T, .tup [x, y]) :: L ∧ xs i = some x ∧ ys i = some y
section
variable {X : Cx} {tg e a b : Expr} {es : List Expr} {σ : L2.St} {L : LH} {S : SK} {p pos apos cpos tpos : Pos} {elts : List Expr} {kk : Nat}
theorem src_pair {J : It} {n : Nat} {G : Hp → Prop} {GL : LH → Prop} {xs ys : Nat → Option V} (w : Walk J n G (YPair xs ys)) (g : ∀ L H, GL L → Holds L H → G H) : SrcL J n GL (YLpair xs ys) :=
  ⟨G, _, w, g, fun i L H v H' _ hL ⟨T, x, y, e1, e2, e3, e4, e5⟩ => ⟨_, by rw [e3]; exact hL.new e2, T, x, y, e1, rfl, e4, e5⟩⟩
theorem wi_list (h : WE X e σ L fun x L1 => ∃ q xs, x = .ref q ∧ SqLL X.K q xs L1 ∧ S xs.length (SqLL X.K q xs) (YLat xs) L1) : WI X tg e σ L S :=
  ⟨_, pi_list pe_sem, fun _ hL R k => e_then h hL fun _ L1 H1 h1 ⟨q, xs, ex, sq, s⟩ => ⟨q, ex, ⟨xs, sq H1 h1⟩, k _ L1 H1 _ _ _ h1 (⟨_, _, walk_list, fun L H g hL => g H hL, fun i L H v H' _ hL y => ⟨L, by rw [y.1]; exact hL, rfl, y.2⟩⟩) s⟩⟩
theorem wi_tup (h : WE X e σ L fun x L1 => ∃ q xs, x = .ref q ∧ SqTL X.K q xs L1 ∧ S xs.length (SqTL X.K q xs) (YLat xs) L1) : WI X tg e σ L S :=
  ⟨_, pi_tup pe_sem, fun _ hL R k => e_then h hL fun _ L1 H1 h1 ⟨q, xs, ex, sq, s⟩ => ⟨q, ex, ⟨xs, sq H1 h1⟩, k _ L1 H1 _ _ _ h1 (⟨_, _, walk_tup, fun L H g hL => g H hL, fun i L H v H' _ hL y => ⟨L, by rw [y.1]; exact hL, rfl, y.2⟩⟩) s⟩⟩
theorem wi_range (hg : Gl X "range") (hm : X.mg "range" = none) (h : WA X [a] σ L fun vs L1 => ∃ j : Int, vs = [.int j] ∧ -(2 ^ 62) ≤ j ∧ j < 2 ^ 62 ∧ S j.toNat (fun _ => True) (YLfn fun i => .int (0 + (i : Int))) L1)
    (hst : starEach [a] X.env = [(false, eval a X.env)] := by rfl) : WI X tg (.Call (.Name "range" p) [a] [] apos) σ L S :=
  ⟨_, pi_range1 hg hm pa_sem hst, fun _ hL R k => a_then h hL fun _ L1 H1 h1 ⟨j, ev, j0, j1, s⟩ => ⟨j, ev, j0, j1, k _ L1 H1 _ _ _ h1 (⟨_, _, walk_range, fun _ _ _ _ => True.intro, fun i L H v H' _ hL y => ⟨L, by rw [y.1]; exact hL, rfl, y.2⟩⟩) s⟩⟩
theorem wi_enum (hg : Gl X "enumerate") (hm : X.mg "enumerate" = none) (h : WA X [e] σ L fun vs L1 => ∃ q xs, vs = [.ref q] ∧ SqLL X.K q xs L1 ∧ S xs.length (SqLL X.K q xs) (YLpair (fun i => some (.int (i : Nat))) (fun i => xs[i]?)) L1)
    (hst : starEach [e] X.env = [(false, eval e X.env)] := by rfl) : WI X (.Tuple elts kk tpos) (.Call (.Name "enumerate" p) [e] [] apos) σ L S :=
  ⟨_, pi_enum hg hm pa_sem hst, fun _ hL R k => a_then h hL fun _ L1 H1 h1 ⟨q, xs, ev, s1, s⟩ => ⟨q, xs, ev, s1 H1 h1, k _ L1 H1 _ _ _ h1 (src_pair walk_enum fun L H g hL => g H hL) s⟩⟩
theorem wi_str (h : WE X e σ L fun x L1 => ∃ z, x = .str z ∧ S z.cps.size (fun _ => True) (fun i L v L' => L' = L ∧ ∃ c, z.cps[i]? = some c ∧ v = .str ⟨#[c]⟩) L1) : WI X tg e σ L S :=
  ⟨_, pi_str pe_sem, fun _ hL R k => e_then h hL fun _ L1 H1 h1 ⟨z, ex, s⟩ => ⟨z, ex, k _ L1 H1 _ _ _ h1 (⟨_, _, walk_str, fun _ _ _ _ => True.intro, fun i L H v H' _ hL y => ⟨L, by rw [y.1]; exact hL, rfl, y.2⟩⟩) s⟩⟩
end
/-! ### for, comprehensions over it -/
section
variable {X : Cx} {iter tg elt c kx vx : Expr} {body : List Stmt} {ifs : List Expr} {σ : L2.St} {L : LH} {K : V → LH → Prop} {D : EndsL} {pos : Pos} {scope : Scope} {own : List (Str × Nat)}
def ForS (X : Cx) (tg : Expr) (body : List Stmt) (σ : L2.St) (D : EndsL) : SK := fun n GL YL L1 => ∃ I : Nat → L2.St → LH → Prop, I 0 σ L1 ∧ (∀ i σ' L', i ≤ n → I i σ' L' → GL L') ∧
  (∀ i v σ' L' L'', i < n → I i σ' L' → YL i L' v L'' → WG X tg v σ' L'' fun σ2 L2 => WSs X body σ2 L2 (loopEnds D I (i + 1))) ∧ (∀ σ' L', I n σ' L' → D.nx σ' L')
theorem ws_forW (hc : X.calm = true) (hp : PassesOwn (model X.prog X.w) X.A X.env X.xe) (h : WI X tg iter σ L (ForS X tg body σ D)) (hs : ∀ x, foldedSetIterable iter X.env x = pure x := by intro _; rfl) : WS X (.For tg iter body [] pos) σ L D := by
  obtain ⟨wi, hi, h⟩ := h
  refine ws_of (ps_for hp hc hi pg_sem pss_sem hs) fun H hL => h H hL _ fun J L1 H1 n GL YL h1 ⟨G, Y, w, g, y⟩ ⟨I, i0, st, turn, fin⟩ => ?_
  exact for_it w (fun i => QS (I i)) ⟨L1, h1, i0⟩ (fun i σ' H' hi ⟨L', h', k⟩ => g L' H' (st i σ' L' hi k) h') (fun i v σ' H' H'' hi ⟨L', h', k⟩ yy => by
      obtain ⟨L'', h'', y'⟩ := y i L' H' v H'' (st i σ' L' (Nat.le_of_lt hi) k) h' yy
      exact g_then (turn i v σ' L' L'' hi k y') h'' fun σ2 L2 H2 h2 k2 => (k2 H2 h2).mono loop_le) fun σ' H' ⟨L', h', k⟩ => ⟨L', h', fin σ' L' k⟩
def SemTB (X : Cx) (scope : Scope) (e : Expr) : TT := fun σ H Q => ∀ (s : Shared) (H' : Hp) (C : Addr) (cl : List (Str × Addr)) (fp : List Addr), SemT (X.blk s H' scope (compEnvC scope cl C X.env) fp) e σ H Q
theorem ptB {e : Expr} {s : Shared} {H' : Hp} {C : Addr} {cl : List (Str × Addr)} {fp : List Addr} : PT (X.blk s H' scope (compEnvC scope cl C X.env) fp) e (SemTB X scope e) := ⟨fun pins s1 _ _ _ I h => h s H' C cl fp pins s1 I⟩
/-- a list comprehension -/
def LcS (X : Cx) (scope : Scope) (own : List (Str × Nat)) (tg elt : Expr) (σ : L2.St) (K : V → LH → Prop) : SK := fun n GL YL L1 => ∀ D, ∃ I : Nat → LH → Prop, I 0 ((D, .lst []) :: L1) ∧ (∀ i L', i ≤ n → I i L' → GL L') ∧
  (∀ i v L' L'', i < n → I i L' → YL i L' v L'' → Turn1 X scope own tg elt σ D v L'' (I (i + 1))) ∧ (∀ L', I n L' → K (.ref D) L')
theorem lcW {wi : TI} (h : ∀ H, Holds L H → ∀ R : It → Hp → Prop, (∀ J L1 H1 n GL YL, Holds L1 H1 → SrcL J n GL YL → LcS X scope own tg elt σ K n GL YL L1 → R J H1) → wi σ H R) : ∀ H, Holds L H → tLc wi (SemGB X scope tg) tYes (SemEB X scope elt) (own.map (·.2)) σ H (QE K) := fun H hL =>
  h H hL _ fun J L1 H1 n GL YL h1 ⟨G, Y, w, g, y⟩ q D hD => by
    obtain ⟨I, i0, st, turn, fin⟩ := q D
    exact lc_it w (fun i => QL (I i)) ⟨_, h1.new hD, i0⟩ (fun i H' hi ⟨L', h', k⟩ => g L' H' (st i L' hi k) h') (fun i v H' H'' hi ⟨L', h', k⟩ yy => by
      obtain ⟨L'', h'', y'⟩ := y i L' H' v H'' (st i L' (Nat.le_of_lt hi) k) h' yy
      exact turn1 (turn i v L' L'' hi k y') h'') (fun H' ⟨L', h', k⟩ => ⟨L', h', fin L' k⟩)
/-- a turn with a test -/
def TurnI (X : Cx) (scope : Scope) (own : List (Str × Nat)) (tg c elt : Expr) (σ : L2.St) (D : Addr) (v : V) (L' : LH) (Nx : LH → Prop) : Prop :=
  ∀ (s : Shared) (H' : Hp) (C : Addr) (cl : List (Str × Addr)) (fp : List Addr), WG (X.blk s H' scope (compEnvC scope cl C X.env) fp) tg v (wipe σ (own.map (·.2))) L' fun σ2 L2 =>
    wipe σ2 (own.map (·.2)) = wipe σ (own.map (·.2)) ∧ ∀ (s : Shared) (H' : Hp) (C : Addr) (cl : List (Str × Addr)) (fp : List Addr), WT (X.blk s H' scope (compEnvC scope cl C X.env) fp) c σ2 L2 fun b L3 =>
      (b = true → ∀ (s : Shared) (H' : Hp) (C : Addr) (cl : List (Str × Addr)) (fp : List Addr), WE (X.blk s H' scope (compEnvC scope cl C X.env) fp) elt σ2 L3 fun z L4 =>
        ∃ acc F, Hole D (.lst acc) L4 F ∧ acc.length < sizeLine ∧ ∃ L5, Sub (F (.lst (acc ++ [z]))) L5 ∧ Nx L5) ∧ (b = false → ∃ L5, Sub L3 L5 ∧ Nx L5)
theorem turnI {D : Addr} {v : V} {L' : LH} {Nx : LH → Prop} {H : Hp} (h : TurnI X scope own tg c elt σ D v L' Nx) (hL : Holds L' H) :
    SemGB X scope tg v (wipe σ (own.map (·.2))) H fun σ2 H2 => wipe σ2 (own.map (·.2)) = wipe σ (own.map (·.2)) ∧ SemTB X scope c σ2 H2 fun b H3 =>
      if b = true then SemEB X scope elt σ2 H3 fun z H4 => ∃ acc, H4 D = some (.lst acc) ∧ acc.length < sizeLine ∧ QL Nx (upd H4 D (.lst (acc ++ [z]))) else QL Nx H3 := by
  intro s H' C cl fp
  refine g_then (h s H' C cl fp) hL fun σ2 L2 H2 h2 ⟨hw, k2⟩ => ⟨hw, ?_⟩
  intro s H' C cl fp
  refine t_then (k2 s H' C cl fp) h2 fun b L3 H3 h3 ⟨k3, k4⟩ => ?_
  cases b with
  | true =>
    show if true = true then SemEB X scope elt σ2 H3 (fun z H4 => ∃ acc, H4 D = some (.lst acc) ∧ acc.length < sizeLine ∧ QL Nx (upd H4 D (.lst (acc ++ [z])))) else QL Nx H3
    rw [if_pos rfl]
    intro s H' C cl fp
    refine e_then (k3 rfl s H' C cl fp) h3 fun z L4 H4 h4 ⟨acc, F, hf, hl, L5, sb, nx⟩ => ?_
    exact ⟨acc, h4.at_ _ _ hf.mem, hl, L5, sb _ (h4.put hf), nx⟩
  | false =>
    show if false = true then SemEB X scope elt σ2 H3 (fun z H4 => ∃ acc, H4 D = some (.lst acc) ∧ acc.length < sizeLine ∧ QL Nx (upd H4 D (.lst (acc ++ [z])))) else QL Nx H3
    rw [if_neg (by decide)]
    obtain ⟨L5, sb, nx⟩ := k4 rfl
    exact ⟨L5, sb _ h3, nx⟩
def LcIS (X : Cx) (scope : Scope) (own : List (Str × Nat)) (tg c elt : Expr) (σ : L2.St) (K : V → LH → Prop) : SK := fun n GL YL L1 => ∀ D, ∃ I : Nat → LH → Prop, I 0 ((D, .lst []) :: L1) ∧ (∀ i L', i ≤ n → I i L' → GL L') ∧
  (∀ i v L' L'', i < n → I i L' → YL i L' v L'' → TurnI X scope own tg c elt σ D v L'' (I (i + 1))) ∧ (∀ L', I n L' → K (.ref D) L')
theorem lcIW {wi : TI} (h : ∀ H, Holds L H → ∀ R : It → Hp → Prop, (∀ J L1 H1 n GL YL, Holds L1 H1 → SrcL J n GL YL → LcIS X scope own tg c elt σ K n GL YL L1 → R J H1) → wi σ H R) : ∀ H, Holds L H → tLc wi (SemGB X scope tg) (SemTB X scope c) (SemEB X scope elt) (own.map (·.2)) σ H (QE K) := fun H hL =>
  h H hL _ fun J L1 H1 n GL YL h1 ⟨G, Y, w, g, y⟩ q D hD => by
    obtain ⟨I, i0, st, turn, fin⟩ := q D
    exact lc_it w (fun i => QL (I i)) ⟨_, h1.new hD, i0⟩ (fun i H' hi ⟨L', h', k⟩ => g L' H' (st i L' hi k) h') (fun i v H' H'' hi ⟨L', h', k⟩ yy => by
      obtain ⟨L'', h'', y'⟩ := y i L' H' v H'' (st i L' (Nat.le_of_lt hi) k) h' yy
      exact turnI (turn i v L' L'' hi k y') h'') (fun H' ⟨L', h', k⟩ => ⟨L', h', fin L' k⟩)
end
/-! ### over XOk -/
section
variable {N Vn Ln Gn : List Str} {sc : Scope} {X : Cx} {i j : Nat} {tg elt iter c kx vx : Expr} {σ : L2.St} {L : LH} {K : V → LH → Prop} {D : EndsL} {pos cpos py : Pos} {y : Str} {scope : Scope}
theorem x_lc (own : List (Str × Nat)) (h : XOk N sc Vn Ln Gn X) (ok : blkC N sc scope own = true) (q : WI X tg iter σ L (LcS X scope own tg elt σ K)) (hs : ∀ x, foldedSetIterable iter X.env x = pure x := by intro _; rfl) :
    WE X (.ListComp elt [⟨tg, iter, [], 0⟩] scope pos) σ L K := by
  obtain ⟨wi, hi, q⟩ := q
  exact we_of (pe_lc h.calm h.nd hi (blkOk_by (by rw [h.hN, h.hsc]; exact ok)) (fun _ _ _ _ _ => pgB) (fun _ _ _ _ _ => pts_nil) (fun _ _ _ _ _ => peB) hs) (lcW q)
theorem x_lcI (own : List (Str × Nat)) (h : XOk N sc Vn Ln Gn X) (ok : blkC N sc scope own = true) (q : WI X tg iter σ L (LcIS X scope own tg c elt σ K)) (hs : ∀ x, foldedSetIterable iter X.env x = pure x := by intro _; rfl) :
    WE X (.ListComp elt [⟨tg, iter, [c], 0⟩] scope pos) σ L K := by
  obtain ⟨wi, hi, q⟩ := q
  exact we_of (pe_lc h.calm h.nd hi (blkOk_by (by rw [h.hN, h.hsc]; exact ok)) (fun _ _ _ _ _ => pgB) (fun _ _ _ _ _ => pts_one ptB) (fun _ _ _ _ _ => peB) hs) (lcIW q)
theorem x_setLc (own : List (Str × Nat)) (h : XOk N sc Vn Ln Gn X) (ay : At y N i) (cy : At y Ln j) (ok : blkC N sc scope own = true) (hk : sc.kind = .function)
    (ha : (scope.names.any fun (n, k) => n == y && (k == .local || k == .cell)) = false) (hl : (py.line == cpos.line) = true) (q : WI X tg iter σ L (LcS X scope own tg elt σ fun v L' => D.nx (σ.set i (some v)) L'))
    (hs : ∀ x, foldedSetIterable iter X.env x = pure x := by intro _; rfl) : WS X (.Assign [.Name y py] (.ListComp elt [⟨tg, iter, [], 0⟩] scope cpos) pos) σ L D := by
  obtain ⟨wi, hi, q⟩ := q
  exact ws_of (ps_setLc h.calm h.nd (h.ix ay) (h.loc cy) (sw_true (by rw [h.hsc]; exact hk) (h.loc cy) hl ha) hi (blkOk_by (by rw [h.hN, h.hsc]; exact ok)) (fun _ _ _ _ _ => pgB) (fun _ _ _ _ _ => pts_nil) (fun _ _ _ _ _ => peB) hs) (lcW q)
end
/-! ### a thing is locked while a statement, an expression runs -/
section
variable {X : Cx} {e : Expr} {st : Stmt} {σ : L2.St} {L : LH} {K : V → LH → Prop} {D : EndsL} {d : Addr} {u : HO} {F : HO → LH}
theorem mut_nt {u : HO} (m : Mut (some u)) : tupB u = false := by
  cases u <;> first | rfl | exact absurd m (by simp [Mut]) | (simp [Mut] at m)
theorem we_lock (hf : Hole d u L F) (mu : Mut (some u)) (h : ∀ od, WE X e σ (F (.frz od u)) fun v L' => ∃ F', Hole d (.frz od u) L' F' ∧ K v (F' u)) : WE X e σ L K :=
  we_of (pe_lock pe_sem) fun H hL => ⟨d, u, hL.at_ _ _ hf.mem, mu, fun od => e_then (h od) (hL.put hf (mut_nt mu)) fun v L' H' h' ⟨F', hf', k⟩ => ⟨h'.at_ _ _ hf'.mem, F' u, h'.put hf', k⟩⟩
def LockK (d : Addr) (od : Obj) (u : HO) (K : L2.St → LH → Prop) : L2.St → LH → Prop := fun σ L' => ∃ F', Hole d (.frz od u) L' F' ∧ K σ (F' u)
def LockV (d : Addr) (od : Obj) (u : HO) (K : V → LH → Prop) : V → LH → Prop := fun v L' => ∃ F', Hole d (.frz od u) L' F' ∧ K v (F' u)
theorem ws_lock (hf : Hole d u L F) (mu : Mut (some u)) (h : ∀ od, WS X st σ (F (.frz od u)) ⟨LockK d od u D.nx, LockV d od u D.rt, LockK d od u D.bk, LockK d od u D.ct⟩) : WS X st σ L D := by
  refine ws_of (ps_lock ps_sem) fun H hL => ⟨d, u, hL.at_ _ _ hf.mem, mu, fun od => ((h od) _ (hL.put hf (mut_nt mu))).mono ⟨?_, ?_, ?_, ?_⟩⟩
  · rintro σ' H' ⟨L', h', F', hf', k⟩
    exact ⟨h'.at_ _ _ hf'.mem, F' u, h'.put hf', k⟩
  · rintro v H' ⟨L', h', F', hf', k⟩
    exact ⟨h'.at_ _ _ hf'.mem, F' u, h'.put hf', k⟩
  · rintro σ' H' ⟨L', h', F', hf', k⟩
    exact ⟨h'.at_ _ _ hf'.mem, F' u, h'.put hf', k⟩
  · rintro σ' H' ⟨L', h', F', hf', k⟩
    exact ⟨h'.at_ _ _ hf'.mem, F' u, h'.put hf', k⟩
end
end N3
set_option Elab.async false
set_option linter.all false
set_option maxRecDepth 100000
set_option maxHeartbeats 4000000
namespace N3
open PySem PySem.Spec L2
open PyProof.Rows (sortedS)
/-! ### dicts whose keys are ints and texts -/
def RdL (a : Addr) (u : HO) (L : LH) : Prop := ∀ H, Holds L H → Rd H a u
theorem RdL.of {a : Addr} {u : HO} {L : LH} (m : Mem a u L) : RdL a u L := fun _ h => .inl (h.get m)
theorem RdL.fz {a : Addr} {o : Obj} {u : HO} {L : LH} (m : Mem a (.frz o u) L) : RdL a u L := fun _ h => .inr ⟨o, h.get m⟩
def DGL (a : Addr) (y : V) (r : Option V) (L : LH) : Prop := ∀ H, Holds L H → DGet H a y r
theorem DGL.k {a : Addr} {kvs : List (Key × V)} {L : LH} (k : Key) (h : RdL a (.dK kvs) L) : DGL a (kV k) (valV kvs k) L := fun H hL => .inl ⟨kvs, k, h H hL, rfl, rfl⟩
section
variable {X : Cx} {e o i c f : Expr} {es : List Expr} {σ : L2.St} {L : LH} {K : V → LH → Prop} {KT : Bool → LH → Prop} {D : EndsL} {pos pos' apos cpos p : Pos}
theorem we_dget (hu : X.A.units + 1 < cLine) (h : WE X o σ L fun x L1 => WE X i σ L1 fun y L2 => ∃ a v, x = .ref a ∧ DGL a y (some v) L2 ∧ K v L2) (hs : NoSl i := by intro _ _; rfl) : WE X (.Subscript o i pos) σ L K :=
  we_of (pe_dget hu pe_sem pe_sem hs) fun _ hL => e_then h hL fun _ _ _ h1 k1 => e_then k1 h1 fun _ L2 H2 h2 ⟨a, v, ex, g, k⟩ => ⟨a, v, ex, g H2 h2, L2, h2, k⟩
end
end N3
set_option Elab.async false
set_option linter.all false
set_option maxRecDepth 100000
set_option maxHeartbeats 4000000
namespace PySem.W
open PySem PySem.Calls PyProof.Rows
end PySem.W
namespace N3
open PySem PySem.Spec L2
end N3
set_option Elab.async false
set_option linter.all false
set_option maxRecDepth 100000
set_option maxHeartbeats 4000000
namespace N3
open PySem PySem.Spec L2
/-! ### == of dicts with flat values -/
section
variable {X : Cx} {e o i c f g : Expr} {es : List Expr} {σ : L2.St} {L : LH} {K : V → LH → Prop} {KT : Bool → LH → Prop} {D : EndsL} {pos pos' apos cpos p : Pos} {a b : Addr} {ks ls : List (Key × V)}
/-! ### own len, own in -/
variable {C o1 dx : Addr} {fs : List (Str × V)} {k : Nat} {ps : List Str} {pre : Pre}
/-! ### texts, lists -/
theorem we_ixS (h : WE X e σ L fun x L1 => WE X i σ L1 fun y L2 => ∃ z j c, x = .str z ∧ y = .int j ∧ z.length ≤ sizeLine ∧ atI z.cps.toList j = some c ∧ K (.str ⟨#[c]⟩) L2) (hs : PlainIx i := by intro _ _; rfl) : WE X (.Subscript e i pos) σ L K :=
  we_of (pe_ix ix_str pe_sem pe_sem hs) fun _ hL => e_then h hL fun _ _ _ h1 k1 => e_then k1 h1 fun _ L2 H2 h2 ⟨z, j, c, ex, ey, hz, ha, k⟩ => ⟨z, j, c, ex, ey, hz, ha, L2, h2, k⟩
theorem wc_lenS {z : Str} (hz : z.length ≤ sizeLine) (k : K (.int (z.length : Int)) L) : WC X (.builtin "len") [.str z] L K := wc_of call_len_str fun _ hL => ⟨z, rfl, hz, L, hL, k⟩
theorem wo_inSign {c : Nat} {z : Str} (k : K (.bl (decide (c ∈ z.cps.toList))) L) : WO X (compareOp .In) (.str ⟨#[c]⟩) (.str z) L K := wo_of op_in_sign fun _ hL => ⟨c, z, rfl, rfl, L, hL, k⟩
theorem wo_notInL {v : V} {q : Addr} {xs : List V} (h : SqLL X.K q xs L) (fx : flatV v = true) (fs : xs.all flatV = true) (k : K (.bl (!inV v xs)) L) : WO X (compareOp .NotIn) v (.ref q) L K := wo_of op_notIn_seq fun H hL => ⟨q, xs, rfl, .inl (h H hL), fx, fs, L, hL, k⟩
theorem we_join (h : WE X o σ L fun x L1 => ∃ z, x = .str z ∧ WE X e σ L1 fun y L2 => ∃ q ys, y = .ref q ∧ SqLL X.K q (List.map V.str ys) L2 ∧ (ys.map (·.length)).sum + ys.length * z.length ≤ 16777216 ∧ K (.str (Txt.join z ys)) L2)
    (hs : starEach [e] X.env = [(false, eval e X.env)] := by rfl) (hbase : attributeBase o "join" X.env (eval o X.env) = eval o X.env := by rfl) (hline : (apos.endLine == cpos.line) = true := by rfl) : WE X (.Call (.Attribute o "join" apos) [e] [] cpos) σ L K := by
  refine we_of (pe_join pe_sem pe_sem hs hbase hline) fun _ hL => e_then h hL fun x L1 H1 h1 ⟨z, ex, k1⟩ => ?_
  subst ex
  exact ⟨⟨z, rfl⟩, e_then k1 h1 fun y L2 H2 h2 ⟨q, ys, ey, sq, hl, k⟩ => by
    subst ey
    exact ⟨z, q, ys, rfl, rfl, .inl (sq H2 h2), hl, L2, h2, k⟩⟩
theorem we_append (h : WE X o σ L fun x L1 => ∃ q xs, x = .ref q ∧ SqLL X.K q xs L1 ∧ WE X e σ L1 fun y L2 => ∃ ys F, Hole q (.lst ys) L2 F ∧ ys.length < sizeLine ∧ K .non (F (.lst (ys ++ [y]))))
    (hs : starEach [e] X.env = (false, eval e X.env) :: starEach [] X.env := by rfl) (hbase : attributeBase o "append" X.env (eval o X.env) = eval o X.env := by rfl) (hf : ((backTo cpos (starEach [e] X.env)).all (fun x => !x.1) && (backToKw cpos (keywordEach [] X.env)).all (fun x => x.1.isSome) && decide (([e] : List Expr).length + ([] : List Keyword).length + (if ([] : List Keyword).isEmpty then 0 else 1) < 30)) = true := by rfl) (hline : (apos.endLine == cpos.line) = true := by rfl) : WE X (.Call (.Attribute o "append" apos) [e] [] cpos) σ L K :=
  we_of (pe_bm PySem.F.plainAttrs_list PySem.F.slot_list_append PySem.F.type_list_append mt_append pe_sem (pa_cons pe_sem pa_nil hs) hbase hf hline hs rfl) fun _ hL => e_then h hL fun x L1 H1 h1 ⟨q, xs, ex, sq, k1⟩ => by
    subst ex
    exact ⟨.inl ⟨rfl, xs, sq H1 h1⟩, e_then k1 h1 fun y L2 H2 h2 ⟨ys, F, hf, hl, k⟩ => ⟨q, ys, y, rfl, rfl, h2.at_ _ _ hf.mem, hl, _, h2.put hf, k⟩⟩
theorem we_revL {k1 : Nat} {p1 p2 p3 : Pos} (h : WE X e σ L fun x L1 => ∃ q xs, x = .ref q ∧ SqLL X.K q xs L1 ∧ ∀ p, K (.ref p) ((p, .lst xs.reverse) :: L1)) : WE X (.Subscript e (.Slice none none (some (.UnaryOp .USub (.Constant (.int 1) k1 p1) p2)) p3) pos) σ L K :=
  we_of (pe_revL pe_sem) fun _ hL => e_then h hL fun _ L1 H1 h1 ⟨q, xs, ex, sq, k⟩ => ⟨q, xs, ex, sq H1 h1, fun p hp => ⟨_, h1.new hp, k p⟩⟩
end
end N3
set_option Elab.async false
set_option linter.all false
set_option maxRecDepth 100000
set_option maxHeartbeats 4000000
namespace N3
open PySem PySem.Spec L2 PySem.W PySem.Calls
open PyProof.Rows hiding St
/-! ### data, dicts among them, shown -/
/-- a plain value -/
def ScB : V → Option PyData
  | .non => some .none
  | .bl b => some (.bool b)
  | .int i => some (.int i)
  | .str x => some (.str x)
  | _ => none
def keyD : Key → PyData
  | .inl i => .int i
  | .inr x => .str x
inductive DictIs : List (Key × V) → List (PyData × PyData) → Prop where
  | nil : DictIs [] []
  | cons {k : Key} {v : V} {d : PyData} {kvs : List (Key × V)} {ds : List (PyData × PyData)} : ScB v = some d → DictIs kvs ds → DictIs ((k, v) :: kvs) ((keyD k, d) :: ds)
section
variable {X : Cx} {e : Expr} {σ : L2.St} {L : LH} {K : V → LH → Prop} {pos apos cpos p : Pos}
/-! ### list(d.items()) -/
/-! ### an instance by a call without arguments, by a keyword -/
variable {N Vn Ln Gn : List Str} {sc : Scope} {i : Nat} {C : Addr} {k : Nat} {ps : List Str} {dvs : List V} {pre : Pre} {x : Str}
theorem x_make0 (h : XOk N sc Vn Ln Gn X) (g : At x Gn i) (G : GMk X.prog X.w X.K X.mg X.base x C k ps dvs pre) (hr : Room (k + 1) X.A) (q : ∀ o dx, pre (.ref o :: dvs) ((o, .ins C dx []) :: L) fun v L2 => v = .non ∧ K (.ref o) L2) : WE X (.Call (.Name x p) [] [] pos) σ L K := by
  obtain ⟨f, fd, ds, F, hm, M, hb, hd⟩ := G.ex
  refine we_of (pe_make0 (E := E0) M F hr (h.glo g).1 hm hb hd pass0 (h.glo g).2.2) fun H1 h1 => fun o dx ho hdx ne => ?_
  have z2 := (h1.new (o := .own o) hdx).new (p := o) (o := .ins C dx []) (by rw [upd_ne ne.symm]; exact ho)
  exact ⟨_, fun v L2 => v = .non ∧ K (.ref o) L2, z2.drop1, q o dx, fun v H' ⟨L2, h2, ev, qq⟩ => ⟨ev, L2, h2, qq⟩⟩
end
end N3
set_option Elab.async false
set_option linter.all false
set_option maxRecDepth 100000
set_option maxHeartbeats 4000000
/-! dicts from texts to ints, and their one sorted form without 0: plain mathematics -/
namespace N3
open PySem PySem.Spec L2
open PyProof.Rows (sortedS risingS)
/-! ### the order of texts -/
theorem ltCps_irrefl : ∀ a : List Nat, ltCps a a = false
  | [] => rfl
  | a :: r => by simp [ltCps, ltCps_irrefl r]
theorem ltCps_trans : ∀ {a b c : List Nat}, ltCps a b = true → ltCps b c = true → ltCps a c = true
  | [], [], _, h, _ => by simp [ltCps] at h
  | [], _ :: _, [], _, h => by simp [ltCps] at h
  | [], _ :: _, _ :: _, _, _ => rfl
  | _ :: _, [], _, h, _ => by simp [ltCps] at h
  | _ :: _, _ :: _, [], _, h => by simp [ltCps] at h
  | x :: a, y :: b, z :: c, h, g => by
    simp only [ltCps, Bool.or_eq_true, Bool.and_eq_true, decide_eq_true_eq, beq_iff_eq] at h g ⊢
    rcases h with h | ⟨h, h'⟩ <;> rcases g with g | ⟨g, g'⟩
    · left; omega
    · left; omega
    · left; omega
    · right; exact ⟨h.trans g, ltCps_trans h' g'⟩
theorem ltCps_tri : ∀ a b : List Nat, ltCps a b = true ∨ a = b ∨ ltCps b a = true
  | [], [] => .inr (.inl rfl)
  | [], _ :: _ => .inl rfl
  | _ :: _, [] => .inr (.inr rfl)
  | x :: a, y :: b => by
    simp only [ltCps, Bool.or_eq_true, Bool.and_eq_true, decide_eq_true_eq, beq_iff_eq, List.cons.injEq]
    rcases Nat.lt_trichotomy x y with h | h | h
    · exact .inl (.inl h)
    · subst h
      rcases ltCps_tri a b with h | h | h
      · exact .inl (.inr ⟨rfl, h⟩)
      · exact .inr (.inl ⟨rfl, h⟩)
      · exact .inr (.inr (.inr ⟨rfl, h⟩))
    · exact .inr (.inr (.inl h))
def ltS (x y : Str) : Prop := ltCps x.cps.toList y.cps.toList = true
theorem str_ext {x y : Str} (h : x.cps.toList = y.cps.toList) : x = y := by
  cases x; cases y; congr 1; exact Array.toList_inj.mp h
theorem ltS_irrefl (x : Str) : ¬ ltS x x := by unfold ltS; rw [ltCps_irrefl]; decide
theorem ltS_trans {x y z : Str} (a : ltS x y) (b : ltS y z) : ltS x z := ltCps_trans a b
theorem ltS_tri (x y : Str) : ltS x y ∨ x = y ∨ ltS y x := by
  rcases ltCps_tri x.cps.toList y.cps.toList with h | h | h
  · exact .inl h
  · exact .inr (.inl (str_ext h))
  · exact .inr (.inr h)
/-! ### looking up -/
abbrev SI := List (Str × Int)
def lookO (m : SI) (k : Str) : Option Int := (m.find? fun p => decide (p.1 = k)).map (·.2)
def look (m : SI) (k : Str) : Int := (lookO m k).getD 0
def put (m : SI) (k : Str) (v : Int) : SI := if (m.any fun p => decide (p.1 = k)) = true then m.map (fun p => if p.1 = k then (p.1, v) else p) else m ++ [(k, v)]
def tk (m : SI) : List (Key × V) := m.map fun p => (Sum.inr p.1, V.int p.2)
theorem lookO_nil (k : Str) : lookO [] k = none := rfl
theorem lookO_cons (p : Str × Int) (m : SI) (k : Str) : lookO (p :: m) k = if p.1 = k then some p.2 else lookO m k := by
  unfold lookO
  rw [List.find?_cons]
  by_cases h : p.1 = k <;> simp [h]
theorem look_cons (p : Str × Int) (m : SI) (k : Str) : look (p :: m) k = if p.1 = k then p.2 else look m k := by
  unfold look
  rw [lookO_cons]
  split <;> rfl
theorem lookO_none {m : SI} {k : Str} : lookO m k = none ↔ k ∉ m.map (·.1) := by
  induction m with
  | nil => simp [lookO_nil]
  | cons p m ih =>
    rw [lookO_cons, List.map_cons, List.mem_cons, not_or]
    by_cases h : p.1 = k
    · rw [if_pos h]; simp [h]
    · rw [if_neg h, ih]
      exact ⟨fun z => ⟨fun e => h e.symm, z⟩, fun z => z.2⟩
theorem look_out {m : SI} {k : Str} (h : k ∉ m.map (·.1)) : look m k = 0 := by unfold look; rw [lookO_none.mpr h]; rfl
theorem any_key (m : SI) (k : Str) : (m.any fun p => decide (p.1 = k)) = decide (k ∈ m.map (·.1)) := by
  induction m with
  | nil => rfl
  | cons p m ih =>
    rw [List.any_cons, ih, List.map_cons]
    by_cases h : p.1 = k
    · simp [h]
    · have h' : ¬ k = p.1 := fun e => h e.symm
      simp [h, h']
/-! as dicts of the model -/
/-! ### the one form -/
structure Can (r : SI) : Prop where
  asc : (r.map (·.1)).Pairwise ltS
  nz : ∀ p ∈ r, p.2 ≠ 0
theorem Can.nil : Can [] := ⟨.nil, fun _ h => (List.not_mem_nil h).elim⟩
theorem Can.nd {r : SI} (h : Can r) : (r.map (·.1)).Nodup := by
  unfold List.Nodup
  refine h.asc.imp ?_
  intro a b l e
  rw [← e] at l
  exact ltS_irrefl a l
theorem Can.tail {p : Str × Int} {r : SI} (h : Can (p :: r)) : Can r := ⟨(List.pairwise_cons.mp h.asc).2, fun q hq => h.nz q (List.mem_cons_of_mem _ hq)⟩
theorem Can.low {p : Str × Int} {r : SI} (h : Can (p :: r)) {k : Str} (hk : k = p.1 ∨ ltS k p.1) : k ∉ r.map (·.1) := fun hm => by
  have := (List.pairwise_cons.mp h.asc).1 k hm
  rcases hk with e | e
  · rw [e] at this; exact ltS_irrefl _ this
  · exact ltS_irrefl _ (ltS_trans e this)
theorem Can.ext : ∀ {r r' : SI}, Can r → Can r' → (∀ k, look r k = look r' k) → r = r'
  | [], [], _, _, _ => rfl
  | [], p :: r', _, h', e => by
    have := e p.1
    rw [look_cons, if_pos rfl] at this
    exact absurd this.symm (h'.nz p List.mem_cons_self)
  | p :: r, [], h, _, e => by
    have := e p.1
    rw [look_cons, if_pos rfl] at this
    exact absurd this (h.nz p List.mem_cons_self)
  | p :: r, p' :: r', h, h', e => by
    have out : ∀ {q q' : Str × Int} {t t' : SI}, Can (q :: t) → Can (q' :: t') → (∀ k, look (q :: t) k = look (q' :: t') k) → ¬ ltS q.1 q'.1 := fun {q q' t t'} hq hq' ee l => by
      have z := ee q.1
      rw [look_cons, if_pos rfl, look_cons, if_neg (fun y => ltS_irrefl _ (y ▸ l)), look_out (hq'.low (.inr l))] at z
      exact hq.nz q List.mem_cons_self z
    have ek : p.1 = p'.1 := by
      rcases ltS_tri p.1 p'.1 with q | q | q
      · exact absurd q (out h h' e)
      · exact q
      · exact absurd q (out h' h fun k => (e k).symm)
    have ev : p.2 = p'.2 := by
      have := e p.1
      rw [look_cons, if_pos rfl, look_cons, if_pos ek.symm] at this
      exact this
    have et : r = r' := Can.ext h.tail h'.tail fun k => by
      by_cases hk : p.1 = k
      · rw [look_out (h.low (.inl hk.symm)), look_out (h'.low (.inl (hk.symm.trans ek)))]
      · have := e k
        rw [look_cons, if_neg hk, look_cons, if_neg (ek ▸ hk)] at this
        exact this
    rw [et]
    congr 1
    exact Prod.ext ek ev
/-! ### equality of the dicts -/
end N3
set_option Elab.async false
set_option linter.all false
set_option maxRecDepth 100000
set_option maxHeartbeats 4000000
namespace N3
open PySem PySem.Spec L2
open PyProof.Rows (envOfC)
section
variable {P : Program} {w : World} {K : PySem.W.Frag} {mg : Str → Option Value} {base : Heap}
/-- as fnX, with the names of its comprehensions among N -/
theorem fnXC {x qual : Str} {st : Stmt} {f : Addr} {fd : FuncData} {N ps Vn Ln Gn : List Str} {k : Nat} {pre : Pre} (F : Fun K x qual st f fd) (S : FnScope N ps (defScope st)) (ok : scopeB N (defScope st) Vn Ln Gn = true) (len : ∀ vs L Kk, pre vs L Kk → vs.length = ps.length)
    (body : ∀ (X : Cx), X.prog = P → X.w = w → X.K = K → X.mg = mg → X.base = base → XOk N (defScope st) Vn Ln Gn X → Room k X.A → ∀ vs L Kk, pre vs L Kk → WSs X (defBody st) (start N vs) L (EndOf Kk)) : FnOk P w K mg base CX0 (k + 1) f fd ps (SpL pre) :=
  fnL F S len fun cdv A outer s H vs E L Kk hr hp => body _ rfl rfl rfl rfl rfl ⟨rfl, rfl, ok, rfl, PassesOwn.never⟩ hr vs L Kk hp
theorem fnXDC {x qual : Str} {st : Stmt} {f : Addr} {fd : FuncData} {N ps Vn Ln Gn : List Str} {k : Nat} {pre : Pre} {dvs : List V} (F : FunD K x qual (defArgs st) (defBody st) (defScope st) dvs [] f fd) (S : FnScope N ps (defScope st)) (ok : scopeB N (defScope st) Vn Ln Gn = true)
    (len : ∀ vs L Kk, pre vs L Kk → vs.length = ps.length)
    (body : ∀ (X : Cx), X.prog = P → X.w = w → X.K = K → X.mg = mg → X.base = base → XOk N (defScope st) Vn Ln Gn X → Room k X.A → ∀ vs L Kk, pre vs L Kk → WSs X (defBody st) (start N vs) L (EndOf Kk)) : FnOk P w K mg base CX0 (k + 1) f fd ps (SpL pre) := by
  refine F.ok S (fun vs H Q E h => ?_) (fun cdv A outer s H vs Q E hr h => ?_)
  · obtain ⟨L, Kk, _, hp, _⟩ := h
    exact len vs L Kk hp
  · obtain ⟨L, Kk, hL, hp, hk⟩ := h
    have b := body (cxOf CX0 P w K mg base N qual (defScope st) f cdv A outer s H E).nox rfl rfl rfl rfl rfl ⟨rfl, rfl, ok, rfl, PassesOwn.never⟩ hr vs L Kk hp
    refine ⟨_, PSs.nox pss_sem, (b H hL).mono ⟨fun σ H' q => ?_, fun v H' q => hk v H' q.sub, fun _ _ q => ?_, fun _ _ q => ?_⟩⟩
    · obtain ⟨L1, h1, L2, s2, k2⟩ := q
      exact hk _ _ ⟨L2, s2 _ h1, k2⟩
    · obtain ⟨_, _, q⟩ := q
      exact q.elim
    · obtain ⟨_, _, q⟩ := q
      exact q.elim
/-- an own operator whose promise holds where nothing is being shown -/
structure GOpG (P : Program) (w : World) (K : PySem.W.Frag) (mg : Str → Option Value) (base : Heap) (C : Addr) (x : Str) (k : Nat) (ps : List Str) (pre : Pre) : Prop where
  ex : ∃ f fd, FnG P w K mg base k f fd ps pre ∧ PySem.W.findIn K (.ref C) x = some (some (.ref f)) ∧ PySem.W.isFn K (.ref f) = true ∧ Binds K fd ps []
end
section
variable {X : Cx} {σ : L2.St} {L : LH} {K : V → LH → Prop} {C o dx : Addr} {fs : List (Str × V)} {k : Nat} {ps : List Str} {pre : Pre}
theorem run_opG {pins : List (Addr × Obj)} {H : Hp} {s : Shared} {x : Str} {us : List Value} {vs : List V} {L : LH} {K : V → LH → Prop} (G : GOpG X.prog X.w X.K X.mg X.base C x k ps pre) {A : Around} (hr : Room k A) (hg : A.guards = some []) (he : A.frames = X.A.frames)
    (hL : Holds L H) (I : Inv X pins σ H s) (r : Vals vs us) (h : pre vs L K) : ∃ f, PySem.W.findIn X.K (.ref C) x = some (some (.ref f)) ∧ PySem.W.isFn X.K (.ref f) = true ∧ wpAny (model X.prog X.w) A (call (.ref f) us) (EP X pins σ (QE K)) X.xe s := by
  obtain ⟨f, fd, F, hs, hf, hb⟩ := G.ex
  refine ⟨f, hs, hf, ?_⟩
  have e0 : Env0 X.prog X.w X.K X.mg X.base A X.stack s H := by
    have e := I.env0
    exact ⟨by rw [he]; exact e.frames, e.mod, e.bs, e.bsz, e.funs, e.frf, e.hok, e.bare⟩
  have hl := F.len _ _ _ h
  refine wpAny_call (codeAny_mono (F.run A X.stack s H ⟨us, []⟩ us vs L K hr hg e0 (by
    have := hb s us I.kIn (by rw [List.append_nil, ← r.length]; exact hl)
    simpa using this) r hL h) fun r s' hq => ?_)
  cases r with
  | error e => exact (hq : False).elim
  | ok fl =>
    cases fl with
    | ret w => exact I.after hq
    | next => exact False.elim hq
    | brk => exact False.elim hq
    | cont => exact False.elim hq
theorem wc_ownReprG (G : GOpG X.prog X.w X.K X.mg X.base C "__repr__" k ps pre) (hr : Room (k + 1) X.A) (hg : X.A.guards = some []) (m : Mem o (.ins C dx fs) L) (h : pre [.ref o] L (KStr K)) : WC X (.builtin "repr") [.ref o] L K := by
  intro H hL pins s σ us I r1
  cases r1 with
  | cons r rr =>
    cases rr
    cases r
    obtain ⟨mA, J, _⟩ := ins_get I.hok (hL.get m)
    obtain ⟨od, J, _⟩ := J.look
    obtain ⟨mm, hF⟩ := I.fr
    obtain ⟨f, hs, hf, hrun⟩ := run_opG (A := X.A.in1) (us := [.ref o]) (vs := [.ref o]) G hr.in1 hg rfl hL I (.cons rfl .nil) h
    refine PySem.W.repr_K hr.in1.units0 hF I.ok.mod.kin J hs hf (wpAny_mono hrun (fun w s' z => ?_) fun _ _ x => x)
    obtain ⟨z', H', I', rz, L2, h2, y, ez, qz⟩ := z
    subst ez
    obtain ⟨t, rfl⟩ := rz
    exact ⟨.str y, H', I', ⟨t, rfl⟩, L2, h2, qz⟩
end
/-! ### small words -/
theorem Mem.hole {a : Addr} {o : HO} {L : LH} (h : Mem a o L) : ∃ F, Hole a o L F ∧ ∀ b u, b ≠ a → Mem b u L → ∀ o', Mem b u (F o') := by
  induction h with
  | head => exact ⟨_, .head, fun b u n m o' => by
      cases m with
      | head => exact absurd rfl n
      | tail m => exact .tail m⟩
  | @tail p L _ ih =>
    obtain ⟨F, hf, k⟩ := ih
    exact ⟨_, .tail hf, fun b u n m o' => by
      cases m with
      | head => exact .head
      | tail m => exact .tail (k b u n m o')⟩
theorem Hole.self' {a : Addr} {o : HO} {L : LH} {F : HO → LH} (h : Hole a o L F) : F o = L := by
  induction h with
  | head => rfl
  | tail _ ih => exact congrArg (_ :: ·) ih
theorem Hole.again' {a : Addr} {o : HO} {L : LH} {F : HO → LH} (h : Hole a o L F) (o' : HO) : Hole a o' (F o') F := by
  induction h with
  | head => exact .head
  | tail _ ih => exact .tail ih
theorem Hole.mm {a : Addr} {o : HO} {L : LH} {F : HO → LH} (h : Hole a o L F) : Mem a o L := by
  induction h with
  | head => exact .head
  | tail _ ih => exact .tail ih
theorem wss_sub' {X : Cx} {sts : List Stmt} {σ : L2.St} {L L' : LH} {D : EndsL} (s : Sub L L') (h : WSs X sts σ L' D) : WSs X sts σ L D := fun H hL => h H (s H hL)
theorem mem_sub {a : Addr} {o : HO} : ∀ {L : LH}, (a, o) ∈ L → Mem a o L
  | p :: L, h => by
    rcases List.mem_cons.mp h with e | h
    · rw [← e]; exact .head
    · exact .tail (mem_sub h)
theorem Mem.sl {a : Addr} {o : HO} {L L' : LH} (h : Mem a o L) (s : L.Sublist L') : Mem a o L' := mem_sub (s.mem h.mem)
end N3
set_option Elab.async false
set_option linter.all false
set_option maxRecDepth 100000
set_option maxHeartbeats 4000000
namespace N3
open PySem PySem.Spec L2
section
variable {X : Cx} {e f g : Expr} {σ : L2.St} {L : LH} {K : V → LH → Prop} {KT : Bool → LH → Prop} {pos : Pos}
/-- a <= b <= c of ints, as a test -/
theorem wt_chainLL (h : WE X e σ L fun x L1 => WE X f σ L1 fun y L2 => ∃ i j, x = .int i ∧ y = .int j ∧ (i ≤ j → WE X g σ L2 fun w L3 => ∃ k, w = .int k ∧ KT (decide (j ≤ k)) L3) ∧ (¬ i ≤ j → KT false L2))
    (hm : lastMarks [.LtE, .LtE] [f, g] = false := by with_unfolding_all rfl) : WT X (.Compare e [.LtE, .LtE] [f, g] pos) σ L KT :=
  wt_of (pt_chain op_le op_le pe_sem pe_sem pe_sem hm) fun _ hL => e_then h hL fun _ _ _ h1 k1 => e_then k1 h1 fun _ L2 H2 h2 ⟨i, j, ex, ey, kt, kf⟩ => ⟨i, j, ex, ey, decide (i ≤ j), rfl, by
    by_cases c : i ≤ j
    · rw [decide_eq_true c]
      exact iteT (e_then (kt c) h2 fun w L3 H3 h3 ⟨k, ew, q⟩ => ⟨j, k, ey, ew, _, rfl, L3, h3, q⟩)
    · rw [decide_eq_false c]
      exact iteF ⟨_, rfl, L2, h2, kf c⟩⟩
end
/-! ### names that a comprehension captures, stored -/
open PyProof.Rows (envOfC)
section
variable {P : Program} {w : World} {K : PySem.W.Frag} {mg : Str → Option Value} {base : Heap}
def celB (sc : Scope) (x : Str) : Bool := match sc.names.lookup x with | some .cell => true | _ => false
theorem celB_loc {sc : Scope} {x : Str} (h : celB sc x = true) : Loc sc x := by
  unfold celB at h
  split at h
  · rename_i e; exact .inr e
  · cases h
/-- as fnXC, with what is stored in cells -/
theorem fnXCC {x qual : Str} {st : Stmt} {f : Addr} {fd : FuncData} {N ps Vn Ln Gn : List Str} {k : Nat} {pre : Pre} (F : Fun K x qual st f fd) (S : FnScope N ps (defScope st)) (ok : scopeB N (defScope st) Vn Ln Gn = true) (len : ∀ vs L Kk, pre vs L Kk → vs.length = ps.length)
    (body : ∀ (X : Cx), X.prog = P → X.w = w → X.K = K → X.mg = mg → X.base = base → XOk N (defScope st) Vn Ln Gn X → (∀ x, X.fn x = true) → Room k X.A → ∀ vs L Kk, pre vs L Kk → WSs X (defBody st) (start N vs) L (EndOf Kk)) : FnOk P w K mg base CX0 (k + 1) f fd ps (SpL pre) :=
  fnL F S len fun cdv A outer s H vs E L Kk hr hp => body _ rfl rfl rfl rfl rfl ⟨rfl, rfl, ok, rfl, PassesOwn.never⟩ (fun _ => rfl) hr vs L Kk hp
end
section
variable {N Vn Ln Gn : List Str} {sc : Scope} {X : Cx} {i : Nat} {e : Expr} {σ : L2.St} {L : LH} {KS : L2.St → LH → Prop} {D : EndsL} {pos pos' : Pos} {x : Str}
theorem x_setC (h : XOk N sc Vn Ln Gn X) (hfn : ∀ x, X.fn x = true) (a : At x N i) (c : celB sc x = true) (q : WE X e σ L fun v L1 => D.nx (σ.set i (some v)) L1) (hs : swapsWith e (some (.Name x pos')) pos.line X.env = pure false := by rfl) : WS X (.Assign [.Name x pos'] e pos) σ L D :=
  ws_set i q h.nd (h.ix a) (by rw [h.hsc]; exact celB_loc c) hs (.inl (hfn x))
theorem x_tgtC {v : V} (h : XOk N sc Vn Ln Gn X) (hfn : ∀ x, X.fn x = true) (a : At x N i) (c : celB sc x = true) (k : KS (σ.set i (some v)) L) : WG X (.Name x pos) v σ L KS := wg_name i k h.nd (h.ix a) (by rw [h.hsc]; exact celB_loc c) (.inl (hfn x))
end
/-! ### what is known stands at unlike places -/
theorem mem_one {a : Addr} {o u : HO} : ∀ {L : LH}, Apart L → Mem a o L → Mem a u L → o = u
  | p :: L, nd, m, m' => by
    cases m with
    | head =>
      cases m' with
      | head => rfl
      | tail m' => exact (Prod.mk.inj (nd.1 _ m'.mem rfl).1).2.symm
    | tail m =>
      cases m' with
      | head => exact (Prod.mk.inj (nd.1 _ m.mem rfl).1).2
      | tail m' => exact mem_one nd.2 m m'
theorem mem_ne {a b : Addr} {o u : HO} {L : LH} (nd : Apart L) (m : Mem a o L) (m' : Mem b u L) (h : o ≠ u) : a ≠ b := fun e => h (by subst e; exact mem_one nd m m')
theorem we_nd {X : Cx} {e : Expr} {σ : L2.St} {L : LH} {K : V → LH → Prop} (h : Apart L → WE X e σ L K) : WE X e σ L K := fun H hL => h hL.nd H hL
theorem wss_nd {X : Cx} {sts : List Stmt} {σ : L2.St} {L : LH} {D : EndsL} (h : Apart L → WSs X sts σ L D) : WSs X sts σ L D := fun H hL => h hL.nd H hL
end N3
set_option Elab.async false
set_option linter.all false
set_option maxRecDepth 100000
set_option maxHeartbeats 4000000
/-! ### own errors with their own __init__, made by position and by keywords, over ValueError, LookupError, RuntimeError -/
namespace PySem
namespace N3E
open PySem.W PySem.Calls PyProof.Rows PySem.HandSPX
open Builtin Builtin.ObjectAttr
/-- the mro of a built-in error over Exception -/
abbrev tlOf (B : String) : List Value := [.type B, .type "Exception", .type "BaseException", .type "object"]
/-- the three built-in errors that stand below own ones -/
inductive EB : String → String → String → Prop where
  | val : EB "ValueError" "ValueError.__new__" "ValueError.__init__"
  | look : EB "LookupError" "LookupError.__new__" "LookupError.__init__"
  | run : EB "RuntimeError" "RuntimeError.__new__" "RuntimeError.__init__"
theorem EB.base {B n i : String} (h : EB B n i) : ExcBaseFacts B n i (tlOf B) := by
  cases h with
  | val => exact F.excBase_ValueError
  | look => exact F.excBase_LookupError
  | run => exact F.excBase_RuntimeError
end N3E
end PySem
set_option Elab.async false
set_option linter.all false
set_option maxRecDepth 100000
set_option maxHeartbeats 4000000
namespace PySem
namespace N3E
open PySem.W PySem.Calls PyProof.Rows PySem.HandSPX
open Builtin Builtin.ObjectAttr
/-- an own error class, its parent at N -/
structure EC (K : W.Frag) (C N : Addr) (B newId initId : String) : Prop where
  eb : EB B newId initId
  cls : ∃ nm q Ns bs sn sub ab col dd k0 k1 k2 k3 k5, K.lookup C = some (excClassObj nm q C Ns bs (.ref N :: tlOf B) true sn sub ab col dd k0 k1 k2 k3 k5 newId)
  sa : W.findIn K (.ref C) "__setattr__" = some (some (.builtin "object.__setattr__"))
  ga : W.findIn K (.ref C) "__getattribute__" = some (some (.builtin "BaseException.__getattribute__"))
  gg : W.findIn K (.ref C) "__getattr__" = some none
  ca : W.findIn K (.ref C) "__class__" = some (some (.builtin "object.__class__"))
  kC : W.keepIn K (.ref C) = true
theorem EB.obj {B n i : String} (h : EB B n i) : (tlOf B).contains (.type "object") = true := by cases h <;> decide +kernel
theorem tail_type (N : Addr) (B X : String) : (Value.ref N :: tlOf B).contains (.type X) = (tlOf B).contains (.type X) := by
  rw [List.contains_cons]
  rfl
section
variable {K : W.Frag} {C N D : Addr} {B n i : String}
theorem EC.clsIn (T : EC K C N B n i) : ∃ cd, W.clsIn K C = some cd ∧ cd.mro = .ref C :: .ref N :: tlOf B ∧ cd.hasDict = true := by
  obtain ⟨nm, q, Ns, bs, sn, sub, ab, col, dd, k0, k1, k2, k3, k5, hC⟩ := T.cls
  exact ⟨_, by unfold W.clsIn; rw [hC], rfl, rfl⟩
theorem EC.mroT (T : EC K C N B n i) (X : String) : W.mroIn K C (.type X) = some ((tlOf B).contains (.type X)) := by
  obtain ⟨cd, hc, hm, _⟩ := T.clsIn
  unfold W.mroIn
  rw [hc, Option.bind_some, hm]
  rw [if_neg (by simp), List.contains_cons, tail_type]
  rfl
theorem EC.hasDict (T : EC K C N B n i) : W.hasDictIn K C = true := by
  obtain ⟨cd, hc, _, hd⟩ := T.clsIn
  unfold W.hasDictIn
  rw [hc]
  exact hd
theorem EC.obj (T : EC K C N B n i) : W.mroIn K C (.type "object") = some true := (T.mroT _).trans (by rw [T.eb.obj])
end
/-! ### stores -/
/-! ### isinstance of an error in hand -/
end N3E
end PySem
set_option Elab.async false
set_option linter.all false
set_option maxRecDepth 100000
set_option maxHeartbeats 4000000
namespace N3
open PySem PySem.Spec L2 PySem.N3E
open PyProof.Rows hiding St
/-- what is known of an error object: its class, its dict with its fields, if it has any -/
def ExF (a C : Addr) (fs : List (Str × V)) (L : LH) : Prop := (fs = [] ∧ Mem a (exo a C none) L) ∨ ∃ d, Mem a (exo a C (some d)) L ∧ Mem d (exd d fs) L
theorem ExF.cons {a C : Addr} {fs : List (Str × V)} {L : LH} (h : ExF a C fs L) (p : Addr × HO) : ExF a C fs (p :: L) := by
  rcases h with ⟨e, m⟩ | ⟨d, m, n⟩
  · exact .inl ⟨e, .tail m⟩
  · exact .inr ⟨d, .tail m, .tail n⟩
theorem ExF.app {a C : Addr} {fs : List (Str × V)} {L : LH} (h : ExF a C fs L) (J : LH) : ExF a C fs (J ++ L) := by
  rcases h with ⟨e, m⟩ | ⟨d, m, n⟩
  · exact .inl ⟨e, m.app J⟩
  · exact .inr ⟨d, m.app J, n.app J⟩
/-! ### made -/
end N3
set_option Elab.async false
set_option linter.all false
set_option maxRecDepth 100000
set_option maxHeartbeats 4000000
namespace N3
open PySem PySem.Spec L2 PySem.N3E
open PyProof.Rows hiding St
/-! ### a function that may raise, called -/
/-! ### several clauses -/
end N3
set_option Elab.async false
set_option linter.all false
set_option maxRecDepth 100000
set_option maxHeartbeats 4000000
namespace N3
open PySem PySem.Spec L2 PySem.N3E PySem.W
open PyProof.Rows hiding St
/-! ### any, in of tuples, slices of lists -/
section
variable {X : Cx} {e : Expr} {σ : L2.St} {L : LH} {K : V → LH → Prop} {pos p2 : Pos}
/-- a[:j] -/
theorem we_slTo {j : Int} {jn : Nat} {pj : Pos} (h : WE X e σ L fun x L1 => ∃ q xs, x = .ref q ∧ SqLL X.K q xs L1 ∧ ∀ p, K (.ref p) ((p, .lst (cutV xs none (some j))) :: L1)) :
    WE X (.Subscript e (.Slice none (some (.Constant (.int j) jn pj)) none p2) pos) σ L K :=
  we_of (pe_slice sl_list pe_sem po_none (po_some pe_int)) fun _ hL => e_then h hL fun x L1 H1 h1 ⟨q, xs, ex, sq, k⟩ => ⟨j, rfl, q, xs, ex, sq H1 h1, fun p hp => ⟨_, h1.new hp, k p⟩⟩
end
/-! ### data shown, a dict in a tuple among them -/
theorem DpL.sub {K : PySem.W.Frag} {v : V} {d : PyData} {L L' : LH} (h : DpL K v d L) (s : Sub L' L) : DpL K v d L' := fun H hL => h H (s H hL)
theorem RdL.sub {a : Addr} {u : HO} {L L' : LH} (h : RdL a u L) (s : Sub L' L) : RdL a u L' := fun H hL => h H (s H hL)
inductive Sh (K : PySem.W.Frag) (L : LH) : V → PyData → Prop where
  | flat {v : V} {d : PyData} : DpL K v d L → Sh K L v d
  | dict {a : Addr} {kvs : List (Key × V)} {ds : List (PyData × PyData)} : RdL a (.dK kvs) L → DictIs kvs ds → Sh K L (.ref a) (.dict ds)
  | td {t a : Addr} {kvs : List (Key × V)} {ds : List (PyData × PyData)} : SqTL K t [.ref a] L → RdL a (.dK kvs) L → DictIs kvs ds → Sh K L (.ref t) (.tuple [.dict ds])
theorem Sh.sub {K : PySem.W.Frag} {v : V} {d : PyData} {L L' : LH} (h : Sh K L v d) (s : Sub L' L) : Sh K L' v d := by
  cases h with
  | flat h => exact .flat (h.sub s)
  | dict h r => exact .dict (h.sub s) r
  | td t h r => exact .td (fun H hL => t H (s H hL)) (h.sub s) r
end N3
set_option Elab.async false
set_option linter.all false
set_option maxRecDepth 100000
set_option maxHeartbeats 4000000
namespace N3
open PySem PySem.Spec L2
/-! ### dicts whose keys are tuples of ints and texts; a tuple that is handed on is known from then on -/
abbrev TKey := List Key
theorem DGL.t {a b : Addr} {kvs : List (TKey × V)} {L : LH} (k : TKey) (h : RdL a (.dT kvs) L) (m : Mem b (.tup (k.map kV)) L) : DGL a (.ref b) (valV kvs k) L := fun H hL => .inr ⟨kvs, k, b, h H hL, rfl, hL.get m, rfl⟩
def IsDL (a : Addr) (L : LH) : Prop := ∀ H, Holds L H → IsD H a
theorem IsDL.t {a : Addr} {kvs : List (TKey × V)} {L : LH} (h : RdL a (.dT kvs) L) : IsDL a L := fun H hL => .inr ⟨kvs, h H hL⟩
section
variable {X : Cx} {tg e o i c f : Expr} {es : List Expr} {σ : L2.St} {L : LH} {K : V → LH → Prop} {KT : Bool → LH → Prop} {D : EndsL} {S : SK} {pos pos' apos cpos p : Pos}
theorem ws_dputT (hu : X.A.units + 1 < cLine) (h : WE X e σ L fun v L1 => WE X o σ L1 fun x L2 => WE X i σ L2 fun y L3 => ∃ a b kvs k F, x = .ref a ∧ y = .ref b ∧ Mem b (.tup (List.map kV k)) L3 ∧ Hole a (.dT kvs) L3 F ∧ kvs.length < sizeLine ∧ D.nx σ (F (.dT (putK kvs k v))))
    (hs : swapsWith e (some (.Subscript o i pos')) pos.line X.env = pure false := by rfl) : WS X (.Assign [.Subscript o i pos'] e pos) σ L D :=
  ws_of (ps_dput hu pe_sem pe_sem pe_sem hs) fun _ hL => e_then h hL fun _ _ _ h1 k1 => e_then k1 h1 fun _ _ _ h2 k2 => e_then k2 h2 fun _ L3 H3 h3 ⟨a, b, kvs, k, F, ex, ey, m, hf, hl, q⟩ =>
    ⟨a, _, ex, .inr ⟨kvs, k, b, h3.at_ _ _ hf.mem, ey, h3.get m, hl, rfl⟩, _, h3.put hf, q⟩
theorem we_dnewT (k : ∀ p, K (.ref p) ((p, .dT []) :: L)) : WE X (.Dict [] [] pos) σ L K := we_of pe_dnewT fun _ hL p hp => ⟨_, hL.new hp, k p⟩
theorem we_dgetD (hu : X.A.units + 1 < cLine) (h : WE X o σ L fun x L1 => ∃ a, x = .ref a ∧ IsDL a L1 ∧ WE X e σ L1 fun y L2 => WE X f σ L2 fun z L3 => ∃ r, DGL a y r L3 ∧ K (r.getD z) L3) (m : M2 X o "get" apos e f cpos := by exact ⟨rfl, rfl, rfl, rfl⟩) :
    WE X (.Call (.Attribute o "get" apos) [e, f] [] cpos) σ L K :=
  we_of (pe_dget2 hu pe_sem pe_sem pe_sem m) fun _ hL => e_then h hL fun _ L1 H1 h1 ⟨a, ex, rd, k1⟩ => ⟨a, ex, rd H1 h1, e_then k1 h1 fun _ _ _ h2 k2 => e_then k2 h2 fun _ L3 H3 h3 ⟨r, g, k⟩ => ⟨r, g H3 h3, L3, h3, k⟩⟩
/-- what is known of the tuples that stand as keys at bs -/
def tksOf (kvs : List (TKey × V)) (bs : List Addr) : LH := List.zipWith (fun q b => (b, HO.tup (List.map kV q.1))) kvs bs
theorem tks_holds {L : LH} {H : Hp} (hL : Holds L H) : ∀ {kvs : List (TKey × V)} {bs : List Addr}, Paired (fun (q : TKey × V) (b : Addr) => H b = some (HO.tup (List.map kV q.1))) kvs bs → Holds (tksOf kvs bs ++ L) H
  | [], [], _ => hL
  | q :: kvs, b :: bs, .cons e r => (tks_holds hL r).tup e
theorem tks_mem {L : LH} : ∀ {kvs : List (TKey × V)} {bs : List Addr} {i : Nat} {q : TKey × V} {b : Addr}, kvs[i]? = some q → bs[i]? = some b → Mem b (HO.tup (List.map kV q.1)) (tksOf kvs bs ++ L)
  | q :: kvs, b :: bs, 0, _, _, e1, e2 => by
    cases e1
    cases e2
    exact .head
  | q :: kvs, b :: bs, i + 1, _, _, e1, e2 => .tail (tks_mem (kvs := kvs) (bs := bs) (i := i) e1 e2)
theorem wc_listT {a : Addr} {kvs : List (TKey × V)} (hc : X.calm = true) (m : RdL a (.dT kvs) L) (k : ∀ p bs, bs.length = kvs.length → K (.ref p) ((p, .lst (bs.map V.ref)) :: (tksOf kvs bs ++ L))) : WC X (.type "list") [.ref a] L K :=
  wc_of (call_list_dT hc) fun H hL => ⟨a, kvs, rfl, m H hL, fun p bs hp hk => ⟨_, (tks_holds hL hk).new hp, k p bs (Paired.length hk).symm⟩⟩
/-- a locked dict with tuples as keys -/
theorem wi_keysT (h : WE X e σ L fun x L1 => ∃ d o kvs, x = .ref d ∧ Mem d (.frz o (.dT kvs)) L1 ∧ S kvs.length (Mem d (.frz o (.dT kvs))) (fun i L v L' => ∃ k u q, kvs[i]? = some (k, u) ∧ v = .ref q ∧ L' = (q, .tup (List.map kV k)) :: L) L1) : WI X tg e σ L S :=
  ⟨_, pi_keys pe_sem, fun _ hL R k => e_then h hL fun _ L1 H1 h1 ⟨d, o, kvs, ex, m, s⟩ => ⟨d, o, ex, .inr ⟨kvs, h1.get m, k _ L1 H1 _ _ _ h1 (⟨_, _, walk_keysT, fun L H g hL => hL.get g, fun i L H v H' _ hL ⟨e1, k, u, q, e2, e3, e4⟩ => ⟨_, by rw [e1]; exact hL.tup e4, k, u, q, e2, e3, rfl⟩⟩) s⟩⟩⟩
end
end N3
set_option linter.all false
/-! tables from ordered keys to ints, their one form with a bottom, as rational numbers: plain mathematics -/
namespace QM
section
variable {α β : Type} [DecidableEq α]
def lkO (m : List (α × β)) (k : α) : Option β := (m.find? fun p => decide (p.1 = k)).map (·.2)
def lk (m : List (α × Int)) (k : α) : Int := (lkO m k).getD 0
def pt (m : List (α × β)) (k : α) (v : β) : List (α × β) := if (m.any fun p => decide (p.1 = k)) = true then m.map (fun p => if p.1 = k then (p.1, v) else p) else m ++ [(k, v)]
theorem lkO_nil (k : α) : lkO ([] : List (α × β)) k = none := rfl
theorem lkO_cons (p : α × β) (m : List (α × β)) (k : α) : lkO (p :: m) k = if p.1 = k then some p.2 else lkO m k := by
  unfold lkO
  rw [List.find?_cons]
  by_cases h : p.1 = k <;> simp [h]
theorem lk_nil (k : α) : lk [] k = 0 := rfl
theorem lk_cons (p : α × Int) (m : List (α × Int)) (k : α) : lk (p :: m) k = if p.1 = k then p.2 else lk m k := by
  unfold lk
  rw [lkO_cons]
  split <;> rfl
theorem lkO_none {m : List (α × β)} {k : α} : lkO m k = none ↔ k ∉ m.map (·.1) := by
  induction m with
  | nil => simp [lkO]
  | cons p m ih =>
    rw [lkO_cons, List.map_cons, List.mem_cons, not_or]
    by_cases h : p.1 = k
    · simp [h]
    · rw [if_neg h, ih]
      exact ⟨fun q => ⟨fun e => h e.symm, q⟩, fun q => q.2⟩
theorem lk_out {m : List (α × Int)} {k : α} (h : k ∉ m.map (·.1)) : lk m k = 0 := by unfold lk; rw [lkO_none.mpr h]; rfl
theorem lkO_mem {m : List (α × β)} (nd : (m.map (·.1)).Nodup) {p : α × β} (hp : p ∈ m) : lkO m p.1 = some p.2 := by
  induction m with
  | nil => cases hp
  | cons q m ih =>
    rw [List.map_cons, List.nodup_cons] at nd
    rw [lkO_cons]
    rcases List.mem_cons.mp hp with e | hp
    · rw [e, if_pos rfl]
    · rw [if_neg (fun e => nd.1 (by rw [e]; exact List.mem_map.mpr ⟨p, hp, rfl⟩)), ih nd.2 hp]
theorem lk_mem {m : List (α × Int)} (nd : (m.map (·.1)).Nodup) {p : α × Int} (hp : p ∈ m) : lk m p.1 = p.2 := by unfold lk; rw [lkO_mem nd hp]; rfl
theorem any_key (m : List (α × β)) (k : α) : (m.any fun p => decide (p.1 = k)) = decide (k ∈ m.map (·.1)) := by
  induction m with
  | nil => simp
  | cons p m ih =>
    rw [List.any_cons, ih, List.map_cons]
    by_cases h : p.1 = k
    · simp [h]
    · have h2 : ¬ k = p.1 := fun e => h e.symm
      simp [h, h2]
theorem lkO_app (m n : List (α × β)) (k : α) : lkO (m ++ n) k = (lkO m k).or (lkO n k) := by
  induction m with
  | nil => simp [lkO]
  | cons p m ih =>
    rw [List.cons_append, lkO_cons, lkO_cons, ih]
    split <;> rfl
theorem lkO_pt (m : List (α × β)) (k : α) (v : β) (j : α) : lkO (pt m k v) j = if j = k then some v else lkO m j := by
  unfold pt
  rw [any_key]
  by_cases hk : k ∈ m.map (·.1)
  · rw [if_pos (decide_eq_true hk)]
    induction m with
    | nil => cases hk
    | cons p m ih =>
      rw [List.map_cons, lkO_cons, lkO_cons]
      by_cases hp : p.1 = k
      · simp only [hp, if_true]
        by_cases hj : j = k
        · simp [hj]
        · have h2 : ¬ k = j := fun e => hj e.symm
          rw [if_neg h2, if_neg h2, if_neg hj]
          clear ih hk
          induction m with
          | nil => rfl
          | cons q m ih =>
            rw [List.map_cons, lkO_cons, lkO_cons]
            by_cases hq : q.1 = k
            · simp [hq, h2, ih]
            · simp [hq, ih]
      · simp only [hp, if_false]
        have hk2 : k ∈ m.map (·.1) := by
          rcases List.mem_cons.mp hk with e | e
          · exact absurd e.symm hp
          · exact e
        rw [ih hk2]
        by_cases hj : j = k
        · have : ¬ p.1 = j := fun e => hp (e.trans hj)
          simp [hj, this]
          intro e
          exact absurd e hp
        · simp [hj]
  · rw [if_neg (by simpa using hk), lkO_app]
    by_cases hj : j = k
    · rw [if_pos hj, hj, lkO_none.mpr hk, lkO_cons]
      simp
    · rw [if_neg hj, lkO_cons, if_neg (fun e => hj e.symm), lkO_nil]
      cases lkO m j <;> rfl
theorem lk_pt (m : List (α × Int)) (k : α) (v : Int) (j : α) : lk (pt m k v) j = if j = k then v else lk m j := by
  unfold lk
  rw [lkO_pt]
  split <;> rfl
theorem keys_pt (m : List (α × β)) (k : α) (v : β) : (pt m k v).map (·.1) = if k ∈ m.map (·.1) then m.map (·.1) else m.map (·.1) ++ [k] := by
  unfold pt
  rw [any_key]
  by_cases hk : k ∈ m.map (·.1)
  · rw [if_pos (decide_eq_true hk), if_pos hk, List.map_map]
    apply List.map_congr_left
    intro p _
    show (if p.1 = k then (p.1, v) else p).1 = p.1
    split <;> rfl
  · rw [if_neg (by simpa using hk), if_neg hk, List.map_append]
    rfl
theorem nodup_pt {m : List (α × β)} (nd : (m.map (·.1)).Nodup) (k : α) (v : β) : ((pt m k v).map (·.1)).Nodup := by
  rw [keys_pt]
  split
  · exact nd
  · rename_i h
    exact List.nodup_append.mpr ⟨nd, by simp, fun a ha b hb e => h (by rw [List.mem_singleton.mp hb] at e; rw [← e]; exact ha)⟩
theorem pt_len (m : List (α × β)) (k : α) (v : β) : (pt m k v).length ≤ m.length + 1 := by
  unfold pt
  split
  · rw [List.length_map]; exact Nat.le_succ _
  · rw [List.length_append]; exact Nat.le_refl _
theorem pt_mem {m : List (α × β)} {k : α} {v : β} {p : α × β} (h : p ∈ pt m k v) : p = (k, v) ∨ p ∈ m := by
  unfold pt at h
  split at h
  · obtain ⟨q, hq, e⟩ := List.mem_map.mp h
    split at e
    · rename_i z
      exact .inl (by rw [← e, z])
    · exact .inr (by rw [← e]; exact hq)
  · rcases List.mem_append.mp h with h | h
    · exact .inr h
    · exact .inl (List.mem_singleton.mp h)
end
/-! ### an order of keys -/
structure Ord {α : Type} (lt : α → α → Prop) : Prop where
  irr : ∀ x, ¬ lt x x
  tr : ∀ x y z, lt x y → lt y z → lt x z
  tri : ∀ x y, lt x y ∨ x = y ∨ lt y x
section
variable {α : Type} {lt : α → α → Prop}
theorem Ord.asy (O : Ord lt) {x y : α} (h : lt x y) : ¬ lt y x := fun g => O.irr x (O.tr _ _ _ h g)
theorem Ord.nd (O : Ord lt) {l : List α} (h : l.Pairwise lt) : l.Nodup := List.Pairwise.imp (S := fun a b => a ≠ b) (fun {a b} q e => O.irr b (by rw [e] at q; exact q)) h
theorem Ord.uniq (O : Ord lt) : ∀ {l l' : List α}, l.Pairwise lt → l'.Pairwise lt → (∀ x, x ∈ l ↔ x ∈ l') → l = l'
  | [], [], _, _, _ => rfl
  | [], y :: l', _, _, e => ((List.not_mem_nil ((e y).mpr List.mem_cons_self)).elim)
  | x :: l, [], _, _, e => ((List.not_mem_nil ((e x).mp List.mem_cons_self)).elim)
  | x :: l, y :: l', h, h', e => by
    have p := List.pairwise_cons.mp h
    have p' := List.pairwise_cons.mp h'
    have exy : x = y := by
      rcases List.mem_cons.mp ((e x).mp List.mem_cons_self) with q | q
      · exact q
      · rcases List.mem_cons.mp ((e y).mpr List.mem_cons_self) with r | r
        · exact r.symm
        · exact absurd (p.1 y r) (O.asy (p'.1 x q))
    subst exy
    refine congrArg (x :: ·) (O.uniq p.2 p'.2 fun z => ⟨fun hz => ?_, fun hz => ?_⟩)
    · rcases List.mem_cons.mp ((e z).mp (List.mem_cons_of_mem _ hz)) with q | q
      · exact absurd (p.1 z hz) (by rw [q]; exact O.irr x)
      · exact q
    · rcases List.mem_cons.mp ((e z).mpr (List.mem_cons_of_mem _ hz)) with q | q
      · exact absurd (p'.1 z hz) (by rw [q]; exact O.irr x)
      · exact q
theorem Ord.strict (O : Ord lt) {l : List α} (h : l.Pairwise fun x y => ¬ lt y x) (nd : l.Nodup) : l.Pairwise lt := by
  refine List.Pairwise.imp₂ ?_ h nd
  intro a b q n
  rcases O.tri a b with z | z | z
  · exact z
  · exact absurd z n
  · exact absurd z q
end
/-! ### lengths first, then letter by letter -/
section
variable {α : Type} [DecidableEq α] {lt : α → α → Prop}
def lex (lt : α → α → Prop) : List α → List α → Prop
  | _, [] => False
  | [], _ :: _ => True
  | x :: a, y :: b => lt x y ∨ (x = y ∧ lex lt a b)
theorem lex_ord (O : Ord lt) : Ord (lex lt) := by
  refine ⟨?_, ?_, ?_⟩
  · intro x
    induction x with
    | nil => exact id
    | cons a x ih => rintro (h | h); exact O.irr _ h; exact ih h.2
  · intro x
    induction x with
    | nil =>
      intro y z h g
      cases y with
      | nil => cases h
      | cons b y => cases z with
        | nil => cases g
        | cons c z => trivial
    | cons a x ih =>
      intro y z h g
      cases y with
      | nil => cases h
      | cons b y =>
        cases z with
        | nil => cases g
        | cons c z =>
          rcases h with h | ⟨h, h'⟩ <;> rcases g with g | ⟨g, g'⟩
          · exact .inl (O.tr _ _ _ h g)
          · exact .inl (by rw [← g]; exact h)
          · exact .inl (by rw [h]; exact g)
          · exact .inr ⟨h.trans g, ih _ _ h' g'⟩
  · intro x
    induction x with
    | nil =>
      intro y
      cases y with
      | nil => exact .inr (.inl rfl)
      | cons b y => exact .inl trivial
    | cons a x ih =>
      intro y
      cases y with
      | nil => exact .inr (.inr trivial)
      | cons b y =>
        rcases O.tri a b with h | h | h
        · exact .inl (.inl h)
        · rcases ih y with g | g | g
          · exact .inl (.inr ⟨h, g⟩)
          · exact .inr (.inl (by rw [h, g]))
          · exact .inr (.inr (.inr ⟨h.symm, g⟩))
        · exact .inr (.inr (.inl h))
def slex (lt : α → α → Prop) (x y : List α) : Prop := x.length < y.length ∨ (x.length = y.length ∧ lex lt x y)
theorem slex_ord (O : Ord lt) : Ord (slex lt) := by
  have L := lex_ord O
  refine ⟨?_, ?_, ?_⟩
  · rintro x (h | h)
    · exact Nat.lt_irrefl _ h
    · exact L.irr _ h.2
  · rintro x y z (h | h) (g | g)
    · exact .inl (Nat.lt_trans h g)
    · exact .inl (by rw [← g.1]; exact h)
    · exact .inl (by rw [h.1]; exact g)
    · exact .inr ⟨h.1.trans g.1, L.tr _ _ _ h.2 g.2⟩
  · intro x y
    rcases Nat.lt_trichotomy x.length y.length with h | h | h
    · exact .inl (.inl h)
    · rcases L.tri x y with g | g | g
      · exact .inl (.inr ⟨h, g⟩)
      · exact .inr (.inl g)
      · exact .inr (.inr (.inr ⟨h.symm, g⟩))
    · exact .inr (.inr (.inl h))
end
/-! ### the greatest common divisor of all -/
def gAll (c : Int) : List Int → Int
  | [] => c
  | x :: r => gAll (Int.gcd c x : Int) r
theorem gAll_dvd : ∀ (l : List Int) (c : Int), gAll c l ∣ c ∧ ∀ x ∈ l, gAll c l ∣ x
  | [], c => ⟨Int.dvd_refl _, fun _ h => (List.not_mem_nil h).elim⟩
  | x :: r, c => by
    obtain ⟨h1, h2⟩ := gAll_dvd r (Int.gcd c x : Int)
    refine ⟨Int.dvd_trans h1 (Int.gcd_dvd_left ..), fun y hy => ?_⟩
    rcases List.mem_cons.mp hy with e | hy
    · rw [e]; exact Int.dvd_trans h1 (Int.gcd_dvd_right ..)
    · exact h2 y hy
theorem dvd_gAll : ∀ (l : List Int) (c d : Int), d ∣ c → (∀ x ∈ l, d ∣ x) → d ∣ gAll c l
  | [], c, d, h, _ => h
  | x :: r, c, d, h, k => dvd_gAll r _ d (Int.dvd_coe_gcd h (k x List.mem_cons_self)) fun y hy => k y (List.mem_cons_of_mem _ hy)
theorem gAll_pos : ∀ (l : List Int) (c : Int), 0 < c → 0 < gAll c l
  | [], c, h => h
  | x :: r, c, h => gAll_pos r _ (by
    have : Int.gcd c x ≠ 0 := fun e => by
      rw [Int.gcd_eq_zero_iff] at e
      omega
    omega)
/-- what divides a * c and each a * x divides a, if c and all x have no common divisor -/
theorem dvd_of_gAll (l : List Int) (c a b : Int) (h1 : gAll c l = 1) (h : b ∣ a * c) (h2 : ∀ x ∈ l, b ∣ a * x) : b ∣ a := by
  have key : ∀ (l : List Int) (c : Int), b ∣ a * c → (∀ x ∈ l, b ∣ a * x) → b ∣ a * gAll c l := by
    intro l
    induction l with
    | nil => intro c h _; exact h
    | cons x r ih =>
      intro c h k
      refine ih _ ?_ fun y hy => k y (List.mem_cons_of_mem _ hy)
      have hb : b ∣ ((Int.gcd (a * c) (a * x) : Nat) : Int) := Int.dvd_coe_gcd h (k x List.mem_cons_self)
      have e : Int.gcd (a * c) (a * x) = a.natAbs * Int.gcd c x := Int.gcd_mul_left ..
      rw [e] at hb
      have e2 : ((a.natAbs * Int.gcd c x : Nat) : Int) = (a.natAbs : Int) * (Int.gcd c x : Int) := by push_cast; rfl
      rw [e2] at hb
      rcases Int.natAbs_eq a with z | z
      · rw [z]; exact hb
      · rw [z, Int.neg_mul]
        exact (Int.dvd_neg).mpr hb
  have := key l c h h2
  rw [h1, Int.mul_one] at this
  exact this
/-! ### the one form -/
section
variable {α : Type} [DecidableEq α] {lt : α → α → Prop}
structure Can (lt : α → α → Prop) (r : List (α × Int)) : Prop where
  asc : (r.map (·.1)).Pairwise lt
  nz : ∀ p ∈ r, p.2 ≠ 0
theorem Can.nd (O : Ord lt) {r : List (α × Int)} (h : Can lt r) : (r.map (·.1)).Nodup := O.nd h.asc
theorem Can.mem (O : Ord lt) {r : List (α × Int)} (h : Can lt r) {k : α} : k ∈ r.map (·.1) ↔ lk r k ≠ 0 := by
  constructor
  · intro hm
    obtain ⟨p, hp, e⟩ := List.mem_map.mp hm
    rw [← e, lk_mem (h.nd O) hp]
    exact h.nz p hp
  · intro hn
    refine Classical.byContradiction fun z => hn (lk_out z)
theorem Can.ext (O : Ord lt) {r r' : List (α × Int)} (h : Can lt r) (h' : Can lt r') (e : ∀ k, lk r k = lk r' k) : r = r' := by
  have ek : r.map (·.1) = r'.map (·.1) := O.uniq h.asc h'.asc fun x => by rw [h.mem O, h'.mem O, e]
  have n := h.nd O
  have n' := h'.nd O
  refine List.ext_getElem (by have := congrArg List.length ek; simpa using this) fun i hi hi' => ?_
  have e1 : (r[i]).1 = (r'[i]).1 := by
    have : (r.map (·.1))[i]'(by simpa using hi) = (r'.map (·.1))[i]'(by simpa using hi') := by simp only [ek]
    simpa using this
  refine Prod.ext e1 ?_
  rw [← lk_mem n (List.getElem_mem hi), ← lk_mem n' (List.getElem_mem hi'), e1, e]
/-- a sum of products over a bottom -/
structure Red (lt : α → α → Prop) (r : List (α × Int)) (c : Int) : Prop where
  can : Can lt r
  pos : 0 < c
  one : gAll c (r.map (·.2)) = 1
def val (r : List (α × Int)) (c : Int) (k : α) : Rat := Rat.divInt (lk r k) c
theorem Red.ext (O : Ord lt) {r r' : List (α × Int)} {c c' : Int} (h : Red lt r c) (h' : Red lt r' c') (e : ∀ k, val r c k = val r' c' k) : r = r' ∧ c = c' := by
  have x : ∀ k, lk r k * c' = lk r' k * c := fun k => (Rat.divInt_eq_divInt_iff (by have := h.pos; omega) (by have := h'.pos; omega)).mp (e k)
  have d1 : c ∣ c' := by
    refine dvd_of_gAll (r.map (·.2)) c c' c h.one (Int.dvd_mul_left ..) fun y hy => ?_
    obtain ⟨p, hp, ep⟩ := List.mem_map.mp hy
    rw [← ep, ← lk_mem (h.can.nd O) hp, Int.mul_comm, x]
    exact Int.dvd_mul_left ..
  have d2 : c' ∣ c := by
    refine dvd_of_gAll (r'.map (·.2)) c' c c' h'.one (Int.dvd_mul_left ..) fun y hy => ?_
    obtain ⟨p, hp, ep⟩ := List.mem_map.mp hy
    rw [← ep, ← lk_mem (h'.can.nd O) hp, Int.mul_comm, ← x]
    exact Int.dvd_mul_left ..
  have ec : c = c' := Int.dvd_antisymm (by have := h.pos; omega) (by have := h'.pos; omega) d1 d2
  subst ec
  refine ⟨h.can.ext O h'.can fun k => ?_, rfl⟩
  exact Int.eq_of_mul_eq_mul_right (by have := h.pos; omega) (x k)
/-- what the sorted walk makes: the keys that are not 0, divided -/
theorem pick_red (O : Ord lt) {m : List (α × Int)} {b : Int} {ys : List α} (hb : 0 < b) (nd : (m.map (·.1)).Nodup) (p : ys.Perm (m.map (·.1))) (s : ys.Pairwise fun x y => ¬ lt y x) :
    Red lt ((ys.filter fun k => decide (lk m k ≠ 0)).map fun k => (k, lk m k / gAll b (m.map (·.2)))) (b / gAll b (m.map (·.2))) ∧
    ∀ k, val ((ys.filter fun k => decide (lk m k ≠ 0)).map fun k => (k, lk m k / gAll b (m.map (·.2)))) (b / gAll b (m.map (·.2))) k = val m b k := by
  have gp := gAll_pos (m.map (·.2)) b hb
  obtain ⟨g1, g2⟩ := gAll_dvd (m.map (·.2)) b
  generalize eg : gAll b (m.map (·.2)) = g at gp g1 g2
  have ynd : ys.Nodup := p.symm.nodup nd
  have asc := O.strict s ynd
  have dv : ∀ k, g ∣ lk m k := fun k => by
    by_cases h : k ∈ m.map (·.1)
    · obtain ⟨q, hq, e⟩ := List.mem_map.mp h
      rw [← e, lk_mem nd hq]
      exact g2 _ (List.mem_map.mpr ⟨q, hq, rfl⟩)
    · rw [lk_out h]; exact Int.dvd_zero _
  have ek : ((ys.filter fun k => decide (lk m k ≠ 0)).map fun k => (k, lk m k / g)).map (·.1) = ys.filter fun k => decide (lk m k ≠ 0) := by
    rw [List.map_map]
    exact List.map_id _
  have fasc : (ys.filter fun k => decide (lk m k ≠ 0)).Pairwise lt := asc.filter _
  have L : ∀ k, lk ((ys.filter fun k => decide (lk m k ≠ 0)).map fun k => (k, lk m k / g)) k = lk m k / g := fun k => by
    by_cases h : k ∈ ys.filter fun k => decide (lk m k ≠ 0)
    · have : (k, lk m k / g) ∈ (ys.filter fun k => decide (lk m k ≠ 0)).map fun k => (k, lk m k / g) := List.mem_map.mpr ⟨k, h, rfl⟩
      exact lk_mem (by rw [ek]; exact O.nd fasc) this
    · rw [lk_out (by rw [ek]; exact h)]
      rw [List.mem_filter, not_and] at h
      by_cases hk : k ∈ ys
      · have := h hk
        have e0 : lk m k = 0 := by simpa using this
        rw [e0, Int.zero_ediv]
      · rw [lk_out (fun z => hk (p.symm.mem_iff.mp z)), Int.zero_ediv]
  have bp : 0 < b / g := Int.ediv_pos_of_pos_of_dvd hb (Int.le_of_lt gp) g1
  refine ⟨⟨⟨by rw [ek]; exact fasc, fun q hq => ?_⟩, bp, ?_⟩, fun k => ?_⟩
  · obtain ⟨k, hk, e⟩ := List.mem_map.mp hq
    rw [← e]
    have n0 : lk m k ≠ 0 := by simpa using (List.mem_filter.mp hk).2
    show lk m k / g ≠ 0
    intro z
    have := Int.ediv_mul_cancel (dv k)
    rw [z, Int.zero_mul] at this
    exact n0 this.symm
  · have G := gAll_pos (((ys.filter fun k => decide (lk m k ≠ 0)).map fun k => (k, lk m k / g)).map (·.2)) (b / g) bp
    obtain ⟨G1, G2⟩ := gAll_dvd (((ys.filter fun k => decide (lk m k ≠ 0)).map fun k => (k, lk m k / g)).map (·.2)) (b / g)
    generalize gAll (b / g) (((ys.filter fun k => decide (lk m k ≠ 0)).map fun k => (k, lk m k / g)).map (·.2)) = d at G G1 G2
    have h : g * d ∣ g := by
      conv => rhs; rw [← eg]
      refine dvd_gAll _ _ _ ?_ fun x hx => ?_
      · obtain ⟨u, hu⟩ := G1
        exact ⟨u, by rw [Int.mul_assoc, ← hu, Int.mul_comm, Int.ediv_mul_cancel g1]⟩
      · obtain ⟨q, hq, e⟩ := List.mem_map.mp hx
        by_cases hz : lk m q.1 = 0
        · rw [← e, ← lk_mem nd hq, hz]; exact Int.dvd_zero _
        · have hm : q.1 ∈ ys.filter fun k => decide (lk m k ≠ 0) := List.mem_filter.mpr ⟨p.symm.mem_iff.mp (List.mem_map.mpr ⟨q, hq, rfl⟩), by simpa using hz⟩
          have : d ∣ lk m q.1 / g := G2 _ (List.mem_map.mpr ⟨(q.1, lk m q.1 / g), List.mem_map.mpr ⟨q.1, hm, rfl⟩, rfl⟩)
          obtain ⟨u, hu⟩ := this
          exact ⟨u, by rw [← e, ← lk_mem nd hq, Int.mul_assoc, ← hu, Int.mul_comm, Int.ediv_mul_cancel (dv _)]⟩
    obtain ⟨u, hu⟩ := h
    have : d * u = 1 := by
      have e : g * (d * u) = g * 1 := by rw [Int.mul_one, ← Int.mul_assoc, ← hu]
      exact Int.eq_of_mul_eq_mul_left (by omega) e
    have d1 : d ∣ 1 := ⟨u, this.symm⟩
    have := Int.le_of_dvd (by decide) d1
    omega
  · unfold val
    rw [L]
    refine (Rat.divInt_eq_divInt_iff (by omega) (by omega)).mpr ?_
    have e1 := Int.ediv_mul_cancel g1
    have e2 := Int.ediv_mul_cancel (dv k)
    generalize lk m k / g = x at *
    generalize b / g = y at *
    rw [← e1, ← e2]
    grind
end
end QM
set_option Elab.async false
set_option linter.all false
set_option maxRecDepth 100000
set_option maxHeartbeats 4000000
/-! the order of tuples of texts: by their length, then one by one -/
namespace N3
open PySem PySem.Spec PyProof.Rows L2
theorem ltS_ord : QM.Ord ltS := ⟨ltS_irrefl, fun _ _ _ => ltS_trans, ltS_tri⟩
abbrev ltP : List Str → List Str → Prop := QM.slex ltS
theorem ltP_ord : QM.Ord ltP := QM.slex_ord ltS_ord
/-- the datum of a tuple of texts; the key -/
def tpD (p : List Str) : PyData := .tuple (p.map .str)
def kyD (p : List Str) : PyData := .tuple [.int p.length, tpD p]
theorem alike_txts : ∀ p q : List Str, PySem.W.alikeAll (p.map .str) (q.map .str) = true
  | [], _ => by simp [PySem.W.alikeAll]
  | _ :: _, [] => by simp [PySem.W.alikeAll]
  | _ :: p, _ :: q => by
    rw [List.map_cons, List.map_cons, PySem.W.alikeAll, alike_txts p q]
    rfl
theorem alike_tp (p q : List Str) : PySem.W.alike (tpD p) (tpD q) = true := by
  unfold tpD
  rw [PySem.W.alike]
  exact alike_txts p q
theorem alike_ky (p q : List Str) : PySem.W.alike (kyD p) (kyD q) = true := by
  unfold kyD
  rw [PySem.W.alike, PySem.W.alikeAll, PySem.W.alikeAll, PySem.W.alikeAll, alike_tp]
  rfl
theorem eqv_str (x y : Str) : PyData.eqv (.str x) (.str y) = decide (x = y) := by
  rw [PyData.eqv]
  by_cases h : x = y
  · rw [decide_eq_true h, h]; exact beq_self_eq_true y
  · rw [decide_eq_false h]; exact beq_eq_false_iff_ne.mpr h
theorem eqv_txts : ∀ p q : List Str, PyData.eqvAll (p.map .str) (q.map .str) = decide (p = q)
  | [], [] => by simp [PyData.eqvAll]
  | [], _ :: _ => by simp [PyData.eqvAll]
  | _ :: _, [] => by simp [PyData.eqvAll]
  | x :: p, y :: q => by
    rw [List.map_cons, List.map_cons, PyData.eqvAll, eqv_txts p q, eqv_str]
    simp
theorem eqv_tp (p q : List Str) : PyData.eqv (tpD p) (tpD q) = decide (p = q) := by
  unfold tpD
  rw [PyData.eqv]
  exact eqv_txts p q
theorem lt_txts : ∀ p q : List Str, PySem.W.rowLt (p.map .str) (q.map .str) = true ↔ QM.lex ltS p q
  | [], [] => by
    simp only [QM.lex, iff_false]
    rw [show PySem.W.rowLt (List.map PyData.str []) (List.map PyData.str []) = false by decide +kernel]
    decide
  | [], y :: q => by
    simp only [QM.lex, iff_true]
    unfold PySem.W.rowLt
    rw [List.map_cons, PySem.W.toks_all_cons]
    rfl
  | x :: p, [] => by
    simp only [QM.lex, iff_false]
    unfold PySem.W.rowLt
    rw [List.map_cons, PySem.W.toks_all_cons]
    rw [show ∀ l, PyProof.Rows.lexLt itemOrd (Sum.inl 1 :: l) (PySem.W.keyToksAll (List.map PyData.str [])) = false from fun l => rfl]
    decide
  | x :: p, y :: q => by
    unfold PySem.W.rowLt
    rw [List.map_cons, List.map_cons, PySem.W.dataLt_cons (by simp [PySem.W.alike]), eqv_str]
    have ih := lt_txts p q
    unfold PySem.W.rowLt at ih
    unfold QM.lex
    by_cases h : x = y
    · rw [if_pos (decide_eq_true h), ih]
      exact ⟨fun z => .inr ⟨h, z⟩, fun z => z.elim (fun w => absurd w (by rw [h]; exact ltS_irrefl y)) (·.2)⟩
    · rw [if_neg (by simpa using h), PySem.W.dataLt_str, ← ltCps_eq]
      exact ⟨.inl, fun z => z.elim id fun w => absurd w.1 h⟩
theorem lt_tp (p q : List Str) : PySem.W.dataLt (tpD p) (tpD q) = true ↔ QM.lex ltS p q := by
  unfold tpD
  rw [PySem.W.dataLt_tuple]
  exact lt_txts p q
theorem lt_ky (p q : List Str) : PySem.W.dataLt (kyD p) (kyD q) = true ↔ ltP p q := by
  unfold kyD
  rw [PySem.W.dataLt_pair (by simp [PySem.W.alike]) (alike_tp p q), eqv_tp, PySem.W.dataLt_int]
  unfold ltP QM.slex
  by_cases h : p.length = q.length
  · rw [if_pos (by simp [PyData.eqv, h])]
    by_cases e : p = q
    · rw [if_pos (decide_eq_true e)]
      simp only [Bool.false_eq_true, false_iff, not_or, e, Nat.lt_irrefl, not_false_iff, true_and]
      exact (QM.lex_ord ltS_ord).irr q
    · rw [if_neg (by simpa using e), lt_tp]
      exact ⟨fun z => .inr ⟨h, z⟩, fun z => z.elim (fun w => by omega) (·.2)⟩
  · rw [if_neg (by simp only [PyData.eqv, beq_iff_eq]; omega)]
    simp only [decide_eq_true_eq]
    constructor
    · intro z; exact .inl (by omega)
    · rintro (z | z)
      · omega
      · exact absurd z.1 h
theorem le_ky {β : Type} (k : β → List Str) (a b : β) : PySem.W.dataLe false (fun x => kyD (k x)) a b = true ↔ ¬ ltP (k b) (k a) := by
  rw [PySem.W.dataLe_eq, ← lt_ky]
  simp
theorem sort_ky {β : Type} (k : β → List Str) (l : List β) : (l.mergeSort (PySem.W.dataLe false fun x => kyD (k x))).Pairwise (fun a b => ¬ ltP (k b) (k a)) ∧ (l.mergeSort (PySem.W.dataLe false fun x => kyD (k x))).Perm l := by
  have O := ltP_ord
  refine ⟨(List.pairwise_mergeSort (fun a b c h1 h2 => ?_) (fun a b => ?_) l).imp fun {a b} h => (le_ky k a b).mp h, List.mergeSort_perm ..⟩
  · rw [le_ky] at h1 h2 ⊢
    intro z
    rcases O.tri (k a) (k b) with q | q | q
    · exact h2 (O.tr _ _ _ z q)
    · rw [q] at z; exact h2 z
    · exact h1 q
  · rw [Bool.or_eq_true, le_ky, le_ky]
    rcases O.tri (k a) (k b) with q | q | q
    · exact .inl (O.asy q)
    · exact .inl (by rw [q]; exact O.irr _)
    · exact .inr (O.asy q)
end N3
set_option Elab.async false
set_option linter.all false
set_option maxRecDepth 100000
set_option maxHeartbeats 4000000
/-! a key by a lambda: (len(x), x) of a tuple of texts -/
namespace N3
open PySem PySem.Spec PyProof.Rows L2 LamX
theorem strs_reads {h : Heap} : ∀ {p : List Str} {us : List Value}, Vals (p.map V.str) us → ReadsAll h us (p.map .str) []
  | [], _, .nil => .nil
  | x :: p, _, .cons r rr => by
    obtain ⟨t, rfl⟩ := (show ∃ t, _ = Value.str x t from r)
    exact .cons (bs := []) (as := []) (.str _ _) (strs_reads rr)
theorem tup_reads {h : Heap} {a : Addr} {p : List Str} {us : List Value} (r : Vals (p.map V.str) us) (t : IsTup h a us.toArray) : Reads h (.ref a) (tpD p) [] := by
  obtain ⟨o, ho, hc, n, hd⟩ := t
  exact .tuple ho hc hd (by simpa using strs_reads r)
section
variable {X : Cx} {pins : List (Addr × Obj)} {σ : L2.St} {H : Hp} {s : Shared} {f c' : Addr} {params : Arguments} {scope : Scope} {q x : Str} {pm ctv : Value} {k : Nat} {p1 p2 p3 p4 p5 : Pos} {kk : Nat}
theorem lam_key {A : Around} {a : Addr} {p : List Str} (I : Inv X pins σ H s) (hr : Room (k + 1) A) (hA : A.frames = X.A.frames)
    (hf : s.heap.get? f = some (PySem.W.kla_obj "<lambda>" q params (.Tuple [.Call (.Name "len" p1) [.Name x p2] [] p3, .Name x p4] kk p5) scope [] pm c' ctv)) (hc : H c' = some (CodeO c' q)) (S : FnScope [x] [x] scope)
    (hb : ∀ u, bindArgs (PySem.W.kla_fn "<lambda>" q params (.Tuple [.Call (.Name "len" p1) [.Name x p2] [] p3, .Name x p4] kk p5) scope [] pm (.ref c') ctv) ⟨[u], []⟩ = pure [(x, u)])
    (hg : scope.names.lookup ("len" : Str) = some .globalImplicit) (hx : scope.names.lookup x = some .local) (hm : X.mg "len" = none) (hd : (x == ("__debug__" : Str)) = false) (ha : H a = some (.tup (p.map V.str))) :
    wpAny (model X.prog X.w) A (call (.ref f) [.ref a]) (PySem.W.KeyPure (kyD p) s) (fun _ _ => False) s := by
  have e0 : Env0 X.prog X.w X.K X.mg X.base A X.stack s H := by
    have e := I.env0
    exact ⟨by rw [hA]; exact e.frames, e.mod, e.bs, e.bsz, e.funs, e.frf, e.hok, e.bare⟩
  have lim : s.heap.NoLimit := e0.mod.nolimit.keeps fun b o e => (e0.bs b o e).1
  obtain ⟨⟨oc, ws, t, hoc, hdc, hvc⟩, _, _⟩ := I.hok c' _ hc
  have hkind : ∀ y ∈ [x].zip [Value.ref a], scope.names.lookup y.1 = some .local ∨ (scope.names.lookup y.1 = some .cell ∧ ((cellsFrom (s.heap.objs.size + 1) scope.names []).lookup y.1).isSome = true) := fun y hy => by
    rw [List.zip_cons_cons, List.zip_nil_left, List.mem_singleton] at hy
    rw [hy]
    exact .inl hx
  refine wpAny_call ?_
  refine PySem.W.kla_callFunE hr.depth hf rfl S.co S.gen rfl ⟨c', oc, ws, t, rfl, hoc, hdc, hvc⟩ ?_
  rw [hb]
  refine wpAny_pure (wpAny_newFunctionEnv_cells S.kind hkind fun env he s1 xx => ?_)
  subst he
  refine ⟨lim.keeps xx.toInCall.keep, ?_⟩
  have J : Inv (cxOf CX0 X.prog X.w X.K X.mg X.base [x] q scope f (.ref c') A X.stack s H E0) [] (start [x] [V.ref a]) H s1 := inv_start (us := [Value.ref a]) S hr.hd e0 rfl (.cons rfl .nil) xx
  obtain ⟨h1, tk, rfl, hk⟩ := xx.done
  have named : ∀ {tk' : Nat} {E : Value → Shared → Prop} {Q : Value → Shared → Prop} {pp : Pos}, Q (.ref a) { s with heap := h1, toks := tk' } →
      wpAny (model X.prog X.w) (A.deeper (envOfC q scope s.heap.objs.size f (.ref c'))) (eval (.Name x pp) (envOfC q scope s.heap.objs.size f (.ref c'))) Q E { s with heap := h1, toks := tk' } := fun {tk' E Q pp} hq => by
    obtain ⟨m, hn, hl⟩ := J.loc
    obtain ⟨u, r, l⟩ := hl 0 x (V.ref a) rfl rfl (.inl hx)
    cases r
    rcases l with ⟨hk1, hm1⟩ | ⟨hk1, _⟩
    · exact wpAny_Name (wpAny_loadName_local S.kind hk1 hn hm1 hq) hd
    · have hk1' : scope.names.lookup x = some .cell ∨ scope.names.lookup x = some .free := hk1
      rw [hx] at hk1'
      rcases hk1' with z | z <;> cases z
  obtain ⟨hz, its, r, tp⟩ := J.hok a _ ha
  refine PySem.W.kla_codeExpr ?_
  refine wpAny_Tuple_spliced ?_
  have J1 := J
  refine Calls.spliced_cons (wpAny_Call_Name_kw (ld_blt (u := .builtin "len") J hg hm (by rfl) ?_))
  refine PyProof.Rows.callWith_builtin1 ?_ (by rfl) (by rfl)
  refine Calls.spliced_cons (named ?_)
  refine Calls.spliced_nil ?_
  have hn : its.length = p.length := by rw [← r.length, List.length_map]
  have hz' : p.length ≤ sizeLine := by simpa using hz
  have l63 := line63
  refine len_tuple tp (by rw [List.size_toArray, hn]; omega) ?_
  refine Calls.spliced_cons (named ?_)
  refine Calls.spliced_nil ⟨by show 2 ≤ _; decide, ?_⟩
  have e1 : its.toArray.size = p.length := by rw [List.size_toArray, hn]
  rw [e1]
  have kp : ∀ b o, h1.get? b = some o → (h1.push (seqObj "tuple" [Value.int p.length (tk + 1), Value.ref a].toArray 0)).get? b = some o := fun b o e => Heap.get?_push_of_some _ e
  refine ⟨_, _, rfl, fun b o e => kp b o (hk b o e), ?_⟩
  obtain ⟨o, ho, hc2, n, hd2⟩ := tp
  exact Reads.tuple (Heap.get?_push_size _ rfl) rfl rfl (.cons (bs := []) (as := []) (.int _ _) (.cons (bs := []) (as := []) (tup_reads r ⟨o, kp _ _ ho, hc2, n, hd2⟩) .nil))
end
end N3
set_option Elab.async false
set_option linter.all false
set_option maxRecDepth 100000
set_option maxHeartbeats 4000000
/-! a lambda is made: its maker's table is among what is known -/
namespace N3
open PySem PySem.Spec PyProof.Rows L2 LamX
/-- the table at P, its code objects bear the name q -/
def TabIn (P : Addr) (q : Str) (L : LH) : Prop := ∃ ps : Array Value, Mem P (.tbl ps) L ∧ TriplesOk ps.toList ∧ ∀ (pos : Pos) (cv : Value), codeAmong pos ps.toList = some cv → ∃ c, cv = .ref c ∧ Mem c (CodeO c q) L
/-- all but tables is known still -/
def Ext (L L' : LH) : Prop := ∀ a o, Mem a o L → (∀ ps, o ≠ .tbl ps) → Mem a o L'
theorem Ext.refl (L : LH) : Ext L L := fun _ _ m _ => m
theorem Ext.trans {L L' L2 : LH} (a : Ext L L') (b : Ext L' L2) : Ext L L2 := fun c o m n => b c o (a c o m n) n
theorem Ext.cons (p : Addr × HO) (L : LH) : Ext L (p :: L) := fun _ _ m _ => .tail m
theorem Ext.app (J L : LH) : Ext L (J ++ L) := fun _ _ m _ => m.app J
theorem Ext.under {L L' : LH} (h : Ext L L') (p : Addr × HO) : Ext (p :: L) (p :: L') := fun a o m n => by
  cases m with
  | head => exact .head
  | tail m => exact .tail (h a o m n)
theorem TabIn.cons {P : Addr} {q : Str} {L : LH} (h : TabIn P q L) (p : Addr × HO) : TabIn P q (p :: L) := by
  obtain ⟨ps, m, t, c⟩ := h
  refine ⟨ps, .tail m, t, fun pos cv e => ?_⟩
  obtain ⟨c1, e1, m1⟩ := c pos cv e
  exact ⟨c1, e1, .tail m1⟩
theorem TabIn.app {P : Addr} {q : Str} {L : LH} (h : TabIn P q L) : ∀ J : LH, TabIn P q (J ++ L)
  | [] => h
  | p :: J => (TabIn.app h J).cons p
theorem codeO_nt {c : Addr} {q : Str} (ps : Array Value) : CodeO c q ≠ .tbl ps := fun z => by
  unfold CodeO at z
  cases z
/-- what is written elsewhere leaves the table -/
theorem TabIn.hole {P : Addr} {q : Str} {L : LH} (h : TabIn P q L) {a : Addr} {o : HO} {F : HO → LH} (hf : Hole a o L F) (nd : Apart L) (n1 : ∀ ps, o ≠ .tbl ps) (n2 : ∀ c, o ≠ CodeO c q) (keep : ∀ b u, b ≠ a → Mem b u L → ∀ o', Mem b u (F o')) (o' : HO) : TabIn P q (F o') := by
  obtain ⟨ps, m, t, c⟩ := h
  refine ⟨ps, keep _ _ (mem_ne nd m hf.mm fun z => n1 ps z.symm) m o', t, fun pos cv e => ?_⟩
  obtain ⟨c1, e1, m1⟩ := c pos cv e
  exact ⟨c1, e1, keep _ _ (mem_ne nd m1 hf.mm fun z => n2 c1 z.symm) m1 o'⟩
/-- what a lambda's object is -/
structure LamAt (h : Heap) (f c' : Addr) (q : Str) (params : Arguments) (body : Expr) (scope : Scope) : Prop where
  ex : ∃ pm ctv, h.get? f = some (PySem.W.kla_obj "<lambda>" q params body scope [] pm c' ctv)
section
variable {X : Cx} {pins : List (Addr × Obj)} {σ : L2.St} {H : Hp} {s : Shared} {L : LH} {P c : Addr} {params : Arguments} {body : Expr} {scope : Scope} {q : Str} {lpos : Pos} {E : Value → Shared → Prop} {Q : Value → Shared → Prop}
theorem lam_make3 (I : Inv X pins σ H s) (hL : Holds L H) (TB : TabB X.base X.mg c P) (hcode : X.env.code = .ref c) (hq : X.env.qual ++ "<lambda>" = q) (hT : TabIn P q L) (hdef : defaultsOf params X.env = ([], [])) (hno : ∀ y ∈ scope.names, y.2 ≠ .free) (hclo : ∀ cells, cloFrom cells scope.names [] = [])
    (h : ∀ (f c' : Addr) (H1 : Hp) (s' : Shared) (L' : LH), Inv X pins σ H1 s' → Holds L' H1 → TabIn P q L' → Ext L L' → H1 c' = some (CodeO c' q) → LamAt s'.heap f c' q params body scope → Q (.ref f) s') :
    wpAny (model X.prog X.w) X.A (eval (.Lambda params body scope lpos) X.env) Q E s := by
  subst hq
  obtain ⟨ps, mP, ht, ha⟩ := hT
  have hP := hL.get mP
  have oP := I.hok P _ hP
  have bP : s.heap.BuiltinsAt X.mg P := TB.bm.keeps I.bk
  have fr : ∀ y ∈ scope.names, y.2 = .free → ∃ d, X.env.cells.lookup y.1 = some d := fun y hy z => absurd z (hno y hy)
  have cl := closure_ok (env := X.env) fr
  rw [hclo] at cl
  obtain ⟨F, hF, keep⟩ := mP.hole
  refine PySem.W.kla_eval hdef ?_
  by_cases hc : codeAmong lpos ps.toList = none
  · refine PySem.W.kla_makeFunction (c := c) (P := P) (mg := X.mg) (ps := ps) cl I.ok.glob (I.mod.glob.keeps I.bk) hcode (TB.code.keeps I.bk) oP ht hc TB.gP bP fun c' ctv h' tk hx hge hlt hrec htb => ?_
    obtain ⟨c2, oc, vs, t, e2, hoc, hd, hv⟩ := hrec
    cases e2
    have nC : H c' = none := I.hok.fresh hge
    have nPc : P ≠ c' := ne_of_none hP nC
    have up : ∀ b o, h'.get? b = some o → (h'.push (PySem.W.kla_obj "<lambda>" (X.env.qual ++ "<lambda>") params body scope [] ((X.mg "__name__").getD .none) c' ctv)).get? b = some o := fun b o e => Heap.get?_push_of_some _ e
    have I1 := inv_table (t' := tk) (more := #[rawInt lpos.line, rawInt lpos.col, .ref c']) I hP (fun b o hb e => up _ _ (hx b o hb e)) (up _ _ htb) hge ⟨oc, vs, t, up _ _ hoc, hd, hv⟩
    have hh : Holds ((c', CodeO c' (X.env.qual ++ "<lambda>")) :: F (.tbl (ps ++ #[rawInt lpos.line, rawInt lpos.col, .ref c']))) (upd (upd H P (.tbl (ps ++ #[rawInt lpos.line, rawInt lpos.col, .ref c']))) c' (CodeO c' (X.env.qual ++ "<lambda>"))) :=
      (hL.put hF).new (by rw [upd_ne nPc.symm]; exact nC)
    refine h h'.objs.size c' _ _ _ I1 hh ?_ (fun b o m n => ?_) upd_same ⟨_, ctv, Heap.get?_push_size _ rfl⟩
    · refine ⟨_, .tail (hF.again' _).mm, ?_, fun p' cv e => ?_⟩
      · rw [show (ps ++ #[rawInt lpos.line, rawInt lpos.col, Value.ref c']).toList = ps.toList ++ [rawInt lpos.line, rawInt lpos.col, .ref c'] by simp]
        exact PySem.TriplesOk_snoc _ _ _ _ ht
      · have e' : codeAmong p' (ps.toList ++ [rawInt lpos.line, rawInt lpos.col, .ref c']) = some cv := by simpa using e
        rcases among_app _ ht e' with z | z
        · obtain ⟨c0, e1, m0⟩ := ha p' cv z
          exact ⟨c0, e1, .tail (keep _ _ (fun w => by
            have q1 := hL.get m0
            rw [w, hP] at q1
            exact codeO_nt _ (Option.some.inj q1).symm) m0 _)⟩
        · exact ⟨c', z, .head⟩
    · refine .tail (keep b o (fun w => ?_) m _)
      have q1 := hL.get m
      rw [w, hP] at q1
      exact n ps (Option.some.inj q1).symm
  · obtain ⟨cv, hc2⟩ := Option.ne_none_iff_exists'.mp hc
    obtain ⟨c', e, m0⟩ := ha lpos cv hc2
    subst e
    refine PySem.W.kla_makeFunctionHit (c := c) (P := P) (mg := X.mg) (ps := ps) cl I.ok.glob (I.mod.glob.keeps I.bk) hcode (TB.code.keeps I.bk) oP ht hc2 bP fun ctv h' tk hx hsz => ?_
    have I1 : Inv X pins σ H { s with heap := h'.push (PySem.W.kla_obj "<lambda>" (X.env.qual ++ "<lambda>") params body scope [] ((X.mg "__name__").getD .none) c' ctv), toks := tk } := I.kept fun b o e => Heap.get?_push_of_some _ (hx b o e)
    exact h h'.objs.size c' H _ L I1 hL ⟨ps, mP, ht, ha⟩ (Ext.refl L) (hL.get m0) ⟨_, ctv, Heap.get?_push_size _ rfl⟩
end
end N3
set_option Elab.async false
set_option linter.all false
set_option maxRecDepth 100000
set_option maxHeartbeats 4000000
/-! sorted(e, key=lambda x: (len(x), x)) of a list of tuples of texts -/
namespace N3
open PySem PySem.Spec PyProof.Rows L2 LamX
/-- the list's items: tuples of texts -/
abbrev refs (ts : List (Addr × List Str)) : List V := ts.map fun t => V.ref t.1
def Tps (ts : List (Addr × List Str)) (L : LH) : Prop := ∀ t ∈ ts, Mem t.1 (.tup (t.2.map V.str)) L
theorem Tps.ext {ts : List (Addr × List Str)} {L L' : LH} (h : Tps ts L) (e : Ext L L') : Tps ts L' := fun t ht => e _ _ (h t ht) fun _ z => by cases z
theorem each_refs {H : Hp} : ∀ {ts : List (Addr × List Str)} {us : List Value}, Vals (refs ts) us → (∀ t ∈ ts, H t.1 = some (.tup (t.2.map V.str))) → PySem.W.EachIs (fun (v : Value) (t : Addr × List Str) => v = .ref t.1 ∧ H t.1 = some (.tup (t.2.map V.str))) us ts
  | [], _, .nil, _ => .nil
  | t :: ts, _, .cons r rr, h => .cons ⟨r, h t List.mem_cons_self⟩ (each_refs rr fun t ht => h t (List.mem_cons_of_mem _ ht))
theorem refs_each {H : Hp} : ∀ {ts : List (Addr × List Str)} {us : List Value}, PySem.W.EachIs (fun (v : Value) (t : Addr × List Str) => v = .ref t.1 ∧ H t.1 = some (.tup (t.2.map V.str))) us ts → Vals (refs ts) us
  | _, _, .nil => .nil
  | _, _, .cons h t => .cons h.1 (refs_each t)
theorem depth_txts : ∀ p : List Str, PyData.depthAll (p.map .str) ≤ 0
  | [] => by simp [PyData.depthAll]
  | x :: p => by
    rw [List.map_cons, PyData.depthAll]
    have := depth_txts p
    simp [PyData.depth]
    omega
section
variable {X : Cx} {σ : L2.St} {L : LH} {K : V → LH → Prop} {e : Expr} {params : Arguments} {scope : Scope} {q x : Str} {P c : Addr} {k : Nat} {p0 p1 p2 p3 p4 p5 lpos kpos pos : Pos} {kk : Nat}
theorem x_sortedLam (hr : Room (k + 4) X.A) (hg : Gl X "sorted") (hm : X.mg "sorted" = none) (hml : X.mg "len" = none) (TB : TabB X.base X.mg c P) (hcode : X.env.code = .ref c) (hq : X.env.qual ++ "<lambda>" = q)
    (hdef : defaultsOf params X.env = ([], [])) (hno : ∀ y ∈ scope.names, y.2 ≠ .free) (hclo : ∀ cells, cloFrom cells scope.names [] = []) (S : FnScope [x] [x] scope) (hlen : scope.names.lookup ("len" : Str) = some .globalImplicit) (hx : scope.names.lookup x = some .local) (hd : (x == ("__debug__" : Str)) = false)
    (hb : ∀ (c' : Addr) (pm ctv u : Value), bindArgs (PySem.W.kla_fn "<lambda>" q params (.Tuple [.Call (.Name "len" p1) [.Name x p2] [] p3, .Name x p4] kk p5) scope [] pm (.ref c') ctv) ⟨[u], []⟩ = pure [(x, u)])
    (h : WE X e σ L fun v L1 => ∃ l ts, v = .ref l ∧ Mem l (.lst (refs ts)) L1 ∧ Tps ts L1 ∧ TabIn P q L1 ∧ ∀ d L2 ts', Ext L1 L2 → TabIn P q L2 → ts'.Perm ts → ts'.Pairwise (fun a b => ¬ ltP b.2 a.2) → K (.ref d) ((d, .lst (refs ts')) :: L2))
    (he : backTo pos (starEach [e] X.env) = [(false, eval e X.env)] := by rfl) (hpl : (backTo pos (starEach [e] X.env)).any (·.1) = false := by rfl) :
    WE X (.Call (.Name "sorted" p0) [e] [⟨some "key", .Lambda params (.Tuple [.Call (.Name "len" p1) [.Name x p2] [] p3, .Name x p4] kk p5) scope lpos, kpos⟩] pos) σ L K := by
  intro H hL pins s I
  refine wpAny_Call_Name_kw (ld_blt (u := .builtin "sorted") I hg hm (by rfl) ?_)
  refine PyProof.Rows.callWith_kw ?_ (by rw [he]; rfl) hpl (by rfl) (by rfl)
  rw [he]
  refine Calls.spliced_cons (wpAny_mono (h H hL pins s I) (fun u s1 hu => ?_) fun _ _ z => z)
  obtain ⟨v, H1, I1, r1, L1, hL1, l, ts, rfl, hs, ht, hT, fin⟩ := hu
  refine Calls.spliced_nil ?_
  obtain rfl : u = Value.ref l := r1
  show wpAny _ _ (evalAll [do let v ← eval (.Lambda params _ scope lpos) X.env; standAt pos; pure v]) _ _ s1
  refine wpAny_evalAll_cons (wpAny_bind (lam_make3 I1 hL1 TB hcode hq hT hdef hno hclo fun f c' H2 s2 L2 I2 hL2 hT2 hE hc2 hf => wpAny_bind (wpAny_standAt (wpAny_pure ?_))))
  refine wpAny_pure ?_
  obtain ⟨pm, ctv, hf⟩ := hf.ex
  have ht2 := ht.ext hE
  obtain ⟨us, rv, hl, hz⟩ := I2.list (SqLL.of (hE _ _ hs fun _ z => nomatch z) H2 hL2)
  have hz2 : ts.length ≤ sizeLine := by simpa using hz
  have ev := each_refs (H := H2) rv fun t h => hL2.get (ht2 t h)
  have un := hr.units
  refine PySem.W.sorted_key_data (f := .ref f) (b := false) (bs := ts) (k := fun t => kyD t.2) hl.isList ev (fun d hd d' hd' => ?_) (.inl fun d hd => ?_) hz2 (fun t ht => ?_) (PyProof.Rows.ksk_s1 _ _) (fun _ => PyProof.Rows.ksk_l1 _ _) (fun _ => PyProof.Rows.ksk_t1 _ _) (fun v t hR hx' h' tk keep => ?_) (fun out cc h' tk keep fr hD hlo hes => ?_)
  · obtain ⟨t, _, rfl⟩ := List.mem_map.mp hd
    obtain ⟨t', _, rfl⟩ := List.mem_map.mp hd'
    exact alike_ky _ _
  · obtain ⟨t, _, rfl⟩ := List.mem_map.mp hd
    exact ⟨_, _, rfl⟩
  · have : (kyD t.2).depth ≤ 5 := by
      have := depth_txts t.2
      simp only [kyD, tpD, PyData.depth, PyData.depthAll]
      omega
    show X.A.units + 2 + (kyD t.2).depth < cLine
    omega
  · obtain ⟨rfl, ha⟩ := hR
    have I3 : Inv X pins σ H2 { s2 with heap := h', toks := tk } := I2.kept keep
    exact lam_key (k := k) (A := X.A.in1.in1) I3 (hr.mono (by omega : k + 3 ≤ k + 4)).in1.in1 rfl (keep _ _ hf) hc2 S (hb c' pm ctv) hlen hx hml hd ha
  · obtain ⟨srt, prm⟩ := sort_ky (fun t : Addr × List Str => t.2) ts
    have rv2 := refs_each hes
    have fr2 : H2 (s2.heap.objs.size + 1) = none := I2.hok.fresh (Nat.le_succ _)
    have hz3 : (refs (ts.mergeSort (PySem.W.dataLe false fun t => kyD t.2))).length ≤ sizeLine := by
      rw [List.length_map, prm.length_eq]
      exact hz2
    exact ⟨.ref _, upd H2 (s2.heap.objs.size + 1) (.lst (refs (ts.mergeSort (PySem.W.dataLe false fun t => kyD t.2)))), I2.laid keep (Nat.le_succ _) ⟨hz3, out, cc, rv2, hD⟩, rfl, _, hL2.new fr2, fin _ L2 _ hE hT2 prm srt⟩
end
end N3
set_option Elab.async false
set_option linter.all false
set_option maxRecDepth 100000
set_option maxHeartbeats 4000000
/-! a def that makes a lambda: its code object is told -/
namespace N3
open PySem PySem.Spec L2 LamX
structure FunC (K : PySem.W.Frag) (x qual : Str) (st : Stmt) (f : Addr) (fd : FuncData) (c : Addr) : Prop where
  ex : ∃ (oc : Value) (od : Option Addr) (kV doc pm : Value) (an : Option Addr) (ct : Value) (osl : Array (Option Value)),
    fd = PySem.W.fnOf x qual (defArgs st) (defBody st) (defScope st) .none kV doc pm an (.ref c) ct ∧ K.lookup f = some ⟨oc, od, .func fd, osl⟩ ∧ PySem.W.codeIn K (.ref c) qual = true
theorem fnXM {P : Program} {w : World} {K : PySem.W.Frag} {mg : Str → Option Value} {base : Heap} {x qual : Str} {st : Stmt} {f c T : Addr} {fd : FuncData} {N ps Gn : List Str} {k : Nat} {pre : Pre} (F : FunC K x qual st f fd c) (S : FnScope N ps (defScope st)) (ok : scopeB N (defScope st) N N Gn = true) (len : ∀ vs L Kk, pre vs L Kk → vs.length = ps.length)
    (body : ∀ (X : Cx), X.prog = P → X.w = w → X.K = K → X.mg = mg → X.base = base → X.env.code = .ref c → X.env.qual = qual ++ ".<locals>." → XOk N (defScope st) N N Gn X → Room k X.A → ∀ vs L Kk, pre vs L Kk → WSs X (defBody st) (start N vs) L (EndOf Kk)) : FnOk P w K mg base CX0 (k + 1) f fd ps (SpL pre) := by
  obtain ⟨oc, od, kV, doc, pm, an, ct, osl, rfl, lk, hcd⟩ := F.ex
  refine fn_of lk hcd S (fun vs H Q E h => ?_) fun A outer s H vs Q E hr h => ?_
  · obtain ⟨L, Kk, _, hp, _⟩ := h
    exact len vs L Kk hp
  · obtain ⟨L, Kk, hL, hp, hk⟩ := h
    refine ⟨_, pss_sem.nox, (body (cxOf CX0 P w K mg base N qual (defScope st) f (.ref c) A outer s H E).nox rfl rfl rfl rfl rfl rfl rfl ⟨rfl, rfl, ok, rfl, PassesOwn.never⟩ hr vs L Kk hp H hL).mono ⟨fun σ H' q => ?_, fun v H' q => hk v H' q.sub, fun _ _ q => ?_, fun _ _ q => ?_⟩⟩
    · obtain ⟨L1, h1, L2, s2, k2⟩ := q
      exact hk _ _ ⟨L2, s2 _ h1, k2⟩
    · obtain ⟨_, _, q⟩ := q
      exact q.elim
    · obtain ⟨_, _, q⟩ := q
      exact q.elim
end N3
set_option Elab.async false
set_option linter.all false
set_option maxRecDepth 100000
set_option maxHeartbeats 4000000
/-! {k: v for ..}, the keys tuples -/
namespace N3
open PySem PySem.Spec PyProof.Rows L2
section
variable {X : Cx}
/-- a pair is put into the new dict -/
def PutT (D : Addr) (H : Hp) (y z : V) (H' : Hp) : Prop := ∃ (kvs : List (TKey × V)) (k : TKey) (b : Addr), y = .ref b ∧ H D = some (.dT kvs) ∧ H b = some (.tup (k.map kV)) ∧ kvs.length < sizeLine ∧ H' = upd H D (.dT (putK kvs k z))
theorem put_dictT {pins : List (Addr × Obj)} {σ : L2.St} {H H' : Hp} {s : Shared} {E : Value → Shared → Prop} {D : Addr} {y z : V} {u r : Value} {Q : Unit → Shared → Prop} (hu : X.A.units + 1 < cLine) (I : Inv X pins σ H s) (g : PutT D H y z H') (ry : RelV y u) (rz : RelV z r)
    (h : ∀ s', Inv X pins σ H' s' → Q () s') : wpAny (model X.prog X.w) X.A (dictSet D u r) Q E s := by
  obtain ⟨kvs, k, b, rfl, eD, eb, lt, rfl⟩ := g
  obtain rfl : u = Value.ref b := ry
  obtain ⟨z0, hd, xs, rel, dd⟩ := dt_of I.hok eD
  have hz : xs.length ≤ sizeLine := by rw [← Paired.length rel]; exact z0
  have hl : (putK kvs k z).length ≤ sizeLine := by
    have := length_putK kvs k z
    omega
  have room : (tupleKind (mixKind X.prog X.w)).room X.A := Nat.lt_of_succ_lt hu
  have dd0 := dd
  obtain ⟨oD, esD, epD, hoD, hcD, hdD, heD, hisD, hnD⟩ := dd0
  unfold dictSet
  refine wpAny_holding (wpAny_bind ((tupleKind (mixKind X.prog X.w)).pyHash room (key_of I.hok eb) ?_))
  refine wpAny_dictSetHashed_heap (hsz := hz) room (key_of I.hok eb) dd fun h' dd' hs => h _ ?_
  obtain ⟨q, es, ep, hq, h2, h3, h4, _, h5⟩ := dd'
  have J := I.tok (s.toks + (tupleKind (mixKind X.prog X.w)).draws k)
  refine d_write J (by rw [eD]; exact True.intro) hs ⟨q, hq⟩ ⟨hl, hd, _, (rel.put k eb rz).keeps fun c ys ec => ?_, q, es, ep, hq, h2, h3, h4, h5⟩
  rw [upd_ne (ne_of ec eD (fun z => nomatch z))]
  exact ec
end
end N3
namespace N3
open PySem PySem.Spec PyProof.Rows L2
/-- what is asked of such a comprehension -/
def tDcT (wi : TI) (g : TG) (tt : TT) (tk tv : TE) (own : List Nat) : TE := fun σ H Q =>
  wi σ H fun J H1 => ∀ D, H1 D = none → ∃ W : Nat → Nat → Hp → Prop,
    (∃ m, W 0 m (upd H1 D (.dT []))) ∧
    ∀ i m Hc, W i m Hc → (J.stop i Hc ∧ Q (.ref D) Hc) ∨
      (J.go i Hc ∧ ∃ Nx : Hp → Prop, (∀ Hn, Nx Hn → ∃ m', m' < m ∧ W (i + 1) m' Hn) ∧
        ∀ x Hy, J.yld i Hc x Hy → g x (wipe σ own) Hy fun σ2 H2 => wipe σ2 own = wipe σ own ∧
          tt σ2 H2 fun b H3 => if b = true then tk σ2 H3 fun y H4 => tv σ2 H4 fun z H5 => ∃ H6, PutT D H5 y z H6 ∧ Nx H6 else Nx H3)
section
variable {X : Cx} {pins : List (Addr × Obj)} {kx vx tg iter : Expr} {ifs : List Expr} {scope : Scope} {own : List (Str × Nat)} {pos : Pos} {wi : TI} {g : TG} {tt : TT} {tk tv : TE}
/-- any of the block's parts, wherever the block stands -/
abbrev InBlk (X : Cx) (scope : Scope) (p : Cx → Prop) : Prop := ∀ (s : Shared) (H : Hp) (C : Addr) (cl : List (Str × Addr)) (fp : List Addr), p (X.blk s H scope (compEnvC scope cl C X.env) fp)
theorem pe_dcT (hu : X.A.units + 1 < cLine) (calm : X.calm = true) (nd : X.N.Nodup) (src : PI X tg iter wi) (ok : BlkOk X.N X.env.scope scope own)
    (bg : InBlk X scope fun Z => PG Z tg g) (bt : InBlk X scope fun Z => PTs Z ifs tt) (bk : InBlk X scope fun Z => PE Z kx tk) (bv : InBlk X scope fun Z => PE Z vx tv)
    (fold : ∀ v, foldedSetIterable iter X.env v = pure v := by intro _; rfl) : PE X (.DictComp kx vx [⟨tg, iter, ifs, 0⟩] scope pos) (tDcT wi g tt tk tv (own.map (·.2))) := by
  constructor
  intro pins s σ H Q I hyp
  rw [arm_eval_DictComp]
  have frees : ∀ y ∈ scope.names, y.2 = .free → ∃ d, X.env.cells.lookup y.1 = some d := by
    intro y hy e
    exact (ok.free y hy e).elim (fun z => I.ok.has _ (.inl z)) fun z => I.ok.has _ (.inr z)
  refine wpAny_comprehension_free rfl fold (closure_ok frees) ok.kind (fun y hy e => by rw [ok.uniq y hy, e]) ?_
  refine thn (src.run pins s σ H _ I hyp) fun xv s1 hx => thn hx fun itv s2 found => ?_
  obtain ⟨it, ws, tn, J, H2, rfl, I2, T, st2, ok2, inside⟩ := found
  refine wpAny_newObj_type (newEnv_comp ?_)
  obtain ⟨D, hD⟩ : ∃ D, D = s2.heap.objs.size := ⟨_, rfl⟩
  rw [← hD]
  have fresh : H2 D = none := I2.hok.fresh (by rw [hD]; exact Nat.le_refl _)
  obtain ⟨W, ⟨m0, start⟩, turn⟩ := inside D fresh
  -- the new dict is laid
  obtain ⟨sD, esD⟩ : ∃ sD : Shared, sD = { s2 with heap := s2.heap.push { cls := .type "dict", data := .dict #[] } } := ⟨_, rfl⟩
  have hpD : sD.heap = s2.heap.push { cls := .type "dict", data := .dict #[] } := by rw [esD]
  obtain ⟨G, eG⟩ : ∃ G : Hp, G = upd H2 D (.dT []) := ⟨_, rfl⟩
  have ID : Inv X pins σ G sD := by
    rw [esD, eG, hD]
    exact I2.laid (t' := s2.toks) (fun _ _ e => Heap.get?_push_of_some _ e) (Nat.le_refl _) (dt_empty s2.heap I2.big)
  rw [← eG] at start
  have lower : ∀ b ∈ ws, b < s2.heap.objs.size := fun b hb => by
    obtain ⟨o, e, _⟩ := T.obj _ _ st2 b hb
    exact Heap.lt_size e
  have okD : ∀ b ∈ ws, FpOk X pins G b ∧ b < sD.heap.objs.size := fun b hb => by
    have lt := lower b hb
    have ne : b ≠ D := by rw [hD]; exact Nat.ne_of_lt lt
    exact ⟨⟨by rw [eG, upd_ne ne]; exact (ok2 b hb).1, (ok2 b hb).2⟩, by rw [hpD, Heap.size_push]; exact Nat.lt_succ_of_lt lt⟩
  have tnD : tn 0 sD.heap := T.keep _ _ _ st2 fun b _ o e => by rw [hpD]; exact Heap.get?_push_of_some _ e
  -- the block is entered
  have IB := block_start ID ok nd okD
  obtain ⟨cl, ecl⟩ : ∃ cl, cl = cellsFrom (sD.heap.objs.size + 1) scope.names (cloFrom X.env.cells scope.names []) := ⟨_, rfl⟩
  obtain ⟨C, eC⟩ : ∃ C, C = sD.heap.objs.size := ⟨_, rfl⟩
  rw [← ecl, ← eC] at IB
  obtain ⟨Z, eZ⟩ : ∃ Z : Cx, Z = X.blk sD G scope (compEnvC scope cl C X.env) ws := ⟨_, rfl⟩
  rw [← eZ] at IB
  have gZ : PG Z tg g := by rw [eZ]; exact bg _ _ _ _ _
  have tZ : PTs Z ifs tt := by rw [eZ]; exact bt _ _ _ _ _
  have kZ : PE Z kx tk := by rw [eZ]; exact bk _ _ _ _ _
  have vZ : PE Z vx tv := by rw [eZ]; exact bv _ _ _ _ _
  have zp : Z.prog = X.prog := by rw [eZ]
  have zw : Z.w = X.w := by rw [eZ]
  have zK : Z.K = X.K := by rw [eZ]
  have zc : Z.calm = true := by rw [eZ]; exact calm
  have zA : Z.A = X.A := by rw [eZ]
  have zenv : Z.env = compEnvC scope cl C X.env := by rw [eZ]
  have zL : Z.env.locals = C := by rw [zenv]; rfl
  have free0 : ∀ b ∈ ws, G b = none := fun b hb => (okD b hb).1.1
  have stands : ∀ {σ' : L2.St} {Hs : Hp} {ss : Shared}, Inv Z [] σ' Hs ss → (∀ b ∈ ws, Hs b = none) → ∀ b ∈ ws, FpOk Z [] Hs b := fun {σ' Hs ss} J0 no b hb => by
    have hex : b ∈ Z.ex := by rw [eZ]; exact hb
    have q := J0.ok.exf b hex
    refine ⟨no b hb, q.1, J0.ok.exfs b hex, .inl hex, fun x c e => q.2 x c e, fun p hp => ?_⟩
    rw [eZ] at hp
    exact absurd (show p ∈ ([] : List (Addr × Obj)) ++ [] from hp) (by simp)
  have whole : codeAny (model X.prog X.w) X.A (.compLoop (.DictComp kx vx [⟨tg, iter, ifs, 0⟩] scope pos) 0 (.ref it) (.ref D) (compEnvC scope cl C X.env)) (compPost (model X.prog X.w) X.A X.xe none (EP X pins σ Q) (.ref D) C) { sD with heap := pushCells (sD.heap.push { cls := .type "dict", data := .dict #[] }) scope.names } := by
    have tnB : tn 0 (pushCells (sD.heap.push { cls := .type "dict", data := .dict #[] }) scope.names) := T.keep _ _ _ tnD fun b _ o e => pushCells_keeps _ _ _ _ (Heap.get?_push_of_some _ e)
    refine compLoop_anyD (fun n ss => ∃ i Hs, Inv Z [] (wipe σ (own.map (·.2))) Hs ss ∧ tn i ss.heap ∧ (∀ b ∈ ws, Hs b = none) ∧ W i n Hs) ?_ m0 ⟨0, G, IB, tnB, free0, start⟩
    rintro n s5 ⟨i, H5, I5, tn5, no5, w5⟩
    rcases turn i n H5 w5 with ⟨stop, done⟩ | ⟨go, Nx, less, step⟩
    · have fin := T.done Z zp zw zK zc i [] s5 _ H5 (fun _ _ => False) I5 (stands I5 no5) tn5 stop
      rw [zA] at fin
      refine thnF fin fun r s6 ⟨er, I6⟩ => ?_
      subst er
      rw [eZ] at I6
      have back : Inv X pins σ H5 s6 := ID.call' (ch := ws) I6.os I6.base I6.hok I6.bare fun b hb => by
        obtain ⟨_, q1, q2, q3, q4, q5⟩ := (okD b hb).1
        exact ⟨q3, q1, q4, q5⟩
      have noC : H5 C = none := I6.free
      obtain ⟨mm, hn, _⟩ := I6.loc
      refine ⟨mm, hn, fun h'' same => ?_⟩
      obtain ⟨f0, f1, f2, f3, f4, f5⟩ := ID.fpOk (b := C) (by rw [eC]; exact Nat.le_refl _) noC
      exact ⟨.ref D, H5, back.turned (t' := s6.toks) (fun b o hb e => (same.2 b hb).trans e) f0 f1 f3 f4 f5, rfl, done⟩
    · have item := T.item Z zp zw zK zc i [] s5 _ H5 (fun _ _ => False) I5 (stands I5 no5) tn5 go
      rw [zA] at item
      refine thnF item fun r s6 ⟨u, er, hnd⟩ => ?_
      subst er
      refine thnF hnd fun _ s7 ⟨x, H7, I7, r7, y7, tn7, no7⟩ => ?_
      have P7 := I7.pinned (stands I7 no7) (T.obj _ _ tn7)
      -- the end of a turn
      have fin : ∀ {σ8 : L2.St} {se : Shared} {He : Hp}, wipe σ8 (own.map (·.2)) = wipe σ (own.map (·.2)) → Inv Z ([] ++ pinsAt ws s7.heap) σ8 He se → Nx He → ∃ m, m < n ∧ ∃ i Hs, Inv Z [] (wipe σ (own.map (·.2))) Hs se ∧ tn i se.heap ∧ (∀ b ∈ ws, Hs b = none) ∧ W i m Hs := by
        intro σ8 se He wipes Ie nx
        obtain ⟨m', lt, w'⟩ := less He nx
        have stay : ∀ b ∈ ws, ∀ o, s7.heap.get? b = some o → se.heap.get? b = some o ∧ He b = none := fun b hb o e => by
          have z := Ie.pin (b, o) (List.mem_append_right _ (List.mem_append_right _ (mem_pinsAt hb e)))
          exact ⟨z.1, z.2.1⟩
        refine ⟨m', lt, i + 1, He, (Ie.unpinned (pins := [])).weak (by rw [← wipes, wipe_length]) (fun j v e => ?_), T.keep _ _ _ tn7 fun b hb o e => (stay b hb o e).1, fun b hb => ?_, w'⟩
        · rw [← wipes] at e
          exact (wipe_some e).1
        · obtain ⟨o, e, _⟩ := T.obj _ _ tn7 b hb
          exact (stay b hb o e).2
      subst eZ
      refine thnF (gZ.run _ s7 _ H7 x u _ P7 r7 (step x H7 y7)) fun _ s8 ⟨σ8, H8, I8, wipes, q8⟩ => ?_
      refine thnF (tZ.run _ s8 σ8 H8 _ I8 q8) fun b s9 ⟨H9, I9, q9⟩ => ?_
      dsimp only at q9
      rcases Bool.eq_false_or_eq_true b with hb | hb <;> subst hb
      · simp only [if_true] at q9 ⊢
        refine thnF (kZ.run _ s9 σ8 H9 _ I9 q9) fun ku sk ⟨y, Hk, Ik, rk, qk⟩ => ?_
        refine thnF (vZ.run _ sk σ8 Hk _ Ik qk) fun vu sv ⟨zz, Hv, Iv, rv, H6, put, nx⟩ => ?_
        exact put_dictT (X := X.blk sD G scope (compEnvC scope cl C X.env) ws) hu Iv put rk rv fun se Ie => fin wipes Ie nx
      · simp only [Bool.false_eq_true, if_false] at q9 ⊢
        exact fin wipes I9 q9
  subst ecl
  subst eC
  subst esD
  exact codeAny_compStart_dict whole (T.self X.A 0 _ _ _ (T.keep _ _ _ tnD fun b _ o e => pushCells_keeps _ _ _ _ (Heap.get?_push_of_some _ e)) whole)
end
end N3
set_option Elab.async false
set_option linter.all false
set_option maxRecDepth 100000
set_option maxHeartbeats 4000000
namespace N3
open PySem PySem.Spec PyProof.Rows L2
section
variable {X : Cx} {iter tg c kx vx : Expr} {σ : L2.St} {L : LH} {K : V → LH → Prop} {pos : Pos} {scope : Scope} {own : List (Str × Nat)}
/-- what a turn's value leads to -/
def PutK (D : Addr) (y z : V) (L4 : LH) (Nx : LH → Prop) : Prop := ∃ (kvs : List (TKey × V)) (k : TKey) (b : Addr) (F : HO → LH), y = .ref b ∧ Mem b (.tup (k.map kV)) L4 ∧ Hole D (.dT kvs) L4 F ∧ kvs.length < sizeLine ∧ ∃ L5, Sub (F (.dT (putK kvs k z))) L5 ∧ Nx L5
theorem PutK.put {D : Addr} {y z : V} {L4 : LH} {Nx : LH → Prop} {H : Hp} (h : PutK D y z L4 Nx) (hL : Holds L4 H) : ∃ H6, PutT D H y z H6 ∧ QL Nx H6 := by
  obtain ⟨kvs, k, b, F, ey, mb, hf, hl, L5, sb, nx⟩ := h
  exact ⟨_, ⟨kvs, k, b, ey, hL.at_ _ _ hf.mem, hL.get mb, hl, rfl⟩, L5, sb _ (hL.put hf), nx⟩
/-- a turn of a dict comprehension whose keys are tuples; c its test -/
def TurnT (X : Cx) (scope : Scope) (own : List (Str × Nat)) (tg kx vx : Expr) (σ : L2.St) (D : Addr) (v : V) (L' : LH) (Nx : LH → Prop) : Prop :=
  InBlk X scope fun Z => WG Z tg v (wipe σ (own.map (·.2))) L' fun σ2 L2 => wipe σ2 (own.map (·.2)) = wipe σ (own.map (·.2)) ∧
    InBlk X scope fun Z => WE Z kx σ2 L2 fun y L3 => InBlk X scope fun Z => WE Z vx σ2 L3 fun z L4 => PutK D y z L4 Nx
def TurnTI (X : Cx) (scope : Scope) (own : List (Str × Nat)) (tg c kx vx : Expr) (σ : L2.St) (D : Addr) (v : V) (L' : LH) (Nx : LH → Prop) : Prop :=
  InBlk X scope fun Z => WG Z tg v (wipe σ (own.map (·.2))) L' fun σ2 L2 => wipe σ2 (own.map (·.2)) = wipe σ (own.map (·.2)) ∧
    InBlk X scope fun Z => WT Z c σ2 L2 fun b Lb => (b = true → InBlk X scope fun Z => WE Z kx σ2 Lb fun y L3 => InBlk X scope fun Z => WE Z vx σ2 L3 fun z L4 => PutK D y z L4 Nx) ∧ (b = false → ∃ L5, Sub Lb L5 ∧ Nx L5)
theorem turnT {D : Addr} {v : V} {L' : LH} {Nx : LH → Prop} {H : Hp} (h : TurnT X scope own tg kx vx σ D v L' Nx) (hL : Holds L' H) :
    SemGB X scope tg v (wipe σ (own.map (·.2))) H fun σ2 H2 => wipe σ2 (own.map (·.2)) = wipe σ (own.map (·.2)) ∧ tYes σ2 H2 fun b H3 =>
      if b = true then SemEB X scope kx σ2 H3 fun y H4 => SemEB X scope vx σ2 H4 fun z H5 => ∃ H6, PutT D H5 y z H6 ∧ QL Nx H6 else QL Nx H3 := by
  intro s H' C cl fp
  refine g_then (h s H' C cl fp) hL fun σ2 L2 H2 h2 ⟨hw, k2⟩ => ⟨hw, ?_⟩
  show if true = true then SemEB X scope kx σ2 H2 (fun y H4 => SemEB X scope vx σ2 H4 fun z H5 => ∃ H6, PutT D H5 y z H6 ∧ QL Nx H6) else QL Nx H2
  rw [if_pos rfl]
  intro s H' C cl fp
  refine e_then (k2 s H' C cl fp) h2 fun y L3 H3 h3 k3 => ?_
  intro s H' C cl fp
  exact e_then (k3 s H' C cl fp) h3 fun z L4 H4 h4 p => p.put h4
theorem turnTI {D : Addr} {v : V} {L' : LH} {Nx : LH → Prop} {H : Hp} (h : TurnTI X scope own tg c kx vx σ D v L' Nx) (hL : Holds L' H) :
    SemGB X scope tg v (wipe σ (own.map (·.2))) H fun σ2 H2 => wipe σ2 (own.map (·.2)) = wipe σ (own.map (·.2)) ∧ SemTB X scope c σ2 H2 fun b H3 =>
      if b = true then SemEB X scope kx σ2 H3 fun y H4 => SemEB X scope vx σ2 H4 fun z H5 => ∃ H6, PutT D H5 y z H6 ∧ QL Nx H6 else QL Nx H3 := by
  intro s H' C cl fp
  refine g_then (h s H' C cl fp) hL fun σ2 L2 H2 h2 ⟨hw, k2⟩ => ⟨hw, ?_⟩
  intro s H' C cl fp
  refine t_then (k2 s H' C cl fp) h2 fun b Lb Hb hb ⟨kt, kf⟩ => ?_
  cases b with
  | true =>
    show if true = true then SemEB X scope kx σ2 Hb (fun y H4 => SemEB X scope vx σ2 H4 fun z H5 => ∃ H6, PutT D H5 y z H6 ∧ QL Nx H6) else QL Nx Hb
    rw [if_pos rfl]
    intro s H' C cl fp
    refine e_then (kt rfl s H' C cl fp) hb fun y L3 H3 h3 k3 => ?_
    intro s H' C cl fp
    exact e_then (k3 s H' C cl fp) h3 fun z L4 H4 h4 p => p.put h4
  | false =>
    show if false = true then SemEB X scope kx σ2 Hb (fun y H4 => SemEB X scope vx σ2 H4 fun z H5 => ∃ H6, PutT D H5 y z H6 ∧ QL Nx H6) else QL Nx Hb
    rw [if_neg (by decide)]
    obtain ⟨L5, sb, nx⟩ := kf rfl
    exact ⟨L5, sb _ hb, nx⟩
/-- over any source -/
theorem dcT_it {J : It} {n : Nat} {G : Hp → Prop} {Y : Nat → Hp → V → Hp → Prop} (w : Walk J n G Y) {g : TG} {tt : TT} {tk tv : TE} {vs : List Nat} {σ : L2.St} {H1 : Hp} {D : Addr} {Qd : Hp → Prop} (Pv : Nat → Hp → Prop) (h0 : Pv 0 (upd H1 D (.dT []))) (hG : ∀ i H, i ≤ n → Pv i H → G H)
    (hs : ∀ i x H H', i < n → Pv i H → Y i H x H' → g x (wipe σ vs) H' fun σ2 H2 => wipe σ2 vs = wipe σ vs ∧ tt σ2 H2 fun b H3 => if b = true then tk σ2 H3 fun y H4 => tv σ2 H4 fun z H5 => ∃ H6, PutT D H5 y z H6 ∧ Pv (i + 1) H6 else Pv (i + 1) H3) (hd : ∀ H, Pv n H → Qd H) :
    ∃ W : Nat → Nat → Hp → Prop, (∃ m, W 0 m (upd H1 D (.dT []))) ∧ ∀ i m H, W i m H →
      (J.stop i H ∧ Qd H) ∨ (J.go i H ∧ ∃ Nx : Hp → Prop, (∀ H', Nx H' → ∃ m', m' < m ∧ W (i + 1) m' H') ∧ ∀ x H', J.yld i H x H' → g x (wipe σ vs) H' fun σ2 H2 => wipe σ2 vs = wipe σ vs ∧ tt σ2 H2 fun b H3 =>
        if b = true then tk σ2 H3 fun y H4 => tv σ2 H4 fun z H5 => ∃ H6, PutT D H5 y z H6 ∧ Nx H6 else Nx H3) := by
  refine ⟨fun i m H => m = n - i ∧ i ≤ n ∧ Pv i H, ⟨n, by simp, Nat.zero_le _, h0⟩, ?_⟩
  rintro i m H ⟨rfl, hi, p⟩
  have q := hG i H hi p
  by_cases hlt : i < n
  · exact .inr ⟨w.goes i H hlt q, Pv (i + 1), fun H' p' => ⟨n - (i + 1), by omega, rfl, hlt, p'⟩, fun x H' y => hs i x H H' hlt p (w.yields i H x H' hlt q y)⟩
  · have e : i = n := by omega
    subst e
    exact .inl ⟨w.stops H q, hd H p⟩
def DcTS (X : Cx) (scope : Scope) (own : List (Str × Nat)) (tg kx vx : Expr) (σ : L2.St) (K : V → LH → Prop) : SK := fun n GL YL L1 => ∀ D, ∃ I : Nat → LH → Prop, I 0 ((D, .dT []) :: L1) ∧ (∀ i L', i ≤ n → I i L' → GL L') ∧
  (∀ i v L' L'', i < n → I i L' → YL i L' v L'' → TurnT X scope own tg kx vx σ D v L'' (I (i + 1))) ∧ (∀ L', I n L' → K (.ref D) L')
def DcTIS (X : Cx) (scope : Scope) (own : List (Str × Nat)) (tg c kx vx : Expr) (σ : L2.St) (K : V → LH → Prop) : SK := fun n GL YL L1 => ∀ D, ∃ I : Nat → LH → Prop, I 0 ((D, .dT []) :: L1) ∧ (∀ i L', i ≤ n → I i L' → GL L') ∧
  (∀ i v L' L'', i < n → I i L' → YL i L' v L'' → TurnTI X scope own tg c kx vx σ D v L'' (I (i + 1))) ∧ (∀ L', I n L' → K (.ref D) L')
theorem dcTW {wi : TI} (h : ∀ H, Holds L H → ∀ R : It → Hp → Prop, (∀ J L1 H1 n GL YL, Holds L1 H1 → SrcL J n GL YL → DcTS X scope own tg kx vx σ K n GL YL L1 → R J H1) → wi σ H R) : ∀ H, Holds L H → tDcT wi (SemGB X scope tg) tYes (SemEB X scope kx) (SemEB X scope vx) (own.map (·.2)) σ H (QE K) := fun H hL =>
  h H hL _ fun J L1 H1 n GL YL h1 ⟨G, Y, w, g, y⟩ q D hD => by
    obtain ⟨I, i0, st, turn, fin⟩ := q D
    exact dcT_it w (fun i => QL (I i)) ⟨_, h1.new hD, i0⟩ (fun i H' hi ⟨L', h', k⟩ => g L' H' (st i L' hi k) h') (fun i v H' H'' hi ⟨L', h', k⟩ yy => by
      obtain ⟨L'', h'', y'⟩ := y i L' H' v H'' (st i L' (Nat.le_of_lt hi) k) h' yy
      exact turnT (turn i v L' L'' hi k y') h'') (fun H' ⟨L', h', k⟩ => ⟨L', h', fin L' k⟩)
theorem dcTIW {wi : TI} (h : ∀ H, Holds L H → ∀ R : It → Hp → Prop, (∀ J L1 H1 n GL YL, Holds L1 H1 → SrcL J n GL YL → DcTIS X scope own tg c kx vx σ K n GL YL L1 → R J H1) → wi σ H R) : ∀ H, Holds L H → tDcT wi (SemGB X scope tg) (SemTB X scope c) (SemEB X scope kx) (SemEB X scope vx) (own.map (·.2)) σ H (QE K) := fun H hL =>
  h H hL _ fun J L1 H1 n GL YL h1 ⟨G, Y, w, g, y⟩ q D hD => by
    obtain ⟨I, i0, st, turn, fin⟩ := q D
    exact dcT_it w (fun i => QL (I i)) ⟨_, h1.new hD, i0⟩ (fun i H' hi ⟨L', h', k⟩ => g L' H' (st i L' hi k) h') (fun i v H' H'' hi ⟨L', h', k⟩ yy => by
      obtain ⟨L'', h'', y'⟩ := y i L' H' v H'' (st i L' (Nat.le_of_lt hi) k) h' yy
      exact turnTI (turn i v L' L'' hi k y') h'') (fun H' ⟨L', h', k⟩ => ⟨L', h', fin L' k⟩)
end
section
variable {N Vn Ln Gn : List Str} {sc : Scope} {X : Cx} {tg iter c kx vx : Expr} {σ : L2.St} {L : LH} {K : V → LH → Prop} {pos : Pos} {scope : Scope}
theorem x_dcT (own : List (Str × Nat)) (h : XOk N sc Vn Ln Gn X) (hu : X.A.units + 1 < cLine) (ok : blkC N sc scope own = true) (q : WI X tg iter σ L (DcTS X scope own tg kx vx σ K)) (hs : ∀ x, foldedSetIterable iter X.env x = pure x := by intro _; rfl) :
    WE X (.DictComp kx vx [⟨tg, iter, [], 0⟩] scope pos) σ L K := by
  obtain ⟨wi, hi, q⟩ := q
  exact we_of (pe_dcT hu h.calm h.nd hi (blkOk_by (by rw [h.hN, h.hsc]; exact ok)) (fun _ _ _ _ _ => pgB) (fun _ _ _ _ _ => pts_nil) (fun _ _ _ _ _ => peB) (fun _ _ _ _ _ => peB) hs) (dcTW q)
theorem x_dcTI (own : List (Str × Nat)) (h : XOk N sc Vn Ln Gn X) (hu : X.A.units + 1 < cLine) (ok : blkC N sc scope own = true) (q : WI X tg iter σ L (DcTIS X scope own tg c kx vx σ K)) (hs : ∀ x, foldedSetIterable iter X.env x = pure x := by intro _; rfl) :
    WE X (.DictComp kx vx [⟨tg, iter, [c], 0⟩] scope pos) σ L K := by
  obtain ⟨wi, hi, q⟩ := q
  exact we_of (pe_dcT hu h.calm h.nd hi (blkOk_by (by rw [h.hN, h.hsc]; exact ok)) (fun _ _ _ _ _ => pgB) (fun _ _ _ _ _ => pts_one ptB) (fun _ _ _ _ _ => peB) (fun _ _ _ _ _ => peB) hs) (dcTIW q)
end
end N3
set_option Elab.async false
set_option linter.all false
set_option maxRecDepth 100000
set_option maxHeartbeats 4000000
namespace N3
open PySem PySem.Spec PyProof.Rows L2
open Sem (wp)
open AutoSeq1 (wpAny_loadPart')
/-! ### enumerate of a tuple, an empty one -/
theorem meets_enumT (t : Addr) (items : Array Value) :
    Meets (Builtin.«enumerate.__new__» ⟨[.type "enumerate", .ref t], []⟩) (fun _ R s => s.heap.IsTuple t items ∧
      R (.ok (.ret (.ref (s.heap.push { cls := .type "tuple_iterator", data := .fields #[.ref t, .int 0 0] }).objs.size)))
        { s with heap := (s.heap.push { cls := .type "tuple_iterator", data := .fields #[.ref t, .int 0 0] }).push { cls := .type "enumerate", data := .fields #[.none, .bool false, .ref s.heap.objs.size, rawInt 0, .none, .none] } }) :=
  .of_wp fun prog w A R s h => by
    obtain ⟨hp, g, d, tk, os⟩ := s
    obtain ⟨hT, h⟩ := h
    have hsub := sub_enumerate
    wp_walk
    refine wpAny_stack_any fun st => wpAny_pure ?_
    split
    · rename_i c _ _ _ _ _
      cases (c == Value.type "enumerate")
      · wp_walk using wpAny_pyIter_tuple hT
        exact ⟨_, rfl, h⟩
      · wp_walk using wpAny_pyIter_tuple hT
        exact ⟨_, rfl, h⟩
    · wp_walk using wpAny_pyIter_tuple hT
      exact ⟨_, rfl, h⟩
section
variable {prog : Program} {w : World} {A : Around} {E : Value → Shared → Prop} {s : Shared}
theorem call_enumT {t : Addr} {items : Array Value} {Q : Value → Shared → Prop} (hT : s.heap.IsTuple t items)
    (h : ∀ h', IsEnum h' (s.heap.objs.size + 1) s.heap.objs.size 0 .none → h'.IsTupleIter s.heap.objs.size t 0 → (∀ b o, s.heap.get? b = some o → h'.get? b = some o) → Q (.ref (s.heap.objs.size + 1)) { s with heap := h' }) :
    wpAny (model prog w) A (call (.type "enumerate") [.ref t]) Q E s := by
  refine callType_new F.called_enumerate (by decide) (F.typeCall_enumerate_1 _) (F.newCall_enumerate_1 _) (fun obj => F.args_object_init_2 obj _) F.entry_enumerate_new (meets_enumT t items) ⟨hT, ?_⟩
  have sz : (s.heap.push { cls := .type "tuple_iterator", data := .fields #[.ref t, .int 0 0] }).objs.size = s.heap.objs.size + 1 := Heap.size_push ..
  show _ ∧ _
  rw [sz]
  have en : IsEnum ((s.heap.push { cls := .type "tuple_iterator", data := .fields #[.ref t, .int 0 0] }).push { cls := .type "enumerate", data := .fields #[.none, .bool false, .ref s.heap.objs.size, rawInt 0, .none, .none] }) (s.heap.objs.size + 1) s.heap.objs.size 0 .none := by
    have q := Heap.get?_push_size (s.heap.push { cls := .type "tuple_iterator", data := .fields #[.ref t, .int 0 0] }) (o := { cls := .type "enumerate", data := .fields #[.none, .bool false, .ref s.heap.objs.size, rawInt 0, .none, .none] }) rfl
    rw [sz] at q
    exact q
  exact ⟨⟨_, en, rfl⟩, h _ en ⟨_, Heap.get?_push_of_some _ (Heap.get?_push_size _ rfl), rfl, rfl⟩ fun b o x => Heap.get?_push_of_some _ (Heap.get?_push_of_some _ x)⟩
end
section
variable {X : Cx} {e : Expr} {body : List Stmt} {σ : L2.St} {L : LH} {D : EndsL} {p cpos pos tpos : Pos} {elts : List Expr} {kk : Nat}
theorem ws_forEnum0 (hc : X.calm = true) (hp : PassesOwn (model X.prog X.w) X.A X.env X.xe) (hg : Gl X "enumerate") (hm : X.mg "enumerate" = none) (h : WE X e σ L fun v L1 => ∃ t, v = .ref t ∧ SqTL X.K t [] L1 ∧ D.nx σ L1)
    (hs : starEach [e] X.env = [(false, eval e X.env)] := by rfl) (hf : ∀ x, foldedSetIterable (.Call (.Name "enumerate" p) [e] [] cpos) X.env x = pure x := by intro _; rfl) : WS X (.For (.Tuple elts kk tpos) (.Call (.Name "enumerate" p) [e] [] cpos) body [] pos) σ L D := by
  intro H hL pins s I
  refine wpAny_For ?_ hf
  refine Call_ (ld_blt (u := .type "enumerate") I hg hm (by rfl) (PyProof.Rows.callWith_type1 ?_ (by rw [hs]; rfl) (by rfl)))
  rw [hs]
  refine Calls.spliced_cons (wpAny_mono (h H hL pins s I) (fun u s1 hu => ?_) fun _ _ z => z)
  obtain ⟨v, H1, I1, r1, L1, hL1, t, rfl, ht, fin⟩ := hu
  refine Calls.spliced_nil ?_
  obtain rfl : u = Value.ref t := r1
  obtain ⟨its, rv, tp, hz⟩ := I1.tuple (ht H1 hL1)
  cases rv
  obtain ⟨o, ho, hcl, n, hd⟩ := tp
  have hT : s1.heap.IsTuple t #[] := ⟨o, ho, hcl, n, hd⟩
  have lt : t < s1.heap.objs.size := Heap.lt_size ho
  refine call_enumT hT fun h' en it keep => wpAny_pyIter_enum en ?_
  have hT' : h'.IsTuple t #[] := ⟨o, keep _ _ ho, hcl, n, hd⟩
  have W := (WalksT.enumerateD (Draws.tuple (prog := X.prog) (w := X.w) (A := X.A.in1) (I.ok.hd hc) s1.heap.objs.size t (Nat.ne_of_lt lt) #[]) (s1.heap.objs.size + 1) (Nat.succ_ne_self _) (fun z => by
    rcases List.mem_cons.mp z with z | z
    · exact Nat.succ_ne_self _ z
    · exact Nat.ne_of_gt (Nat.lt_succ_of_lt lt) (List.mem_singleton.mp z)) List.mem_cons_self)
  refine codeAny_forLoop_any (fun n s' => n = 0 ∧ s' = { s1 with heap := h' }) ?_ 0 ⟨rfl, rfl⟩
  rintro n s' ⟨_, rfl⟩
  refine wpAny_passesOwn hp (W.done _ _ _ ⟨⟨.none, en⟩, it, hT'⟩ fun h'' tk kp => ?_)
  have I2 : Inv X pins σ H1 { s1 with heap := h'', toks := tk } := I1.kept fun b q e => by
    have hb := Heap.lt_size e
    refine kp b q (fun z => ?_) (keep b q e)
    rcases List.mem_cons.mp z with z | z
    · exact absurd hb (by rw [z]; exact Nat.not_lt_of_gt (Nat.lt_succ_self _))
    · rw [List.mem_singleton.mp z] at hb
      exact Nat.lt_irrefl _ hb
  exact wpAny_execs_nil ⟨σ, H1, I2, L1, hL1, fin⟩
end
end N3
set_option Elab.async false
set_option linter.all false
set_option maxRecDepth 100000
set_option maxHeartbeats 4000000
/-! lcm, isinstance by many classes, sorted and tuple of texts, reversed, stars, t[::-1], truth -/
namespace PySem
open PySem.Calls PyProof.Rows
section
variable {prog : Program} {w : World} {A : Around} {E : Value → Shared → Prop} {s : Shared} {K : Type} [DecidableEq K] {knd : HeapKind prog w K}
theorem n3_truthy_dictH {d : Addr} {kvs : List (K × Addr × Value)} {Q : Bool → Shared → Prop} (hd : (d == sysModules) = false) (hm : s.heap.DictOfH knd d kvs) (hfit : (kvs.length : Int) < 2 ^ 63)
    (h : Q (!kvs.isEmpty) { s with toks := s.toks + 1 + 1 }) : wpAny (model prog w) A (truthy (.ref d)) Q E s := by
  have hne : ((kvs.length : Int) != 0) = !kvs.isEmpty := by cases kvs <;> simp <;> omega
  have key : wpAny (model prog w) A (runValue (.builtin "len" ⟨[.ref d], []⟩)) (fun r s' => r = .int kvs.length (s.toks + 1) ∧ Q (!kvs.isEmpty) s') E s := by
    refine wpAny_runValue (codeAny_builtin entry_len ?_)
    rw [Around.under_plainId plain_len _]
    exact wpAny_mono (wpAny_len_body_dictH (Q := fun r s' => r = .int kvs.length (s.toks + 1) ∧ Q (!kvs.isEmpty) s') hd hm hfit ⟨rfl, h⟩)
      (fun fin s' h' => by obtain ⟨r, rfl, hq⟩ := h'; exact hq) fun _ _ e => e
  unfold truthy
  first
    | refine wpAny_bind (wpAny_callSpecial?_none (name := Str.ofString "__bool__") hm.typeIs noBool_dict ?_)
    | refine wpAny_bind (wpAny_pure (wpAny_bind (wpAny_callSpecial?_none (name := Str.ofString "__bool__") hm.typeIs noBool_dict ?_)))
  first
    | refine wpAny_bind (wpAny_specialOf (name := Str.ofString "__len__") hm.typeIs F.slot_dict_len.lookup ?_)
    | refine wpAny_bind (wpAny_pure (wpAny_bind (wpAny_specialOf (name := Str.ofString "__len__") hm.typeIs F.slot_dict_len.lookup ?_)))
  first
    | exact wpAny_bind (wpAny_mono key (fun r s' h' => by obtain ⟨rfl, hq⟩ := h'; exact wpAny_pure (hne ▸ hq)) fun _ _ e => e)
    | exact wpAny_bind (wpAny_pure (wpAny_bind (wpAny_mono key (fun r s' h' => by obtain ⟨rfl, hq⟩ := h'; exact wpAny_pure (hne ▸ hq)) fun _ _ e => e)))
end
end PySem
namespace HT
open PySem PySem.Spec PyProof.Rows
section
variable {prog : Program} {w : World} {A : Around} {E : Value → Shared → Prop} {s : Shared}
theorem adjust_rev (n : Nat) : Builtin.Slice.sliceAdjust none none (-1) (n : Int) = ((n : Int) - 1, -1) := by
  unfold Builtin.Slice.sliceAdjust
  rfl
theorem places_rev (n : Nat) : Builtin.Slice.slicePlaces ((n : Int) - 1) (-1) (-1) = n := by
  unfold Builtin.Slice.slicePlaces
  have h1 : ¬ ((-1 : Int) > 0) := by decide
  simp only [h1, if_false]
  split
  · rename_i h
    rw [show (- -1 : Int) = 1 by decide, Int.ediv_one]
    omega
  · rename_i h
    omega
theorem sliceApplied_rev {sl : Addr} {vs : Value} {n : Nat} {Q : Int × Int × Nat → Shared → Prop} (hs : s.heap.IsSliceOf sl .none .none vs) (ps : IsPart vs (some (-1)))
    (h : Q ((n : Int) - 1, -1, n) s) : wpAny (model prog w) A (Builtin.Slice.sliceApplied (.ref sl) (pure (n : Int))) Q E s := by
  obtain ⟨os, hos, hcs, hds⟩ := id hs
  unfold Builtin.Slice.sliceApplied Builtin.Slice.sliceFields
  refine wpAny_bind (wpAny_bind (wpAny_field hos hds (x := .none) rfl (wpAny_bind (wpAny_field hos hds (x := .none) rfl (wpAny_bind (wpAny_field hos hds (x := vs) rfl (wpAny_pure ?_)))))))
  refine wpAny_bind (slicePart_ ps ?_)
  show wpAny _ _ (if ((-1 : Int) == 0) = true then _ else _) _ _ s
  rw [if_neg (by decide)]
  refine wpAny_bind (slicePart_ .none (wpAny_bind (slicePart_ .none (wpAny_bind (wpAny_pure ?_)))))
  show wpAny _ _ (match Builtin.Slice.sliceAdjust none none (-1) (n : Int) with | (lo, hi) => pure (lo, (-1 : Int), Builtin.Slice.slicePlaces lo hi (-1))) _ _ s
  rw [adjust_rev n]
  show wpAny _ _ (pure ((n : Int) - 1, (-1 : Int), Builtin.Slice.slicePlaces ((n : Int) - 1) (-1) (-1))) _ _ s
  rw [places_rev]
  exact wpAny_pure h
theorem pick_rev (xs : Array Value) : ((List.range xs.size).filterMap fun (m : Nat) => xs[(((xs.size : Nat) : Int) - 1 + (m : Int) * (-1)).toNat]?).toArray = xs.toList.reverse.toArray := by
  have e : (List.range xs.size).filterMap (fun (m : Nat) => xs[(((xs.size : Nat) : Int) - 1 + (m : Int) * (-1)).toNat]?) = ((List.range xs.size).map fun k => xs.size - 1 - k).filterMap (xs[·]?) := by
    rw [List.filterMap_map]
    congr 1
    funext m
    have : (((xs.size : Nat) : Int) - 1 + (m : Int) * (-1)).toNat = xs.size - 1 - m := by omega
    rw [this]
    rfl
  rw [e, PySem.W.krv_range, List.filterMap_reverse, PySem.W.krv_all]
theorem getItem_tuple_rev {t sl : Addr} {items : Array Value} {vs : Value} {Q : Value → Shared → Prop} (ht : IsTup s.heap t items) (hs : s.heap.IsSliceOf sl .none .none vs) (ps : IsPart vs (some (-1)))
    (h : Q (.ref s.heap.objs.size) { s with heap := s.heap.push { cls := .type "tuple", data := .seq items.toList.reverse.toArray } })
    (hsz : items.size ≤ sizeLine) : wpAny (model prog w) A (getItem (.ref t) (.ref sl)) Q E s := by
  have htake : sizeOk (.seq items.toList.reverse.toArray) := by
    show items.toList.reverse.toArray.size ≤ sizeLine
    simpa using hsz
  obtain ⟨os, hos, hcs, hds⟩ := id hs
  have hTs : s.TypeIs (.ref sl) "slice" := ⟨os, hos, hcs⟩
  unfold getItem
  try with_reducible refine wpAny_holding ?_
  first | refine wpAny_bind (wpAny_pure ?_) | skip
  refine wpAny_bind (wpAny_sequenceKey ht.typeIs (by decide) ?_)
  refine wpAny_bind (wpAny_callSpecial?_slot (name := Str.ofString "__getitem__") ht.typeIs PyProof.Rows.slot_tuple_getitem
    (wpAny_call_entry PyProof.Rows.slot_tuple_getitem ht.typeIs entry_tuple_getitem ?_ (args_tuple_getitem _ _)))
  show wpAny _ _ (Builtin.Tuple.tupleItemsOf (.ref t) >>= _) _ _ s
  refine wpAny_bind (tupleItemsOf_ ht ?_)
  refine wpAny_bind (wpAny_typeOf hTs ?_)
  rw [if_pos (by decide)]
  refine wpAny_bind (sliceApplied_rev hs ps ?_)
  show wpAny _ _ (if ((((items.size : Nat) : Int) - 1 == 0) && (-1 : Int) == 1 && items.size == items.size) = true then _ else _) _ _ s
  rw [if_neg (by rw [show ((-1 : Int) == 1) = false by decide, Bool.and_false, Bool.false_and]; decide), pick_rev]
  first
    | exact wpAny_bind (m := Builtin.Tuple.tupleExact _) (wpAny_newObj_type (wpAny_pure ⟨_, rfl, wpAny_pure h⟩) htake)
    | exact wpAny_bind (m := Builtin.Tuple.tupleExact _) (wpAny_newObj_type (wpAny_bind (wpAny_pure (wpAny_pure ⟨_, rfl, wpAny_pure h⟩))) htake)
    | exact wpAny_bind (wpAny_bind (m := Builtin.Tuple.tupleExact _) (wpAny_newObj_type (wpAny_pure (wpAny_pure ⟨_, rfl, wpAny_pure h⟩)) htake))
    | exact wpAny_bind (wpAny_bind (m := Builtin.Tuple.tupleExact _) (wpAny_newObj_type (wpAny_pure ⟨_, rfl, wpAny_pure h⟩) htake))
end
end HT
namespace N3
open PySem PySem.Spec PyProof.Rows L2
def tRevT (K : PySem.W.Frag) (te : TE) : TE := fun σ H Q => te σ H fun x H1 => ∃ a xs, x = .ref a ∧ SqT K H1 a xs ∧ ∀ p, H1 p = none → Q (.ref p) (upd H1 p (.tup xs.reverse))
section
variable {X : Cx}
theorem pe_revT {e : Expr} {te : TE} {k : Nat} {p1 p2 p3 pos : Pos} (he : PE X e te) : PE X (.Subscript e (.Slice none none (some (.UnaryOp .USub (.Constant (.int 1) k p1) p2)) p3) pos) (tRevT X.K te) := by
  refine ⟨fun pins s σ H Q I h => ?_⟩
  refine Subscript_ (thn (he.run pins s σ H _ I h) fun v s1 ⟨x, H1, I1, r1, q1⟩ => ?_)
  obtain ⟨a, xs, ex, hx, q⟩ := q1
  subst ex
  cases r1
  have hst : PO X (some (.UnaryOp .USub (.Constant (.int 1) k p1) p2)) (tPart (tUn (rU fun i => .int (-i)) (tC (.int 1)))) := po_some (pe_un un_neg pe_int)
  refine wpAny_Slice (thn (po_none.run pins s1 σ H1 (fun o H2 => o = none ∧ H2 = H1) I1 ⟨rfl, rfl⟩) fun vl s2 ⟨l, H2, I2, pl, el, e2⟩ => ?_)
  subst el e2
  refine thn (po_none.run pins s2 σ H2 (fun o H3 => o = none ∧ H3 = H2) I2 ⟨rfl, rfl⟩) fun vu s3 ⟨u, H3, I3, pu, eu, e3⟩ => ?_
  subst eu e3
  refine thn (hst.run pins s3 σ H3 (fun o H4 => o = some (-1) ∧ H4 = H3) I3 ⟨1, rfl, -1, rfl, rfl, rfl⟩) fun vs s4 ⟨o, H4, I4, ps, eo, e4⟩ => ?_
  subst eo e4
  have I5 : Inv X pins σ H4 { s4 with heap := s4.heap.push { cls := .type "slice", data := .fields #[vl, vu, vs] } } := I4.kept (t' := s4.toks) fun b ob q => Heap.get?_push_of_some _ q
  obtain ⟨its, r, ht, hz⟩ := I5.tuple hx
  have hlen := r.length
  cases pl
  cases pu
  show wpAny (model X.prog X.w) X.A (subscriptTail e (.Slice none none (some (.UnaryOp .USub (.Constant (.int 1) k p1) p2)) p3) (.ref a) (.ref s4.heap.objs.size)) (EP X pins σ Q) X.xe { s4 with heap := s4.heap.push { cls := .type "slice", data := .fields #[.none, .none, vs] } }
  refine tail_any (ops := [.ref a, .ref s4.heap.objs.size]) ht.typeIs (PyProof.Rows.slot_tuple_getitem.lookup) ?_ (by with_unfolding_all rfl)
  refine HT.getItem_tuple_rev ht (Heap.IsSliceOf.new _ .none .none vs) ps ?_ (by rw [List.size_toArray]; omega)
  refine ⟨.ref _, _, I5.laid (t' := s4.toks) (o := .tup xs.reverse) (fun b ob q => Heap.get?_push_of_some _ q) (Nat.le_refl _) ?_, rfl, q _ (I5.hok.fresh (Nat.le_refl _))⟩
  exact ⟨by rw [List.length_reverse]; exact hz, _, r.reverse, IsTup.new _ _⟩
/-- sorted(t), a tuple of fewer than 64 texts -/
theorem call_sortedTS : CallR X (.builtin "sorted") (fun xs H Q => ∃ (a : Addr) (ks : List Str), xs = [.ref a] ∧ SqT X.K H a (ks.map V.str) ∧ ks.length < 64 ∧
    ∀ ys p, ys.Perm ks → sortedS ys = true → H p = none → Q (.ref p) (upd H p (.lst (ys.map V.str)))) := by
  intro pins s σ H xs us Q I r q
  obtain ⟨a, ks, ex, hd, h64, q⟩ := q
  subst ex
  obtain ⟨u, eu, rx⟩ := vals1 r
  subst eu
  cases rx
  obtain ⟨its, rv, pl, hz⟩ := I.tuple hd
  obtain ⟨o, ho, hc, n, hda⟩ := pl
  have hS := rv.strs
  have hal : its.length = ks.length := by
    have := rv.length
    rw [List.length_map] at this
    exact this.symm
  refine Calls.call_function_entry PyProof.Rows.kind_sorted PyProof.Rows.plain_sorted PyProof.Rows.entry_sorted (PyProof.Rows.args_sorted1 _) ?_
  unfold Builtin.«sorted»
  refine wpAny_bind (m := checkCount "sorted" 1 1 _) (wpAny_pure ?_)
  refine wpAny_bind (wpAny_collect_seq a (.inr rfl) ho hc hda (fun h' hk => ?_) (by rw [List.size_toArray, hal, sizeLine_eq]; omega))
  have e0 : its.toArray.toList = its := by simp
  rw [e0]
  have I1 : Inv X pins σ H { s with heap := h', toks := s.toks } := I.kept hk
  refine wpAny_bind (wpAny_newList ?_ (by rw [hal, sizeLine_eq]; omega))
  have hoL : (h'.push (seqObj "list" its.toArray 0)).get? h'.objs.size = some (seqObj "list" its.toArray 0) := Heap.get?_push_size _ rfl
  show wpAny _ _ _ _ _ { s with heap := h'.push (seqObj "list" its.toArray 0), toks := s.toks }
  refine wpAny_bind (wpAny_holding (wpAny_call_entry PyProof.Rows.slot_list_sort ⟨_, hoL, rfl⟩ PyProof.Rows.entry_list_sort
    (list_sort_treeK strKind_oneLt (s := { s with heap := h'.push (seqObj "list" its.toArray 0), toks := s.toks }) hoL hS.keysOf (fun v₁ v₂ rest e => keyKind_strs (by rw [← e]; exact hS)) (by rw [hal]; exact h64) fun st' hp hs => ⟨_, rfl, ?_⟩)
    (PyProof.Rows.args_list_sort _)))
  obtain ⟨ys, g1, g2, g3⟩ := sorted_out_str hS hp hs
  obtain ⟨e', he'⟩ := PyProof.Rows.sortedHeap_at (vs := its) (out := (arrOf st').map (·.2)) hoL
  have hlen : (ys.map V.str).length ≤ sizeLine := by
    rw [List.length_map, g2.length_eq]
    exact Nat.le_trans (Nat.le_of_lt h64) (by decide)
  refine wpAny_pure ⟨_, rfl, .ref h'.objs.size, upd H h'.objs.size (.lst (ys.map V.str)), I1.laid (t' := s.toks) (fun b u e => ?_) (Nat.le_refl _)
    (show ObjOk X.prog X.w _ _ _ (.lst (ys.map V.str)) from ⟨hlen, ((arrOf st').map (·.2)).toList, e', vals_of_strs g1, by rw [Array.toArray_toList]; exact he'⟩), rfl, q ys _ g2 g3 (I1.hok.fresh (Nat.le_refl _))⟩
  have hb : b < h'.objs.size := Heap.lt_size e
  rw [PyProof.Rows.sortedHeap_old (Nat.ne_of_lt hb) (by rw [size_push']; exact Nat.lt_succ_of_lt hb)]
  exact Heap.get?_push_of_some _ e
end
section
variable {X : Cx} {e a : Expr} {es : List Expr} {tg : Expr} {σ : L2.St} {L : LH} {K : V → LH → Prop} {KT : Bool → LH → Prop} {KA : List V → LH → Prop} {S : SK} {pos p p1 p2 p3 : Pos} {k : Nat}
theorem we_revT (h : WE X e σ L fun x L1 => ∃ q xs, x = .ref q ∧ SqTL X.K q xs L1 ∧ ∀ p, K (.ref p) ((p, .tup xs.reverse) :: L1)) : WE X (.Subscript e (.Slice none none (some (.UnaryOp .USub (.Constant (.int 1) k p1) p2)) p3) pos) σ L K :=
  we_of (pe_revT pe_sem) fun _ hL => e_then h hL fun _ L1 H1 h1 ⟨q, xs, ex, sq, k⟩ => ⟨q, xs, ex, sq H1 h1, fun p hp => ⟨_, h1.new hp, k p⟩⟩
theorem wc_lcm {i j : Int} (hi : i.natAbs < 2 ^ 64) (hj : j.natAbs < 2 ^ 64) (k : K (.int ((Nat.lcm i.natAbs j.natAbs : Nat) : Int)) L) : WC X (.builtin "math.lcm") [.int i, .int j] L K := by
  intro H hL pins s σ us I r
  obtain ⟨u1, u2, rfl, r1, r2⟩ := vals2 r
  obtain ⟨t1, rfl⟩ := r1
  obtain ⟨t2, rfl⟩ := r2
  have e : Nat.lcm 1 i.natAbs = i.natAbs := Nat.lcm_one_left _
  refine PySem.W.mg_lcm_v hi hj (c := ((Nat.lcm i.natAbs j.natAbs : Nat) : Int)) (by rw [e]) ?_ ⟨.int _, H, I.tok _, ⟨_, rfl⟩, L, hL, k⟩
  have h1 : Nat.lcm i.natAbs j.natAbs ≤ i.natAbs * j.natAbs := by
    unfold Nat.lcm
    exact Nat.div_le_self _ _
  have h2 : i.natAbs * j.natAbs < 2 ^ 64 * 2 ^ 64 := Nat.mul_lt_mul'' hi hj
  have h3 : Nat.lcm i.natAbs j.natAbs < 2 ^ 128 := by
    have : (2 : Nat) ^ 64 * 2 ^ 64 = 2 ^ 128 := by decide
    omega
  have h4 : (Nat.lcm i.natAbs j.natAbs).log2 < 128 := PySem.Flt.log2_lt_of (by decide) h3
  have h5 : (128 : Nat) ≤ bitsLine := by decide
  simp only [Int.natAbs_natCast]
  omega
theorem wc_isiT {v : V} {tp : Addr} {cs : List V} {us : List Value} {t : Value} {r : Bool} (m : Mem tp (.tup cs) L) (hc : Paired ClsV cs us) (ht : TyL X.K v t L) (hk : PySem.W.kitAny X.K t us = some r) (k : K (.bl r) L) : WC X (.builtin "isinstance") [v, .ref tp] L K :=
  wc_of call_isiT fun H hL => ⟨v, tp, cs, t, us, r, rfl, hL.get m, hc, ht H hL, hk, L, hL, k⟩
theorem wc_sortedS {q : Addr} {xs : List Str} (h : SqLL X.K q (xs.map V.str) L) (hl : xs.length < 64) (k : ∀ ys p, ys.Perm xs → sortedS ys = true → K (.ref p) ((p, .lst (ys.map V.str)) :: L)) : WC X (.builtin "sorted") [.ref q] L K :=
  wc_of cr_sortedS fun H hL => ⟨q, xs, rfl, h H hL, hl, fun ys p h1 h2 hp => ⟨_, hL.new hp, k ys p h1 h2⟩⟩
theorem wc_sortedTS {q : Addr} {xs : List Str} (h : SqTL X.K q (xs.map V.str) L) (hl : xs.length < 64) (k : ∀ ys p, ys.Perm xs → sortedS ys = true → K (.ref p) ((p, .lst (ys.map V.str)) :: L)) : WC X (.builtin "sorted") [.ref q] L K :=
  wc_of call_sortedTS fun H hL => ⟨q, xs, rfl, h H hL, hl, fun ys p h1 h2 hp => ⟨_, hL.new hp, k ys p h1 h2⟩⟩
theorem wc_tupOf {q : Addr} {xs : List V} (h : SqLL X.K q xs L) (k : ∀ p, K (.ref p) ((p, .tup xs) :: L)) : WC X (.type "tuple") [.ref q] L K :=
  wc_of call_tuple_of fun H hL => ⟨q, xs, rfl, .inl ⟨h H hL, fun l hl => ⟨_, hL.new hl, k l⟩⟩⟩
theorem wc_lenTup {q : Addr} {xs : List V} (h : SqTL X.K q xs L) (k : K (.int (xs.length : Int)) L) : WC X (.builtin "len") [.ref q] L K := wc_of call_len_seq fun H hL => ⟨q, xs, rfl, .inr (h H hL), L, hL, k⟩
theorem wc_listTup {q : Addr} {xs : List V} (h : SqTL X.K q xs L) (k : ∀ p, K (.ref p) ((p, .lst xs) :: L)) : WC X (.type "list") [.ref q] L K := wc_of call_list_of fun H hL => ⟨q, xs, rfl, .inr (h H hL), fun p hp => ⟨_, hL.new hp, k p⟩⟩
theorem wi_rev (hg : Gl X "reversed") (hm : X.mg "reversed" = none) (h : WA X [e] σ L fun vs L1 => ∃ q xs, vs = [.ref q] ∧ SqLL X.K q xs L1 ∧ S xs.length (SqLL X.K q xs) (fun i L v L' => L' = L ∧ xs[xs.length - 1 - i]? = some v) L1)
    (hst : starEach [e] X.env = [(false, eval e X.env)] := by rfl) : WI X tg (.Call (.Name "reversed" p) [e] [] pos) σ L S :=
  ⟨_, pi_reversed hg hm pa_sem hst, fun _ hL R k => a_then h hL fun _ L1 H1 h1 ⟨q, xs, ex, sq, s⟩ => ⟨q, xs, ex, sq H1 h1, k _ L1 H1 _ _ _ h1 (⟨_, _, walk_rev, fun L H g hL => g H hL, fun i L H v H' _ hL y => ⟨L, by rw [y.1]; exact hL, rfl, y.2⟩⟩) s⟩⟩
theorem wa_star (h : WE X e σ L fun x L1 => ∃ q xs, x = .ref q ∧ (SqTL X.K q xs L1 ∨ SqLL X.K q xs L1) ∧ WA X es σ L1 fun vs L2 => KA (xs ++ vs) L2)
    (he : starEach (.Starred e p :: es) X.env = (true, eval e X.env) :: starEach es X.env := by rfl) : WA X (.Starred e p :: es) σ L KA :=
  wa_of (StX.pa_star pe_sem pa_sem he) fun _ hL => e_then h hL fun _ L1 H1 h1 ⟨q, xs, ex, sq, k⟩ => ⟨q, xs, ex, sq.imp (fun z => z H1 h1) (fun z => z H1 h1), a_then k h1 fun _ L2 _ h2 k2 => ⟨L2, h2, k2⟩⟩
/-- a test by the truth of a row -/
theorem wt_row (h : WE X a σ L fun x L1 => ∃ q xs, x = .ref q ∧ (SqTL X.K q xs L1 ∨ SqLL X.K q xs L1) ∧ KT (!xs.isEmpty) L1)
    (he : ∀ whole, isTrue a X.env whole = (do let v ← whole; standAt a.pos; holding [v] (truthy v)) := by intro _; rfl) : WT X a σ L KT :=
  wt_of (pt_truth pe_sem he) fun _ hL => e_then h hL fun _ L1 H1 h1 ⟨q, xs, ex, sq, k⟩ => ⟨_, by
    subst ex
    exact sq.elim (fun z => .inr (.inl ⟨xs, z H1 h1, rfl⟩)) fun z => .inl ⟨xs, z H1 h1, rfl⟩, L1, h1, k⟩
/-- a test by the truth of a dict whose keys are tuples -/
theorem tru_dT : TruR X (fun x H Q => ∃ (p : Addr) (kvs : List (TKey × V)), x = .ref p ∧ H p = some (.dT kvs) ∧ Q (!kvs.isEmpty) H) := by
  intro pins s σ H x v Q I rx h
  obtain ⟨p, kvs, rfl, hp, q⟩ := h
  cases rx
  obtain ⟨z, hd, ys, rel, dd⟩ := dt_of I.hok hp
  have hl : kvs.length = ys.length := Paired.length rel
  refine n3_truthy_dictH hd dd (by rw [← hl]; rw [sizeLine_eq] at z; omega) ?_
  have e : (!ys.isEmpty) = !kvs.isEmpty := by cases kvs <;> cases ys <;> simp at hl ⊢
  rw [e]
  exact ⟨H, I.tok _, q⟩
theorem pt_truthR3 {ta : TE} {r : V → Hp → (Bool → Hp → Prop) → Prop} (ha : PE X a ta) (hr : TruR X r) (he : ∀ whole, isTrue a X.env whole = (do let v ← whole; standAt a.pos; holding [v] (truthy v))) :
    PT X a (fun σ H Q => ta σ H fun x H' => r x H' Q) := by
  refine ⟨fun pins s σ H Q I h => ?_⟩
  exact isTrue_plain (thn (ha.run pins s σ H _ I h) fun v s1 ⟨x, H1, I1, r1, q1⟩ => hr pins s1 σ H1 x v Q I1 r1 q1) (he _)
theorem wt_dT (h : WE X a σ L fun x L1 => ∃ q kvs, x = .ref q ∧ Mem q (.dT kvs) L1 ∧ KT (!kvs.isEmpty) L1)
    (he : ∀ whole, isTrue a X.env whole = (do let v ← whole; standAt a.pos; holding [v] (truthy v)) := by intro _; rfl) : WT X a σ L KT :=
  wt_of (pt_truthR3 pe_sem tru_dT he) fun _ hL => e_then h hL fun _ L1 H1 h1 ⟨q, kvs, ex, m, k⟩ => ⟨q, kvs, ex, h1.get m, L1, h1, k⟩
end
end N3
set_option Elab.async false
set_option linter.all false
set_option maxRecDepth 100000
set_option maxHeartbeats 4000000
/-! sorted of rows (length, texts, int, int) -/
namespace N3
open PySem PySem.Spec PyProof.Rows L2
/-- a row's place, its tuple of texts, its two ints -/
abbrev Row4 := Addr × Addr × List Str × Int × Int
def enc4 (t : Row4) : PyData := .tuple [.int t.2.2.1.length, tpD t.2.2.1, .int t.2.2.2.1, .int t.2.2.2.2]
theorem alike_int (i j : Int) : PySem.W.alike (.int i) (.int j) = true := by simp [PySem.W.alike]
theorem alike_4 (a b : Row4) : PySem.W.alike (enc4 a) (enc4 b) = true := by
  unfold enc4
  rw [PySem.W.alike, PySem.W.alikeAll, PySem.W.alikeAll, PySem.W.alikeAll, PySem.W.alikeAll, PySem.W.alikeAll, alike_int, alike_tp, alike_int, alike_int]
  rfl
theorem lt_4 {a b : Row4} (h : ltP a.2.2.1 b.2.2.1) : PySem.W.dataLt (enc4 a) (enc4 b) = true := by
  unfold enc4
  rw [PySem.W.dataLt_tuple, PySem.W.dataLt_cons (alike_int _ _)]
  rcases h with h | ⟨h, h'⟩
  · rw [if_neg (by simp only [PyData.eqv, beq_iff_eq]; omega), PySem.W.dataLt_int]
    exact decide_eq_true (by omega)
  · rw [if_pos (by simp [PyData.eqv, h]), PySem.W.dataLt_cons (alike_tp _ _), eqv_tp, if_neg, lt_tp]
    · exact h'
    · intro e
      have e' : a.2.2.1 = b.2.2.1 := of_decide_eq_true e
      rw [e'] at h'
      exact (QM.lex_ord ltS_ord).irr _ h'
theorem sort_4 (l : List Row4) : (l.mergeSort (PySem.W.dataLe false enc4)).Pairwise (fun a b => ¬ ltP b.2.2.1 a.2.2.1) ∧ (l.mergeSort (PySem.W.dataLe false enc4)).Perm l := by
  have T := PySem.W.sortLe_total (PyProof.Rows.listOrd PyProof.Rows.itemOrd) false (fun b : Row4 => PySem.W.keyToks (enc4 b))
  refine ⟨(PySem.W.sort_pairwise (le := PySem.W.dataLe false enc4) T l).imp fun {a b} h z => ?_, List.mergeSort_perm ..⟩
  rw [PySem.W.dataLe_eq] at h
  have h' : (!PySem.W.dataLt (enc4 b) (enc4 a)) = true := h
  rw [lt_4 z] at h'
  cases h'
abbrev refs4 (ts : List Row4) : List V := ts.map fun t => V.ref t.1
def row4 (t : Row4) : HO := .tup [.int t.2.2.1.length, .ref t.2.1, .int t.2.2.2.1, .int t.2.2.2.2]
def Rows4 (ts : List Row4) (L : LH) : Prop := ∀ t ∈ ts, Mem t.1 (row4 t) L ∧ Mem t.2.1 (.tup (t.2.2.1.map V.str)) L
theorem each_refs4 : ∀ {ts : List Row4} {us : List Value}, Vals (refs4 ts) us → PySem.W.EachIs (fun (v : Value) (t : Row4) => v = .ref t.1) us ts
  | [], _, .nil => .nil
  | t :: ts, _, .cons r rr => .cons r (each_refs4 rr)
theorem refs4_each : ∀ {ts : List Row4} {us : List Value}, PySem.W.EachIs (fun (v : Value) (t : Row4) => v = .ref t.1) us ts → Vals (refs4 ts) us
  | _, _, .nil => .nil
  | _, _, .cons h t => .cons h (refs4_each t)
theorem each_all {R R' : Value → Row4 → Prop} : ∀ {us : List Value} {ts : List Row4}, PySem.W.EachIs R us ts → (∀ v t, t ∈ ts → R v t → R' v t) → PySem.W.EachIs R' us ts
  | _, _, .nil, _ => .nil
  | _, _, .cons h r, k => .cons (k _ _ List.mem_cons_self h) (each_all r fun v t ht => k v t (List.mem_cons_of_mem _ ht))
section
variable {X : Cx} {L : LH} {K : V → LH → Prop}
theorem call_sorted4 : CallR X (.builtin "sorted") (fun xs H Q => ∃ (l : Addr) (ts : List Row4), xs = [.ref l] ∧ H l = some (.lst (refs4 ts)) ∧ X.A.units + 10 < cLine ∧ (∀ t ∈ ts, H t.1 = some (row4 t) ∧ H t.2.1 = some (.tup (t.2.2.1.map V.str))) ∧
    ∀ ts' p, ts'.Perm ts → ts'.Pairwise (fun a b => ¬ ltP b.2.2.1 a.2.2.1) → H p = none → Q (.ref p) (upd H p (.lst (refs4 ts')))) := by
  intro pins s σ H xs us Q I r q
  obtain ⟨l, ts, ex, hd, hu, ht, q⟩ := q
  subst ex
  obtain ⟨u, eu, rx⟩ := vals1 r
  subst eu
  cases rx
  obtain ⟨its, rv, hl, hz⟩ := I.list (SqL.of hd)
  have hz2 : ts.length ≤ sizeLine := by simpa using hz
  have ev := each_refs4 rv
  have er : PySem.W.EachIs (fun (v : Value) (t : Row4) => ∃ as, Reads s.heap v (enc4 t) as) its ts := each_all ev fun v t hm e => by
    subst e
    obtain ⟨h1, h2⟩ := ht t hm
    obtain ⟨_, us1, r1, tp1⟩ := I.hok t.1 _ h1
    obtain ⟨_, us2, r2, tp2⟩ := I.hok t.2.1 _ h2
    cases r1 with
    | cons a1 r1 =>
      cases r1 with
      | cons a2 r1 =>
        cases r1 with
        | cons a3 r1 =>
          cases r1 with
          | cons a4 r1 =>
            cases r1
            obtain ⟨t1, rfl⟩ := a1
            cases a2
            obtain ⟨t3, rfl⟩ := a3
            obtain ⟨t4, rfl⟩ := a4
            obtain ⟨o, ho, hc, n, hdd⟩ := tp1
            exact ⟨[], .tuple ho hc hdd (.cons (bs := []) (as := []) (.int _ _) (.cons (bs := []) (as := []) (tup_reads r2 tp2) (.cons (bs := []) (as := []) (.int _ _) (.cons (bs := []) (as := []) (.int _ _) .nil))))⟩
  obtain ⟨srt, prm⟩ := sort_4 ts
  refine PySem.W.sorted_data (enc := enc4) hl.isList ev er (PySem.W.AllAlike.of alike_4) (PySem.W.Sortable.tuples fun t => ⟨_, _, rfl⟩) hz2 (fun t _ => ?_) fun out h1 h2 => ?_
  · have d := depth_txts t.2.2.1
    have : (enc4 t).depth ≤ 5 := by
      simp only [enc4, tpD, PyData.depth, PyData.depthAll]
      omega
    omega
  · obtain ⟨ep, he'⟩ := PyProof.Rows.sortedAll_at s.heap its out.toArray
    have hlen : (refs4 (ts.mergeSort (PySem.W.dataLe false enc4))).length ≤ sizeLine := by
      rw [List.length_map, prm.length_eq]
      exact hz2
    have rv2 := refs4_each h2
    refine ⟨.ref _, upd H (s.heap.objs.size + 1) (.lst (refs4 (ts.mergeSort (PySem.W.dataLe false enc4)))), I.laid (t' := s.toks) (fun _ _ => PyProof.Rows.sortedAll_old) (Nat.le_succ _) ⟨hlen, out, ep, rv2, he'⟩, rfl, q _ _ prm srt (I.hok.fresh (Nat.le_succ _))⟩
theorem wc_sorted4 {l : Addr} {ts : List Row4} (hu : X.A.units + 10 < cLine) (m : Mem l (.lst (refs4 ts)) L) (ht : Rows4 ts L)
    (k : ∀ ts' p, ts'.Perm ts → ts'.Pairwise (fun a b => ¬ ltP b.2.2.1 a.2.2.1) → K (.ref p) ((p, .lst (refs4 ts')) :: L)) : WC X (.builtin "sorted") [.ref l] L K :=
  wc_of call_sorted4 fun H hL => ⟨l, ts, rfl, hL.get m, hu, fun t hm => ⟨hL.get (ht t hm).1, hL.get (ht t hm).2⟩, fun ts' p h1 h2 hp => ⟨_, hL.new hp, k ts' p h1 h2⟩⟩
end
end N3
set_option Elab.async false
set_option linter.all false
set_option maxRecDepth 100000
set_option maxHeartbeats 4000000
/-! {e!r} where e is a list of pairs (an instance with an own __repr__, a tuple of texts) -/
namespace N3
open PySem PySem.Spec L2 PySem.Calls
section
variable {prog : Program} {w : World}
/-- an item is shown as t; what stands stays -/
def ReprS (prog : Program) (w : World) (St : Shared → Prop) (A : Around) (E : Value → Shared → Prop) (x : Value) (t : Str) : Prop :=
  ∀ (base : Nat), base + t.length ≤ sizeLine → ∀ (s : Shared) (Q : Str → Shared → Prop), St s → (∀ s', St s' → Q t s') → wpAny (model prog w) A (pyReprUnder base x) Q E s
inductive ReprAllS (prog : Program) (w : World) (St : Shared → Prop) (A : Around) (E : Value → Shared → Prop) : List Value → List Str → Prop
  | nil : ReprAllS prog w St A E [] []
  | cons {x : Value} {t : Str} {l : List Value} {ts : List Str} : ReprS prog w St A E x t → ReprAllS prog w St A E l ts → ReprAllS prog w St A E (x :: l) (t :: ts)
theorem ReprAllS.length_eq {St : Shared → Prop} {A : Around} {E : Value → Shared → Prop} : ∀ {l : List Value} {ts : List Str}, ReprAllS prog w St A E l ts → ts.length = l.length
  | _, _, .nil => rfl
  | _, _, .cons _ h => by simp [h.length_eq]
theorem tupFoldS {A : Around} {St : Shared → Prop} {E : Value → Shared → Prop} : ∀ (l : List Value) (ts : List Str) (acc : Array Str) (n : Nat) (s : Shared) (Q : (Array Str × Nat) → Shared → Prop), ReprAllS prog w St A E l ts → n + piled ts ≤ sizeLine →
    St s → (∀ s', St s' → Q ⟨acc ++ ts.toArray, n + piled ts⟩ s') → wpAny (model prog w) A (forIn l (⟨acc, n⟩ : (Array Str × Nat)) tupBody) Q E s := by
  intro l
  induction l with
  | nil =>
    intro ts acc n s Q hT _ hs h
    cases hT
    have h0 := h s hs
    simp only [List.forIn_nil]
    exact wpAny_pure (by simpa [piled] using h0)
  | cons x l ih =>
    intro ts acc n s Q hT hn hs h
    cases hT with
    | cons hx hl =>
      rename_i t ts'
      rw [piled_cons] at hn
      rw [List.forIn_cons]
      refine wpAny_bind (wpAny_bind (hx (n + 1) (by omega) _ _ hs fun s' hs' => wpAny_pure ?_))
      refine ih ts' (acc.push t) (n + (t.length + 2)) _ Q hl (by omega) hs' fun s'' hs'' => ?_
      have h1 := h s'' hs''
      have e : n + piled (t :: ts') = n + (t.length + 2) + piled ts' := by rw [piled_cons]; omega
      rw [e] at h1
      simpa using h1
theorem tuple_reprS {St : Shared → Prop} {A : Around} {E : Value → Shared → Prop} {g : List Code} {a : Addr} {items : List Value} {ts : List Str} (hg : A.guards = some g) (hca : Clear g a) (hu : A.units + 1 < cLine)
    (hat : ∀ s, St s → PyProof.Rows.IsTup s.heap a items.toArray) (htok : ∀ s tk, St s → St { s with toks := tk })
    (hT : ∀ base, ReprAllS prog w St (A.under (.builtin "tuple.__repr__.under" ⟨[.ref a, rawInt base], []⟩)) E items ts) : ReprS prog w St A E (.ref a) (tupleText ts) := by
  intro base hb s Q hs hQ
  obtain ⟨o, ho, hc, n, hd⟩ := hat s hs
  have hTy : s.TypeIs (.ref a) "tuple" := ⟨o, ho, hc⟩
  have hlen : ts.length = items.length := (hT base).length_eq
  have hp := piled_le_tupleText ts
  refine wpAny_pyReprUnder_ref (by omega) ?_
  refine wpAny_pyReprObjUnder_twin (twin := "tuple.__repr__.under") hTy F.slot_tuple_repr rfl (by omega) ?_
  refine call_twin_own (F.quiet_tuple_repr_under _) F.entry_tuple_repr_under F.check_tuple_repr_under hTy F.slot_tuple_repr (F.args_tuple_repr_1 _) ?_
  rw [tuple_repr_tree, tupleReprUnderWay_eq]
  refine wpOwn_bind (wpOwn_stackTailAny hg (tupGuardF_off _) (tupGuardF_pos _) ?_)
  have hn : (g.any fun c => tupGuardF (.ref a) (c, default)) = false := by
    rw [List.any_eq_false]
    intro c hcm
    rw [tupGuardF_of_clear hca c hcm]
    exact Bool.false_ne_true
  rw [hn]
  refine wpOwn_of_wpAny ?_
  show wpAny _ _ (tupleReprRest base (.ref a)) _ _ s
  unfold tupleReprRest Builtin.Tuple.tupleItemsOf
  refine wpAny_bind (wpAny_bind (wpAny_seqItems ho hd (wpAny_pure ?_)))
  rw [← Array.forIn_toList]
  refine wpAny_bind (tupFoldS _ ts _ _ _ _ (hT base) (by omega) hs fun s' hs' => ?_)
  refine wpAny_bind (wpAny_mkStr (wpAny_pure ?_) ?_)
  · have h1 := hQ _ (htok s' (s'.toks + 1) hs')
    refine ⟨⟨_, _, rfl⟩, ?_⟩
    refine ⟨_, _, rfl, ?_⟩
    simpa [tupleText, hlen] using h1
  · have hsz0 : (tupleText ts).length ≤ sizeLine := by omega
    simpa [tupleText, hlen] using hsz0
end
end N3
namespace N3
open PySem PySem.Spec L2 PySem.Calls
theorem room_tup {k : Nat} {A : Around} (r : Room (k + 1) A) (args : Args) : Room k (A.under (.builtin "tuple.__repr__.under" args)) := by
  have d : (A.under (.builtin "tuple.__repr__.under" args)).depth = A.depth + 1 := by first | rfl | simp [Around.under, Code.weight, Code.isCreation, Code.isGuard, Code.isCaller, Code.frames, Code.isFrame, guardIds]
  have u := units_under_tuple_repr_under A args
  refine ⟨r.hd, ?_, ?_⟩
  · have := r.dp
    rw [d]
    omega
  · have := r.un
    rw [u]
    omega
theorem repr_loopS {X : Cx} {pins : List (Addr × Obj)} {σ : L2.St} {L : LH} {a P : Addr} {xs : List V} {ts : List Str} {A : Around} {R : Result → Shared → Prop}
    (m : Mem a (.lst xs) L) (sl : xs.length = ts.length) (hsz : (listText ts).length ≤ sizeLine)
    (sh : ∀ (i : Nat) (x : V) (u : Value), xs[i]? = some x → RelV x u → ∃ t, ts[i]? = some t ∧ ReprS X.prog X.w (LoopR X pins σ L P ts i) (A.under (.builtin "list.__repr__.loop" ⟨[.ref a, rawInt i, .ref P, rawInt ((piled (ts.take i) : Nat) : Int)], []⟩)) (fun e s' => R (.error e) s') u t)
    (fin : ∀ s' u, LoopR X pins σ L P ts ts.length s' → R (.ok (.ret (.str (listText ts) u))) s') :
    ∀ (n i : Nat) (s : Shared), ts.length - i = n → i ≤ ts.length → LoopR X pins σ L P ts i s →
      codeAny (model X.prog X.w) A (.builtin "list.__repr__.loop" ⟨[.ref a, rawInt i, .ref P, rawInt ((piled (ts.take i) : Nat) : Int)], []⟩) R s := by
  have hp3 := piled_le_listText ts
  have hsz2 : ∀ t ∈ ts, t.length ≤ sizeLine := fun t ht => Nat.le_trans (listText_mem_le ht) hsz
  have hsz1 : ts.length ≤ sizeLine := by
    have h1 := (textFrom_len ts 0 "[").1
    rw [if_neg (Nat.lt_irrefl 0)] at h1
    have hX : (listText ts).length = (textFrom 0 "[" ts).length + 1 := by
      show (textFrom 0 "[" ts ++ "]").length = _
      rw [strLen_append]; rfl
    omega
  intro n
  induction n with
  | zero =>
    intro i s hn hi ⟨H, I, hL⟩
    have hin : i = ts.length := by omega
    subst hin
    obtain ⟨za, its, na, ra, ea⟩ := I.hok a _ (hL.get (.tail m))
    obtain ⟨zP, itp, np, rp, eP⟩ := I.hok P _ (hL.get .head)
    obtain ⟨done, e1, e2⟩ := strs_of rp
    refine codeAny_builtin F.entry_list_repr_loop ?_
    show wpAny _ _ (Builtin.«list.__repr__.loop» ⟨[.ref a, .int ts.length 0, .ref P, .int ((piled (ts.take ts.length) : Nat) : Int) 0], []⟩) _ _ s
    rw [repr_loop_tree]
    refine wpAny_bind (wpAny_listItems ea rfl ?_)
    have hnone : its.toArray[((ts.length : Nat) : Int).toNat]? = none := by
      have := ra.length
      simp
      omega
    simp only [hnone]
    unfold reprEnd
    refine wpAny_bind (wpAny_listItems eP rfl ?_)
    have e3 : itp.toArray.toList = strValues done := by rw [← e1]
    rw [e3, repr_fold]
    refine wpAny_bind (wpAny_pure ?_)
    have hall : done.map (·.1) = ts := by rw [e2, List.take_length]
    rw [hall]
    refine wpAny_bind (wpAny_mkStr (wpAny_pure ?_) hsz)
    exact fin _ _ ⟨H, I.tok _, hL⟩
  | succ n ih =>
    intro i s hn hi ⟨H, I, hL⟩
    have hlt : i < ts.length := by omega
    have hlx : i < xs.length := by rw [sl]; exact hlt
    obtain ⟨za, its, na, ra, ea⟩ := I.hok a _ (hL.get (.tail m))
    obtain ⟨u, hu, ru⟩ := ra.get (List.getElem?_eq_getElem hlx)
    obtain ⟨t, ht, hp⟩ := sh i _ u (List.getElem?_eq_getElem hlx) ru
    have hp1 := piled_take_succ ht
    have hp2 := piled_take_le ts (i + 1)
    refine codeAny_builtin F.entry_list_repr_loop ?_
    show wpAny _ _ (Builtin.«list.__repr__.loop» ⟨[.ref a, .int i 0, .ref P, .int ((piled (ts.take i) : Nat) : Int) 0], []⟩) _ _ s
    rw [repr_loop_tree]
    refine wpAny_bind (wpAny_listItems ea rfl ?_)
    have hsome : its.toArray[(i : Int).toNat]? = some u := by simpa using hu
    simp only [hsome]
    rw [Int.toNat_natCast]
    refine wpAny_bind (wpAny_holding (hp _ (by omega) s _ ⟨H, I, hL⟩ fun s1 hs1 => ?_))
    obtain ⟨H1, I1, h1⟩ := hs1
    refine wpAny_bind (wpAny_mkStr ?_ (hsz2 t (List.mem_of_getElem? ht)))
    refine wpAny_bind ?_
    show wpAny _ _ (updateSeq P _) _ _ _
    obtain ⟨zP, itp, np, rp, eP⟩ := I1.hok P _ (h1.get .head)
    have lp := rp.length
    rw [List.length_map, List.length_take] at lp
    refine wpAny_updateSeq (o := { cls := .type "list", data := .seq itp.toArray np }) eP rfl (wpAny_pure ⟨F.quiet_list_repr_loop _, ?_⟩) (by rw [List.size_toArray]; omega)
    have e1 : ((i : Int) + 1) = ((i + 1 : Nat) : Int) := by omega
    rw [e1]
    have e2 : piled (ts.take i) + (t.length + 2) = piled (ts.take (i + 1)) := by omega
    rw [e2]
    have hts : (ts.take (i + 1)).map V.str = (ts.take i).map V.str ++ [V.str t] := by
      rw [List.take_add_one, ht, List.map_append]
      rfl
    refine ih (i + 1) _ (by omega) hlt ⟨upd H1 P (.lst ((ts.take (i + 1)).map V.str)), ?_, h1.put .head⟩
    refine I1.write (e := P) (by rw [h1.get .head]; trivial) (.inl rfl) (fun b u hb e => (Heap.get?_update_other _ _ (fun h => hb h.symm)).trans e) ⟨_, Heap.get?_update_self _ eP rfl⟩ ?_
    have hv : Vals ((ts.take (i + 1)).map V.str) (itp ++ [Value.str t s1.toks]) := by
      rw [hts]
      exact rp.append (.cons ⟨_, rfl⟩ .nil)
    have hq : ∃ c, (s1.heap.update P (Obj.mapSeq fun x => x.push (Value.str t s1.toks))).get? P = some { cls := .type "list", data := .seq (itp ++ [Value.str t s1.toks]).toArray c } := by
      rw [Heap.get?_update_self (o := { cls := .type "list", data := .seq itp.toArray np }) _ eP rfl]
      exact ⟨_, by simp only [Obj.mapSeq, List.push_toArray]; rfl⟩
    obtain ⟨c, hq⟩ := hq
    exact ⟨by rw [List.length_map, List.length_take]; omega, _, c, hv, hq⟩
/-- the items: pairs of an instance with an own __repr__ and a tuple of texts -/
def PairsR (C : Addr) (pre : Pre) (L : LH) (xs : List V) (ts : List Str) : Prop :=
  xs.length = ts.length ∧ ∀ (i : Nat) (x : V), xs[i]? = some x → ∃ a o q dx fs t p, x = .ref a ∧ Mem a (.tup [.ref o, .ref q]) L ∧ Mem o (.ins C dx fs) L ∧ Mem q (.tup (List.map V.str p)) L ∧
    ts[i]? = some (tupleText [t, (tpD p).shown]) ∧ ∀ z, pre [.ref o] (z :: L) fun v L1 => v = .str t ∧ L1 = z :: L
theorem showable_txts : ∀ p : List Str, PyData.showableAll (p.map .str) = true
  | [] => by simp [PyData.showableAll]
  | x :: p => by
    rw [List.map_cons, PyData.showableAll, showable_txts p]
    simp [PyData.showable]
theorem reprK_txts {prog : Program} {w : World} {h : Heap} {d : Nat} : ∀ {p : List Str} {us : List Value}, Vals (p.map V.str) us → (∀ t ∈ PyData.shownAll (p.map .str), t.length ≤ sizeLine) → ReprAllK prog w [] h d us (PyData.shownAll (p.map .str))
  | [], _, .nil, _ => by rw [List.map_nil, PyData.shownAll]; exact .nil
  | x :: p, _, .cons r rr, hz => by
    obtain ⟨t, rfl⟩ := (show ∃ t, _ = Value.str x t from r)
    rw [List.map_cons, PyData.shownAll] at hz ⊢
    refine .cons ?_ (reprK_txts rr fun t ht => hz t (List.mem_cons_of_mem _ ht))
    have h1 := hz _ List.mem_cons_self
    simp only [PyData.shown] at h1 ⊢
    exact .of_is (ReprIs.str x t h1) _ _ _
/-- {e!r} -/
theorem we_fmtRPairs {X : Cx} {e : Expr} {σ : L2.St} {L : LH} {K : V → LH → Prop} {C : Addr} {k : Nat} {ps : List Str} {pre : Pre} {pos : Pos} (G : GOp X.prog X.w X.K X.mg X.base C "__repr__" k ps pre) (hr : Room (k + 4) X.A) (hgd : X.A.guards = some [])
    (h : WE X e σ L fun v L1 => ∃ a xs ts, v = .ref a ∧ Mem a (.lst xs) L1 ∧ PairsR C pre L1 xs ts ∧ (listText ts).length ≤ sizeLine ∧ K (.str (listText ts)) L1) : WE X (.FormattedValue e 114 none pos) σ L K := by
  intro H hL pins s I
  refine wpAny_FormattedValue_repr (thn (h H hL pins s I) fun v s1 ⟨x, H1, I1, r1, L1, h1, a, xs, ts, ex, m, sh, hsz, kk⟩ => ?_)
  subst ex
  obtain rfl : v = Value.ref a := r1
  obtain ⟨za, its, na, ra, ea⟩ := I1.hok a _ (h1.get m)
  have hlen := ra.length
  have hsh := sh.1
  have un := hr.units
  cases its with
  | nil =>
    have h0 : xs.length = 0 := hlen
    have ht0 : ts = [] := by
      cases ts with
      | nil => rfl
      | cons _ _ => rw [h0] at hsh; simp at hsh
    subst ht0
    have rr : Reads s1.heap (.ref a) (.list []) [a] := .list ea rfl rfl .nil
    have e1 : (PyData.list []).shown = listText [] := by simp only [PyData.shown, PyData.shownAll]
    have dep : (PyData.list []).depth = 1 := by simp [PyData.depth, PyData.depthAll]
    refine pyReprObj_of_reads rr (by simp [PyData.showable, PyData.showableAll]) (fun z => by simp [PyData.hasDict, PyData.hasDictAll] at z) hgd (by rw [dep]; omega) (fun _ _ z => z) (fun h' u tk kp => ?_) (by rw [e1]; exact hsz)
    have I2 : Inv X pins σ H1 { s1 with heap := h', toks := tk } := I1.kept kp
    rw [e1]
    exact wpAny_formatField_str ⟨.str _, H1, I2, ⟨u, rfl⟩, L1, h1, kk⟩ ⟨.str _, H1, I2.tok _, ⟨_, rfl⟩, L1, h1, kk⟩ hsz
  | cons y l =>
    refine wpAny_pyReprObj_slot (by omega) ⟨_, ea, rfl⟩ PySem.F.slot_list_repr.toG ?_
    refine wpAny_call (codeAny_call_builtin PySem.F.slot_list_repr.plain PySem.F.entry_list_repr (PySem.F.slot_list_repr.check _ _ _ _ _ _ _ _ ⟨_, ea, rfl⟩ (PySem.F.args_list_repr_1 _) ?_))
    refine wpAny_list_repr_head (b := 0) (A := X.A.in1) (g := []) hgd (fun v rest kw hm => (List.not_mem_nil hm).elim) ea rfl ?_
    refine wpAny_bind (m := newList []) (wpAny_newObj_type ?_)
    refine wpAny_pure ⟨PySem.F.quiet_list_repr_loop _, ?_⟩
    have hn : H1 s1.heap.objs.size = none := I1.hok.fresh (Nat.le_refl _)
    have fini : ∀ s' u, LoopR X pins σ L1 s1.heap.objs.size ts ts.length s' → wpAny (model X.prog X.w) X.A (formatField (.str (listText ts) u) Str.empty) (EP X pins σ (QE K)) X.xe s' := by
      rintro s' u ⟨H', I', hL'⟩
      exact wpAny_formatField_str ⟨.str _, H', I', ⟨u, rfl⟩, L1, hL'.drop, kk⟩ ⟨.str _, H', I'.tok _, ⟨_, rfl⟩, L1, hL'.drop, kk⟩ hsz
    refine repr_loopS (σ := σ) (pins := pins) (L := L1) (ts := ts) m hsh hsz (fun i x u hx ru => ?sh) ?fin ts.length 0 _ (by omega) (Nat.zero_le _) ⟨upd H1 s1.heap.objs.size (.lst []), ?inv, h1.new hn⟩
    case inv => exact I1.laid (o := .lst []) (fun b o e => Heap.get?_push_of_some _ e) (Nat.le_refl _) ⟨Nat.zero_le _, [], _, .nil, Heap.get?_push_size _ rfl⟩
    case fin =>
      intro s' u hs
      exact ⟨_, _, rfl, fini s' u hs⟩
    case sh =>
      obtain ⟨b, o, q, dx, fs, t, p, ex, mb, mo, mq, ht, hp⟩ := sh.2 i x hx
      subst ex
      obtain rfl : u = Value.ref b := ru
      refine ⟨_, ht, ?_⟩
      have hz0 : (tupleText [t, (tpD p).shown]).length ≤ sizeLine := Nat.le_trans (listText_mem_le (List.mem_of_getElem? ht)) hsz
      have hz1 : t.length ≤ sizeLine := Nat.le_trans (tupleText_mem_le List.mem_cons_self) hz0
      have hz2 : (tpD p).shown.length ≤ sizeLine := Nat.le_trans (tupleText_mem_le (List.mem_cons_of_mem _ List.mem_cons_self)) hz0
      have nba : b ≠ a := mem_ne h1.nd mb m (fun z => by cases z)
      have nqa : q ≠ a := mem_ne h1.nd mq m (fun z => by cases z)
      have nqb : q ≠ b := mem_ne h1.nd mq mb (fun z => by
        cases p with
        | nil => simp at z
        | cons x p => simp at z)
      have r1 := room_loop (k := k + 2) (hr.mono (by omega) : Room (k + 2 + 1) X.A) ⟨[.ref a, rawInt i, .ref s1.heap.objs.size, rawInt ((piled (ts.take i) : Nat) : Int)], []⟩
      have g1 : (X.A.under (.builtin "list.__repr__.loop" ⟨[.ref a, rawInt i, .ref s1.heap.objs.size, rawInt ((piled (ts.take i) : Nat) : Int)], []⟩)).guards = some [.builtin "list.__repr__.loop" ⟨[.ref a, rawInt i, .ref s1.heap.objs.size, rawInt ((piled (ts.take i) : Nat) : Int)], []⟩] := guards_under_guard (isGuard_list_loop _) hgd
      refine tuple_reprS (items := [.ref o, .ref q]) g1 ((Clear.nil b).cons (fun z => nba z.symm)) (by have := r1.units; omega) (fun s hs => ?_) (fun s tk ⟨H', I', hL'⟩ => ⟨H', I'.tok _, hL'⟩) (fun base => ?_)
      · obtain ⟨H', I', hL'⟩ := hs
        obtain ⟨_, us, rv, tp⟩ := I'.hok b _ (hL'.get (.tail mb))
        cases rv with
        | cons z1 rv => cases rv with
          | cons z2 rv =>
            cases rv
            cases z1
            cases z2
            exact tp
      · have r2 := room_tup (k := k + 1) r1 ⟨[.ref b, rawInt base], []⟩
        have g2 := guards_under_guard (isGuard_tuple_repr_under ⟨[.ref b, rawInt base], []⟩) g1
        refine .cons ?_ (.cons ?_ .nil)
        · intro base2 hb2 s2 Q2 hs2 hQ2
          obtain ⟨H', I', hL'⟩ := hs2
          obtain ⟨mA, J, _⟩ := ins_get I'.hok (hL'.get (.tail mo))
          obtain ⟨od, J, _⟩ := J.look
          obtain ⟨f, hsf, hf, hrun⟩ := run_op (A := (X.A.under (.builtin "list.__repr__.loop" ⟨[.ref a, rawInt i, .ref s1.heap.objs.size, rawInt ((piled (ts.take i) : Nat) : Int)], []⟩)).under (.builtin "tuple.__repr__.under" ⟨[.ref b, rawInt base], []⟩)) (us := [.ref o]) (vs := [.ref o]) G (r2.mono (by omega)) rfl hL' I' (.cons rfl .nil) (hp _)
          refine PySem.W.n3_under (by omega) r2.units0 I'.kIn J hsf hf (wpAny_mono hrun (fun v s3 hv => ?_) fun e s3 he => ?_)
          · obtain ⟨z, H2, I2, rz, L2, h2, ez, eL⟩ := hv
            subst ez eL
            obtain ⟨tk1, rfl⟩ := rz
            exact ⟨t, tk1, rfl, hQ2 _ ⟨H2, I2, h2⟩⟩
          · exact he
        · intro base2 hb2 s2 Q2 hs2 hQ2
          obtain ⟨H', I', hL'⟩ := hs2
          obtain ⟨_, us, rv, o2, ho2, hc2, n2, hd2⟩ := I'.hok q _ (hL'.get (.tail mq))
          have e1 : (tpD p).shown = tupleText (PyData.shownAll (p.map .str)) := by simp only [tpD, PyData.shown]
          rw [e1] at hb2 hQ2 hz2
          have KK : ReprK X.prog X.w [q] s2.heap 1 (.ref q) (tupleText (PyData.shownAll (p.map .str))) := ReprK.tuple ho2 hc2 hd2 (List.not_mem_nil) (by
            have := reprK_txts (prog := X.prog) (w := X.w) (h := s2.heap) (d := 0) rv (fun t ht => Nat.le_trans (tupleText_mem_le ht) hz2)
            simpa using this)
          refine KK base2 hb2 _ _ _ s2 Q2 g2 (fun c hc => ?_) (by have := r2.units; omega) (fun _ _ z => z) (fun h' tk kp => hQ2 _ ⟨H', I'.kept kp, hL'⟩)
          rw [List.mem_singleton.mp hc]
          exact ((Clear.nil q).cons (fun z => nqa z.symm)).cons (fun z => nqb z.symm)
end N3
set_option Elab.async false
set_option linter.all false
set_option maxRecDepth 100000
set_option maxHeartbeats 4000000
namespace K15
open PySem L2 N3
/-! ### the text by places -/
def top (i : Nat) : Stmt := PySem.Challenge.pw_notesums_k15_texts_of_questions.main.body.getD i (.Pass ⟨0, 0, 0, 0⟩)
abbrev sIsName : Stmt := top 13
abbrev sInOrder : Stmt := top 15
abbrev sIsInt : Stmt := top 18
abbrev sIsNum : Stmt := top 19
abbrev sAs : Stmt := top 20
abbrev sInit : Stmt := inClass (top 21) 0
abbrev sTop : Stmt := inClass (top 21) 2
abbrev sBot : Stmt := inClass (top 21) 3
abbrev sEq : Stmt := inClass (top 21) 11
abbrev sStr : Stmt := inClass (top 21) 12
abbrev sRepr : Stmt := inClass (top 21) 13
abbrev sIsLoN : Stmt := top 23
abbrev sIsTerm : Stmt := top 24
abbrev sComBot : Stmt := top 26
abbrev sAsQ : Stmt := top 27
abbrev sQOf : Stmt := top 28
abbrev sTermTx : Stmt := top 29
abbrev sSignTx : Stmt := top 30
abbrev sQInit : Stmt := inClass (top 31) 0
abbrev sOfKey : Stmt := inClass (top 31) 1
abbrev sConst : Stmt := inClass (top 31) 2
abbrev sTerms : Stmt := inClass (top 31) 3
abbrev sPlus : Stmt := inClass (top 31) 9
abbrev sQAdd : Stmt := inClass (top 31) 10
abbrev sQSub : Stmt := inClass (top 31) 11
abbrev sQNeg : Stmt := inClass (top 31) 13
abbrev sQStr : Stmt := inClass (top 31) 20
abbrev sQRepr : Stmt := inClass (top 31) 21
abbrev sRng : Stmt := top 33
abbrev sDraw : Stmt := top 34
abbrev sChoice : Stmt := top 35
abbrev sNames : Stmt := top 36
abbrev sCommon : Stmt := top 37
abbrev sLTerms : Stmt := top 38
abbrev sGF : Stmt := top 39
abbrev sPlain : Stmt := top 40
abbrev sLText : Stmt := top 41
abbrev sShown : Stmt := top 42
abbrev sMade : Stmt := top 43
abbrev sRight : Stmt := top 44
abbrev sLaw : Stmt := top 45
/-! ### the data -/
abbrev LETTERS : Str := "abcdefghijklmnopqrstuvwxyz"
abbrev CHARS : Str := "abcdefghijklmnopqrstuvwxyz0123456789"
abbrev qN : Str := "in_order.<locals>.<lambda>"
def ratF (n d : Int) : List (Str × V) := putF "_bottom" (.int d) (putF "_top" (.int n) [])
theorem bt : ¬ (("_bottom" : Str) = "_top") := by decide +kernel
theorem tb : ¬ (("_top" : Str) = "_bottom") := by decide +kernel
theorem ratF_top (n d : Int) : (ratF n d).lookup ("_top" : Str) = some (.int n) := by
  unfold ratF
  rw [lookup_putF, if_neg tb, lookup_putF, if_pos rfl]
theorem ratF_bot (n d : Int) : (ratF n d).lookup ("_bottom" : Str) = some (.int d) := by
  unfold ratF
  rw [lookup_putF, if_pos rfl]
def qF (d : Addr) (c : Int) : List (Str × V) := putF "_bottom" (.int c) (putF "_tops" (.ref d) [])
theorem tbs : ¬ (("_tops" : Str) = "_bottom") := by decide +kernel
theorem qF_tops (d : Addr) (c : Int) : (qF d c).lookup ("_tops" : Str) = some (.ref d) := by
  unfold qF
  rw [lookup_putF, if_neg tbs, lookup_putF, if_pos rfl]
theorem qF_bot (d : Addr) (c : Int) : (qF d c).lookup ("_bottom" : Str) = some (.int c) := by
  unfold qF
  rw [lookup_putF, if_pos rfl]
theorem qF_no (d : Addr) (c : Int) {m : Str} (h1 : ¬ m = "_bottom") (h2 : ¬ m = "_tops") : (qF d c).lookup m = none := by
  unfold qF
  rw [lookup_putF, if_neg h1, lookup_putF, if_neg h2]
  rfl
theorem qF_puts (d d' : Addr) (c : Int) : putF "_tops" (.ref d') (qF d c) = qF d' c := by
  simp [qF, putF, tbs]
theorem qF_putb (d : Addr) (c c' : Int) : putF "_bottom" (.int c') (qF d c) = qF d c' := by
  simp [qF, putF, tbs]
/-- what is known of the written part -/
structure Txt (K : PySem.W.Frag) (mg : Str → Option Value) (C Q : Addr) : Prop where
  cl : Cls K C
  nT : NoAttr K C "_top"
  nB : NoAttr K C "_bottom"
  ca : PySem.W.findIn K (.ref C) "__class__" = some (some (.builtin "object.__class__"))
  cn : PySem.W.specialIn K (.builtin "object.__class__") "__get__" = some (some (.builtin "getset_descriptor.__get__"))
  ct : PySem.W.takesIn K (.builtin "object.__class__") = some true
  cm : PySem.W.mroIn K C (.type "object") = some true
  qcl : Cls K Q
  qnT : NoAttr K Q "_tops"
  qnB : NoAttr K Q "_bottom"
  qca : PySem.W.findIn K (.ref Q) "__class__" = some (some (.builtin "object.__class__"))
  qcm : PySem.W.mroIn K Q (.type "object") = some true
  iCI : PySem.W.kitOne K (.ref C) (.type "int") = some false
  iCC : PySem.W.kitOne K (.ref C) (.ref C) = some true
  iIC : PySem.W.kitOne K (.type "int") (.ref C) = some false
  iQQ : PySem.W.kitOne K (.ref Q) (.ref Q) = some true
  nfC : PySem.W.notFirst K C (.ref C) = true
  mgC : mg "Ratio" = some (.ref C)
  mgQ : mg "Question" = some (.ref Q)
  mgcd : mg "gcd" = some (.builtin "math.gcd")
  mlcm : mg "lcm" = some (.builtin "math.lcm")
  mgL : ∃ t, mg "LETTERS" = some (.str LETTERS t)
  mgH : ∃ t, mg "CHARACTERS" = some (.str CHARS t)
  mgN : ∃ t, mg "LONGEST" = some (.int 8 t)
  bn : ∀ x, InS x ["isinstance", "int", "bool", "max", "min", "abs", "len", "str", "repr", "divmod", "range", "all", "list", "tuple", "sorted", "reversed", "enumerate"] → mg x = none
theorem Txt.ty {K : PySem.W.Frag} {mg : Str → Option Value} {C Q a dx : Addr} {fs : List (Str × V)} {L : LH} (T : Txt K mg C Q) (m : Mem a (.ins C dx fs) L) : TyL K (.ref a) (.ref C) L := fun _ hL => .base (.ins (hL.get m) T.cl T.ca T.cn T.ct T.cm)
theorem Txt.tyQ {K : PySem.W.Frag} {mg : Str → Option Value} {C Q a dx : Addr} {fs : List (Str × V)} {L : LH} (T : Txt K mg C Q) (m : Mem a (.ins Q dx fs) L) : TyL K (.ref a) (.ref Q) L := fun _ hL => .base (.ins (hL.get m) T.qcl T.qca T.cn T.ct T.qcm)
theorem ty_int {K : PySem.W.Frag} {i : Int} {L : LH} : TyL K (.int i) (.type "int") L := fun _ _ => .base (.int i)
theorem ty_str {K : PySem.W.Frag} {i : Str} {L : LH} : TyL K (.str i) (.type "str") L := fun _ _ => .base (.str i)
theorem ty_lst {K : PySem.W.Frag} {p : Addr} {xs : List V} {L : LH} (m : Mem p (.lst xs) L) : TyL K (.ref p) (.type "list") L := fun _ hL => .base (.lst (hL.get m))
theorem ty_tup {K : PySem.W.Frag} {p : Addr} {xs : List V} {L : LH} (m : Mem p (.tup xs) L) : TyL K (.ref p) (.type "tuple") L := fun _ hL => .base (.tup (hL.get m))
theorem boot_isi : bootBuiltins "isinstance" = some (.builtin "isinstance") := by decide +kernel
theorem boot_max : bootBuiltins "max" = some (.builtin "max") := by decide +kernel
theorem boot_min : bootBuiltins "min" = some (.builtin "min") := by decide +kernel
theorem boot_abs : bootBuiltins "abs" = some (.builtin "abs") := by decide +kernel
theorem boot_len : bootBuiltins "len" = some (.builtin "len") := by decide +kernel
theorem boot_repr : bootBuiltins "repr" = some (.builtin "repr") := by decide +kernel
theorem boot_divmod : bootBuiltins "divmod" = some (.builtin "divmod") := by decide +kernel
theorem boot_all : bootBuiltins "all" = some (.builtin "all") := by decide +kernel
theorem boot_sorted : bootBuiltins "sorted" = some (.builtin "sorted") := by decide +kernel
theorem boot_int : bootBuiltins "int" = some (.type "int") := by decide +kernel
theorem boot_bool : bootBuiltins "bool" = some (.type "bool") := by decide +kernel
theorem boot_str : bootBuiltins "str" = some (.type "str") := by decide +kernel
theorem boot_list : bootBuiltins "list" = some (.type "list") := by decide +kernel
theorem boot_tuple : bootBuiltins "tuple" = some (.type "tuple") := by decide +kernel
section
variable {N Vn Ln Gn : List Str} {sc : Scope} {X : Cx} {e : Expr} {σ : L2.St} {L : LH} {K : V → LH → Prop} {pos : Pos} {mg : Str → Option Value} {C Q : Addr} {i : Nat} {x : Str}
theorem x_bty {ty : String} (h : XOk N sc Vn Ln Gn X) (a : At x Gn i) (hm : X.mg x = none) (hv : bootBuiltins x = some (.type ty)) (k : K (.ty ty) L) : WE X (.Name x pos) σ L K := x_bltn (v := .ty ty) h a hm hv rfl k
theorem x_cls (T : Txt X.K X.mg C Q) (h : XOk N sc Vn Ln Gn X) (a : At "Ratio" Gn i) (k : K (.ref C) L) : WE X (.Name "Ratio" pos) σ L K := x_glob (v := .ref C) h a T.mgC rfl k
theorem x_clsQ (T : Txt X.K X.mg C Q) (h : XOk N sc Vn Ln Gn X) (a : At "Question" Gn i) (k : K (.ref Q) L) : WE X (.Name "Question" pos) σ L K := x_glob (v := .ref Q) h a T.mgQ rfl k
theorem x_gstr {z : Str} (hm : ∃ t, X.mg x = some (.str z t)) (h : XOk N sc Vn Ln Gn X) (a : At x Gn i) (k : K (.str z) L) : WE X (.Name x pos) σ L K := by
  obtain ⟨t, hm⟩ := hm
  exact x_glob (v := .str z) h a hm ⟨t, rfl⟩ k
theorem x_gint {z : Int} (hm : ∃ t, X.mg x = some (.int z t)) (h : XOk N sc Vn Ln Gn X) (a : At x Gn i) (k : K (.int z) L) : WE X (.Name x pos) σ L K := by
  obtain ⟨t, hm⟩ := hm
  exact x_glob (v := .int z) h a hm ⟨t, rfl⟩ k
theorem f_top (T : Txt X.K X.mg C Q) (h : WE X e σ L fun x L1 => ∃ a dx n d, x = .ref a ∧ Mem a (.ins C dx (ratF n d)) L1 ∧ K (.int n) L1) (hb : attributeBase e "_top" X.env (eval e X.env) = eval e X.env := by rfl) : WE X (.Attribute e "_top" pos) σ L K :=
  we_fld (fun H hL => e_then h hL fun x L1 H1 h1 ⟨a, dx, n, d, ex, m, k⟩ => ⟨L1, h1, a, C, dx, _, _, ex, m, T.cl, T.nT, ratF_top n d, k⟩) hb
theorem f_bot (T : Txt X.K X.mg C Q) (h : WE X e σ L fun x L1 => ∃ a dx n d, x = .ref a ∧ Mem a (.ins C dx (ratF n d)) L1 ∧ K (.int d) L1) (hb : attributeBase e "_bottom" X.env (eval e X.env) = eval e X.env := by rfl) : WE X (.Attribute e "_bottom" pos) σ L K :=
  we_fld (fun H hL => e_then h hL fun x L1 H1 h1 ⟨a, dx, n, d, ex, m, k⟩ => ⟨L1, h1, a, C, dx, _, _, ex, m, T.cl, T.nB, ratF_bot n d, k⟩) hb
theorem f_tops (T : Txt X.K X.mg C Q) (h : WE X e σ L fun x L1 => ∃ a dx d c, x = .ref a ∧ Mem a (.ins Q dx (qF d c)) L1 ∧ K (.ref d) L1) (hb : attributeBase e "_tops" X.env (eval e X.env) = eval e X.env := by rfl) : WE X (.Attribute e "_tops" pos) σ L K :=
  we_fld (fun H hL => e_then h hL fun x L1 H1 h1 ⟨a, dx, n, d, ex, m, k⟩ => ⟨L1, h1, a, Q, dx, _, _, ex, m, T.qcl, T.qnT, qF_tops n d, k⟩) hb
theorem f_qbot (T : Txt X.K X.mg C Q) (h : WE X e σ L fun x L1 => ∃ a dx d c, x = .ref a ∧ Mem a (.ins Q dx (qF d c)) L1 ∧ K (.int c) L1) (hb : attributeBase e "_bottom" X.env (eval e X.env) = eval e X.env := by rfl) : WE X (.Attribute e "_bottom" pos) σ L K :=
  we_fld (fun H hL => e_then h hL fun x L1 H1 h1 ⟨a, dx, n, d, ex, m, k⟩ => ⟨L1, h1, a, Q, dx, _, _, ex, m, T.qcl, T.qnB, qF_bot n d, k⟩) hb
end
theorem len_line {n : Nat} (h : n ≤ 1000 := by decide) : n ≤ sizeLine := Nat.le_trans h (by rw [sizeLine_eq]; decide)
theorem len_lt {n : Nat} (h : n < 1000) : n < sizeLine := Nat.lt_of_lt_of_le h (by rw [sizeLine_eq]; decide)
/-! ### names -/
def isNm (x : Str) : Bool := decide (1 ≤ x.length) && decide (x.length ≤ 8) && (match x.cps.toList with | c :: _ => decide (c ∈ LETTERS.cps.toList) | [] => false) && x.cps.toList.all fun c => decide (c ∈ CHARS.cps.toList)
/-! numbers -/
def sg (t b : Int) : Int := if b < 0 then -((Nat.gcd t.natAbs b.natAbs : Nat) : Int) else ((Nat.gcd t.natAbs b.natAbs : Nat) : Int)
def nT (t b : Int) : Int := t.fdiv (sg t b)
def nB (t b : Int) : Int := b.fdiv (sg t b)
theorem sg_ne {t b : Int} (h : b ≠ 0) : sg t b ≠ 0 := by
  have g : 0 < Nat.gcd t.natAbs b.natAbs := Nat.gcd_pos_of_pos_right _ (by omega)
  unfold sg
  split <;> omega
theorem sg_le {t b : Int} (h : b ≠ 0) : (sg t b).natAbs ≤ b.natAbs := by
  have g : Nat.gcd t.natAbs b.natAbs ≤ b.natAbs := Nat.gcd_le_right _ (by omega)
  unfold sg
  split <;> omega
/-- // by any divisor below 2 ^ 9000 -/
def CDivZ (_ j : Int) : Prop := j ≠ 0 ∧ j.natAbs.log2 < 9000
theorem op_fdivZ {X : Cx} : OpR X (binaryOp .FloorDiv) (rI CDivZ fun i j => .int (i.fdiv j)) := opI fun _ _ _ _ _ _ _ hc q => PyProof.Rows.floordiv_int hc.1 q (.inl (PyProof.noPylong_of_log2 hc.2))
theorem wo_fdivZ {X : Cx} {i j : Int} {L : LH} {Kk : V → LH → Prop} (hc : CDivZ i j) (k : Kk (.int (i.fdiv j)) L) : WO X (binaryOp .FloorDiv) (.int i) (.int j) L Kk := wo_I op_fdivZ hc k
theorem wo_mulW {X : Cx} {i j : Int} {L : LH} {Kk : V → LH → Prop} (hc : CMulW i j) (k : Kk (.int (i * j)) L) : WO X (binaryOp .Mult) (.int i) (.int j) L Kk := wo_I op_mulW hc k
/-- small enough for all that is asked -/
def Sm (n : Nat) (x : Int) : Prop := x.natAbs < 2 ^ n
theorem Sm.mul {m n : Nat} {x y : Int} (a : Sm m x) (b : Sm n y) : Sm (m + n) (x * y) := wide_lt a b
theorem Sm.add {m n : Nat} {x y : Int} (a : Sm m x) (b : Sm n y) (l : m ≤ n) : Sm (n + 1) (x + y) := by
  have h : 2 ^ m ≤ 2 ^ n := Nat.pow_le_pow_right (by decide) l
  have e : 2 ^ (n + 1) = 2 ^ n + 2 ^ n := by rw [Nat.pow_succ]; omega
  unfold Sm at *
  omega
theorem Sm.neg {n : Nat} {x : Int} (a : Sm n x) : Sm n (-x) := by
  unfold Sm at *
  omega
theorem Sm.sub {m n : Nat} {x y : Int} (a : Sm m x) (b : Sm n y) (l : m ≤ n) : Sm (n + 1) (x - y) := by
  rw [Int.sub_eq_add_neg]
  exact a.add b.neg l
theorem Sm.mono {m n : Nat} {x : Int} (a : Sm m x) (l : m ≤ n) : Sm n x := Nat.lt_of_lt_of_le a (Nat.pow_le_pow_right (by decide) l)
theorem Sm.cm {m n : Nat} {x y : Int} (a : Sm m x) (b : Sm n y) (h0 : 0 < m := by decide) (h1 : 0 < n := by decide) (h : m + n ≤ 1000000 := by decide) : CMulW x y := wide_mul a b h0 h1 h
theorem Sm.one {n : Nat} (h : 0 < n := by decide) : Sm n 1 := by
  unfold Sm
  exact Nat.one_lt_two_pow (by omega)
theorem Sm.log {n : Nat} {x : Int} (a : Sm n x) (h0 : 0 < n := by decide) : x.natAbs.log2 < n := PySem.Flt.log2_lt_of h0 a
/-- a NUMBER: a Ratio with its parts, or an int -/
inductive NumL (C : Addr) (L : LH) : V → Int → Int → Prop where
  | rat {a dx : Addr} {n d : Int} (m : Mem a (.ins C dx (ratF n d)) L) : NumL C L (.ref a) n d
  | int (n : Int) : NumL C L (.int n) n 1
theorem NumL.ext {C : Addr} {L L' : LH} {v : V} {n d : Int} (h : NumL C L v n d) (s : Ext L L') : NumL C L' v n d := by
  cases h with
  | rat m => exact .rat (s _ _ m fun _ z => nomatch z)
  | int n => exact .int n
local macro_rules | `(tactic| walk_at "at") => `(tactic| with_reducible (repeat (first | exact At.head | apply At.tail)))
local macro_rules | `(tactic| walk_at "mem") => `(tactic| with_reducible (repeat (first | exact Mem.head | apply Mem.tail)))
local macro_rules | `(tactic| walk_at "boot") => `(tactic| with_reducible (first | exact boot_isi | exact boot_max | exact boot_min | exact boot_abs | exact boot_len | exact boot_repr | exact boot_divmod | exact boot_all | exact boot_sorted | exact boot_int | exact boot_bool | exact boot_str | exact boot_list | exact boot_tuple))
local macro_rules | `(tactic| walk_at "room") => `(tactic| (first | assumption | exact Room.mono (by assumption) (by decide)))
local macro_rules | `(tactic| walk_at "none") => `(tactic| (refine Txt.bn (by assumption) _ ?xz; (case xz => with_reducible (repeat (first | exact InS.head | apply InS.tail)))))
local macro_rules | `(tactic| walk_at "n3") => `(tactic| first
  | with_reducible refine ws_ret ?_
  | with_reducible refine we_int ?_
  | with_reducible refine we_str ?_
  | with_reducible refine we_bool ?_
  | with_reducible refine we_none ?_
  | ((with_reducible refine' x_name ?xo ?xa ?xb ?xc ?_); (case xo => assumption); (case xa => walk_at "at"); (case xb => walk_at "at"); (case xc => rfl))
  | ((with_reducible refine' f_top ?xt ?_ ?xh); (case xt => assumption); (case xh => rfl))
  | ((with_reducible refine' f_bot ?xt ?_ ?xh); (case xt => assumption); (case xh => rfl))
  | ((with_reducible refine' we_prop ?xg ?xr ?_ ?xh); (case xg => assumption); (case xr => walk_at "room"); (case xh => rfl))
  | with_reducible refine we_bin ?_
  | ((with_reducible refine wo_mulW ?xm ?_); (case xm => exact Sm.cm (by assumption) (by assumption)))
  | with_reducible refine wo_add ?_
  | with_reducible refine wo_sub ?_
  | with_reducible refine wo_lt ?_
  | with_reducible refine wo_gt ?_
  | with_reducible refine wo_le ?_
  | with_reducible refine wo_ge ?_
  | with_reducible refine wu_neg ?_
  | ((with_reducible refine we_cmp ?xh ?_); (case xh => exact nomark _))
  | ((with_reducible refine wt_cmp ?xh ?_); (case xh => exact nomark _))
  | ((with_reducible refine wa_cons ?_ ?xh); (case xh => rfl))
  | with_reducible refine wa_nil ?_
  | with_reducible refine we_and ?_
  | with_reducible refine we_or ?_
  | with_reducible refine we_not ?_
  | with_reducible refine wt_not ?_
  | with_reducible refine we_un ?_
  | with_reducible refine we_one ?_
  | with_reducible refine wt_ww (ww_or ?_)
  | with_reducible refine wt_ww (ww_and ?_)
  | with_reducible refine ww_or ?_
  | with_reducible refine ww_and ?_
  | with_reducible refine ww_or1 ?_
  | with_reducible refine ww_and1 ?_
  | with_reducible refine we_ifExp ?_
  | with_reducible refine ws_if ?_
  | with_reducible refine ws_pass ?_
  | with_reducible refine we_tup ?_
  | with_reducible refine we_lst ?_
  | ((with_reducible refine' x_set ?xo ?xa ?xb ?_ ?xs); (case xo => assumption); (case xa => walk_at "at"); (case xb => walk_at "at"); (case xs => rfl))
  | ((with_reducible refine' x_setF ?_ ?xs); (case xs => rfl))
  | ((with_reducible refine' x_call ?xo ?xa ?xg ?xr ?_ ?xe ?xp); (case xo => assumption); (case xa => walk_at "at"); (case xg => assumption); (case xr => walk_at "room"); (case xe => rfl); (case xp => rfl))
  | ((with_reducible refine' x_callB ?xo ?xa ?xg ?xr ?_ ?xe ?xp); (case xo => assumption); (case xr => walk_at "boot"); (case xa => walk_at "at"); (case xg => walk_at "none"); (case xe => rfl); (case xp => rfl))
  | ((with_reducible refine' x_callTy ?xo ?xa ?xg ?xr ?_ ?xe ?xp); (case xo => assumption); (case xr => walk_at "boot"); (case xa => walk_at "at"); (case xg => walk_at "none"); (case xe => rfl); (case xp => rfl))
  | ((with_reducible refine' x_callFn ?xo ?xa ?xg ?_ ?xe ?xp); (case xo => assumption); (case xg => with_reducible (first | exact Txt.mgcd (by assumption) | exact Txt.mlcm (by assumption))); (case xa => walk_at "at"); (case xe => rfl); (case xp => rfl))
  | ((with_reducible refine' x_bty ?xo ?xa ?xg ?xr ?_); (case xo => assumption); (case xr => walk_at "boot"); (case xa => walk_at "at"); (case xg => walk_at "none"))
  | ((with_reducible refine' x_cls ?xt ?xo ?xa ?_); (case xt => assumption); (case xo => assumption); (case xa => walk_at "at"))
  | ((with_reducible refine' x_clsQ ?xt ?xo ?xa ?_); (case xt => assumption); (case xo => assumption); (case xa => walk_at "at"))
  | ((with_reducible refine' x_make ?xo ?xa ?xg ?xr ?_ ?xe ?xp); (case xo => assumption); (case xa => walk_at "at"); (case xg => assumption); (case xr => walk_at "room"); (case xe => rfl); (case xp => rfl))
  | ((with_reducible refine' x_callG ?xo ?xa ?xg ?xr ?xd ?_ ?xe ?xp); (case xo => assumption); (case xa => walk_at "at"); (case xg => assumption); (case xr => walk_at "room"); (case xd => assumption); (case xe => rfl); (case xp => rfl))
  | with_reducible refine wss_nil ?_
  | refine ⟨_, _, _, _, rfl, (by assumption), ?_⟩
  | refine ⟨_, _, _, rfl, (by assumption), ?_⟩
  | refine wss_cons ?_
  | ((with_reducible refine' wt_val ?_ ?xv); (case xv => intro _; rfl)))
local macro_rules | `(tactic| walk_at "go") => `(tactic| repeat walk_at "n3")
section
variable {P : Program} {w : World} {K : PySem.W.Frag} {mg : Str → Option Value} {base : Heap}
/-! is_integer -/
def pIsInt (C : Addr) : Pre := fun vs L Kk => ∃ v, vs = [v] ∧ ((∃ i, v = .int i ∧ Kk (.bl true) L) ∨ ∃ a dx fs, v = .ref a ∧ Mem a (.ins C dx fs) L ∧ Kk (.bl false) L)
theorem scIsInt : FnScope ["value"] ["value"] (defScope sIsInt) := ⟨rfl, rfl, rfl, by decide +kernel, rfl, by decide +kernel, by decide +kernel⟩
theorem okIsInt {f C Q : Addr} {fd : FuncData} (F : Fun K "is_integer" "is_integer" sIsInt f fd) (T : Txt K mg C Q) : FnOk P w K mg base CX0 1 f fd ["value"] (SpL (pIsInt C)) := by
  refine fnX (Gn := ["isinstance", "int", "bool"]) F scIsInt (by decide +kernel) (fun vs L Kk h => ?_) (fun X e1 e2 e3 e4 e5 hX hr vs L Kk h => ?_)
  · obtain ⟨v, rfl, _⟩ := h
    rfl
  · subst e1 e2 e3 e4 e5
    obtain ⟨v, rfl, h⟩ := h
    walk_at "go"
    rcases h with ⟨i, rfl, k⟩ | ⟨a, dx, fs, rfl, m, k⟩
    · refine wc_isi (r := true) (.ty _) ty_int (kit_ty (by decide +kernel)) ⟨true, rfl, fun _ => ?_, fun z => Bool.noConfusion z⟩
      walk_at "go"
      refine wc_isi (r := false) (.ty _) ty_int (kit_ty (by decide +kernel)) ⟨false, rfl, ?_⟩
      exact ret_sub k (Sub.refl _)
    · refine wc_isi (r := false) (.ty _) (T.ty m) T.iCI ⟨false, rfl, (fun z => Bool.noConfusion z), fun _ => ?_⟩
      exact ret_sub k (Sub.refl _)
/-! __init__ -/
def pInit (C : Addr) : Pre := fun vs L Kk => ∃ o dx t b L0, vs = [.ref o, .int t, .int b] ∧ L = (o, .ins C dx []) :: L0 ∧ b ≠ 0 ∧ b.natAbs.log2 < 9000 ∧ Kk .non ((o, .ins C dx (ratF (nT t b) (nB t b))) :: L0)
theorem scInit : FnScope ["self", "top", "bottom", "common"] ["self", "top", "bottom"] (defScope sInit) := ⟨rfl, rfl, rfl, by decide +kernel, rfl, by decide +kernel, by decide +kernel⟩
theorem okInit {f C Q : Addr} {fd : FuncData} (F : FunD K "__init__" "Ratio.__init__" (defArgs sInit) (defBody sInit) (defScope sInit) [.int 1] [] f fd) (T : Txt K mg C Q) (GI : GFn P w K mg base "is_integer" 1 ["value"] [] (pIsInt C)) :
    FnOk P w K mg base CX0 2 f fd ["self", "top", "bottom"] (SpL (pInit C)) := by
  refine fnXD (Gn := ["is_integer", "gcd"]) F scInit (by decide +kernel) (fun vs L Kk h => ?_) (fun X e1 e2 e3 e4 e5 hX hr vs L Kk h => ?_)
  · obtain ⟨o, dx, t, b, L0, rfl, _⟩ := h
    rfl
  · subst e1 e2 e3 e4 e5
    obtain ⟨o, dx, t, b, L0, rfl, rfl, hb, hl, k⟩ := h
    have h0 : decide (V.int b = V.int 0) = false := decide_eq_false fun z => hb (V.int.inj z)
    have hd : CDivZ t (sg t b) := ⟨sg_ne hb, Nat.lt_of_le_of_lt (by
      by_cases z : (sg t b).natAbs = 0
      · rw [z]; exact Nat.zero_le _
      · exact (Nat.le_log2 (by omega)).mpr (Nat.le_trans (Nat.log2_self_le z) (sg_le hb))) hl⟩
    walk_at "go"
    refine ⟨_, rfl, .inl ⟨_, rfl, true, rfl, (fun z => Bool.noConfusion z), fun _ => ?_⟩⟩
    walk_at "go"
    refine ⟨_, rfl, .inl ⟨_, rfl, true, rfl, fun _ => ?_, fun z => Bool.noConfusion z⟩⟩
    walk_at "go"
    refine wo_eq rfl ⟨_, rfl, (fun z => ?_), fun _ => ?_⟩
    · rw [h0] at z
      cases z
    walk_at "go"
    refine wc_gcd ?_
    walk_at "go"
    refine ⟨_, rfl, fun z => ?_, fun z => ?_⟩
    · have e : sg t b = -((Nat.gcd t.natAbs b.natAbs : Nat) : Int) := if_pos (of_decide_eq_true z)
      rw [e] at hd
      walk_at "go"
      refine wo_fdivZ hd ?_
      walk_at "go"
      refine ⟨_, _, _, _, _, rfl, .head, T.cl, T.nT, by decide, ?_⟩
      walk_at "go"
      refine wo_fdivZ ⟨hd.1, hd.2⟩ ?_
      walk_at "go"
      refine ⟨_, _, _, _, _, rfl, .head, T.cl, T.nB, (show 1 < 1000 by decide), ?_⟩
      walk_at "go"
      unfold nT nB at k
      rw [e] at k
      exact nx_sub k (Sub.refl _)
    · have e : sg t b = ((Nat.gcd t.natAbs b.natAbs : Nat) : Int) := if_neg (of_decide_eq_false z)
      rw [e] at hd
      walk_at "go"
      refine wo_fdivZ hd ?_
      walk_at "go"
      refine ⟨_, _, _, _, _, rfl, .head, T.cl, T.nT, by decide, ?_⟩
      walk_at "go"
      refine wo_fdivZ ⟨hd.1, hd.2⟩ ?_
      walk_at "go"
      refine ⟨_, _, _, _, _, rfl, .head, T.cl, T.nB, (show 1 < 1000 by decide), ?_⟩
      walk_at "go"
      unfold nT nB at k
      rw [e] at k
      exact nx_sub k (Sub.refl _)
/-! is_number -/
def pIsNum (C : Addr) : Pre := fun vs L Kk => ∃ v, vs = [v] ∧ ((∃ i, v = .int i) ∨ ∃ a dx fs, v = .ref a ∧ Mem a (.ins C dx fs) L) ∧ Kk (.bl true) L
theorem scIsNum : FnScope ["value"] ["value"] (defScope sIsNum) := ⟨rfl, rfl, rfl, by decide +kernel, rfl, by decide +kernel, by decide +kernel⟩
theorem okIsNum {f C Q : Addr} {fd : FuncData} (F : Fun K "is_number" "is_number" sIsNum f fd) (T : Txt K mg C Q) (GI : GFn P w K mg base "is_integer" 1 ["value"] [] (pIsInt C)) : FnOk P w K mg base CX0 2 f fd ["value"] (SpL (pIsNum C)) := by
  refine fnX (Gn := ["isinstance", "is_integer", "Ratio"]) F scIsNum (by decide +kernel) (fun vs L Kk h => ?_) (fun X e1 e2 e3 e4 e5 hX hr vs L Kk h => ?_)
  · obtain ⟨v, rfl, _⟩ := h
    rfl
  · subst e1 e2 e3 e4 e5
    obtain ⟨v, rfl, ⟨i, rfl⟩ | ⟨a, dx, fs, rfl, m⟩, k⟩ := h
    · walk_at "go"
      refine ⟨_, rfl, .inl ⟨_, rfl, true, rfl, (fun z => Bool.noConfusion z), fun _ => ?_⟩⟩
      exact ret_sub k (Sub.refl _)
    · walk_at "go"
      refine ⟨_, rfl, .inr ⟨_, _, _, rfl, m, false, rfl, fun _ => ?_, fun z => Bool.noConfusion z⟩⟩
      walk_at "go"
      refine wc_isi (r := true) (.own _) (T.ty m) T.iCC ?_
      exact ret_sub k (Sub.refl _)
/-! as_ratio -/
def pAs (C : Addr) : Pre := fun vs L Kk => ∃ v n d, vs = [v] ∧ NumL C L v n d ∧ ∀ p dx J, Mem p (.ins C dx (ratF n d)) (J ++ L) → Kk (.ref p) (J ++ L)
theorem sg_one (n : Int) : sg n 1 = 1 := by
  unfold sg
  rw [if_neg (by decide)]
  show ((Nat.gcd n.natAbs 1 : Nat) : Int) = 1
  rw [Nat.gcd_one_right]
  rfl
theorem nT_one (n : Int) : nT n 1 = n := by unfold nT; rw [sg_one, Int.fdiv_one]
theorem nB_one (n : Int) : nB n 1 = 1 := by unfold nB; rw [sg_one, Int.fdiv_one]
theorem scAs : FnScope ["value"] ["value"] (defScope sAs) := ⟨rfl, rfl, rfl, by decide +kernel, rfl, by decide +kernel, by decide +kernel⟩
theorem okAs {f C Q : Addr} {fd : FuncData} (F : Fun K "as_ratio" "as_ratio" sAs f fd) (T : Txt K mg C Q) (GM : GMk P w K mg base "Ratio" C 2 ["self", "top", "bottom"] [.int 1] (pInit C)) : FnOk P w K mg base CX0 4 f fd ["value"] (SpL (pAs C)) := by
  refine fnX (Gn := ["isinstance", "Ratio"]) F scAs (by decide +kernel) (fun vs L Kk h => ?_) (fun X e1 e2 e3 e4 e5 hX hr vs L Kk h => ?_)
  · obtain ⟨v, n, d, rfl, _⟩ := h
    rfl
  · subst e1 e2 e3 e4 e5
    obtain ⟨v, n, d, rfl, hn, k⟩ := h
    walk_at "go"
    cases hn with
    | rat m =>
      refine wc_isi (r := true) (.own _) (T.ty m) T.iCC ⟨_, rfl, fun _ => ?_, fun z => Bool.noConfusion z⟩
      walk_at "go"
      exact ret_sub (k _ _ [] m) (Sub.refl _)
    | int n =>
      refine wc_isi (r := false) (.own _) ty_int T.iIC ⟨_, rfl, (fun z => Bool.noConfusion z), fun _ => ?_⟩
      walk_at "go"
      intro o dx
      refine ⟨_, _, _, _, _, rfl, rfl, (by decide), (by decide), rfl, ?_⟩
      refine ret_sub (k o dx [_] ?_) (Sub.refl _)
      rw [nT_one, nB_one]
      exact .head
/-! top -/
def pTop (C : Addr) : Pre := fun vs L Kk => ∃ a dx n d, vs = [.ref a] ∧ Mem a (.ins C dx (ratF n d)) L ∧ Kk (.int n) L
theorem scTop : FnScope ["self"] ["self"] (defScope sTop) := ⟨rfl, rfl, rfl, by decide +kernel, rfl, by decide +kernel, by decide +kernel⟩
theorem okTop {f C Q : Addr} {fd : FuncData} (F : Fun K "top" "Ratio.top" sTop f fd) (T : Txt K mg C Q) : FnOk P w K mg base CX0 1 f fd ["self"] (SpL (pTop C)) := by
  refine fnX (Gn := []) F scTop (by decide +kernel) (fun vs L Kk h => ?_) (fun X e1 e2 e3 e4 e5 hX hr vs L Kk h => ?_)
  · obtain ⟨a, dx, n, d, rfl, _⟩ := h
    rfl
  · subst e1 e2 e3 e4 e5
    obtain ⟨a, dx, n, d, rfl, m, k⟩ := h
    walk_at "go"
    exact ret_sub k (Sub.refl _)
/-! bottom -/
def pBot (C : Addr) : Pre := fun vs L Kk => ∃ a dx n d, vs = [.ref a] ∧ Mem a (.ins C dx (ratF n d)) L ∧ Kk (.int d) L
theorem scBot : FnScope ["self"] ["self"] (defScope sBot) := ⟨rfl, rfl, rfl, by decide +kernel, rfl, by decide +kernel, by decide +kernel⟩
theorem okBot {f C Q : Addr} {fd : FuncData} (F : Fun K "bottom" "Ratio.bottom" sBot f fd) (T : Txt K mg C Q) : FnOk P w K mg base CX0 1 f fd ["self"] (SpL (pBot C)) := by
  refine fnX (Gn := []) F scBot (by decide +kernel) (fun vs L Kk h => ?_) (fun X e1 e2 e3 e4 e5 hX hr vs L Kk h => ?_)
  · obtain ⟨a, dx, n, d, rfl, _⟩ := h
    rfl
  · subst e1 e2 e3 e4 e5
    obtain ⟨a, dx, n, d, rfl, m, k⟩ := h
    walk_at "go"
    exact ret_sub k (Sub.refl _)
/-- any value that is no Ratio, as == meets it -/
def NoRat (K : PySem.W.Frag) (C : Addr) (L : LH) (v : V) : Prop := ∃ t, TyL K v t L ∧ PySem.W.kitOne K t (.ref C) = some false
def pEq (K : PySem.W.Frag) (C : Addr) : Pre := fun vs L Kk => ∃ a dx n d v, vs = [.ref a, v] ∧ Mem a (.ins C dx (ratF n d)) L ∧ ((∃ b dy m e, v = .ref b ∧ Mem b (.ins C dy (ratF m e)) L ∧ Kk (.bl (decide (n = m ∧ d = e))) L) ∨ (NoRat K C L v ∧ Kk (.bl false) L))
theorem scEq : FnScope ["self", "other"] ["self", "other"] (defScope sEq) := ⟨rfl, rfl, rfl, by decide +kernel, rfl, by decide +kernel, by decide +kernel⟩
theorem okEq {f C Q : Addr} {fd : FuncData} (F : Fun K "__eq__" "Ratio.__eq__" sEq f fd) (T : Txt K mg C Q) : FnOk P w K mg base CX0 2 f fd ["self", "other"] (SpL (pEq K C)) := by
  refine fnX (Gn := ["isinstance", "Ratio"]) F scEq (by decide +kernel) (fun vs L Kk h => ?_) (fun X e1 e2 e3 e4 e5 hX hr vs L Kk h => ?_)
  · obtain ⟨a, dx, n, d, v, rfl, _⟩ := h
    rfl
  · subst e1 e2 e3 e4 e5
    obtain ⟨a, dx, n, d, v, rfl, ma, h⟩ := h
    walk_at "go"
    rcases h with ⟨b, dy, m, e, rfl, mb, k⟩ | ⟨⟨t, ht, hk⟩, k⟩
    · refine wc_isi (r := true) (.own _) (T.ty mb) T.iCC ⟨_, rfl, fun _ => ?_, fun z => Bool.noConfusion z⟩
      walk_at "go"
      refine wo_eq rfl ⟨_, rfl, fun z => ?_, fun z => ?_⟩
      · have e1 : n = m := V.int.inj (of_decide_eq_true z)
        walk_at "go"
        refine wo_eq rfl ?_
        have e2 : decide (V.int d = V.int e) = decide (n = m ∧ d = e) := by
          by_cases q : d = e
          · rw [decide_eq_true (by rw [q]), decide_eq_true ⟨e1, q⟩]
          · rw [decide_eq_false (fun y => q (V.int.inj y)), decide_eq_false (fun y => q y.2)]
        rw [e2]
        exact ret_sub k (Sub.refl _)
      · have e1 : ¬ n = m := fun q => of_decide_eq_false z (by rw [q])
        have e2 : decide (n = m ∧ d = e) = false := decide_eq_false fun q => e1 q.1
        rw [e2] at k
        exact ret_sub k (Sub.refl _)
    · refine wc_isi (r := false) (.own _) ht hk ⟨_, rfl, (fun z => Bool.noConfusion z), fun _ => ?_⟩
      exact ret_sub k (Sub.refl _)
/-! __str__, __repr__ -/
def itx (n : Int) : Str := ((toString n : String) : Str)
def rstr (n d : Int) : Str := if d = 1 then itx n else itx n ++ "/" ++ itx d
def rrep (n d : Int) : Str := ("Ratio(" : Str) ++ itx n ++ ", " ++ itx d ++ ")"
theorem itx_len {n : Int} (h : n.natAbs.log2 < 1920) : (itx n).length ≤ 1921 := PyProof.Rows.int_text_len_1921 h
theorem line_big : 10000 ≤ sizeLine := by rw [sizeLine_eq]; decide
theorem empty_app (x : Str) : Str.empty ++ x = x := Str.empty_append x
theorem len_app (a b : Str) : (a ++ b).length = a.length + b.length := Str.length_append a b
theorem rrep_len {n d : Int} (hn : n.natAbs.log2 < 1920) (hd : d.natAbs.log2 < 1920) : (rrep n d).length ≤ 10000 := by
  have a := itx_len hn
  have b := itx_len hd
  unfold rrep
  rw [len_app, len_app, len_app, len_app, show ("Ratio(" : Str).length = 6 by decide +kernel, show (", " : Str).length = 2 by decide +kernel, show (")" : Str).length = 1 by decide +kernel]
  omega
theorem rstr_len {n d : Int} (hn : n.natAbs.log2 < 1920) (hd : d.natAbs.log2 < 1920) : (rstr n d).length ≤ 10000 := by
  have a := itx_len hn
  have b := itx_len hd
  unfold rstr
  split
  · omega
  · rw [len_app, len_app, show ("/" : Str).length = 1 by decide +kernel]
    omega
def pStr (C : Addr) : Pre := fun vs L Kk => ∃ a dx n d, vs = [.ref a] ∧ Mem a (.ins C dx (ratF n d)) L ∧ n.natAbs.log2 < 1920 ∧ d.natAbs.log2 < 1920 ∧ Kk (.str (rstr n d)) L
theorem scStr : FnScope ["self"] ["self"] (defScope sStr) := ⟨rfl, rfl, rfl, by decide +kernel, rfl, by decide +kernel, by decide +kernel⟩
theorem okStr {f C Q : Addr} {fd : FuncData} (F : Fun K "__str__" "Ratio.__str__" sStr f fd) (T : Txt K mg C Q) : FnOk P w K mg base CX0 1 f fd ["self"] (SpL (pStr C)) := by
  refine fnX (Gn := ["str"]) F scStr (by decide +kernel) (fun vs L Kk h => ?_) (fun X e1 e2 e3 e4 e5 hX hr vs L Kk h => ?_)
  · obtain ⟨a, dx, n, d, rfl, _⟩ := h
    rfl
  · subst e1 e2 e3 e4 e5
    obtain ⟨a, dx, n, d, rfl, m, hn, hd, k⟩ := h
    have ln := itx_len hn
    have ld := itx_len hd
    have lb := line_big
    walk_at "go"
    refine wo_eq rfl ⟨_, rfl, fun z => ?_, fun z => ?_⟩
    · have e : d = 1 := V.int.inj (of_decide_eq_true z)
      unfold rstr at k
      rw [if_pos e] at k
      walk_at "go"
      refine wc_strI hn ?_
      exact ret_sub k (Sub.refl _)
    · have e : ¬ d = 1 := fun q => of_decide_eq_false z (by rw [q])
      unfold rstr at k
      rw [if_neg e] at k
      walk_at "go"
      refine we_joined (.cons (itx n) L ?_ ?_ (.cons "/" L ?_ ?_ (.cons (itx d) L ?_ ?_ (.nil ?_))))
      · refine we_fmtI ?_
        walk_at "go"
        exact ⟨_, rfl, hn, rfl, rfl⟩
      · rw [empty_app]
        omega
      · exact we_str ⟨rfl, rfl⟩
      · rw [empty_app, len_app, show ("/" : Str).length = 1 by decide +kernel]
        omega
      · refine we_fmtI ?_
        walk_at "go"
        exact ⟨_, rfl, hd, rfl, rfl⟩
      · rw [empty_app, len_app, len_app, show ("/" : Str).length = 1 by decide +kernel]
        omega
      · rw [empty_app]
        exact ret_sub k (Sub.refl _)
def pRepr (C : Addr) : Pre := fun vs L Kk => ∃ a dx n d, vs = [.ref a] ∧ Mem a (.ins C dx (ratF n d)) L ∧ n.natAbs.log2 < 1920 ∧ d.natAbs.log2 < 1920 ∧ Kk (.str (rrep n d)) L
theorem scRepr : FnScope ["self"] ["self"] (defScope sRepr) := ⟨rfl, rfl, rfl, by decide +kernel, rfl, by decide +kernel, by decide +kernel⟩
theorem okRepr {f C Q : Addr} {fd : FuncData} (F : Fun K "__repr__" "Ratio.__repr__" sRepr f fd) (T : Txt K mg C Q) : FnOk P w K mg base CX0 1 f fd ["self"] (SpL (pRepr C)) := by
  refine fnX (Gn := []) F scRepr (by decide +kernel) (fun vs L Kk h => ?_) (fun X e1 e2 e3 e4 e5 hX hr vs L Kk h => ?_)
  · obtain ⟨a, dx, n, d, rfl, _⟩ := h
    rfl
  · subst e1 e2 e3 e4 e5
    obtain ⟨a, dx, n, d, rfl, m, hn, hd, k⟩ := h
    have ln := itx_len hn
    have ld := itx_len hd
    have lb := line_big
    have l6 : ("Ratio(" : Str).length = 6 := by decide +kernel
    have l2 : (", " : Str).length = 2 := by decide +kernel
    have l1 : (")" : Str).length = 1 := by decide +kernel
    walk_at "go"
    refine we_joined (.cons "Ratio(" L ?_ ?_ (.cons (itx n) L ?_ ?_ (.cons ", " L ?_ ?_ (.cons (itx d) L ?_ ?_ (.cons ")" L ?_ ?_ (.nil ?_))))))
    · exact we_str ⟨rfl, rfl⟩
    · rw [empty_app]
      omega
    · refine we_fmtI ?_
      walk_at "go"
      exact ⟨_, rfl, hn, rfl, rfl⟩
    · simp only [empty_app, len_app]
      omega
    · exact we_str ⟨rfl, rfl⟩
    · simp only [empty_app, len_app]
      omega
    · refine we_fmtI ?_
      walk_at "go"
      exact ⟨_, rfl, hd, rfl, rfl⟩
    · simp only [empty_app, len_app]
      omega
    · exact we_str ⟨rfl, rfl⟩
    · simp only [empty_app, len_app]
      omega
    · rw [empty_app]
      exact ret_sub k (Sub.refl _)
theorem scIsName : FnScope ["value", "character"] ["value"] (defScope sIsName) := ⟨rfl, rfl, rfl, by decide +kernel, rfl, by decide +kernel, by decide +kernel⟩
def pIsName (K : PySem.W.Frag) : Pre := fun vs L Kk => ∃ v, vs = [v] ∧ ((∃ x, v = .str x ∧ x.length ≤ 1000 ∧ Kk (.bl (isNm x)) L) ∨ ((∃ t, TyL K v t L ∧ PySem.W.kitOne K t (.type "str") = some false) ∧ Kk (.bl false) L))
theorem okIsName {f C Q : Addr} {fd : FuncData} (F : Fun K "is_name" "is_name" sIsName f fd) (T : Txt K mg C Q) : FnOk P w K mg base CX0 1 f fd ["value"] (SpL (pIsName K)) := by
  refine fnXC (Vn := ["value"]) (Ln := ["value"]) (Gn := ["isinstance", "str", "len", "LONGEST", "LETTERS", "all"]) F scIsName (by decide +kernel) (fun vs L Kk h => ?_) (fun X e1 e2 e3 e4 e5 hX hr vs L Kk h => ?_)
  · obtain ⟨v, rfl, _⟩ := h
    rfl
  · subst e1 e2 e3 e4 e5
    obtain ⟨v, rfl, h⟩ := h
    walk_at "go"
    rcases h with ⟨x, rfl, hz, k⟩ | ⟨⟨t, ht, hk⟩, k⟩
    · refine wc_isi (r := true) (.ty _) ty_str (kit_ty (by decide +kernel)) ⟨_, rfl, fun _ => ?_, fun z => Bool.noConfusion z⟩
      walk_at "go"
      refine wt_chainLL ?_
      walk_at "go"
      refine wc_lenS (len_line hz) ⟨_, _, rfl, rfl, fun c1 => ?_, fun c1 => ?_⟩
      · refine x_gint T.mgN (by assumption) (by walk_at "at") ⟨_, rfl, fun c2 => ?_, fun c2 => ?_⟩
        · have e : isNm x = false := by
            unfold isNm
            have : ¬ x.length ≤ 8 := by
              have c3 : (8 : Int) < x.length := by simpa using c2
              omega
            simp [this]
          rw [e] at k
          walk_at "go"
          exact ret_sub k (Sub.refl _)
        · have c3 : (x.length : Int) ≤ 8 := by simpa using c2
          have h8 : x.length ≤ 8 := by omega
          have h1 : 1 ≤ x.length := by omega
          have hlen : x.cps.toList.length = x.length := by simp [PySem.Str.length]
          obtain ⟨c, rest, hc⟩ : ∃ c rest, x.cps.toList = c :: rest := by
            cases hx : x.cps.toList with
            | nil => rw [hx] at hlen; simp at hlen; omega
            | cons c rest => exact ⟨c, rest, rfl⟩
          have e : isNm x = (decide (c ∈ LETTERS.cps.toList) && x.cps.toList.all fun c => decide (c ∈ CHARS.cps.toList)) := by
            unfold isNm
            simp only [h1, h8, decide_true, Bool.true_and, hc]
          rw [e] at k
          walk_at "go"
          refine we_cmp rfl ?_
          refine we_ixS ?_
          walk_at "go"
          refine ⟨x, 0, c, rfl, rfl, len_line hz, by rw [hc]; exact atI_nat (j := 0) rfl, ?_⟩
          refine x_gstr T.mgL (by assumption) (by walk_at "at") ?_
          refine wo_inSign ⟨_, rfl, fun z => ?_, fun z => ?_⟩
          · rw [z, Bool.true_and] at k
            walk_at "go"
            refine x_lc [("character", 1)] hX (by decide +kernel) (wi_str ?_)
            walk_at "go"
            refine ⟨x, rfl, fun D => ⟨fun i L' => L' = (D, .lst ((x.cps.toList.take i).map fun c => .bl (decide (c ∈ CHARS.cps.toList)))) :: L, rfl, fun _ _ _ _ => True.intro, ?_, ?_⟩⟩
            · rintro i v L' L'' hi rfl ⟨rfl, c', hc', rfl⟩
              intro s H' Ca cl fp
              have hB := hX.blk (Vb := ["character"]) (Lb := ["character"]) (Gb := ["CHARACTERS"]) (scope := ⟨.function, [(".0", .local), ("character", .local), ("CHARACTERS", .globalImplicit)], false, false, []⟩) (by decide +kernel)
              refine x_tgt (hB s H' Ca cl fp) (by walk_at "at") (by walk_at "at") ⟨rfl, fun s H' Ca cl fp => ?_⟩
              have hX' := hB s H' Ca cl fp
              refine we_cmp rfl ?_
              walk_at "go"
              refine x_gstr (X := X.blk s H' _ (compEnvC _ cl Ca X.env) fp) T.mgH hX' (by walk_at "at") ?_
              refine wo_inSign ⟨_, _, .head, ?_, _, Sub.refl _, ?_⟩
              · rw [List.length_map, List.length_take]
                exact len_lt (by omega)
              · show _ = _
                have hg : x.cps.toList[i]? = some c' := by rw [Array.getElem?_toList]; exact hc'
                rw [List.take_add_one, hg, List.map_append]
                rfl
            · rintro L' rfl
              have hs : x.cps.size = x.cps.toList.length := by simp
              rw [hs, List.take_length]
              walk_at "go"
              refine wc_all (bs := x.cps.toList.map fun c => decide (c ∈ CHARS.cps.toList)) hX.calm (.of (by rw [List.map_map]; exact .head)) ?_
              rw [List.all_map]
              exact ret_sub k (Sub.of_sublist (.cons _ (.refl _)))
          · rw [z, Bool.false_and] at k
            exact ret_sub k (Sub.refl _)
      · have e : isNm x = false := by
          unfold isNm
          have : ¬ 1 ≤ x.length := by omega
          simp [this]
        rw [e] at k
        refine ⟨fun _ => ?_, fun z => Bool.noConfusion z⟩
        walk_at "go"
        exact ret_sub k (Sub.refl _)
    · refine wc_isi (r := false) (.ty _) ht hk ⟨_, rfl, (fun z => Bool.noConfusion z), fun _ => ⟨fun _ => ?_, fun z => Bool.noConfusion z⟩⟩
      walk_at "go"
      exact ret_sub k (Sub.refl _)
def Nm (x : Str) : Prop := isNm x = true
theorem Nm.le {x : Str} (h : Nm x) : x.length ≤ 8 := by
  unfold Nm isNm at h
  simp only [Bool.and_eq_true, decide_eq_true_eq] at h
  exact h.1.1.2
theorem Nm.le' {x : Str} (h : Nm x) : x.length ≤ 1000 := Nat.le_trans h.le (by decide)
theorem is_nm (K : PySem.W.Frag) {x : Str} (h : Nm x) {L : LH} {Kk : V → LH → Prop} (k : Kk (.bl true) L) : pIsName K [.str x] L Kk := by
  refine ⟨_, rfl, .inl ⟨x, rfl, h.le', ?_⟩⟩
  rw [show isNm x = true from h]
  exact k
end
theorem Sm.of_mul {n : Nat} {x y z : Int} (h : Sm n z) (e : x * y = z) (hy : y ≠ 0) : Sm n x := by
  have a : x.natAbs * y.natAbs = z.natAbs := by rw [← Int.natAbs_mul, e]
  have b : 0 < y.natAbs := Int.natAbs_pos.mpr hy
  have c : x.natAbs ≤ x.natAbs * y.natAbs := Nat.le_mul_of_pos_right _ b
  exact Nat.lt_of_le_of_lt (by rw [← a]; exact c) h
end K15
set_option Elab.async false
set_option linter.all false
set_option maxRecDepth 100000
set_option maxHeartbeats 4000000
namespace K15
open PySem L2 N3
local macro_rules | `(tactic| walk_at "at") => `(tactic| with_reducible (repeat (first | exact At.head | apply At.tail)))
local macro_rules | `(tactic| walk_at "mem") => `(tactic| with_reducible (repeat (first | exact Mem.head | apply Mem.tail)))
local macro_rules | `(tactic| walk_at "boot") => `(tactic| with_reducible (first | exact boot_isi | exact boot_max | exact boot_min | exact boot_abs | exact boot_len | exact boot_repr | exact boot_divmod | exact boot_all | exact boot_sorted | exact boot_int | exact boot_bool | exact boot_str | exact boot_list | exact boot_tuple))
local macro_rules | `(tactic| walk_at "room") => `(tactic| (first | assumption | exact Room.mono (by assumption) (by decide)))
local macro_rules | `(tactic| walk_at "none") => `(tactic| (refine Txt.bn (by assumption) _ ?xz; (case xz => with_reducible (repeat (first | exact InS.head | apply InS.tail)))))
local macro_rules | `(tactic| walk_at "n3") => `(tactic| first
  | with_reducible refine ws_ret ?_
  | with_reducible refine we_int ?_
  | with_reducible refine we_str ?_
  | with_reducible refine we_bool ?_
  | with_reducible refine we_none ?_
  | ((with_reducible refine' x_name ?xo ?xa ?xb ?xc ?_); (case xo => assumption); (case xa => walk_at "at"); (case xb => walk_at "at"); (case xc => rfl))
  | ((with_reducible refine' f_tops ?xt ?_ ?xh); (case xt => assumption); (case xh => rfl))
  | ((with_reducible refine' f_qbot ?xt ?_ ?xh); (case xt => assumption); (case xh => rfl))
  | ((with_reducible refine' we_prop ?xg ?xr ?_ ?xh); (case xg => assumption); (case xr => walk_at "room"); (case xh => rfl))
  | with_reducible refine we_bin ?_
  | ((with_reducible refine wo_mulW ?xm ?_); (case xm => exact Sm.cm (by assumption) (by assumption)))
  | with_reducible refine wo_add ?_
  | with_reducible refine wo_sub ?_
  | with_reducible refine wo_lt ?_
  | with_reducible refine wo_gt ?_
  | with_reducible refine wo_le ?_
  | with_reducible refine wo_ge ?_
  | with_reducible refine wu_neg ?_
  | ((with_reducible refine we_cmp ?xh ?_); (case xh => exact nomark _))
  | ((with_reducible refine wt_cmp ?xh ?_); (case xh => exact nomark _))
  | ((with_reducible refine wa_cons ?_ ?xh); (case xh => rfl))
  | with_reducible refine wa_nil ?_
  | with_reducible refine we_and ?_
  | with_reducible refine we_or ?_
  | with_reducible refine we_not ?_
  | with_reducible refine wt_not ?_
  | with_reducible refine we_un ?_
  | with_reducible refine we_one ?_
  | with_reducible refine wt_ww (ww_or ?_)
  | with_reducible refine wt_ww (ww_and ?_)
  | with_reducible refine ww_or ?_
  | with_reducible refine ww_and ?_
  | with_reducible refine ww_or1 ?_
  | with_reducible refine ww_and1 ?_
  | with_reducible refine we_ifExp ?_
  | with_reducible refine ws_if ?_
  | with_reducible refine ws_pass ?_
  | with_reducible refine we_tup ?_
  | with_reducible refine we_lst ?_
  | ((with_reducible refine' x_set ?xo ?xa ?xb ?_ ?xs); (case xo => assumption); (case xa => walk_at "at"); (case xb => walk_at "at"); (case xs => rfl))
  | ((with_reducible refine' x_setF ?_ ?xs); (case xs => rfl))
  | ((with_reducible refine' x_call ?xo ?xa ?xg ?xr ?_ ?xe ?xp); (case xo => assumption); (case xa => walk_at "at"); (case xg => assumption); (case xr => walk_at "room"); (case xe => rfl); (case xp => rfl))
  | ((with_reducible refine' x_callB ?xo ?xa ?xg ?xr ?_ ?xe ?xp); (case xo => assumption); (case xr => walk_at "boot"); (case xa => walk_at "at"); (case xg => walk_at "none"); (case xe => rfl); (case xp => rfl))
  | ((with_reducible refine' x_callTy ?xo ?xa ?xg ?xr ?_ ?xe ?xp); (case xo => assumption); (case xr => walk_at "boot"); (case xa => walk_at "at"); (case xg => walk_at "none"); (case xe => rfl); (case xp => rfl))
  | ((with_reducible refine' x_callFn ?xo ?xa ?xg ?_ ?xe ?xp); (case xo => assumption); (case xg => with_reducible (first | exact Txt.mgcd (by assumption) | exact Txt.mlcm (by assumption))); (case xa => walk_at "at"); (case xe => rfl); (case xp => rfl))
  | ((with_reducible refine' x_bty ?xo ?xa ?xg ?xr ?_); (case xo => assumption); (case xr => walk_at "boot"); (case xa => walk_at "at"); (case xg => walk_at "none"))
  | ((with_reducible refine' x_cls ?xt ?xo ?xa ?_); (case xt => assumption); (case xo => assumption); (case xa => walk_at "at"))
  | ((with_reducible refine' x_clsQ ?xt ?xo ?xa ?_); (case xt => assumption); (case xo => assumption); (case xa => walk_at "at"))
  | ((with_reducible refine' x_make ?xo ?xa ?xg ?xr ?_ ?xe ?xp); (case xo => assumption); (case xa => walk_at "at"); (case xg => assumption); (case xr => walk_at "room"); (case xe => rfl); (case xp => rfl))
  | ((with_reducible refine' x_callG ?xo ?xa ?xg ?xr ?xd ?_ ?xe ?xp); (case xo => assumption); (case xa => walk_at "at"); (case xg => assumption); (case xr => walk_at "room"); (case xd => assumption); (case xe => rfl); (case xp => rfl))
  | with_reducible refine wss_nil ?_
  | refine ⟨_, _, _, _, rfl, (by assumption), ?_⟩
  | refine ⟨_, _, _, rfl, (by assumption), ?_⟩
  | refine wss_cons ?_)
local macro_rules | `(tactic| walk_at "gw") => `(tactic| repeat walk_at "n3")
local macro_rules | `(tactic| walk_at "go") => `(tactic| repeat (first | walk_at "n3" | ((with_reducible refine' wt_val ?_ ?xv); (case xv => intro _; rfl))))
local macro_rules | `(tactic| walk_at "hole") => `(tactic| with_reducible (repeat (first | assumption | exact Hole.head | apply Hole.tail)))
theorem map_get {α β : Type} {f : α → β} {l : List α} {i : Nat} {y : β} (h : (l.map f)[i]? = some y) : ∃ x, l[i]? = some x ∧ f x = y := by
  rw [List.getElem?_map] at h
  exact Option.map_eq_some_iff.mp h
theorem atI0 {x : V} {xs : List V} : atI (x :: xs) 0 = some x := atI_nat (j := 0) rfl
theorem atI1 {x y : V} {xs : List V} : atI (x :: y :: xs) 1 = some y := atI_nat (j := 1) rfl
/-- a row of names: a list or a tuple -/
def NmsAt (q : Addr) (ks : List Str) (L : LH) : Prop := Mem q (.lst (ks.map V.str)) L ∨ Mem q (.tup (ks.map V.str)) L
theorem NmsAt.ext {q : Addr} {ks : List Str} {L L' : LH} (h : NmsAt q ks L) (e : Ext L L') : NmsAt q ks L' := h.imp (fun m => e _ _ m fun _ z => nomatch z) (fun m => e _ _ m fun _ z => nomatch z)
theorem NmsAt.cons {q : Addr} {ks : List Str} {L : LH} (h : NmsAt q ks L) (p : Addr × HO) : NmsAt q ks (p :: L) := h.imp .tail .tail
def NmOk (ks : List Str) : Prop := ks.length ≤ 60 ∧ ∀ x ∈ ks, Nm x
section
variable {P : Program} {w : World} {K : PySem.W.Frag} {mg : Str → Option Value} {base : Heap}
/-! is_list_of_names -/
def pLoN : Pre := fun vs L Kk => ∃ q ks, vs = [.ref q] ∧ NmsAt q ks L ∧ NmOk ks ∧ Kk (.bl true) L
theorem scLoN : FnScope ["value", "name"] ["value"] (defScope sIsLoN) := ⟨rfl, rfl, rfl, by decide +kernel, rfl, by decide +kernel, by decide +kernel⟩
theorem okLoN {f C Q : Addr} {fd : FuncData} (F : Fun K "is_list_of_names" "is_list_of_names" sIsLoN f fd) (T : Txt K mg C Q) (GN : GFn P w K mg base "is_name" 1 ["value"] [] (pIsName K)) : FnOk P w K mg base CX0 2 f fd ["value"] (SpL pLoN) := by
  refine fnXC (Vn := ["value"]) (Ln := ["value"]) (Gn := ["isinstance", "list", "tuple", "all"]) F scLoN (by decide +kernel) (fun vs L Kk h => ?_) (fun X e1 e2 e3 e4 e5 hX hr vs L Kk h => ?_)
  · obtain ⟨q, ks, rfl, _⟩ := h
    rfl
  · subst e1 e2 e3 e4 e5
    obtain ⟨q, ks, rfl, hq, ⟨hl, hn⟩, k⟩ := h
    walk_at "go"
    refine ⟨show 2 ≤ sizeLine from len_line, fun tp => ?_⟩
    walk_at "go"
    rcases hq with m | m
    · refine wc_isiT (us := [.type "list", .type "tuple"]) (r := true) .head (.cons (.ty _) (.cons (.ty _) .nil)) (ty_lst (.tail m)) (L2.kitAny_cons (b := true) (kit_ty (by decide +kernel)) (fun z => Bool.noConfusion z) fun _ => rfl) ⟨_, rfl, fun _ => ?_, fun z => Bool.noConfusion z⟩
      refine we_sub (Sub.of_sublist (.cons _ (.refl _))) ?_
      walk_at "go"
      refine x_lc [("name", 1)] hX (by decide +kernel) (wi_list ?_)
      walk_at "go"
      refine ⟨q, _, rfl, .of m, fun D => ⟨fun i L' => L' = (D, .lst (List.replicate i (.bl true))) :: L, rfl, ?_, ?_, ?_⟩⟩
      · rintro i L' _ rfl
        exact .of (.tail m)
      · rintro i v L' L'' hi rfl ⟨rfl, hv⟩
        intro s H' Ca cl fp
        obtain ⟨x, hx, rfl⟩ := map_get hv
        have hB := hX.blk (Vb := ["name"]) (Lb := ["name"]) (Gb := ["is_name"]) (scope := ⟨.function, [(".0", .local), ("name", .local), ("is_name", .globalImplicit)], false, false, []⟩) (by decide +kernel)
        refine x_tgt (hB s H' Ca cl fp) (by walk_at "at") (by walk_at "at") ⟨rfl, fun s H' Ca cl fp => ?_⟩
        have hX' := hB s H' Ca cl fp
        refine x_call hX' (by walk_at "at") GN hr ?_
        walk_at "go"
        refine is_nm _ (hn x (List.mem_of_getElem? hx)) ?_
        refine ⟨_, _, .head, ?_, _, Sub.refl _, ?_⟩
        · rw [List.length_replicate]
          rw [List.length_map] at hi
          exact len_lt (by omega)
        · show _ = _
          rw [List.replicate_succ']
      · rintro L' rfl
        walk_at "go"
        refine wc_all (bs := List.replicate (ks.map V.str).length true) hX.calm (.of (by rw [List.map_replicate]; exact .head)) ?_
        rw [show (List.replicate (ks.map V.str).length true).all id = true by simp]
        exact ret_sub k (Sub.of_sublist (.cons _ (.refl _)))
    · refine wc_isiT (us := [.type "list", .type "tuple"]) (r := true) .head (.cons (.ty _) (.cons (.ty _) .nil)) (ty_tup (.tail m)) (L2.kitAny_cons (b := false) (kit_ty (by decide +kernel)) (fun _ => L2.kitAny_cons (b := true) (kit_ty (by decide +kernel)) (fun z => Bool.noConfusion z) fun _ => rfl) (fun z => Bool.noConfusion z)) ⟨_, rfl, fun _ => ?_, fun z => Bool.noConfusion z⟩
      refine we_sub (Sub.of_sublist (.cons _ (.refl _))) ?_
      walk_at "go"
      refine x_lc [("name", 1)] hX (by decide +kernel) (wi_tup ?_)
      walk_at "go"
      refine ⟨q, _, rfl, .of m, fun D => ⟨fun i L' => L' = (D, .lst (List.replicate i (.bl true))) :: L, rfl, ?_, ?_, ?_⟩⟩
      · rintro i L' _ rfl
        exact .of (.tail m)
      · rintro i v L' L'' hi rfl ⟨rfl, hv⟩
        intro s H' Ca cl fp
        obtain ⟨x, hx, rfl⟩ := map_get hv
        have hB := hX.blk (Vb := ["name"]) (Lb := ["name"]) (Gb := ["is_name"]) (scope := ⟨.function, [(".0", .local), ("name", .local), ("is_name", .globalImplicit)], false, false, []⟩) (by decide +kernel)
        refine x_tgt (hB s H' Ca cl fp) (by walk_at "at") (by walk_at "at") ⟨rfl, fun s H' Ca cl fp => ?_⟩
        have hX' := hB s H' Ca cl fp
        refine x_call hX' (by walk_at "at") GN hr ?_
        walk_at "go"
        refine is_nm _ (hn x (List.mem_of_getElem? hx)) ?_
        refine ⟨_, _, .head, ?_, _, Sub.refl _, ?_⟩
        · rw [List.length_replicate]
          rw [List.length_map] at hi
          exact len_lt (by omega)
        · show _ = _
          rw [List.replicate_succ']
      · rintro L' rfl
        walk_at "go"
        refine wc_all (bs := List.replicate (ks.map V.str).length true) hX.calm (.of (by rw [List.map_replicate]; exact .head)) ?_
        rw [show (List.replicate (ks.map V.str).length true).all id = true by simp]
        exact ret_sub k (Sub.of_sublist (.cons _ (.refl _)))
/-! sign_text -/
def stx (b f : Bool) : Str := if f then (if b then "-" else "") else (if b then " - " else " + ")
def pSignTx : Pre := fun vs L Kk => ∃ b f, vs = [.bl b, .bl f] ∧ Kk (.str (stx b f)) L
theorem scSignTx : FnScope ["is_below", "is_first"] ["is_below", "is_first"] (defScope sSignTx) := ⟨rfl, rfl, rfl, by decide +kernel, rfl, by decide +kernel, by decide +kernel⟩
theorem okSignTx {f C Q : Addr} {fd : FuncData} (F : Fun K "sign_text" "sign_text" sSignTx f fd) (T : Txt K mg C Q) : FnOk P w K mg base CX0 1 f fd ["is_below", "is_first"] (SpL pSignTx) := by
  refine fnX (Gn := []) F scSignTx (by decide +kernel) (fun vs L Kk h => ?_) (fun X e1 e2 e3 e4 e5 hX hr vs L Kk h => ?_)
  · obtain ⟨b, f, rfl, _⟩ := h
    rfl
  · subst e1 e2 e3 e4 e5
    obtain ⟨b, f, rfl, k⟩ := h
    walk_at "go"
    refine ⟨_, rfl, fun z => ?_, fun z => ?_⟩
    · subst z
      walk_at "go"
      refine ⟨_, rfl, fun z => ?_, fun z => ?_⟩
      · subst z
        walk_at "go"
        exact ret_sub k (Sub.refl _)
      · subst z
        walk_at "go"
        exact ret_sub k (Sub.refl _)
    · subst z
      walk_at "go"
      refine ⟨_, rfl, fun z => ?_, fun z => ?_⟩
      · subst z
        walk_at "go"
        exact ret_sub k (Sub.refl _)
      · subst z
        walk_at "go"
        exact ret_sub k (Sub.refl _)
end
end K15
set_option Elab.async false
set_option linter.all false
set_option maxRecDepth 100000
set_option maxHeartbeats 4000000
namespace K15
open PySem L2 N3
local macro_rules | `(tactic| walk_at "at") => `(tactic| with_reducible (repeat (first | exact At.head | apply At.tail)))
local macro_rules | `(tactic| walk_at "mem") => `(tactic| with_reducible (repeat (first | exact Mem.head | apply Mem.tail)))
local macro_rules | `(tactic| walk_at "boot") => `(tactic| with_reducible (first | exact boot_isi | exact boot_max | exact boot_min | exact boot_abs | exact boot_len | exact boot_repr | exact boot_divmod | exact boot_all | exact boot_sorted | exact boot_int | exact boot_bool | exact boot_str | exact boot_list | exact boot_tuple))
local macro_rules | `(tactic| walk_at "room") => `(tactic| (first | assumption | exact Room.mono (by assumption) (by decide)))
local macro_rules | `(tactic| walk_at "none") => `(tactic| (refine Txt.bn (by assumption) _ ?xz; (case xz => with_reducible (repeat (first | exact InS.head | apply InS.tail)))))
local macro_rules | `(tactic| walk_at "n3") => `(tactic| first
  | with_reducible refine ws_ret ?_
  | with_reducible refine we_int ?_
  | with_reducible refine we_str ?_
  | with_reducible refine we_bool ?_
  | with_reducible refine we_none ?_
  | ((with_reducible refine' x_name ?xo ?xa ?xb ?xc ?_); (case xo => assumption); (case xa => walk_at "at"); (case xb => walk_at "at"); (case xc => rfl))
  | ((with_reducible refine' f_tops ?xt ?_ ?xh); (case xt => assumption); (case xh => rfl))
  | ((with_reducible refine' f_qbot ?xt ?_ ?xh); (case xt => assumption); (case xh => rfl))
  | ((with_reducible refine' we_prop ?xg ?xr ?_ ?xh); (case xg => assumption); (case xr => walk_at "room"); (case xh => rfl))
  | with_reducible refine we_bin ?_
  | ((with_reducible refine wo_mulW ?xm ?_); (case xm => exact Sm.cm (by assumption) (by assumption)))
  | with_reducible refine wo_add ?_
  | with_reducible refine wo_sub ?_
  | with_reducible refine wo_lt ?_
  | with_reducible refine wo_gt ?_
  | with_reducible refine wo_le ?_
  | with_reducible refine wo_ge ?_
  | with_reducible refine wu_neg ?_
  | ((with_reducible refine we_cmp ?xh ?_); (case xh => exact nomark _))
  | ((with_reducible refine wt_cmp ?xh ?_); (case xh => exact nomark _))
  | ((with_reducible refine wa_cons ?_ ?xh); (case xh => rfl))
  | with_reducible refine wa_nil ?_
  | with_reducible refine we_and ?_
  | with_reducible refine we_or ?_
  | with_reducible refine we_not ?_
  | with_reducible refine wt_not ?_
  | with_reducible refine we_un ?_
  | with_reducible refine we_one ?_
  | with_reducible refine wt_ww (ww_or ?_)
  | with_reducible refine wt_ww (ww_and ?_)
  | with_reducible refine ww_or ?_
  | with_reducible refine ww_and ?_
  | with_reducible refine ww_or1 ?_
  | with_reducible refine ww_and1 ?_
  | with_reducible refine we_ifExp ?_
  | with_reducible refine ws_if ?_
  | with_reducible refine ws_pass ?_
  | with_reducible refine we_tup ?_
  | with_reducible refine we_lst ?_
  | ((with_reducible refine' x_set ?xo ?xa ?xb ?_ ?xs); (case xo => assumption); (case xa => walk_at "at"); (case xb => walk_at "at"); (case xs => rfl))
  | ((with_reducible refine' x_setF ?_ ?xs); (case xs => rfl))
  | ((with_reducible refine' x_call ?xo ?xa ?xg ?xr ?_ ?xe ?xp); (case xo => assumption); (case xa => walk_at "at"); (case xg => assumption); (case xr => walk_at "room"); (case xe => rfl); (case xp => rfl))
  | ((with_reducible refine' x_callB ?xo ?xa ?xg ?xr ?_ ?xe ?xp); (case xo => assumption); (case xr => walk_at "boot"); (case xa => walk_at "at"); (case xg => walk_at "none"); (case xe => rfl); (case xp => rfl))
  | ((with_reducible refine' x_callTy ?xo ?xa ?xg ?xr ?_ ?xe ?xp); (case xo => assumption); (case xr => walk_at "boot"); (case xa => walk_at "at"); (case xg => walk_at "none"); (case xe => rfl); (case xp => rfl))
  | ((with_reducible refine' x_callFn ?xo ?xa ?xg ?_ ?xe ?xp); (case xo => assumption); (case xg => with_reducible (first | exact Txt.mgcd (by assumption) | exact Txt.mlcm (by assumption))); (case xa => walk_at "at"); (case xe => rfl); (case xp => rfl))
  | ((with_reducible refine' x_bty ?xo ?xa ?xg ?xr ?_); (case xo => assumption); (case xr => walk_at "boot"); (case xa => walk_at "at"); (case xg => walk_at "none"))
  | ((with_reducible refine' x_cls ?xt ?xo ?xa ?_); (case xt => assumption); (case xo => assumption); (case xa => walk_at "at"))
  | ((with_reducible refine' x_clsQ ?xt ?xo ?xa ?_); (case xt => assumption); (case xo => assumption); (case xa => walk_at "at"))
  | ((with_reducible refine' x_make ?xo ?xa ?xg ?xr ?_ ?xe ?xp); (case xo => assumption); (case xa => walk_at "at"); (case xg => assumption); (case xr => walk_at "room"); (case xe => rfl); (case xp => rfl))
  | ((with_reducible refine' x_callG ?xo ?xa ?xg ?xr ?xd ?_ ?xe ?xp); (case xo => assumption); (case xa => walk_at "at"); (case xg => assumption); (case xr => walk_at "room"); (case xd => assumption); (case xe => rfl); (case xp => rfl))
  | with_reducible refine wss_nil ?_
  | refine ⟨_, _, _, _, rfl, (by assumption), ?_⟩
  | refine ⟨_, _, _, rfl, (by assumption), ?_⟩
  | refine wss_cons ?_)
local macro_rules | `(tactic| walk_at "gw") => `(tactic| repeat walk_at "n3")
local macro_rules | `(tactic| walk_at "go") => `(tactic| repeat (first | walk_at "n3" | ((with_reducible refine' wt_val ?_ ?xv); (case xv => intro _; rfl))))
/-- what is asked of a term: its place, its number's value, its keys -/
structure TermAt (C : Addr) (L : LH) (t : Addr) (n d : Int) (ks : List Str) : Prop where
  ex : ∃ v q, Mem t (.tup [v, .ref q]) L ∧ NumL C L v n d ∧ NmsAt q ks L
theorem TermAt.ext {C t : Addr} {L L' : LH} {n d : Int} {ks : List Str} (h : TermAt C L t n d ks) (e : Ext L L') : TermAt C L' t n d ks := by
  obtain ⟨v, q, m, hn, hq⟩ := h.ex
  exact ⟨v, q, e _ _ m (fun _ z => nomatch z), hn.ext e, hq.ext e⟩
section
variable {P : Program} {w : World} {K : PySem.W.Frag} {mg : Str → Option Value} {base : Heap}
/-! is_term -/
def pIsTerm (C : Addr) : Pre := fun vs L Kk => ∃ t n d ks, vs = [.ref t] ∧ TermAt C L t n d ks ∧ NmOk ks ∧ Kk (.bl true) L
theorem scIsTerm : FnScope ["value"] ["value"] (defScope sIsTerm) := ⟨rfl, rfl, rfl, by decide +kernel, rfl, by decide +kernel, by decide +kernel⟩
theorem okIsTerm {f C Q : Addr} {fd : FuncData} (F : Fun K "is_term" "is_term" sIsTerm f fd) (T : Txt K mg C Q) (GN : GFn P w K mg base "is_number" 2 ["value"] [] (pIsNum C)) (GL : GFn P w K mg base "is_list_of_names" 2 ["value"] [] pLoN) : FnOk P w K mg base CX0 3 f fd ["value"] (SpL (pIsTerm C)) := by
  refine fnX (Gn := ["isinstance", "tuple", "len", "is_number", "is_list_of_names"]) F scIsTerm (by decide +kernel) (fun vs L Kk h => ?_) (fun X e1 e2 e3 e4 e5 hX hr vs L Kk h => ?_)
  · obtain ⟨t, n, d, ks, rfl, _⟩ := h
    rfl
  · subst e1 e2 e3 e4 e5
    obtain ⟨t, n, d, ks, rfl, ⟨v, q, m, hn, hq⟩, hk, k⟩ := h
    walk_at "go"
    refine wc_isi (r := true) (.ty _) (ty_tup m) (kit_ty (by decide +kernel)) ⟨_, rfl, fun _ => ?_, fun z => Bool.noConfusion z⟩
    walk_at "go"
    refine wc_lenTup (.of m) ?_
    walk_at "go"
    refine wo_ne rfl ⟨_, rfl, fun z => ?_, fun _ => ?_⟩
    · exact absurd (show (!decide (V.int 2 = V.int 2)) = true from z) (by rw [decide_eq_true rfl]; decide)
    refine wss_nil ?_
    walk_at "go"
    refine we_ixT ?_
    walk_at "go"
    refine ⟨t, _, _, _, rfl, rfl, .of m, atI0, ?_⟩
    walk_at "go"
    refine ⟨v, rfl, ?_, _, rfl, fun _ => ?_, fun z => Bool.noConfusion z⟩
    · cases hn with
      | rat m => exact .inr ⟨_, _, _, rfl, m⟩
      | int n => exact .inl ⟨_, rfl⟩
    walk_at "go"
    refine we_ixT ?_
    walk_at "go"
    refine ⟨t, _, _, _, rfl, rfl, .of m, atI1, ?_⟩
    walk_at "go"
    refine ⟨q, ks, rfl, hq, hk, ?_⟩
    exact ret_sub k (Sub.refl _)
/-! common_bottom -/
def lcmAll : Int → List Int → Int := fun b ds => ds.foldl (fun b d => ((Nat.lcm b.natAbs d.natAbs : Nat) : Int)) b
theorem lcmAll_snoc (b : Int) (ds : List Int) (d : Int) : lcmAll b (ds ++ [d]) = ((Nat.lcm (lcmAll b ds).natAbs d.natAbs : Nat) : Int) := by
  unfold lcmAll
  rw [List.foldl_append]
  rfl
theorem dvd_lcm_i {a b : Int} : a ∣ ((Nat.lcm a.natAbs b.natAbs : Nat) : Int) ∧ b ∣ ((Nat.lcm a.natAbs b.natAbs : Nat) : Int) :=
  ⟨Int.natAbs_dvd.mp (Int.natCast_dvd_natCast.mpr (Nat.dvd_lcm_left ..)), Int.natAbs_dvd.mp (Int.natCast_dvd_natCast.mpr (Nat.dvd_lcm_right ..))⟩
theorem lcm_dvd_i {a b D : Int} (h : a ∣ D) (g : b ∣ D) : ((Nat.lcm a.natAbs b.natAbs : Nat) : Int) ∣ D :=
  Int.natAbs_dvd_natAbs.mp (by rw [Int.natAbs_natCast]; exact Nat.lcm_dvd (Int.natAbs_dvd_natAbs.mpr h) (Int.natAbs_dvd_natAbs.mpr g))
theorem lcmAll_dvd {D : Int} : ∀ (ds : List Int) (b : Int), b ∣ D → (∀ d ∈ ds, d ∣ D) → lcmAll b ds ∣ D
  | [], b, h, _ => h
  | d :: ds, b, h, k => lcmAll_dvd ds _ (lcm_dvd_i h (k d List.mem_cons_self)) fun x hx => k x (List.mem_cons_of_mem _ hx)
theorem dvd_lcmAll : ∀ (ds : List Int) (b : Int), b ∣ lcmAll b ds ∧ ∀ d ∈ ds, d ∣ lcmAll b ds
  | [], b => ⟨Int.dvd_refl _, fun _ h => (List.not_mem_nil h).elim⟩
  | d :: ds, b => by
    obtain ⟨h1, h2⟩ := dvd_lcmAll ds ((Nat.lcm b.natAbs d.natAbs : Nat) : Int)
    refine ⟨Int.dvd_trans dvd_lcm_i.1 h1, fun x hx => ?_⟩
    rcases List.mem_cons.mp hx with e | hx
    · rw [e]; exact Int.dvd_trans dvd_lcm_i.2 h1
    · exact h2 x hx
theorem lcmAll_pos {D : Int} (hD : 0 < D) {ds : List Int} (h : ∀ d ∈ ds, d ∣ D) : 0 < lcmAll 1 ds := by
  have hd := lcmAll_dvd ds 1 (Int.one_dvd D) h
  have h0 : 0 ≤ lcmAll 1 ds := by
    rcases List.eq_nil_or_concat ds with e | ⟨l, x, e⟩
    · rw [e]; decide
    · rw [e, List.concat_eq_append, lcmAll_snoc]; omega
  have h1 : lcmAll 1 ds ≠ 0 := fun z => by
    rw [z] at hd
    have := Int.zero_dvd.mp hd
    omega
  omega
/-- a row of Ratios -/
def RatsAt (C : Addr) (L : LH) (xs : List V) (qs : List (Int × Int)) : Prop := Paired (fun v p => ∃ a dx, v = V.ref a ∧ Mem a (.ins C dx (ratF p.1 p.2)) L) xs qs
theorem paired_get {α β : Type} {R : α → β → Prop} : ∀ {xs : List α} {ys : List β} {i : Nat} {x : α}, Paired R xs ys → xs[i]? = some x → ∃ y, ys[i]? = some y ∧ R x y
  | _, _, _, _, .nil, e => by simp at e
  | _, _, 0, _, .cons r _, e => by simp at e; subst e; exact ⟨_, rfl, r⟩
  | _, _, i + 1, x, .cons _ t, e => by
    obtain ⟨y, h1, h2⟩ := paired_get (i := i) (x := x) t (by simpa using e)
    exact ⟨y, by simpa using h1, h2⟩
theorem take_succ {α : Type} {l : List α} {i : Nat} {x : α} (h : l[i]? = some x) : l.take (i + 1) = l.take i ++ [x] := by
  rw [List.take_add_one, h]
  rfl
def pComBot (C : Addr) : Pre := fun vs L Kk => ∃ q xs qs D, vs = [.ref q] ∧ Mem q (.lst xs) L ∧ RatsAt C L xs qs ∧ 0 < D ∧ D < 2 ^ 64 ∧ (∀ p ∈ qs, p.2 ∣ D) ∧ Kk (.int (lcmAll 1 (qs.map (·.2)))) L
theorem scComBot : FnScope ["numbers", "bottom", "number"] ["numbers"] (defScope sComBot) := ⟨rfl, rfl, rfl, by decide +kernel, rfl, by decide +kernel, by decide +kernel⟩
theorem small_dvd {x D : Int} (h : x ∣ D) (h0 : 0 < D) (h1 : D < 2 ^ 64) : x.natAbs < 2 ^ 64 := by
  have := Nat.le_of_dvd (by omega) (Int.natAbs_dvd_natAbs.mpr h)
  omega
theorem okComBot {f C Q : Addr} {fd : FuncData} (F : Fun K "common_bottom" "common_bottom" sComBot f fd) (T : Txt K mg C Q) (GB : GPr P w K mg base C "bottom" 1 ["self"] (pBot C)) : FnOk P w K mg base CX0 3 f fd ["numbers"] (SpL (pComBot C)) := by
  refine fnX (Gn := ["lcm"]) F scComBot (by decide +kernel) (fun vs L Kk h => ?_) (fun X e1 e2 e3 e4 e5 hX hr vs L Kk h => ?_)
  · obtain ⟨q, xs, qs, D, rfl, _⟩ := h
    rfl
  · subst e1 e2 e3 e4 e5
    obtain ⟨q, xs, qs, D, rfl, m, hx, h0, h1, hd, k⟩ := h
    walk_at "go"
    refine ws_forW hX.calm hX.pas (wi_list ?_)
    walk_at "go"
    refine ⟨q, _, rfl, .of m, fun i σ' L' => ∃ u, σ' = [some (.ref q), some (.int (lcmAll 1 ((qs.map (·.2)).take i))), u] ∧ L' = L, ?_, ?_, ?_, ?_⟩
    · exact ⟨none, rfl, rfl⟩
    · rintro i σ' L' _ ⟨u, rfl, rfl⟩
      exact .of m
    · rintro i v σ' L' L'' hi ⟨u, rfl, rfl⟩ ⟨rfl, hv⟩
      obtain ⟨p, hp, a, dx, rfl, ma⟩ := paired_get hx hv
      have hp2 : (qs.map (·.2))[i]? = some p.2 := by rw [List.getElem?_map, hp]; rfl
      refine x_tgt (by assumption) (by walk_at "at") (by walk_at "at") ?_
      walk_at "go"
      have d1 : lcmAll 1 ((qs.map (·.2)).take i) ∣ D := lcmAll_dvd _ _ (Int.one_dvd D) fun x hx => by
        obtain ⟨z, hz, e⟩ := List.mem_map.mp (List.mem_of_mem_take hx)
        rw [← e]; exact hd z hz
      refine wc_lcm (small_dvd d1 h0 h1) (small_dvd (hd p (List.mem_of_getElem? hp)) h0 h1) ?_
      refine wss_nil ⟨_, Sub.refl _, some (.ref a), ?_, rfl⟩
      rw [take_succ hp2, lcmAll_snoc]
      rfl
    · rintro σ' L' ⟨u, rfl, rfl⟩
      have e : ((qs.map (·.2)).take xs.length) = qs.map (·.2) := List.take_of_length_le (by rw [List.length_map, Paired.length hx]; exact Nat.le_refl _)
      rw [e]
      walk_at "go"
      exact ret_sub k (Sub.refl _)
/-! term_text -/
def ttx (n d : Int) (p : List Str) : Str := if p ≠ [] ∧ n = 1 ∧ d = 1 then PySem.Txt.join "*" p else PySem.Txt.join "*" (rstr n d :: p)
def pTermTx (C : Addr) : Pre := fun vs L Kk => ∃ a dx n d q p, vs = [.ref a, .ref q] ∧ Mem a (.ins C dx (ratF n d)) L ∧ Mem q (.tup (p.map V.str)) L ∧ n.natAbs.log2 < 1920 ∧ d.natAbs.log2 < 1920 ∧ NmOk p ∧ Kk (.str (ttx n d p)) L
theorem scTermTx : FnScope ["number", "product", "words"] ["number", "product"] (defScope sTermTx) := ⟨rfl, rfl, rfl, by decide +kernel, rfl, by decide +kernel, by decide +kernel⟩
theorem sum_len {p : List Str} {m : Nat} (h : ∀ x ∈ p, x.length ≤ m) : (p.map (·.length)).sum ≤ m * p.length := by
  induction p with
  | nil => simp
  | cons x p ih =>
    have a := h x List.mem_cons_self
    have b := ih fun y hy => h y (List.mem_cons_of_mem _ hy)
    have e : m * (x :: p).length = m * p.length + m := by rw [List.length_cons, Nat.mul_succ]
    rw [List.map_cons, List.sum_cons]
    omega
theorem okTermTx {f C Q : Addr} {fd : FuncData} (F : Fun K "term_text" "term_text" sTermTx f fd) (T : Txt K mg C Q) (GM : GMk P w K mg base "Ratio" C 2 ["self", "top", "bottom"] [.int 1] (pInit C)) (GE : GOp P w K mg base C "__eq__" 2 ["self", "other"] (pEq K C)) (GS : GOp P w K mg base C "__str__" 1 ["self"] (pStr C)) : FnOk P w K mg base CX0 4 f fd ["number", "product"] (SpL (pTermTx C)) := by
  refine fnX (Gn := ["Ratio", "str"]) F scTermTx (by decide +kernel) (fun vs L Kk h => ?_) (fun X e1 e2 e3 e4 e5 hX hr vs L Kk h => ?_)
  · obtain ⟨a, dx, n, d, q, p, rfl, _⟩ := h
    rfl
  · subst e1 e2 e3 e4 e5
    obtain ⟨a, dx, n, d, q, p, rfl, ma, mq, hn, hd, ⟨hl, hp⟩, k⟩ := h
    have s1 := sum_len (p := p) (m := 8) fun x hx => (hp x hx).le
    have s2 := rstr_len hn hd
    have l1 : ("*" : Str).length = 1 := by decide +kernel
    have fin : ∀ (ws : List Str) (W : Addr) (L1 : LH), Mem W (.lst (ws.map V.str)) L1 → Mem q (.tup (p.map V.str)) L1 → Sub L1 L → ws.length ≤ 1 → ((ws ++ p).map (·.length)).sum ≤ 12000 → ttx n d p = PySem.Txt.join "*" (ws ++ p) → WSs X (defBody sTermTx).tail [some (.ref a), some (.ref q), some (.ref W)] L1 (EndOf Kk) := by
      intro ws W L1 mW mq1 sb lw sm e
      rw [e] at k
      walk_at "go"
      refine we_join ?_
      walk_at "go"
      refine ⟨_, rfl, ?_⟩
      refine we_lst (wa_star ?_)
      walk_at "go"
      refine ⟨W, _, rfl, .inr (.of mW), ?_⟩
      refine wa_star ?_
      walk_at "go"
      refine ⟨q, _, rfl, .inl (.of mq1), ?_⟩
      refine wa_nil ⟨?_, fun z => ?_⟩
      · rw [List.append_nil, List.length_append, List.length_map, List.length_map]
        exact len_line (by omega)
      · refine ⟨z, ws ++ p, rfl, .of (by rw [List.map_append, List.append_nil]; exact .head), ?_, ?_⟩
        · rw [l1, List.length_append]
          omega
        · exact ret_sub k (fun H h => sb H h.drop)
    walk_at "gw"
    refine wt_row ?_
    walk_at "go"
    refine ⟨q, _, rfl, .inl (.of mq), fun z => ?_, fun z => ?_⟩
    · have np : p ≠ [] := fun e => by rw [e] at z; cases z
      walk_at "go"
      intro o do1
      refine ⟨_, _, _, _, _, rfl, rfl, by decide, by decide, rfl, ?_⟩
      rw [nT_one, nB_one]
      refine wo_ownEq GE (by walk_at "room") (.tail ma) (.ins .head) T.nfC ⟨a, dx, n, d, _, rfl, .tail ma, .inl ⟨o, do1, 1, 1, rfl, .head, _, rfl, fun y => ?_, fun y => ?_⟩⟩
      · have y' := of_decide_eq_true y
        walk_at "go"
        refine ⟨show 0 ≤ sizeLine from len_line, fun W => ?_⟩
        refine fin [] W _ .head (.tail (.tail mq)) (Sub.of_sublist (.cons _ (.cons _ (.refl _)))) (by decide) (by rw [List.nil_append]; omega) ?_
        unfold ttx
        rw [if_pos ⟨np, y'⟩]
        rfl
      · have y' : ¬ (n = 1 ∧ d = 1) := of_decide_eq_false y
        walk_at "go"
        refine wc_ownStr GS (by walk_at "room") (.tail ma) ⟨a, dx, n, d, rfl, .tail ma, hn, hd, _, rfl, ?_⟩
        walk_at "go"
        refine ⟨show 1 ≤ sizeLine from len_line, fun W => ?_⟩
        refine fin [rstr n d] W _ .head (.tail (.tail mq)) (Sub.of_sublist (.cons _ (.cons _ (.refl _)))) (Nat.le_refl 1) (by rw [List.map_append, List.sum_append]; simp; omega) ?_
        unfold ttx
        rw [if_neg (fun g => y' g.2)]
        rfl
    · have np : p = [] := by cases p with
        | nil => rfl
        | cons _ _ => cases z
      refine ⟨fun z => Bool.noConfusion z, fun _ => ?_⟩
      walk_at "go"
      refine wc_ownStr GS (by walk_at "room") ma ⟨a, dx, n, d, rfl, ma, hn, hd, _, rfl, ?_⟩
      walk_at "go"
      refine ⟨show 1 ≤ sizeLine from len_line, fun W => ?_⟩
      refine fin [rstr n d] W _ .head (.tail mq) (Sub.of_sublist (.cons _ (.refl _))) (Nat.le_refl 1) (by rw [List.map_append, List.sum_append]; simp; omega) ?_
      unfold ttx
      rw [if_neg (fun g => g.1 np)]
      rfl
end
end K15
set_option Elab.async false
set_option linter.all false
set_option maxRecDepth 100000
set_option maxHeartbeats 4000000
namespace K15
open PySem L2 N3
local macro_rules | `(tactic| walk_at "at") => `(tactic| with_reducible (repeat (first | exact At.head | apply At.tail)))
local macro_rules | `(tactic| walk_at "mem") => `(tactic| with_reducible (repeat (first | exact Mem.head | apply Mem.tail)))
local macro_rules | `(tactic| walk_at "boot") => `(tactic| with_reducible (first | exact boot_isi | exact boot_max | exact boot_min | exact boot_abs | exact boot_len | exact boot_repr | exact boot_divmod | exact boot_all | exact boot_sorted | exact boot_int | exact boot_bool | exact boot_str | exact boot_list | exact boot_tuple))
local macro_rules | `(tactic| walk_at "room") => `(tactic| (first | assumption | exact Room.mono (by assumption) (by decide)))
local macro_rules | `(tactic| walk_at "none") => `(tactic| (refine Txt.bn (by assumption) _ ?xz; (case xz => with_reducible (repeat (first | exact InS.head | apply InS.tail)))))
local macro_rules | `(tactic| walk_at "n3") => `(tactic| first
  | with_reducible refine ws_ret ?_
  | with_reducible refine we_int ?_
  | with_reducible refine we_str ?_
  | with_reducible refine we_bool ?_
  | with_reducible refine we_none ?_
  | ((with_reducible refine' x_name ?xo ?xa ?xb ?xc ?_); (case xo => assumption); (case xa => walk_at "at"); (case xb => walk_at "at"); (case xc => rfl))
  | ((with_reducible refine' f_tops ?xt ?_ ?xh); (case xt => assumption); (case xh => rfl))
  | ((with_reducible refine' f_qbot ?xt ?_ ?xh); (case xt => assumption); (case xh => rfl))
  | ((with_reducible refine' we_prop ?xg ?xr ?_ ?xh); (case xg => assumption); (case xr => walk_at "room"); (case xh => rfl))
  | with_reducible refine we_bin ?_
  | ((with_reducible refine wo_mulW ?xm ?_); (case xm => exact Sm.cm (by assumption) (by assumption)))
  | with_reducible refine wo_add ?_
  | with_reducible refine wo_sub ?_
  | with_reducible refine wo_lt ?_
  | with_reducible refine wo_gt ?_
  | with_reducible refine wo_le ?_
  | with_reducible refine wo_ge ?_
  | with_reducible refine wu_neg ?_
  | ((with_reducible refine we_cmp ?xh ?_); (case xh => exact nomark _))
  | ((with_reducible refine wt_cmp ?xh ?_); (case xh => exact nomark _))
  | ((with_reducible refine wa_cons ?_ ?xh); (case xh => rfl))
  | with_reducible refine wa_nil ?_
  | with_reducible refine we_and ?_
  | with_reducible refine we_or ?_
  | with_reducible refine we_not ?_
  | with_reducible refine wt_not ?_
  | with_reducible refine we_un ?_
  | with_reducible refine we_one ?_
  | with_reducible refine wt_ww (ww_or ?_)
  | with_reducible refine wt_ww (ww_and ?_)
  | with_reducible refine ww_or ?_
  | with_reducible refine ww_and ?_
  | with_reducible refine ww_or1 ?_
  | with_reducible refine ww_and1 ?_
  | with_reducible refine we_ifExp ?_
  | with_reducible refine ws_if ?_
  | with_reducible refine ws_pass ?_
  | with_reducible refine we_tup ?_
  | with_reducible refine we_lst ?_
  | ((with_reducible refine' x_set ?xo ?xa ?xb ?_ ?xs); (case xo => assumption); (case xa => walk_at "at"); (case xb => walk_at "at"); (case xs => rfl))
  | ((with_reducible refine' x_setF ?_ ?xs); (case xs => rfl))
  | ((with_reducible refine' x_call ?xo ?xa ?xg ?xr ?_ ?xe ?xp); (case xo => assumption); (case xa => walk_at "at"); (case xg => assumption); (case xr => walk_at "room"); (case xe => rfl); (case xp => rfl))
  | ((with_reducible refine' x_callB ?xo ?xa ?xg ?xr ?_ ?xe ?xp); (case xo => assumption); (case xr => walk_at "boot"); (case xa => walk_at "at"); (case xg => walk_at "none"); (case xe => rfl); (case xp => rfl))
  | ((with_reducible refine' x_callTy ?xo ?xa ?xg ?xr ?_ ?xe ?xp); (case xo => assumption); (case xr => walk_at "boot"); (case xa => walk_at "at"); (case xg => walk_at "none"); (case xe => rfl); (case xp => rfl))
  | ((with_reducible refine' x_callFn ?xo ?xa ?xg ?_ ?xe ?xp); (case xo => assumption); (case xg => with_reducible (first | exact Txt.mgcd (by assumption) | exact Txt.mlcm (by assumption))); (case xa => walk_at "at"); (case xe => rfl); (case xp => rfl))
  | ((with_reducible refine' x_bty ?xo ?xa ?xg ?xr ?_); (case xo => assumption); (case xr => walk_at "boot"); (case xa => walk_at "at"); (case xg => walk_at "none"))
  | ((with_reducible refine' x_cls ?xt ?xo ?xa ?_); (case xt => assumption); (case xo => assumption); (case xa => walk_at "at"))
  | ((with_reducible refine' x_clsQ ?xt ?xo ?xa ?_); (case xt => assumption); (case xo => assumption); (case xa => walk_at "at"))
  | ((with_reducible refine' x_make ?xo ?xa ?xg ?xr ?_ ?xe ?xp); (case xo => assumption); (case xa => walk_at "at"); (case xg => assumption); (case xr => walk_at "room"); (case xe => rfl); (case xp => rfl))
  | ((with_reducible refine' x_callG ?xo ?xa ?xg ?xr ?xd ?_ ?xe ?xp); (case xo => assumption); (case xa => walk_at "at"); (case xg => assumption); (case xr => walk_at "room"); (case xd => assumption); (case xe => rfl); (case xp => rfl))
  | with_reducible refine wss_nil ?_
  | refine ⟨_, _, _, _, rfl, (by assumption), ?_⟩
  | refine ⟨_, _, _, rfl, (by assumption), ?_⟩
  | refine wss_cons ?_)
local macro_rules | `(tactic| walk_at "gw") => `(tactic| repeat walk_at "n3")
local macro_rules | `(tactic| walk_at "go") => `(tactic| repeat (first | walk_at "n3" | ((with_reducible refine' wt_val ?_ ?xv); (case xv => intro _; rfl))))
/-! ### sums of products as dicts -/
abbrev PM := List (List Str × Int)
def ik (p : List Str) : TKey := p.map Sum.inr
def kr (r : PM) : List (TKey × V) := r.map fun p => (ik p.1, V.int p.2)
theorem ik_kV (p : List Str) : List.map kV (ik p) = p.map V.str := by
  unfold ik
  rw [List.map_map]
  rfl
theorem ik_inj {p q : List Str} (h : ik p = ik q) : p = q := by
  unfold ik at h
  exact (List.map_inj_right fun a b e => Sum.inr.inj e).mp h
theorem kr_len (r : PM) : (kr r).length = r.length := List.length_map ..
theorem valV_kr (r : PM) (p : List Str) : valV (kr r) (ik p) = (QM.lkO r p).map V.int := by
  induction r with
  | nil => rfl
  | cons q r ih =>
    have e : kr (q :: r) = (ik q.1, V.int q.2) :: kr r := rfl
    rw [e, QM.lkO_cons]
    by_cases h : q.1 = p
    · rw [if_pos h, valV_pos (by rw [h])]; rfl
    · rw [if_neg h, valV_neg (fun z => h (ik_inj z)), ih]
theorem putK_kr (r : PM) (p : List Str) (v : Int) : putK (kr r) (ik p) (.int v) = kr (QM.pt r p v) := by
  have ea : ((kr r).any fun kv => decide (kv.1 = ik p)) = (r.any fun q => decide (q.1 = p)) := by
    unfold kr
    rw [List.any_map]
    congr 1
    funext q
    simp only [Function.comp]
    by_cases h : q.1 = p
    · rw [decide_eq_true h, decide_eq_true (by rw [h])]
    · rw [decide_eq_false h, decide_eq_false fun z => h (ik_inj z)]
  unfold putK QM.pt
  rw [ea]
  split
  · unfold kr
    rw [List.map_map, List.map_map]
    refine List.map_congr_left fun q _ => ?_
    simp only [Function.comp]
    by_cases h : q.1 = p
    · rw [if_pos h, if_pos (by rw [h])]
    · rw [if_neg h, if_neg fun z => h (ik_inj z)]
  · unfold kr
    rw [List.map_append]
    rfl
theorem pt_new {α : Type} [DecidableEq α] {m : List (α × Int)} {k : α} (v : Int) (h : k ∉ m.map (·.1)) : QM.pt m k v = m ++ [(k, v)] := by
  unfold QM.pt
  rw [QM.any_key, if_neg (by simpa using h)]
theorem kr_get {r : PM} {i : Nat} {k : TKey} {u : V} (h : (kr r)[i]? = some (k, u)) : ∃ p, r[i]? = some p ∧ k = ik p.1 ∧ u = .int p.2 := by
  obtain ⟨p, hp, e⟩ := map_get h
  exact ⟨p, hp, (Prod.mk.inj e).1.symm, (Prod.mk.inj e).2.symm⟩
/-- a Question at o: its products over its bottom -/
structure QAt (Q o : Addr) (r : PM) (c : Int) (L : LH) : Prop where
  ex : ∃ dx d, Mem o (.ins Q dx (qF d c)) L ∧ Mem d (.dT (kr r)) L
theorem QAt.ext {Q o : Addr} {r : PM} {c : Int} {L L' : LH} (h : QAt Q o r c L) (e : Ext L L') : QAt Q o r c L' := by
  obtain ⟨dx, d, m1, m2⟩ := h.ex
  exact ⟨dx, d, e _ _ m1 (fun _ z => nomatch z), e _ _ m2 (fun _ z => nomatch z)⟩
theorem qF_len (d : Addr) (c : Int) : (qF d c).length = 2 := by
  simp [qF, putF, tbs]
/-- what is new is no place that was known -/
theorem fresh_ne {o : Addr} {u : HO} {L : LH} (nd : Apart ((o, u) :: L)) (nt : tupB u = false) {a : Addr} {v : HO} (m : Mem a v L) : a ≠ o := fun e => by
  have := nd.1 (a, v) m.mem e
  rw [nt] at this
  cases this.2
/-- what is written at a place that was not known -/
theorem ext_hole {L L' : LH} (h : Ext L L') {o : Addr} {F : HO → LH} (keep : ∀ b v, b ≠ o → Mem b v L' → ∀ u', Mem b v (F u')) (ne : ∀ a v, Mem a v L → a ≠ o) (u' : HO) : Ext L (F u') := fun a v m n => keep a v (ne a v m) (h a v m n) u'
section
variable {P : Program} {w : World} {K : PySem.W.Frag} {mg : Str → Option Value} {base : Heap}
/-! in_order -/
def pInOrder (TB : Addr) : Pre := fun vs L Kk => ∃ l ts, vs = [.ref l] ∧ Mem l (.lst (refs ts)) L ∧ Tps ts L ∧ TabIn TB qN L ∧ ∀ d L2 ts', Ext L L2 → TabIn TB qN L2 → ts'.Perm ts → ts'.Pairwise (fun a b => ¬ ltP b.2 a.2) → Kk (.ref d) ((d, .lst (refs ts')) :: L2)
theorem scInOrder : FnScope ["products"] ["products"] (defScope sInOrder) := ⟨rfl, rfl, rfl, by decide +kernel, rfl, by decide +kernel, by decide +kernel⟩
theorem scLam : FnScope ["product"] ["product"] ⟨.function, [("product", .local), ("len", .globalImplicit)], false, false, []⟩ := ⟨rfl, rfl, rfl, by decide +kernel, rfl, by decide +kernel, by decide +kernel⟩
theorem okInOrder {f c TB C Q : Addr} {fd : FuncData} (F : FunC K "in_order" "in_order" sInOrder f fd c) (T : Txt K mg C Q) (B : LamX.TabB base mg c TB) : FnOk P w K mg base CX0 6 f fd ["products"] (SpL (pInOrder TB)) := by
  refine fnXM (Gn := ["sorted"]) (T := TB) F scInOrder (by decide +kernel) (fun vs L Kk h => ?_) (fun X e1 e2 e3 e4 e5 hc hq hX hr vs L Kk h => ?_)
  · obtain ⟨l, ts, rfl, _⟩ := h
    rfl
  · subst e1 e2 e3 e4 e5
    obtain ⟨l, ts, rfl, ml, ht, hT, k⟩ := h
    refine wss_cons (ws_ret ?_)
    have gs := hX.glo (x := "sorted") .head
    refine x_sortedLam (k := 1) (c := c) (P := TB) (q := qN) (scope := ⟨.function, [("product", .local), ("len", .globalImplicit)], false, false, []⟩) hr gs.1 (T.bn _ (by with_reducible (repeat (first | exact InS.head | apply InS.tail)))) (T.bn _ (by with_reducible (repeat (first | exact InS.head | apply InS.tail)))) B hc (by rw [hq]; decide +kernel) rfl (by decide +kernel) (fun _ => rfl) scLam (by decide +kernel) (by decide +kernel) (by decide +kernel) (fun _ _ _ _ => rfl) ?_
    walk_at "go"
    refine ⟨l, ts, rfl, ml, ht, hT, fun d L2 ts' hE hT2 hp hs => ?_⟩
    exact ret_sub (k d L2 ts' hE hT2 hp hs) (Sub.refl _)
end
end K15
set_option Elab.async false
set_option linter.all false
set_option maxRecDepth 100000
set_option maxHeartbeats 4000000
namespace K15
open PySem L2 N3
local macro_rules | `(tactic| walk_at "at") => `(tactic| with_reducible (repeat (first | exact At.head | apply At.tail)))
local macro_rules | `(tactic| walk_at "mem") => `(tactic| with_reducible (repeat (first | exact Mem.head | apply Mem.tail)))
local macro_rules | `(tactic| walk_at "boot") => `(tactic| with_reducible (first | exact boot_isi | exact boot_max | exact boot_min | exact boot_abs | exact boot_len | exact boot_repr | exact boot_divmod | exact boot_all | exact boot_sorted | exact boot_int | exact boot_bool | exact boot_str | exact boot_list | exact boot_tuple))
local macro_rules | `(tactic| walk_at "room") => `(tactic| (first | assumption | exact Room.mono (by assumption) (by decide)))
local macro_rules | `(tactic| walk_at "none") => `(tactic| (refine Txt.bn (by assumption) _ ?xz; (case xz => with_reducible (repeat (first | exact InS.head | apply InS.tail)))))
local macro_rules | `(tactic| walk_at "n3") => `(tactic| first
  | with_reducible refine ws_ret ?_
  | with_reducible refine we_int ?_
  | with_reducible refine we_str ?_
  | with_reducible refine we_bool ?_
  | with_reducible refine we_none ?_
  | ((with_reducible refine' x_name ?xo ?xa ?xb ?xc ?_); (case xo => assumption); (case xa => walk_at "at"); (case xb => walk_at "at"); (case xc => rfl))
  | ((with_reducible refine' f_tops ?xt ?_ ?xh); (case xt => assumption); (case xh => rfl))
  | ((with_reducible refine' f_qbot ?xt ?_ ?xh); (case xt => assumption); (case xh => rfl))
  | ((with_reducible refine' we_prop ?xg ?xr ?_ ?xh); (case xg => assumption); (case xr => walk_at "room"); (case xh => rfl))
  | with_reducible refine we_bin ?_
  | ((with_reducible refine wo_mulW ?xm ?_); (case xm => exact Sm.cm (by assumption) (by assumption)))
  | with_reducible refine wo_add ?_
  | with_reducible refine wo_sub ?_
  | with_reducible refine wo_lt ?_
  | with_reducible refine wo_gt ?_
  | with_reducible refine wo_le ?_
  | with_reducible refine wo_ge ?_
  | with_reducible refine wu_neg ?_
  | ((with_reducible refine we_cmp ?xh ?_); (case xh => exact nomark _))
  | ((with_reducible refine wt_cmp ?xh ?_); (case xh => exact nomark _))
  | ((with_reducible refine wa_cons ?_ ?xh); (case xh => rfl))
  | with_reducible refine wa_nil ?_
  | with_reducible refine we_and ?_
  | with_reducible refine we_or ?_
  | with_reducible refine we_not ?_
  | with_reducible refine wt_not ?_
  | with_reducible refine we_un ?_
  | with_reducible refine we_one ?_
  | with_reducible refine wt_ww (ww_or ?_)
  | with_reducible refine wt_ww (ww_and ?_)
  | with_reducible refine ww_or ?_
  | with_reducible refine ww_and ?_
  | with_reducible refine ww_or1 ?_
  | with_reducible refine ww_and1 ?_
  | with_reducible refine we_ifExp ?_
  | with_reducible refine ws_if ?_
  | with_reducible refine ws_pass ?_
  | with_reducible refine we_tup ?_
  | with_reducible refine we_lst ?_
  | ((with_reducible refine' x_set ?xo ?xa ?xb ?_ ?xs); (case xo => assumption); (case xa => walk_at "at"); (case xb => walk_at "at"); (case xs => rfl))
  | ((with_reducible refine' x_setF ?_ ?xs); (case xs => rfl))
  | ((with_reducible refine' x_call ?xo ?xa ?xg ?xr ?_ ?xe ?xp); (case xo => assumption); (case xa => walk_at "at"); (case xg => assumption); (case xr => walk_at "room"); (case xe => rfl); (case xp => rfl))
  | ((with_reducible refine' x_callB ?xo ?xa ?xg ?xr ?_ ?xe ?xp); (case xo => assumption); (case xr => walk_at "boot"); (case xa => walk_at "at"); (case xg => walk_at "none"); (case xe => rfl); (case xp => rfl))
  | ((with_reducible refine' x_callTy ?xo ?xa ?xg ?xr ?_ ?xe ?xp); (case xo => assumption); (case xr => walk_at "boot"); (case xa => walk_at "at"); (case xg => walk_at "none"); (case xe => rfl); (case xp => rfl))
  | ((with_reducible refine' x_callFn ?xo ?xa ?xg ?_ ?xe ?xp); (case xo => assumption); (case xg => with_reducible (first | exact Txt.mgcd (by assumption) | exact Txt.mlcm (by assumption))); (case xa => walk_at "at"); (case xe => rfl); (case xp => rfl))
  | ((with_reducible refine' x_bty ?xo ?xa ?xg ?xr ?_); (case xo => assumption); (case xr => walk_at "boot"); (case xa => walk_at "at"); (case xg => walk_at "none"))
  | ((with_reducible refine' x_cls ?xt ?xo ?xa ?_); (case xt => assumption); (case xo => assumption); (case xa => walk_at "at"))
  | ((with_reducible refine' x_clsQ ?xt ?xo ?xa ?_); (case xt => assumption); (case xo => assumption); (case xa => walk_at "at"))
  | ((with_reducible refine' x_make ?xo ?xa ?xg ?xr ?_ ?xe ?xp); (case xo => assumption); (case xa => walk_at "at"); (case xg => assumption); (case xr => walk_at "room"); (case xe => rfl); (case xp => rfl))
  | ((with_reducible refine' x_callG ?xo ?xa ?xg ?xr ?xd ?_ ?xe ?xp); (case xo => assumption); (case xa => walk_at "at"); (case xg => assumption); (case xr => walk_at "room"); (case xd => assumption); (case xe => rfl); (case xp => rfl))
  | with_reducible refine wss_nil ?_
  | refine ⟨_, _, _, _, rfl, (by assumption), ?_⟩
  | refine ⟨_, _, _, rfl, (by assumption), ?_⟩
  | refine wss_cons ?_)
local macro_rules | `(tactic| walk_at "gw") => `(tactic| repeat walk_at "n3")
local macro_rules | `(tactic| walk_at "go") => `(tactic| repeat (first | walk_at "n3" | ((with_reducible refine' wt_val ?_ ?xv); (case xv => intro _; rfl))))
section
variable {P : Program} {w : World} {K : PySem.W.Frag} {mg : Str → Option Value} {base : Heap}
/-- the empty tuple of the written part -/
def EmpT (K : PySem.W.Frag) (t : Addr) : Prop := ∃ (o : Obj) (n : Nat), K.lookup t = some o ∧ o.cls = .type "tuple" ∧ o.data = .seq #[] n
theorem EmpT.sq {t : Addr} {L : LH} (h : EmpT K t) : SqTL K t [] L := fun H _ => by
  obtain ⟨o, n, h1, h2, h3⟩ := h
  exact .inr ⟨o, #[], n, h1, h2, h3, Nat.zero_le _, .nil⟩
theorem EmpT.ty {t : Addr} {L : LH} (h : EmpT K t) : TyL K (.ref t) (.type "tuple") L := fun H _ => by
  obtain ⟨o, n, h1, h2, h3⟩ := h
  exact .kTuple h1 h2
/-! Question.__init__ of no terms -/
def pInit0 (K : PySem.W.Frag) (Q : Addr) : Pre := fun vs L Kk => ∃ o dx t L0, vs = [.ref o, .ref t] ∧ L = (o, .ins Q dx []) :: L0 ∧ EmpT K t ∧ ∀ d, Kk .non ((d, .dT []) :: (o, .ins Q dx (qF d 1)) :: L0)
abbrev nInit : List Str := ["self", "terms", "position", "term", "number", "bottom", "tops", "keys", "ratio", "product", "lowest", "_"]
abbrev lInit : List Str := ["self", "terms", "position", "term", "number", "bottom", "tops", "keys", "ratio", "product", "lowest"]
abbrev gInit : List Str := ["isinstance", "list", "tuple", "enumerate", "is_term", "common_bottom", "as_ratio", "sorted", "question_of"]
theorem scQInit : FnScope nInit ["self", "terms"] (defScope sQInit) := ⟨rfl, rfl, rfl, by decide +kernel, rfl, by decide +kernel, by decide +kernel⟩
theorem okInit0 {f C Q t0 : Addr} {fd : FuncData} (F : FunD K "__init__" "Question.__init__" (defArgs sQInit) (defBody sQInit) (defScope sQInit) [.ref t0] [] f fd) (T : Txt K mg C Q) :
    FnOk P w K mg base CX0 1 f fd ["self", "terms"] (SpL (pInit0 K Q)) := by
  refine fnXDC (Vn := lInit) (Ln := lInit) (Gn := gInit) F scQInit (by decide +kernel) (fun vs L Kk h => ?_) (fun X e1 e2 e3 e4 e5 hX hr vs L Kk h => ?_)
  · obtain ⟨o, dx, t, L0, rfl, _⟩ := h
    rfl
  · subst e1 e2 e3 e4 e5
    obtain ⟨o, dx, t, L0, rfl, rfl, ht, k⟩ := h
    walk_at "go"
    refine ⟨show 2 ≤ sizeLine from len_line, fun tp => ?_⟩
    walk_at "go"
    refine wc_isiT (us := [.type "list", .type "tuple"]) (r := true) .head (.cons (.ty _) (.cons (.ty _) .nil)) ht.ty (L2.kitAny_cons (b := false) (kit_ty (by decide +kernel)) (fun _ => L2.kitAny_cons (b := true) (kit_ty (by decide +kernel)) (fun z => Bool.noConfusion z) fun _ => rfl) (fun z => Bool.noConfusion z)) ⟨_, rfl, (fun z => Bool.noConfusion z), fun _ => ?_⟩
    refine wss_nil (wss_sub (Sub.of_sublist (.cons _ (.refl _))) ?_)
    have ge := hX.glo (x := "enumerate") (by walk_at "at")
    refine wss_cons (ws_forEnum0 hX.calm hX.pas ge.1 (T.bn _ (by with_reducible (repeat (first | exact InS.head | apply InS.tail)))) ?_)
    refine x_name (by assumption) (by walk_at "at") (by walk_at "at") rfl ⟨t, rfl, ht.sq, ?_⟩
    refine wss_cons (x_setF ?_ (by rfl))
    refine we_dnewT fun d => ?_
    refine x_name (by assumption) (by walk_at "at") (by walk_at "at") rfl ⟨o, Q, dx, _, _, rfl, .tail .head, T.qcl, T.qnT, by decide, ?_⟩
    refine wss_cons (x_setF ?_ (by rfl))
    walk_at "go"
    refine ⟨o, Q, dx, _, _, rfl, .tail .head, T.qcl, T.qnB, (show 1 < 1000 by decide), ?_⟩
    refine wss_cons (ws_if ?_)
    refine wt_row ?_
    refine x_name (by assumption) (by walk_at "at") (by walk_at "at") rfl ⟨t, [], rfl, .inl ht.sq, (fun z => Bool.noConfusion z), fun _ => ?_⟩
    refine wss_nil (wss_nil ?_)
    exact nx_sub (k d) (Sub.refl _)
end
end K15
set_option Elab.async false
set_option linter.all false
set_option maxRecDepth 100000
set_option maxHeartbeats 4000000
namespace K15
open PySem L2 N3
local macro_rules | `(tactic| walk_at "at") => `(tactic| with_reducible (repeat (first | exact At.head | apply At.tail)))
local macro_rules | `(tactic| walk_at "mem") => `(tactic| with_reducible (repeat (first | exact Mem.head | apply Mem.tail)))
local macro_rules | `(tactic| walk_at "boot") => `(tactic| with_reducible (first | exact boot_isi | exact boot_max | exact boot_min | exact boot_abs | exact boot_len | exact boot_repr | exact boot_divmod | exact boot_all | exact boot_sorted | exact boot_int | exact boot_bool | exact boot_str | exact boot_list | exact boot_tuple))
local macro_rules | `(tactic| walk_at "room") => `(tactic| (first | assumption | exact Room.mono (by assumption) (by decide)))
local macro_rules | `(tactic| walk_at "none") => `(tactic| (refine Txt.bn (by assumption) _ ?xz; (case xz => with_reducible (repeat (first | exact InS.head | apply InS.tail)))))
local macro_rules | `(tactic| walk_at "n3") => `(tactic| first
  | with_reducible refine ws_ret ?_
  | with_reducible refine we_int ?_
  | with_reducible refine we_str ?_
  | with_reducible refine we_bool ?_
  | with_reducible refine we_none ?_
  | ((with_reducible refine' x_name ?xo ?xa ?xb ?xc ?_); (case xo => assumption); (case xa => walk_at "at"); (case xb => walk_at "at"); (case xc => rfl))
  | ((with_reducible refine' f_tops ?xt ?_ ?xh); (case xt => assumption); (case xh => rfl))
  | ((with_reducible refine' f_qbot ?xt ?_ ?xh); (case xt => assumption); (case xh => rfl))
  | ((with_reducible refine' we_prop ?xg ?xr ?_ ?xh); (case xg => assumption); (case xr => walk_at "room"); (case xh => rfl))
  | with_reducible refine we_bin ?_
  | ((with_reducible refine wo_mulW ?xm ?_); (case xm => exact Sm.cm (by assumption) (by assumption)))
  | with_reducible refine wo_add ?_
  | with_reducible refine wo_sub ?_
  | with_reducible refine wo_lt ?_
  | with_reducible refine wo_gt ?_
  | with_reducible refine wo_le ?_
  | with_reducible refine wo_ge ?_
  | with_reducible refine wu_neg ?_
  | ((with_reducible refine we_cmp ?xh ?_); (case xh => exact nomark _))
  | ((with_reducible refine wt_cmp ?xh ?_); (case xh => exact nomark _))
  | ((with_reducible refine wa_cons ?_ ?xh); (case xh => rfl))
  | with_reducible refine wa_nil ?_
  | with_reducible refine we_and ?_
  | with_reducible refine we_or ?_
  | with_reducible refine we_not ?_
  | with_reducible refine wt_not ?_
  | with_reducible refine we_un ?_
  | with_reducible refine we_one ?_
  | with_reducible refine wt_ww (ww_or ?_)
  | with_reducible refine wt_ww (ww_and ?_)
  | with_reducible refine ww_or ?_
  | with_reducible refine ww_and ?_
  | with_reducible refine ww_or1 ?_
  | with_reducible refine ww_and1 ?_
  | with_reducible refine we_ifExp ?_
  | with_reducible refine ws_if ?_
  | with_reducible refine ws_pass ?_
  | with_reducible refine we_tup ?_
  | with_reducible refine we_lst ?_
  | ((with_reducible refine' x_set ?xo ?xa ?xb ?_ ?xs); (case xo => assumption); (case xa => walk_at "at"); (case xb => walk_at "at"); (case xs => rfl))
  | ((with_reducible refine' x_setF ?_ ?xs); (case xs => rfl))
  | ((with_reducible refine' x_call ?xo ?xa ?xg ?xr ?_ ?xe ?xp); (case xo => assumption); (case xa => walk_at "at"); (case xg => assumption); (case xr => walk_at "room"); (case xe => rfl); (case xp => rfl))
  | ((with_reducible refine' x_callB ?xo ?xa ?xg ?xr ?_ ?xe ?xp); (case xo => assumption); (case xr => walk_at "boot"); (case xa => walk_at "at"); (case xg => walk_at "none"); (case xe => rfl); (case xp => rfl))
  | ((with_reducible refine' x_callTy ?xo ?xa ?xg ?xr ?_ ?xe ?xp); (case xo => assumption); (case xr => walk_at "boot"); (case xa => walk_at "at"); (case xg => walk_at "none"); (case xe => rfl); (case xp => rfl))
  | ((with_reducible refine' x_callFn ?xo ?xa ?xg ?_ ?xe ?xp); (case xo => assumption); (case xg => with_reducible (first | exact Txt.mgcd (by assumption) | exact Txt.mlcm (by assumption))); (case xa => walk_at "at"); (case xe => rfl); (case xp => rfl))
  | ((with_reducible refine' x_bty ?xo ?xa ?xg ?xr ?_); (case xo => assumption); (case xr => walk_at "boot"); (case xa => walk_at "at"); (case xg => walk_at "none"))
  | ((with_reducible refine' x_cls ?xt ?xo ?xa ?_); (case xt => assumption); (case xo => assumption); (case xa => walk_at "at"))
  | ((with_reducible refine' x_clsQ ?xt ?xo ?xa ?_); (case xt => assumption); (case xo => assumption); (case xa => walk_at "at"))
  | ((with_reducible refine' x_make ?xo ?xa ?xg ?xr ?_ ?xe ?xp); (case xo => assumption); (case xa => walk_at "at"); (case xg => assumption); (case xr => walk_at "room"); (case xe => rfl); (case xp => rfl))
  | ((with_reducible refine' x_callG ?xo ?xa ?xg ?xr ?xd ?_ ?xe ?xp); (case xo => assumption); (case xa => walk_at "at"); (case xg => assumption); (case xr => walk_at "room"); (case xd => assumption); (case xe => rfl); (case xp => rfl))
  | with_reducible refine wss_nil ?_
  | refine ⟨_, _, _, _, rfl, (by assumption), ?_⟩
  | refine ⟨_, _, _, rfl, (by assumption), ?_⟩
  | refine wss_cons ?_)
local macro_rules | `(tactic| walk_at "gw") => `(tactic| repeat walk_at "n3")
local macro_rules | `(tactic| walk_at "go") => `(tactic| repeat (first | walk_at "n3" | ((with_reducible refine' wt_val ?_ ?xv); (case xv => intro _; rfl))))
theorem hu1 {k : Nat} {A : Around} (r : Room k A) : A.units + 1 < cLine := by have := r.units; omega
/-- the rows of a dict's keys, by their places -/
def tsOf (m : PM) (bs : List Addr) : List (Addr × List Str) := List.zipWith (fun q b => (b, q.1)) m bs
theorem tsOf_refs : ∀ {m : PM} {bs : List Addr}, bs.length = m.length → refs (tsOf m bs) = bs.map V.ref
  | [], [], _ => rfl
  | _ :: m, b :: bs, h => by
    show V.ref b :: refs (tsOf m bs) = _
    rw [tsOf_refs (by simpa using h)]
    rfl
theorem tsOf_snd : ∀ {m : PM} {bs : List Addr}, bs.length = m.length → (tsOf m bs).map (·.2) = m.map (·.1)
  | [], [], _ => rfl
  | q :: m, b :: bs, h => by
    show q.1 :: (tsOf m bs).map (·.2) = _
    rw [tsOf_snd (by simpa using h)]
    rfl
theorem tsOf_tps {L : LH} : ∀ {m : PM} {bs : List Addr}, Tps (tsOf m bs) (tksOf (kr m) bs ++ L)
  | [], _ => fun t h => (List.not_mem_nil h).elim
  | _ :: _, [] => fun t h => (List.not_mem_nil h).elim
  | q :: m, b :: bs => fun t h => by
    rcases List.mem_cons.mp h with e | h
    · subst e
      show Mem b _ ((b, HO.tup (List.map kV (ik q.1))) :: (tksOf (kr m) bs ++ L))
      rw [ik_kV]
      exact .head
    · exact .tail (tsOf_tps (m := m) (bs := bs) t h)
theorem map_getI {α β : Type} {f : α → β} {l : List α} {i : Nat} {x : α} (h : l[i]? = some x) : (l.map f)[i]? = some (f x) := by
  rw [List.getElem?_map, h]
  rfl
theorem lkO_of {m : PM} (nd : (m.map (·.1)).Nodup) {y : List Str} (hy : y ∈ m.map (·.1)) : QM.lkO m y = some (QM.lk m y) := by
  obtain ⟨p, hp, e⟩ := List.mem_map.mp hy
  rw [← e, QM.lk_mem nd hp, QM.lkO_mem nd hp]
/-- the keys that are not 0, divided -/
def pick (m : PM) (g : Int) (ys : List (List Str)) : PM := (ys.filter fun k => decide (QM.lk m k ≠ 0)).map fun k => (k, QM.lk m k / g)
theorem filt_take {α : Type} {f : α → Bool} {l : List α} {i : Nat} {x : α} (h : l[i]? = some x) : (l.take (i + 1)).filter f = if f x = true then (l.take i).filter f ++ [x] else (l.take i).filter f := by
  rw [List.take_add_one, h, List.filter_append]
  cases e : f x <;> simp [e]
theorem pick_step {m : PM} {g : Int} {ys : List (List Str)} {i : Nat} {y : List Str} (h : ys[i]? = some y) : pick m g (ys.take (i + 1)) = if QM.lk m y ≠ 0 then pick m g (ys.take i) ++ [(y, QM.lk m y / g)] else pick m g (ys.take i) := by
  unfold pick
  rw [filt_take h]
  by_cases z : QM.lk m y ≠ 0
  · rw [if_pos (decide_eq_true z), if_pos z, List.map_append]
    rfl
  · rw [if_neg (by simpa using z), if_neg z]
theorem pick_keys {m : PM} {g : Int} {ys : List (List Str)} : (pick m g ys).map (·.1) = ys.filter fun k => decide (QM.lk m k ≠ 0) := by
  unfold pick
  rw [List.map_map]
  exact List.map_id _
theorem pick_len {m : PM} {g : Int} {ys : List (List Str)} : (pick m g ys).length ≤ ys.length := by
  unfold pick
  rw [List.length_map]
  exact List.length_filter_le _ _
theorem not_in_take {α : Type} {l : List α} {i : Nat} {y : α} (nd : l.Nodup) (h : l[i]? = some y) : y ∉ l.take i := by
  intro h2
  have e := List.take_append_drop i l
  rw [← e, List.nodup_append] at nd
  have hlt : i < l.length := (List.getElem?_eq_some_iff.mp h).1
  have hd : y ∈ l.drop i := by
    rw [List.drop_eq_getElem_cons hlt, (List.getElem?_eq_some_iff.mp h).2]
    exact List.mem_cons_self
  exact nd.2.2 y h2 y hd rfl
section
variable {P : Program} {w : World} {K : PySem.W.Frag} {mg : Str → Option Value} {base : Heap}
/-! question_of -/
def pQOf (TB Q : Addr) : Pre := fun vs L Kk => ∃ d b m, vs = [.ref d, .int b] ∧ Mem d (.dT (kr m)) L ∧ (m.map (·.1)).Nodup ∧ 0 < b ∧ b.natAbs.log2 < 9000 ∧ m.length < 1000 ∧ TabIn TB qN L ∧
  ∀ o r c L', Ext L L' → TabIn TB qN L' → QAt Q o r c L' → QM.Red ltP r c → (∀ k, QM.val r c k = QM.val m b k) → Kk (.ref o) L'
abbrev nQOf : List Str := ["tops", "bottom", "common", "product", "question"]
theorem scQOf : FnScope nQOf ["tops", "bottom"] (defScope sQOf) := ⟨rfl, rfl, rfl, by decide +kernel, rfl, by decide +kernel, by decide +kernel⟩
theorem okQOf {f TB C Q t0 : Addr} {fd : FuncData} (F : Fun K "question_of" "question_of" sQOf f fd) (T : Txt K mg C Q) (E0 : EmpT K t0) (GQ : GMk P w K mg base "Question" Q 1 ["self", "terms"] [.ref t0] (pInit0 K Q))
    (GI : GFn P w K mg base "in_order" 6 ["products"] [] (pInOrder TB)) : FnOk P w K mg base CX0 7 f fd ["tops", "bottom"] (SpL (pQOf TB Q)) := by
  refine fnXCC (Vn := nQOf) (Ln := ["bottom", "product", "question"]) (Gn := ["gcd", "Question", "in_order", "list"]) F scQOf (by decide +kernel) (fun vs L Kk h => ?_) (fun X e1 e2 e3 e4 e5 hX hfn hr vs L Kk h => ?_)
  · obtain ⟨d, b, m, rfl, _⟩ := h
    rfl
  · subst e1 e2 e3 e4 e5
    obtain ⟨d, b, m, rfl, md, nd, hb, lb, lm, hT, k⟩ := h
    refine wss_cons (x_setC hX hfn (by walk_at "at") (by decide +kernel) ?_)
    refine x_name (by assumption) (by walk_at "at") (by walk_at "at") rfl ?_
    obtain ⟨G, hf, other⟩ := md.hole
    refine wss_cons (ws_lock hf True.intro fun od => ?_)
    have hh := hf.again' (.frz od (.dT (kr m)))
    refine ws_forW hX.calm hX.pas (wi_keysT ?_)
    refine x_name (by assumption) (by walk_at "at") (by walk_at "at") rfl ?_
    refine ⟨d, od, kr m, rfl, hh.mm, fun i σ' L' => ∃ u, σ' = [some (.ref d), some (.int b), some (.int (QM.gAll b ((m.map (·.2)).take i))), u, none] ∧ L' = G (.frz od (.dT (kr m))), ⟨none, rfl, rfl⟩, ?_, ?_, ?_⟩
    · rintro i σ' L' _ ⟨_, _, rfl⟩
      exact hh.mm
    · rintro i v σ' L' L'' hi ⟨u, rfl, rfl⟩ ⟨kk, uu, q, hk, rfl, rfl⟩
      obtain ⟨p, hp, rfl, rfl⟩ := kr_get hk
      refine x_tgt (by assumption) (by walk_at "at") (by walk_at "at") ?_
      refine wss_cons (x_setC hX hfn (by walk_at "at") (by decide +kernel) ?_)
      walk_at "go"
      refine we_dget (hu1 hr) ?_
      walk_at "go"
      refine ⟨d, .int p.2, rfl, ?_, ?_⟩
      · have := DGL.t (a := d) (b := q) (ik p.1) (RdL.fz (.tail hh.mm)) (L := (q, .tup (List.map kV (ik p.1))) :: G (.frz od (.dT (kr m)))) .head
        rw [valV_kr, QM.lkO_mem nd (List.mem_of_getElem? hp)] at this
        exact this
      walk_at "go"
      refine wc_gcd ?_
      refine wss_nil ⟨_, Sub.of_sublist (.cons _ (.refl _)), some (.ref q), ?_, rfl⟩
      rw [take_succ (map_getI (f := (·.2)) hp)]
      have e : ∀ (l : List Int) (c x : Int), QM.gAll c (l ++ [x]) = (Int.gcd (QM.gAll c l) x : Int) := by
        intro l
        induction l with
        | nil => intro c x; rfl
        | cons y l ih => intro c x; exact ih _ _
      rw [e]
      rfl
    · rintro σ' L' ⟨u, rfl, rfl⟩
      have e : (m.map (·.2)).take (kr m).length = m.map (·.2) := List.take_of_length_le (by rw [List.length_map, kr_len]; exact Nat.le_refl _)
      rw [e]
      refine ⟨G, hh, ?_⟩
      rw [hf.self']
      have gp := QM.gAll_pos (m.map (·.2)) b hb
      obtain ⟨g1, g2⟩ := QM.gAll_dvd (m.map (·.2)) b
      generalize eg : QM.gAll b (m.map (·.2)) = g at gp g1 g2
      have gl : g.natAbs.log2 < 9000 := Nat.lt_of_le_of_lt ((Nat.le_log2 (by omega)).mpr (Nat.le_trans (Nat.log2_self_le (by omega)) (Nat.le_of_dvd (by omega) (Int.natAbs_dvd_natAbs.mpr g1)))) lb
      refine wss_cons (x_set (by assumption) (by walk_at "at") (by walk_at "at") (x_make0 (by assumption) (by walk_at "at") GQ (by walk_at "room") ?_))
      intro o dx
      refine ⟨o, dx, t0, L, rfl, rfl, E0, fun d0 => ⟨rfl, ?_⟩⟩
      refine wss_nd fun nd1 => ?_
      have fo : ∀ a v, Mem a v L → a ≠ o := fun a v mm => fresh_ne nd1.2 rfl mm
      refine wss_cons (x_setF (x_dcTI [("product", 3)] hX (hu1 hr) (by decide +kernel) (wi_list ?_)) (by rfl))
      walk_at "go"
      refine wc_listT hX.calm (.of (.tail (.tail md))) fun p bs hbs => ?_
      rw [kr_len] at hbs
      walk_at "go"
      rw [← tsOf_refs hbs]
      refine ⟨p, tsOf m bs, rfl, .head, fun t ht => .tail (tsOf_tps t ht), (TabIn.app ((hT.cons _).cons _) _).cons _, fun l2 L2 ts' hE hT2 hp hs => ?_⟩
      have hE0 : Ext L L2 := fun a v mm n => hE a v (.tail ((Mem.tail (.tail mm)).app _)) n
      have mo : Mem o (.ins Q dx (qF d0 1)) L2 := hE _ _ (.tail ((Mem.tail .head).app _)) (fun _ z => nomatch z)
      have md2 := hE0 _ _ md (fun _ z => nomatch z)
      have tp2 : Tps ts' L2 := fun t ht => hE _ _ (.tail (tsOf_tps t (hp.mem_iff.mp ht))) (fun _ z => nomatch z)
      have ysp : (ts'.map (·.2)).Perm (m.map (·.1)) := by rw [← tsOf_snd hbs]; exact hp.map _
      have yss : (ts'.map (·.2)).Pairwise fun x y => ¬ ltP y x := List.pairwise_map.mpr hs
      have ynd : (ts'.map (·.2)).Nodup := ysp.symm.nodup nd
      have lts : ts'.length < 1000 := by have := ysp.length_eq; rw [List.length_map, List.length_map] at this; omega
      obtain ⟨red, vl⟩ := QM.pick_red ltP_ord hb nd ysp yss
      rw [eg] at red vl
      have epk : ((ts'.map (·.2)).filter fun k => decide (QM.lk m k ≠ 0)).map (fun k => (k, QM.lk m k / g)) = pick m g (ts'.map (·.2)) := rfl
      rw [epk] at red vl
      refine ⟨l2, refs ts', rfl, .of .head, fun D => ⟨fun i L' => L' = (D, .dT (kr (pick m g ((ts'.map (·.2)).take i)))) :: (l2, .lst (refs ts')) :: L2, rfl, ?_, ?_, ?_⟩⟩
      · rintro i L' _ rfl
        exact .of (.tail .head)
      · rintro i v L' L'' hi rfl ⟨rfl, hv⟩
        intro s H' Ca cl fp
        obtain ⟨t, ht, rfl⟩ := map_get hv
        have hy : (ts'.map (·.2))[i]? = some t.2 := map_getI ht
        have hym : t.2 ∈ m.map (·.1) := ysp.mem_iff.mp (List.mem_of_getElem? hy)
        have hB := hX.blk (Vb := ["product", "common", "tops"]) (Lb := ["product"]) (Gb := []) (scope := ⟨.function, [(".0", .local), ("product", .local), ("common", .free), ("tops", .free)], false, false, []⟩) (by decide +kernel)
        refine x_tgt (hB s H' Ca cl fp) (by walk_at "at") (by walk_at "at") ⟨rfl, fun s H' Ca cl fp => ?_⟩
        have hX1 := hB s H' Ca cl fp
        have mt : Mem t.1 (.tup (List.map kV (ik t.2))) ((D, HO.dT (kr (pick m g ((ts'.map (·.2)).take i)))) :: (l2, .lst (refs ts')) :: L2) := by
          rw [ik_kV]
          exact .tail (.tail (tp2 t (List.mem_of_getElem? ht)))
        have dg : DGL d (.ref t.1) (some (.int (QM.lk m t.2))) ((D, HO.dT (kr (pick m g ((ts'.map (·.2)).take i)))) :: (l2, .lst (refs ts')) :: L2) := by
          have := DGL.t (a := d) (b := t.1) (ik t.2) (.of (.tail (.tail md2))) mt
          rw [valV_kr, lkO_of nd hym] at this
          exact this
        walk_at "go"
        refine we_dget (X := X.blk s H' _ (compEnvC _ cl Ca X.env) fp) (hu1 hr) ?_
        walk_at "go"
        refine ⟨d, .int (QM.lk m t.2), rfl, dg, ?_⟩
        walk_at "go"
        refine wo_ne rfl ⟨_, rfl, fun z => ?_, fun z => ?_⟩
        · have u0 : QM.lk m t.2 ≠ 0 := fun q => by rw [q, decide_eq_true rfl] at z; cases z
          intro s H' Ca cl fp
          have hX2 := hB s H' Ca cl fp
          walk_at "go"
          intro s H' Ca cl fp
          have hX3 := hB s H' Ca cl fp
          walk_at "go"
          refine we_dget (X := X.blk s H' _ (compEnvC _ cl Ca X.env) fp) (hu1 hr) ?_
          walk_at "go"
          refine ⟨d, .int (QM.lk m t.2), rfl, dg, ?_⟩
          walk_at "go"
          refine wo_fdivZ ⟨by omega, gl⟩ ?_
          refine ⟨_, ik t.2, t.1, _, rfl, mt, .head, ?_, _, Sub.refl _, ?_⟩
          · rw [kr_len]
            exact len_lt (Nat.lt_of_le_of_lt pick_len (by rw [List.length_take, List.length_map]; omega))
          · show _ = _
            rw [Int.fdiv_eq_ediv_of_nonneg _ (Int.le_of_lt gp), putK_kr, pt_new _ (by rw [pick_keys]; exact fun hm => not_in_take ynd hy (List.mem_filter.mp hm).1), pick_step hy, if_pos u0]
        · have u0 : QM.lk m t.2 = 0 := by
            apply Classical.byContradiction
            intro q
            rw [decide_eq_false (fun y => q (V.int.inj y))] at z
            cases z
          refine ⟨_, Sub.refl _, ?_⟩
          show _ = _
          rw [pick_step hy, if_neg (by rw [u0]; decide)]
      · rintro L' rfl
        have e2 : (ts'.map (·.2)).take (refs ts').length = ts'.map (·.2) := List.take_of_length_le (by rw [List.length_map, List.length_map]; exact Nat.le_refl _)
        rw [e2]
        refine we_nd fun nd2 => ?_
        refine x_name (by assumption) (by walk_at "at") (by walk_at "at") rfl ?_
        have mo2 : Mem o (.ins Q dx (qF d0 1)) ((D, .dT (kr (pick m g (ts'.map (·.2))))) :: (l2, .lst (refs ts')) :: L2) := .tail (.tail mo)
        obtain ⟨G2, hf2, other2⟩ := mo2.hole
        have hT3 : TabIn TB qN ((D, .dT (kr (pick m g (ts'.map (·.2))))) :: (l2, .lst (refs ts')) :: L2) := (hT2.cons _).cons _
        have hE3 : Ext L ((D, .dT (kr (pick m g (ts'.map (·.2))))) :: (l2, .lst (refs ts')) :: L2) := (hE0.trans (Ext.cons _ _)).trans (Ext.cons _ _)
        have neD : D ≠ o := (mem_ne nd2 mo2 (o := .ins Q dx (qF d0 1)) (.head : Mem D _ _) (by intro z; cases z)).symm
        have hTF : ∀ u', TabIn TB qN (G2 u') := fun u' => hT3.hole hf2 nd2 (fun _ z => nomatch z) (fun c z => by unfold LamX.CodeO at z; cases z) other2 u'
        have hEF : ∀ u', Ext L (G2 u') := fun u' => ext_hole hE3 other2 fo u'
        refine ⟨o, Q, dx, _, _, rfl, hf2, T.qcl, T.qnT, by rw [qF_len]; decide, ?_⟩
        rw [qF_puts]
        refine wss_cons (x_setF ?_ (by rfl))
        walk_at "go"
        refine wo_fdivZ ⟨by omega, gl⟩ ?_
        refine x_name (by assumption) (by walk_at "at") (by walk_at "at") rfl ?_
        refine ⟨o, Q, dx, _, _, rfl, hf2.again' _, T.qcl, T.qnB, by rw [qF_len]; decide, ?_⟩
        rw [qF_putb, Int.fdiv_eq_ediv_of_nonneg _ (Int.le_of_lt gp)]
        refine wss_cons (ws_ret ?_)
        refine x_name (by assumption) (by walk_at "at") (by walk_at "at") rfl ?_
        exact ret_sub (k o _ _ _ (hEF _) (hTF _) ⟨dx, D, (hf2.again' _).mm, other2 D _ neD .head _⟩ red vl) (Sub.refl _)
end
end K15
set_option linter.all false
namespace QM
theorem add_div {x n B d : Int} (hB : B ≠ 0) (hd : d ≠ 0) (h : d ∣ B) : Rat.divInt (x + n * (B / d)) B = Rat.divInt x B + Rat.divInt n d := by
  rw [Rat.divInt_add_divInt _ _ hB hd, Rat.divInt_eq_divInt_iff hB (Int.mul_ne_zero hB hd)]
  obtain ⟨e, rfl⟩ := h
  rw [Int.mul_ediv_cancel_left _ hd]
  grind
section
variable {α : Type} [DecidableEq α] {lt : α → α → Prop}
theorem val_pt {m : List (α × Int)} {B n d : Int} {p : α} (hB : B ≠ 0) (hd : d ≠ 0) (h : d ∣ B) (k : α) : val (pt m p (lk m p + n * (B / d))) B k = val m B k + (if p = k then Rat.divInt n d else 0) := by
  unfold val
  rw [lk_pt]
  by_cases e : k = p
  · subst e
    rw [if_pos rfl, if_pos rfl, add_div hB hd h]
  · rw [if_neg e, if_neg (fun z => e z.symm), Rat.add_zero]
/-- terms: a key, a top, a bottom; their sum at a key -/
def tv : List (α × Int × Int) → α → Rat
  | [] => fun _ => 0
  | t :: ts => fun k => (if t.1 = k then Rat.divInt t.2.1 t.2.2 else 0) + tv ts k
theorem tv_snoc (ts : List (α × Int × Int)) (t : α × Int × Int) (k : α) : tv (ts ++ [t]) k = tv ts k + (if t.1 = k then Rat.divInt t.2.1 t.2.2 else 0) := by
  induction ts with
  | nil =>
    show (if t.1 = k then Rat.divInt t.2.1 t.2.2 else 0) + 0 = 0 + _
    rw [Rat.add_zero, Rat.zero_add]
  | cons u ts ih =>
    show (if u.1 = k then Rat.divInt u.2.1 u.2.2 else 0) + tv (ts ++ [t]) k = ((if u.1 = k then Rat.divInt u.2.1 u.2.2 else 0) + tv ts k) + _
    rw [ih, Rat.add_assoc]
theorem val_nil (B : Int) (k : α) : val ([] : List (α × Int)) B k = 0 := by
  unfold val
  rw [lk_nil, Rat.zero_divInt]
theorem red_nil : Red lt ([] : List (α × Int)) 1 := ⟨⟨.nil, fun _ h => (List.not_mem_nil h).elim⟩, by decide, rfl⟩
/-- the bottom and the tops of a sum whose values have a common bottom -/
theorem Red.bound (O : Ord lt) {r : List (α × Int)} {c D : Int} (h : Red lt r c) (hD : 0 < D) (f : α → Int) (e : ∀ k, val r c k = Rat.divInt (f k) D) : c ∣ D ∧ ∀ k, (lk r k).natAbs ≤ (f k).natAbs := by
  have x : ∀ k, lk r k * D = f k * c := fun k => (Rat.divInt_eq_divInt_iff (by have := h.pos; omega) (by omega)).mp (e k)
  have d1 : c ∣ D := by
    refine dvd_of_gAll (r.map (·.2)) c D c h.one (Int.dvd_mul_left ..) fun y hy => ?_
    obtain ⟨p, hp, ep⟩ := List.mem_map.mp hy
    rw [← ep, ← lk_mem (h.can.nd O) hp, Int.mul_comm, x]
    exact Int.dvd_mul_left ..
  refine ⟨d1, fun k => ?_⟩
  obtain ⟨u, hu⟩ := d1
  have up : u ≠ 0 := fun z => by rw [z, Int.mul_zero] at hu; omega
  have e2 : lk r k * u = f k := by
    have := x k
    rw [hu, ← Int.mul_assoc, Int.mul_comm (lk r k) c, Int.mul_assoc, Int.mul_comm (f k) c] at this
    exact Int.eq_of_mul_eq_mul_left (by have := h.pos; omega) this
  rw [← e2, Int.natAbs_mul]
  exact Nat.le_mul_of_pos_right _ (Int.natAbs_pos.mpr up)
theorem one_form (O : Ord lt) : ∀ {l l' : List α}, (l.Pairwise fun x y => ¬ lt y x) → (l'.Pairwise fun x y => ¬ lt y x) → l.Perm l' → l = l'
  | [], l', _, _, p => (List.nil_perm.mp p).symm
  | x :: l, [], _, _, p => absurd p.length_eq (by simp)
  | x :: l, y :: l', h, h', p => by
    have q := List.pairwise_cons.mp h
    have q' := List.pairwise_cons.mp h'
    have e : x = y := by
      rcases List.mem_cons.mp (p.mem_iff.mp List.mem_cons_self) with z | z
      · exact z
      · rcases List.mem_cons.mp (p.symm.mem_iff.mp List.mem_cons_self) with w | w
        · exact w.symm
        · rcases O.tri x y with t | t | t
          · exact absurd t (q'.1 x z)
          · exact t
          · exact absurd t (q.1 y w)
    subst e
    rw [one_form O q.2 q'.2 (List.Perm.cons_inv p)]
end
end QM
namespace QM
section
variable {α : Type} [DecidableEq α] {lt : α → α → Prop}
theorem lk_scale (M : Int) (r : List (α × Int)) (k : α) : lk (r.map fun p => (p.1, M * p.2)) k = M * lk r k := by
  induction r with
  | nil => rw [List.map_nil, lk_nil, Int.mul_zero]
  | cons p r ih =>
    rw [List.map_cons, lk_cons, lk_cons, ih]
    split <;> rfl
theorem val_scale {r : List (α × Int)} {B c : Int} (hB : B ≠ 0) (hc : c ≠ 0) (h : c ∣ B) (k : α) : val (r.map fun p => (p.1, B / c * p.2)) B k = val r c k := by
  unfold val
  rw [lk_scale, Rat.divInt_eq_divInt_iff hB hc]
  obtain ⟨e, rfl⟩ := h
  rw [Int.mul_ediv_cancel_left _ hc]
  grind
theorem scale_keys (M : Int) (r : List (α × Int)) : (r.map fun p => (p.1, M * p.2)).map (·.1) = r.map (·.1) := by
  rw [List.map_map]
  rfl
theorem tv_out {ts : List (α × Int × Int)} {k : α} (h : k ∉ ts.map (·.1)) : tv ts k = 0 := by
  induction ts with
  | nil => rfl
  | cons t ts ih =>
    rw [List.map_cons, List.mem_cons, not_or] at h
    show (if t.1 = k then _ else 0) + tv ts k = 0
    rw [if_neg (fun e => h.1 e.symm), ih h.2, Rat.add_zero]
theorem tv_in {ts : List (α × Int × Int)} (nd : (ts.map (·.1)).Nodup) {t : α × Int × Int} (ht : t ∈ ts) : tv ts t.1 = Rat.divInt t.2.1 t.2.2 := by
  induction ts with
  | nil => cases ht
  | cons u ts ih =>
    rw [List.map_cons, List.nodup_cons] at nd
    show (if u.1 = t.1 then _ else 0) + tv ts t.1 = _
    rcases List.mem_cons.mp ht with e | ht
    · subst e
      rw [if_pos rfl, tv_out nd.1, Rat.add_zero]
    · rw [if_neg (fun e => nd.1 (by rw [e]; exact List.mem_map.mpr ⟨t, ht, rfl⟩)), ih nd.2 ht, Rat.zero_add]
/-- the sum of all terms of one form -/
theorem tv_poly (s c : Int) {r : List (α × Int)} (nd : (r.map (·.1)).Nodup) (k : α) : tv (r.map fun p => (p.1, s * p.2, c)) k = Rat.divInt (s * lk r k) c := by
  have e0 : (r.map fun p => (p.1, s * p.2, c)).map (·.1) = r.map (·.1) := by rw [List.map_map]; rfl
  by_cases h : k ∈ r.map (·.1)
  · obtain ⟨p, hp, e⟩ := List.mem_map.mp h
    rw [← e, lk_mem nd hp]
    exact tv_in (t := (p.1, s * p.2, c)) (by rw [e0]; exact nd) (List.mem_map.mpr ⟨p, hp, rfl⟩)
  · rw [tv_out (by rw [e0]; exact h), lk_out h, Int.mul_zero, Rat.zero_divInt]
theorem tv_perm {ts us : List (α × Int × Int)} (h : ts.Perm us) (k : α) : tv ts k = tv us k := by
  induction h with
  | nil => rfl
  | cons t _ ih =>
    show (if t.1 = k then _ else 0) + _ = (if t.1 = k then _ else 0) + _
    rw [ih]
  | swap t u l =>
    show (if u.1 = k then Rat.divInt u.2.1 u.2.2 else 0) + ((if t.1 = k then Rat.divInt t.2.1 t.2.2 else 0) + tv l k) = (if t.1 = k then Rat.divInt t.2.1 t.2.2 else 0) + ((if u.1 = k then Rat.divInt u.2.1 u.2.2 else 0) + tv l k)
    rw [← Rat.add_assoc, ← Rat.add_assoc, Rat.add_comm (if u.1 = k then _ else 0)]
  | trans _ _ i j => rw [i, j]
end
end QM
set_option Elab.async false
set_option linter.all false
set_option maxRecDepth 100000
set_option maxHeartbeats 4000000
namespace K15
open PySem L2 N3
local macro_rules | `(tactic| walk_at "at") => `(tactic| with_reducible (repeat (first | exact At.head | apply At.tail)))
local macro_rules | `(tactic| walk_at "mem") => `(tactic| with_reducible (repeat (first | exact Mem.head | apply Mem.tail)))
local macro_rules | `(tactic| walk_at "boot") => `(tactic| with_reducible (first | exact boot_isi | exact boot_max | exact boot_min | exact boot_abs | exact boot_len | exact boot_repr | exact boot_divmod | exact boot_all | exact boot_sorted | exact boot_int | exact boot_bool | exact boot_str | exact boot_list | exact boot_tuple))
local macro_rules | `(tactic| walk_at "room") => `(tactic| (first | assumption | exact Room.mono (by assumption) (by decide)))
local macro_rules | `(tactic| walk_at "none") => `(tactic| (refine Txt.bn (by assumption) _ ?xz; (case xz => with_reducible (repeat (first | exact InS.head | apply InS.tail)))))
local macro_rules | `(tactic| walk_at "n3") => `(tactic| first
  | with_reducible refine ws_ret ?_
  | with_reducible refine we_int ?_
  | with_reducible refine we_str ?_
  | with_reducible refine we_bool ?_
  | with_reducible refine we_none ?_
  | ((with_reducible refine' x_name ?xo ?xa ?xb ?xc ?_); (case xo => assumption); (case xa => walk_at "at"); (case xb => walk_at "at"); (case xc => rfl))
  | ((with_reducible refine' f_tops ?xt ?_ ?xh); (case xt => assumption); (case xh => rfl))
  | ((with_reducible refine' f_qbot ?xt ?_ ?xh); (case xt => assumption); (case xh => rfl))
  | ((with_reducible refine' we_prop ?xg ?xr ?_ ?xh); (case xg => assumption); (case xr => walk_at "room"); (case xh => rfl))
  | with_reducible refine we_bin ?_
  | ((with_reducible refine wo_mulW ?xm ?_); (case xm => exact Sm.cm (by assumption) (by assumption)))
  | with_reducible refine wo_add ?_
  | with_reducible refine wo_sub ?_
  | with_reducible refine wo_lt ?_
  | with_reducible refine wo_gt ?_
  | with_reducible refine wo_le ?_
  | with_reducible refine wo_ge ?_
  | with_reducible refine wu_neg ?_
  | ((with_reducible refine we_cmp ?xh ?_); (case xh => exact nomark _))
  | ((with_reducible refine wt_cmp ?xh ?_); (case xh => exact nomark _))
  | ((with_reducible refine wa_cons ?_ ?xh); (case xh => rfl))
  | with_reducible refine wa_nil ?_
  | with_reducible refine we_and ?_
  | with_reducible refine we_or ?_
  | with_reducible refine we_not ?_
  | with_reducible refine wt_not ?_
  | with_reducible refine we_un ?_
  | with_reducible refine we_one ?_
  | with_reducible refine wt_ww (ww_or ?_)
  | with_reducible refine wt_ww (ww_and ?_)
  | with_reducible refine ww_or ?_
  | with_reducible refine ww_and ?_
  | with_reducible refine ww_or1 ?_
  | with_reducible refine ww_and1 ?_
  | with_reducible refine we_ifExp ?_
  | with_reducible refine ws_if ?_
  | with_reducible refine ws_pass ?_
  | with_reducible refine we_tup ?_
  | with_reducible refine we_lst ?_
  | ((with_reducible refine' x_set ?xo ?xa ?xb ?_ ?xs); (case xo => assumption); (case xa => walk_at "at"); (case xb => walk_at "at"); (case xs => rfl))
  | ((with_reducible refine' x_setF ?_ ?xs); (case xs => rfl))
  | ((with_reducible refine' x_call ?xo ?xa ?xg ?xr ?_ ?xe ?xp); (case xo => assumption); (case xa => walk_at "at"); (case xg => assumption); (case xr => walk_at "room"); (case xe => rfl); (case xp => rfl))
  | ((with_reducible refine' x_callB ?xo ?xa ?xg ?xr ?_ ?xe ?xp); (case xo => assumption); (case xr => walk_at "boot"); (case xa => walk_at "at"); (case xg => walk_at "none"); (case xe => rfl); (case xp => rfl))
  | ((with_reducible refine' x_callTy ?xo ?xa ?xg ?xr ?_ ?xe ?xp); (case xo => assumption); (case xr => walk_at "boot"); (case xa => walk_at "at"); (case xg => walk_at "none"); (case xe => rfl); (case xp => rfl))
  | ((with_reducible refine' x_callFn ?xo ?xa ?xg ?_ ?xe ?xp); (case xo => assumption); (case xg => with_reducible (first | exact Txt.mgcd (by assumption) | exact Txt.mlcm (by assumption))); (case xa => walk_at "at"); (case xe => rfl); (case xp => rfl))
  | ((with_reducible refine' x_bty ?xo ?xa ?xg ?xr ?_); (case xo => assumption); (case xr => walk_at "boot"); (case xa => walk_at "at"); (case xg => walk_at "none"))
  | ((with_reducible refine' x_cls ?xt ?xo ?xa ?_); (case xt => assumption); (case xo => assumption); (case xa => walk_at "at"))
  | ((with_reducible refine' x_clsQ ?xt ?xo ?xa ?_); (case xt => assumption); (case xo => assumption); (case xa => walk_at "at"))
  | ((with_reducible refine' x_make ?xo ?xa ?xg ?xr ?_ ?xe ?xp); (case xo => assumption); (case xa => walk_at "at"); (case xg => assumption); (case xr => walk_at "room"); (case xe => rfl); (case xp => rfl))
  | ((with_reducible refine' x_callG ?xo ?xa ?xg ?xr ?xd ?_ ?xe ?xp); (case xo => assumption); (case xa => walk_at "at"); (case xg => assumption); (case xr => walk_at "room"); (case xd => assumption); (case xe => rfl); (case xp => rfl))
  | with_reducible refine wss_nil ?_
  | refine ⟨_, _, _, _, rfl, (by assumption), ?_⟩
  | refine ⟨_, _, _, rfl, (by assumption), ?_⟩
  | refine wss_cons ?_)
local macro_rules | `(tactic| walk_at "gw") => `(tactic| repeat walk_at "n3")
local macro_rules | `(tactic| walk_at "go") => `(tactic| repeat (first | walk_at "n3" | ((with_reducible refine' wt_val ?_ ?xv); (case xv => intro _; rfl))))
/-! ### sorted texts have one form -/
theorem nlt_of_rising : ∀ (l : List Str) (p : Str), PyProof.Rows.risingS p l = true → (p :: l).Pairwise (fun x y => ¬ ltS y x)
  | [], p, _ => List.pairwise_singleton _ _
  | x :: r, p, h => by
    simp only [PyProof.Rows.risingS, Bool.and_eq_true, Bool.not_eq_true'] at h
    have ih := nlt_of_rising r x h.2
    have px : ¬ ltS x p := fun z => by unfold ltS at z; rw [h.1] at z; cases z
    refine List.pairwise_cons.mpr ⟨fun y hy => ?_, ih⟩
    rcases List.mem_cons.mp hy with e | hy
    · rw [e]; exact px
    · have q := (List.pairwise_cons.mp ih).1 y hy
      intro z
      rcases ltS_tri x y with t | t | t
      · exact px (ltS_trans t z)
      · rw [← t] at z; exact px z
      · exact q t
theorem nlt_of_sorted {l : List Str} (h : PyProof.Rows.sortedS l = true) : l.Pairwise (fun x y => ¬ ltS y x) := by
  cases l with
  | nil => exact .nil
  | cons p l => exact nlt_of_rising l p h
def leB (a b : Str) : Bool := !PySem.Spec.ltCps b.cps.toList a.cps.toList
def srt (ks : List Str) : List Str := ks.mergeSort leB
theorem leB_iff {a b : Str} : leB a b = true ↔ ¬ ltS b a := by unfold leB ltS; simp
theorem srt_perm (ks : List Str) : (srt ks).Perm ks := List.mergeSort_perm ..
theorem srt_nlt (ks : List Str) : (srt ks).Pairwise (fun x y => ¬ ltS y x) := by
  refine (List.pairwise_mergeSort (le := leB) (fun a b c h1 h2 => ?_) (fun a b => ?_) ks).imp fun {a b} h => leB_iff.mp h
  · rw [leB_iff] at h1 h2 ⊢
    intro z
    rcases ltS_tri a b with q | q | q
    · exact h2 (ltS_trans z q)
    · rw [q] at z; exact h2 z
    · exact h1 q
  · rw [Bool.or_eq_true, leB_iff, leB_iff]
    rcases ltS_tri a b with q | q | q
    · exact .inl (ltS_ord.asy q)
    · exact .inl (by rw [q]; exact ltS_irrefl _)
    · exact .inr (ltS_ord.asy q)
theorem srt_of {ys ks : List Str} (p : ys.Perm ks) (h : PyProof.Rows.sortedS ys = true) : ys = srt ks := QM.one_form ltS_ord (nlt_of_sorted h) (srt_nlt ks) (p.trans (srt_perm ks).symm)
theorem srt_id {ks : List Str} (h : ks.Pairwise fun x y => ¬ ltS y x) : srt ks = ks := QM.one_form ltS_ord (srt_nlt ks) h (srt_perm ks)
theorem srt_rev (ks : List Str) : srt ks.reverse = srt ks := QM.one_form ltS_ord (srt_nlt _) (srt_nlt _) ((srt_perm _).trans ((List.reverse_perm ks).trans (srt_perm ks).symm))
/-- a term: its keys, its top, its bottom -/
abbrev Tm := List Str × Int × Int
abbrev sTm (t : Tm) : Tm := (srt t.1, t.2.1, t.2.2)
/-- the value of a list of terms at a product -/
def tvs (ts : List Tm) (k : List Str) : Rat := QM.tv (ts.map sTm) k
theorem tvs_snoc (ts : List Tm) (t : Tm) (k : List Str) : tvs (ts ++ [t]) k = tvs ts k + (if srt t.1 = k then Rat.divInt t.2.1 t.2.2 else 0) := by
  unfold tvs
  rw [List.map_append, List.map_singleton, QM.tv_snoc]
/-- the terms' row -/
def TmsAt (C : Addr) (L : LH) (xs : List V) (ts : List Tm) : Prop := Paired (fun v t => ∃ a, v = V.ref a ∧ TermAt C L a t.2.1 t.2.2 t.1) xs ts
theorem TmsAt.ext {C : Addr} {L L' : LH} {xs : List V} {ts : List Tm} (h : TmsAt C L xs ts) (e : Ext L L') : TmsAt C L' xs ts := by
  induction h with
  | nil => exact .nil
  | cons r _ ih =>
    obtain ⟨a, ea, ta⟩ := r
    exact .cons ⟨a, ea, ta.ext e⟩ ih
/-- what is asked of the terms: D a common bottom -/
structure TmsOk (D : Int) (ts : List Tm) : Prop where
  p0 : 0 < D
  p1 : D < 2 ^ 64
  ln : ts.length ≤ 200
  nm : ∀ t ∈ ts, NmOk t.1
  dv : ∀ t ∈ ts, t.2.2 ∣ D ∧ 0 < t.2.2
  sm : ∀ t ∈ ts, Sm 400 t.2.1
theorem mem_alter {a b : Addr} {o u u' : HO} {L : LH} (h : o ≠ u) : ∀ {J : LH}, Mem a o (J ++ (b, u) :: L) → Mem a o (J ++ (b, u') :: L)
  | [], m => by
    cases m with
    | head => exact absurd rfl h
    | tail m => exact .tail m
  | p :: J, m => by
    cases m with
    | head => exact .head
    | tail m => exact .tail (mem_alter h m)
theorem RatsAt.map {C : Addr} {L L' : LH} {xs : List V} {qs : List (Int × Int)} (h : RatsAt C L xs qs) (k : ∀ a dx fs, Mem a (.ins C dx fs) L → Mem a (.ins C dx fs) L') : RatsAt C L' xs qs := by
  induction h with
  | nil => exact .nil
  | cons r _ ih =>
    obtain ⟨a, dx, ea, ta⟩ := r
    exact .cons ⟨a, dx, ea, k _ _ _ ta⟩ ih
theorem paired_snoc {α β : Type} {R : α → β → Prop} : ∀ {xs : List α} {ys : List β} {x : α} {y : β}, Paired R xs ys → R x y → Paired R (xs ++ [x]) (ys ++ [y])
  | _, _, _, _, .nil, r => .cons r .nil
  | _, _, _, _, .cons q t, r => .cons q (paired_snoc t r)
end K15
set_option Elab.async false
set_option linter.all false
set_option maxRecDepth 100000
set_option maxHeartbeats 4000000
namespace K15
open PySem L2 N3
local macro_rules | `(tactic| walk_at "at") => `(tactic| with_reducible (repeat (first | exact At.head | apply At.tail)))
local macro_rules | `(tactic| walk_at "mem") => `(tactic| with_reducible (repeat (first | exact Mem.head | apply Mem.tail)))
local macro_rules | `(tactic| walk_at "boot") => `(tactic| with_reducible (first | exact boot_isi | exact boot_max | exact boot_min | exact boot_abs | exact boot_len | exact boot_repr | exact boot_divmod | exact boot_all | exact boot_sorted | exact boot_int | exact boot_bool | exact boot_str | exact boot_list | exact boot_tuple))
local macro_rules | `(tactic| walk_at "room") => `(tactic| (first | assumption | exact Room.mono (by assumption) (by decide)))
local macro_rules | `(tactic| walk_at "none") => `(tactic| (refine Txt.bn (by assumption) _ ?xz; (case xz => with_reducible (repeat (first | exact InS.head | apply InS.tail)))))
local macro_rules | `(tactic| walk_at "n3") => `(tactic| first
  | with_reducible refine ws_ret ?_
  | with_reducible refine we_int ?_
  | with_reducible refine we_str ?_
  | with_reducible refine we_bool ?_
  | with_reducible refine we_none ?_
  | ((with_reducible refine' x_name ?xo ?xa ?xb ?xc ?_); (case xo => assumption); (case xa => walk_at "at"); (case xb => walk_at "at"); (case xc => rfl))
  | ((with_reducible refine' f_tops ?xt ?_ ?xh); (case xt => assumption); (case xh => rfl))
  | ((with_reducible refine' f_qbot ?xt ?_ ?xh); (case xt => assumption); (case xh => rfl))
  | ((with_reducible refine' we_prop ?xg ?xr ?_ ?xh); (case xg => assumption); (case xr => walk_at "room"); (case xh => rfl))
  | with_reducible refine we_bin ?_
  | ((with_reducible refine wo_mulW ?xm ?_); (case xm => exact Sm.cm (by assumption) (by assumption)))
  | with_reducible refine wo_add ?_
  | with_reducible refine wo_sub ?_
  | with_reducible refine wo_lt ?_
  | with_reducible refine wo_gt ?_
  | with_reducible refine wo_le ?_
  | with_reducible refine wo_ge ?_
  | with_reducible refine wu_neg ?_
  | ((with_reducible refine we_cmp ?xh ?_); (case xh => exact nomark _))
  | ((with_reducible refine wt_cmp ?xh ?_); (case xh => exact nomark _))
  | ((with_reducible refine wa_cons ?_ ?xh); (case xh => rfl))
  | with_reducible refine wa_nil ?_
  | with_reducible refine we_and ?_
  | with_reducible refine we_or ?_
  | with_reducible refine we_not ?_
  | with_reducible refine wt_not ?_
  | with_reducible refine we_un ?_
  | with_reducible refine we_one ?_
  | with_reducible refine wt_ww (ww_or ?_)
  | with_reducible refine wt_ww (ww_and ?_)
  | with_reducible refine ww_or ?_
  | with_reducible refine ww_and ?_
  | with_reducible refine ww_or1 ?_
  | with_reducible refine ww_and1 ?_
  | with_reducible refine we_ifExp ?_
  | with_reducible refine ws_if ?_
  | with_reducible refine ws_pass ?_
  | with_reducible refine we_tup ?_
  | with_reducible refine we_lst ?_
  | ((with_reducible refine' x_set ?xo ?xa ?xb ?_ ?xs); (case xo => assumption); (case xa => walk_at "at"); (case xb => walk_at "at"); (case xs => rfl))
  | ((with_reducible refine' x_setF ?_ ?xs); (case xs => rfl))
  | ((with_reducible refine' x_call ?xo ?xa ?xg ?xr ?_ ?xe ?xp); (case xo => assumption); (case xa => walk_at "at"); (case xg => assumption); (case xr => walk_at "room"); (case xe => rfl); (case xp => rfl))
  | ((with_reducible refine' x_callB ?xo ?xa ?xg ?xr ?_ ?xe ?xp); (case xo => assumption); (case xr => walk_at "boot"); (case xa => walk_at "at"); (case xg => walk_at "none"); (case xe => rfl); (case xp => rfl))
  | ((with_reducible refine' x_callTy ?xo ?xa ?xg ?xr ?_ ?xe ?xp); (case xo => assumption); (case xr => walk_at "boot"); (case xa => walk_at "at"); (case xg => walk_at "none"); (case xe => rfl); (case xp => rfl))
  | ((with_reducible refine' x_callFn ?xo ?xa ?xg ?_ ?xe ?xp); (case xo => assumption); (case xg => with_reducible (first | exact Txt.mgcd (by assumption) | exact Txt.mlcm (by assumption))); (case xa => walk_at "at"); (case xe => rfl); (case xp => rfl))
  | ((with_reducible refine' x_bty ?xo ?xa ?xg ?xr ?_); (case xo => assumption); (case xr => walk_at "boot"); (case xa => walk_at "at"); (case xg => walk_at "none"))
  | ((with_reducible refine' x_cls ?xt ?xo ?xa ?_); (case xt => assumption); (case xo => assumption); (case xa => walk_at "at"))
  | ((with_reducible refine' x_clsQ ?xt ?xo ?xa ?_); (case xt => assumption); (case xo => assumption); (case xa => walk_at "at"))
  | ((with_reducible refine' x_make ?xo ?xa ?xg ?xr ?_ ?xe ?xp); (case xo => assumption); (case xa => walk_at "at"); (case xg => assumption); (case xr => walk_at "room"); (case xe => rfl); (case xp => rfl))
  | ((with_reducible refine' x_callG ?xo ?xa ?xg ?xr ?xd ?_ ?xe ?xp); (case xo => assumption); (case xa => walk_at "at"); (case xg => assumption); (case xr => walk_at "room"); (case xd => assumption); (case xe => rfl); (case xp => rfl))
  | with_reducible refine wss_nil ?_
  | refine ⟨_, _, _, _, rfl, (by assumption), ?_⟩
  | refine ⟨_, _, _, rfl, (by assumption), ?_⟩
  | refine wss_cons ?_)
local macro_rules | `(tactic| walk_at "gw") => `(tactic| repeat walk_at "n3")
local macro_rules | `(tactic| walk_at "go") => `(tactic| repeat (first | walk_at "n3" | ((with_reducible refine' wt_val ?_ ?xv); (case xv => intro _; rfl))))
section
variable {P : Program} {w : World} {K : PySem.W.Frag} {mg : Str → Option Value} {base : Heap}
theorem log_64 {b : Int} (h0 : 0 < b) (h : b < 2 ^ 64) : b.natAbs.log2 < 9000 := Nat.lt_of_lt_of_le (Sm.log (n := 64) (show b.natAbs < 2 ^ 64 by omega)) (by decide)
theorem wc_sortedN {X : Cx} {L : LH} {K : V → LH → Prop} {q : Addr} {ks : List Str} (h : NmsAt q ks L) (hl : ks.length < 64) (k : ∀ ys p, ys.Perm ks → PyProof.Rows.sortedS ys = true → K (.ref p) ((p, .lst (ys.map V.str)) :: L)) : WC X (.builtin "sorted") [.ref q] L K :=
  h.elim (fun m => wc_sortedS (.of m) hl k) (fun m => wc_sortedTS (.of m) hl k)
/-! Question.__init__ -/
def pQInit (TB C Q : Addr) : Pre := fun vs L Kk => ∃ o dx l xs ts D L0, vs = [.ref o, .ref l] ∧ L = (o, .ins Q dx []) :: L0 ∧ Mem l (.lst xs) L0 ∧ TmsAt C L0 xs ts ∧ TmsOk D ts ∧ TabIn TB qN L0 ∧
  ∀ L' r c, Ext L0 L' → TabIn TB qN L' → QAt Q o r c L' → QM.Red ltP r c → (∀ k, QM.val r c k = tvs ts k) → Kk .non L'
theorem okQInit {f TB C Q t0 : Addr} {fd : FuncData} (F : FunD K "__init__" "Question.__init__" (defArgs sQInit) (defBody sQInit) (defScope sQInit) [.ref t0] [] f fd) (T : Txt K mg C Q)
    (GI : GFn P w K mg base "is_term" 3 ["value"] [] (pIsTerm C)) (GC : GFn P w K mg base "common_bottom" 3 ["numbers"] [] (pComBot C)) (GA : GFn P w K mg base "as_ratio" 4 ["value"] [] (pAs C)) (GQ : GFn P w K mg base "question_of" 7 ["tops", "bottom"] [] (pQOf TB Q))
    (G1 : GPr P w K mg base C "top" 1 ["self"] (pTop C)) (G2 : GPr P w K mg base C "bottom" 1 ["self"] (pBot C)) :
    FnOk P w K mg base CX0 8 f fd ["self", "terms"] (SpL (pQInit TB C Q)) := by
  refine fnXDC (Vn := lInit) (Ln := lInit) (Gn := gInit) F scQInit (by decide +kernel) (fun vs L Kk h => ?_) (fun X e1 e2 e3 e4 e5 hX hr vs L Kk h => ?_)
  · obtain ⟨o, dx, l, xs, ts, D, L0, rfl, _⟩ := h
    rfl
  · subst e1 e2 e3 e4 e5
    obtain ⟨o, dx, l, xs, ts, D, L0, rfl, rfl, ml, hts, ⟨p0, p1, ln, nm, dv, sm⟩, hT, k⟩ := h
    have lxs := Paired.length hts
    refine wss_nd fun nd0 => ?_
    have fo : ∀ a v, Mem a v L0 → a ≠ o := fun a v mm => fresh_ne nd0 rfl mm
    walk_at "gw"
    refine wt_val ?_
    walk_at "go"
    refine ⟨show 2 ≤ sizeLine from len_line, fun tp => ?_⟩
    walk_at "go"
    refine wc_isiT (us := [.type "list", .type "tuple"]) (r := true) .head (.cons (.ty _) (.cons (.ty _) .nil)) (ty_lst (.tail (.tail ml))) (L2.kitAny_cons (b := true) (kit_ty (by decide +kernel)) (fun z => Bool.noConfusion z) fun _ => rfl) ⟨_, rfl, (fun z => Bool.noConfusion z), fun _ => ?_⟩
    refine wss_nil (wss_sub (Sub.of_sublist (.cons _ (.refl _))) ?_)
    have ge := hX.glo (x := "enumerate") (by walk_at "at")
    refine wss_cons (ws_forW hX.calm hX.pas (wi_enum ge.1 (T.bn _ (by with_reducible (repeat (first | exact InS.head | apply InS.tail)))) ?_))
    walk_at "go"
    refine ⟨l, xs, rfl, .of (.tail ml), fun i σ' L' => ∃ u1 u2, σ' = [some (.ref o), some (.ref l), u1, u2, none, none, none, none, none, none, none, none] ∧ L' = (o, .ins Q dx []) :: L0, ⟨none, none, rfl, rfl⟩, ?_, ?_, ?_⟩
    · rintro i σ' L' _ ⟨_, _, _, rfl⟩
      exact .of (.tail ml)
    · rintro i v σ' L' L'' hi ⟨u1, u2, rfl, rfl⟩ ⟨T0, x, y, rfl, rfl, hx, hy⟩
      cases hx
      obtain ⟨t, ht, a, rfl, ta⟩ := paired_get hts hy
      refine x_tup (by assumption) .head ?_
      refine wgs_cons (x_tgt (by assumption) (by walk_at "at") (by walk_at "at") ?_)
      refine wgs_cons (x_tgt (by assumption) (by walk_at "at") (by walk_at "at") ?_)
      refine wgs_nil ?_
      walk_at "go"
      refine ⟨a, t.2.1, t.2.2, t.1, rfl, ta.ext ((Ext.cons _ _).trans (Ext.cons _ _)), nm t (List.mem_of_getElem? ht), _, rfl, (fun z => Bool.noConfusion z), fun _ => ?_⟩
      refine wss_nil (wss_nil ⟨_, Sub.of_sublist (.cons _ (.refl _)), _, _, rfl, rfl⟩)
    · rintro σ' L' ⟨u1, u2, rfl, rfl⟩
      refine wss_cons (x_setF ?_ (by rfl))
      refine we_dnewT fun d0 => ?_
      refine x_name (by assumption) (by walk_at "at") (by walk_at "at") rfl ⟨o, Q, dx, _, _, rfl, .tail .head, T.qcl, T.qnT, by decide, ?_⟩
      refine wss_cons (x_setF ?_ (by rfl))
      walk_at "go"
      refine ⟨o, Q, dx, _, _, rfl, .tail .head, T.qcl, T.qnB, (show 1 < 1000 by decide), ?_⟩
      have hE1 : Ext L0 ((d0, .dT []) :: (o, .ins Q dx (qF d0 1)) :: L0) := (Ext.cons _ _).trans (Ext.cons _ _)
      have hT1 : TabIn TB qN ((d0, .dT []) :: (o, .ins Q dx (qF d0 1)) :: L0) := (hT.cons _).cons _
      have hts1 := hts.ext hE1
      have ml1 : Mem l (.lst xs) ((d0, .dT []) :: (o, .ins Q dx (qF d0 1)) :: L0) := .tail (.tail ml)
      have mo1 : Mem o (.ins Q dx (qF d0 1)) ((d0, .dT []) :: (o, .ins Q dx (qF d0 1)) :: L0) := .tail .head
      have md1 : Mem d0 (.dT []) ((d0, .dT []) :: (o, .ins Q dx (qF d0 1)) :: L0) := .head
      show WSs X _ _ ((d0, .dT []) :: (o, .ins Q dx (qF d0 1)) :: L0) _
      generalize (d0, HO.dT []) :: (o, HO.ins Q dx (qF d0 1)) :: L0 = L1 at *
      refine wss_cons (ws_if ?_)
      refine wt_row ?_
      refine x_name (by assumption) (by walk_at "at") (by walk_at "at") rfl ⟨l, xs, rfl, .inr (.of ml1), fun z => ?_, fun z => ?_⟩
      · refine wss_cons (x_set (by assumption) (by walk_at "at") (by walk_at "at") (x_call (by assumption) (by walk_at "at") GC (by walk_at "room") ?_))
        refine wa_cons (x_lc [("number", 4), ("_", 11)] hX (by decide +kernel) (wi_list ?_)) rfl
        refine x_name (by assumption) (by walk_at "at") (by walk_at "at") rfl ?_
        refine ⟨l, xs, rfl, .of ml1, fun R => ⟨fun i L' => ∃ J acc, L' = J ++ (R, .lst acc) :: L1 ∧ RatsAt C L' acc ((ts.map (·.2)).take i), ⟨[], [], rfl, .nil⟩, ?_, ?_, ?_⟩⟩
        · rintro i L' _ ⟨J, acc, rfl, _⟩
          exact .of ((Mem.tail ml1).app J)
        · rintro i v L' L'' hi ⟨J, acc, rfl, hra⟩ ⟨rfl, hv⟩
          intro s H' Ca cl fp
          obtain ⟨t, ht, a, rfl, ta⟩ := paired_get hts1 hv
          obtain ⟨v, q, m, hn, hq⟩ := (ta.ext ((Ext.cons (R, .lst acc) _).trans (Ext.app J _))).ex
          have hB := hX.blk (Vb := ["number", "_"]) (Lb := ["number", "_"]) (Gb := ["as_ratio"]) (scope := ⟨.function, [(".0", .local), ("number", .local), ("_", .local), ("as_ratio", .globalImplicit)], false, false, []⟩) (by decide +kernel)
          refine x_tup (hB s H' Ca cl fp) m ?_
          refine wgs_cons (x_tgt (hB s H' Ca cl fp) (by walk_at "at") (by walk_at "at") ?_)
          refine wgs_cons (x_tgt (hB s H' Ca cl fp) (by walk_at "at") (by walk_at "at") ?_)
          refine wgs_nil ⟨rfl, fun s H' Ca cl fp => ?_⟩
          have hX' := hB s H' Ca cl fp
          refine x_call hX' (by walk_at "at") GA (hr.mono (by decide)) ?_
          walk_at "go"
          intro p dp J2 mp
          have len : acc.length = ((ts.map (·.2)).take i).length := Paired.length hra
          refine ⟨acc, _, (Hole.head.app J).app J2, ?_, _, Sub.refl _, J2 ++ J, acc ++ [.ref p], (by simp), ?_⟩
          · rw [len, List.length_take, List.length_map]
            exact len_lt (by omega)
          · rw [take_succ (map_getI (f := (·.2)) ht)]
            refine paired_snoc (hra.map fun a dx fs mm => (mem_alter (fun z => by cases z) mm).app J2) ⟨p, dp, rfl, ?_⟩
            have := mp
            rw [← List.append_assoc] at this ⊢
            exact mem_alter (fun z => by cases z) this
        · rintro L' ⟨J, acc, rfl, hra⟩
          have e : (ts.map (·.2)).take xs.length = ts.map (·.2) := List.take_of_length_le (by rw [List.length_map, lxs]; exact Nat.le_refl _)
          rw [e] at hra
          walk_at "go"
          refine ⟨R, acc, _, D, rfl, (Mem.head).app J, hra, p0, p1, fun p hp => ?_, ?_⟩
          · obtain ⟨t, ht, e⟩ := List.mem_map.mp hp
            rw [← e]
            exact (dv t ht).1
          have eB : (ts.map (·.2)).map (·.2) = ts.map (·.2.2) := by rw [List.map_map]; rfl
          rw [eB]
          have bd : lcmAll 1 (ts.map (·.2.2)) ∣ D := lcmAll_dvd _ _ (Int.one_dvd D) fun x hx => by
            obtain ⟨t, ht, e⟩ := List.mem_map.mp hx
            rw [← e]; exact (dv t ht).1
          have bp : 0 < lcmAll 1 (ts.map (·.2.2)) := lcmAll_pos p0 fun x hx => by
            obtain ⟨t, ht, e⟩ := List.mem_map.mp hx
            rw [← e]; exact (dv t ht).1
          have tb : ∀ t ∈ ts, t.2.2 ∣ lcmAll 1 (ts.map (·.2.2)) := fun t ht => (dvd_lcmAll (ts.map (·.2.2)) 1).2 _ (List.mem_map.mpr ⟨t, ht, rfl⟩)
          have bl : lcmAll 1 (ts.map (·.2.2)) < 2 ^ 64 := Int.lt_of_le_of_lt (Int.le_of_dvd p0 bd) p1
          generalize lcmAll 1 (ts.map (·.2.2)) = B at bd bp tb bl
          have hEJ : Ext L1 (J ++ (R, .lst acc) :: L1) := (Ext.cons _ _).trans (Ext.app _ _)
          have hT2 : TabIn TB qN (J ++ (R, .lst acc) :: L1) := (hT1.cons _).app J
          have hts2 := hts1.ext hEJ
          have ml2 := hEJ _ _ ml1 (fun _ z => nomatch z)
          have mo2 := hEJ _ _ mo1 (fun _ z => nomatch z)
          have hE2 := hE1.trans hEJ
          generalize J ++ (R, HO.lst acc) :: L1 = L2 at hEJ hT2 hts2 ml2 mo2 hE2
          refine wss_cons (x_set (by assumption) (by walk_at "at") (by walk_at "at") (we_dnewT fun tp => ?_))
          refine wss_cons (ws_forW hX.calm hX.pas (wi_list ?_))
          refine x_name (by assumption) (by walk_at "at") (by walk_at "at") rfl ?_
          refine ⟨l, xs, rfl, .of (.tail ml2), fun i σ' L' => ∃ m v4 v7 v8 v9, σ' = [some (.ref o), some (.ref l), u1, u2, v4, some (.int B), some (.ref tp), v7, v8, v9, none, none] ∧ L' = (tp, .dT (kr m)) :: L2 ∧ (m.map (·.1)).Nodup ∧ m.length ≤ i ∧ ∀ k, QM.val m B k = tvs (ts.take i) k, ⟨[], _, _, _, _, rfl, rfl, List.nodup_nil, Nat.le_refl _, fun k => QM.val_nil B k⟩, ?_, ?_, ?_⟩
          · rintro i σ' L' _ ⟨m, _, _, _, _, _, rfl, _⟩
            exact .of (.tail ml2)
          · rintro i v σ' L' L'' hi ⟨m, v4, v7, v8, v9, rfl, rfl, mnd, mle, mval⟩ ⟨rfl, hv⟩
            obtain ⟨t, ht, a, rfl, ta⟩ := paired_get hts2 hv
            have htm := List.mem_of_getElem? ht
            obtain ⟨v, q, mt, hn, hq⟩ := (ta.ext (Ext.cons (tp, .dT (kr m)) _)).ex
            refine x_tup (by assumption) mt ?_
            refine wgs_cons (x_tgt (by assumption) (by walk_at "at") (by walk_at "at") ?_)
            refine wgs_cons (x_tgt (by assumption) (by walk_at "at") (by walk_at "at") ?_)
            refine wgs_nil ?_
            refine wss_cons (x_par (by assumption) (by walk_at "at") (by walk_at "at") (by walk_at "at") (by walk_at "at") (by decide) ?_)
            refine x_call (by assumption) (by walk_at "at") GA (by walk_at "room") ?_
            walk_at "go"
            intro p dp J2 mp
            have hq2 : NmsAt q t.1 (J2 ++ (tp, .dT (kr m)) :: L2) := hq.ext (Ext.app J2 _)
            have l64 : t.1.length < 64 := Nat.lt_of_le_of_lt (nm t htm).1 (by decide)
            walk_at "go"
            refine wc_sortedN hq2 l64 fun ys sp hp hs => ?_
            walk_at "go"
            refine wc_tupOf (.of .head) fun tq => ?_
            have ey := srt_of hp hs
            generalize ys = y at ey
            subst ey
            have mp' : Mem p (.ins C dp (ratF t.2.1 t.2.2)) ((tq, .tup ((srt t.1).map V.str)) :: (sp, .lst ((srt t.1).map V.str)) :: (J2 ++ (tp, .dT (kr m)) :: L2)) := .tail (.tail mp)
            have mtp : Mem tp (.dT (kr m)) ((tq, .tup ((srt t.1).map V.str)) :: (sp, .lst ((srt t.1).map V.str)) :: (J2 ++ (tp, .dT (kr m)) :: L2)) := .tail (.tail (Mem.head.app J2))
            have mtq : Mem tq (.tup (List.map kV (ik (srt t.1)))) ((tq, .tup ((srt t.1).map V.str)) :: (sp, .lst ((srt t.1).map V.str)) :: (J2 ++ (tp, .dT (kr m)) :: L2)) := by
              rw [ik_kV]
              exact .head
            have dt := dv t htm
            have db := tb t htm
            have s1 : Sm 400 t.2.1 := sm t htm
            have ef : B.fdiv t.2.2 = B / t.2.2 := Int.fdiv_eq_ediv_of_nonneg _ (by omega)
            have s2 : Sm 64 (B / t.2.2) := by
              have h1 := Int.ediv_le_self t.2.2 (Int.le_of_lt bp)
              have h0 := Int.ediv_nonneg (Int.le_of_lt bp) (Int.le_of_lt dt.2)
              show (B / t.2.2).natAbs < 2 ^ 64
              omega
            refine wss_cons (ws_dputT (hu1 hr) ?_)
            walk_at "go"
            refine we_dgetD (hu1 hr) ?_
            walk_at "go"
            refine ⟨tp, rfl, .t (.of mtp), ?_⟩
            walk_at "go"
            refine ⟨_, DGL.t (ik (srt t.1)) (.of mtp) mtq, ?_⟩
            have eg : (valV (kr m) (ik (srt t.1))).getD (V.int 0) = V.int (QM.lk m (srt t.1)) := by
              rw [valV_kr]
              unfold QM.lk
              cases QM.lkO m (srt t.1) <;> rfl
            rw [eg]
            walk_at "go"
            refine wo_fdivZ ⟨by omega, log_64 dt.2 (Int.lt_of_le_of_lt (Int.le_of_dvd bp db) bl)⟩ ?_
            rw [ef]
            walk_at "go"
            refine ⟨tp, tq, kr m, ik (srt t.1), _, rfl, rfl, mtq, .tail (.tail (Hole.head.app J2)), ?_, ?_⟩
            · rw [kr_len]
              exact len_lt (by omega)
            · refine wss_nil ⟨_, Sub.of_sublist (.cons _ (.cons _ (List.sublist_append_right _ _))), _, _, _, _, _, rfl, by rw [putK_kr], QM.nodup_pt mnd _ _, Nat.le_trans (QM.pt_len ..) (by omega), fun k => ?_⟩
              rw [take_succ ht, tvs_snoc, ← mval k]
              exact QM.val_pt (by omega) (by omega) db k
          · rintro σ' L' ⟨m, v4, v7, v8, v9, rfl, rfl, mnd, mle, mval⟩
            have e : ts.take xs.length = ts := List.take_of_length_le (by rw [lxs]; exact Nat.le_refl _)
            rw [e] at mval
            refine wss_cons (x_set (by assumption) (by walk_at "at") (by walk_at "at") (x_call (by assumption) (by walk_at "at") GQ (by walk_at "room") ?_))
            walk_at "go"
            refine ⟨tp, B, m, rfl, .head, mnd, bp, log_64 bp bl, by omega, hT2.cons _, fun o2 r c L' hE hT' hq hred hval => ?_⟩
            obtain ⟨dx2, d2, mq, md⟩ := hq.ex
            refine wss_nd fun nd3 => ?_
            have mo3 := hE _ _ (.tail mo2) (fun _ z => nomatch z)
            obtain ⟨G3, hf3, other3⟩ := mo3.hole
            refine wss_cons (x_setF ?_ (by rfl))
            refine f_tops T (x_name (by assumption) (by walk_at "at") (by walk_at "at") rfl ⟨o2, dx2, d2, c, rfl, mq, ?_⟩)
            refine x_name (by assumption) (by walk_at "at") (by walk_at "at") rfl ⟨o, Q, dx, _, _, rfl, hf3, T.qcl, T.qnT, by rw [qF_len]; decide, ?_⟩
            rw [qF_puts]
            have ned : d2 ≠ o := mem_ne nd3 md mo3 (by intro z; cases z)
            have hTF : ∀ u', TabIn TB qN (G3 u') := fun u' => hT'.hole hf3 nd3 (fun _ z => nomatch z) (fun c z => by unfold LamX.CodeO at z; cases z) other3 u'
            have hEF : ∀ u', Ext L0 (G3 u') := fun u' => ext_hole ((hE2.trans (Ext.cons _ _)).trans hE) other3 fo u'
            refine wss_cons (x_setF ?_ (by rfl))
            have mq2 : ∃ d', Mem o2 (.ins Q dx2 (qF d' c)) (G3 (.ins Q dx (qF d2 1))) := by
              by_cases e : o2 = o
              · subst e
                have z := mem_one nd3 mq mo3
                injection z with _ z1 z2
                have z3 : (qF d2 c).lookup ("_bottom" : Str) = (qF d0 1).lookup ("_bottom" : Str) := by rw [z2]
                rw [qF_bot, qF_bot] at z3
                have z4 : c = 1 := by
                  injection z3 with z5
                  injection z5
                rw [z4, z1]
                exact ⟨d2, (hf3.again' _).mm⟩
              · exact ⟨d2, other3 _ _ e mq _⟩
            obtain ⟨d', mq2⟩ := mq2
            refine f_qbot T (x_name (by assumption) (by walk_at "at") (by walk_at "at") rfl ⟨o2, dx2, d', c, rfl, mq2, ?_⟩)
            refine x_name (by assumption) (by walk_at "at") (by walk_at "at") rfl ⟨o, Q, dx, _, _, rfl, hf3.again' _, T.qcl, T.qnB, by rw [qF_len]; decide, ?_⟩
            rw [qF_putb]
            refine wss_nil (wss_nil ?_)
            exact nx_sub (k _ r c (hEF _) (hTF _) ⟨dx, d2, (hf3.again' _).mm, other3 d2 _ ned md _⟩ hred (fun k => by rw [hval, mval])) (Sub.refl _)
      · have e0 : xs = [] := by
          cases xs with
          | nil => rfl
          | cons _ _ => cases z
        have e1 : ts = [] := by
          cases ts with
          | nil => rfl
          | cons _ _ => rw [e0] at lxs; simp at lxs
        subst e1
        refine wss_nil (wss_nil ?_)
        exact nx_sub (k L1 [] 1 hE1 hT1 ⟨dx, d0, mo1, md1⟩ QM.red_nil (fun k => QM.val_nil 1 k)) (Sub.refl _)
end
end K15
set_option Elab.async false
set_option linter.all false
set_option maxRecDepth 100000
set_option maxHeartbeats 4000000
namespace K15
open PySem L2 N3
local macro_rules | `(tactic| walk_at "at") => `(tactic| with_reducible (repeat (first | exact At.head | apply At.tail)))
local macro_rules | `(tactic| walk_at "mem") => `(tactic| with_reducible (repeat (first | exact Mem.head | apply Mem.tail)))
local macro_rules | `(tactic| walk_at "boot") => `(tactic| with_reducible (first | exact boot_isi | exact boot_max | exact boot_min | exact boot_abs | exact boot_len | exact boot_repr | exact boot_divmod | exact boot_all | exact boot_sorted | exact boot_int | exact boot_bool | exact boot_str | exact boot_list | exact boot_tuple))
local macro_rules | `(tactic| walk_at "room") => `(tactic| (first | assumption | exact Room.mono (by assumption) (by decide)))
local macro_rules | `(tactic| walk_at "none") => `(tactic| (refine Txt.bn (by assumption) _ ?xz; (case xz => with_reducible (repeat (first | exact InS.head | apply InS.tail)))))
local macro_rules | `(tactic| walk_at "n3") => `(tactic| first
  | with_reducible refine ws_ret ?_
  | with_reducible refine we_int ?_
  | with_reducible refine we_str ?_
  | with_reducible refine we_bool ?_
  | with_reducible refine we_none ?_
  | ((with_reducible refine' x_name ?xo ?xa ?xb ?xc ?_); (case xo => assumption); (case xa => walk_at "at"); (case xb => walk_at "at"); (case xc => rfl))
  | ((with_reducible refine' f_tops ?xt ?_ ?xh); (case xt => assumption); (case xh => rfl))
  | ((with_reducible refine' f_qbot ?xt ?_ ?xh); (case xt => assumption); (case xh => rfl))
  | ((with_reducible refine' we_prop ?xg ?xr ?_ ?xh); (case xg => assumption); (case xr => walk_at "room"); (case xh => rfl))
  | with_reducible refine we_bin ?_
  | ((with_reducible refine wo_mulW ?xm ?_); (case xm => exact Sm.cm (by assumption) (by assumption)))
  | with_reducible refine wo_add ?_
  | with_reducible refine wo_sub ?_
  | with_reducible refine wo_lt ?_
  | with_reducible refine wo_gt ?_
  | with_reducible refine wo_le ?_
  | with_reducible refine wo_ge ?_
  | with_reducible refine wu_neg ?_
  | ((with_reducible refine we_cmp ?xh ?_); (case xh => exact nomark _))
  | ((with_reducible refine wt_cmp ?xh ?_); (case xh => exact nomark _))
  | ((with_reducible refine wa_cons ?_ ?xh); (case xh => rfl))
  | with_reducible refine wa_nil ?_
  | with_reducible refine we_and ?_
  | with_reducible refine we_or ?_
  | with_reducible refine we_not ?_
  | with_reducible refine wt_not ?_
  | with_reducible refine we_un ?_
  | with_reducible refine we_one ?_
  | with_reducible refine wt_ww (ww_or ?_)
  | with_reducible refine wt_ww (ww_and ?_)
  | with_reducible refine ww_or ?_
  | with_reducible refine ww_and ?_
  | with_reducible refine ww_or1 ?_
  | with_reducible refine ww_and1 ?_
  | with_reducible refine we_ifExp ?_
  | with_reducible refine ws_if ?_
  | with_reducible refine ws_pass ?_
  | with_reducible refine we_tup ?_
  | with_reducible refine we_lst ?_
  | ((with_reducible refine' x_set ?xo ?xa ?xb ?_ ?xs); (case xo => assumption); (case xa => walk_at "at"); (case xb => walk_at "at"); (case xs => rfl))
  | ((with_reducible refine' x_setF ?_ ?xs); (case xs => rfl))
  | ((with_reducible refine' x_call ?xo ?xa ?xg ?xr ?_ ?xe ?xp); (case xo => assumption); (case xa => walk_at "at"); (case xg => assumption); (case xr => walk_at "room"); (case xe => rfl); (case xp => rfl))
  | ((with_reducible refine' x_callB ?xo ?xa ?xg ?xr ?_ ?xe ?xp); (case xo => assumption); (case xr => walk_at "boot"); (case xa => walk_at "at"); (case xg => walk_at "none"); (case xe => rfl); (case xp => rfl))
  | ((with_reducible refine' x_callTy ?xo ?xa ?xg ?xr ?_ ?xe ?xp); (case xo => assumption); (case xr => walk_at "boot"); (case xa => walk_at "at"); (case xg => walk_at "none"); (case xe => rfl); (case xp => rfl))
  | ((with_reducible refine' x_callFn ?xo ?xa ?xg ?_ ?xe ?xp); (case xo => assumption); (case xg => with_reducible (first | exact Txt.mgcd (by assumption) | exact Txt.mlcm (by assumption))); (case xa => walk_at "at"); (case xe => rfl); (case xp => rfl))
  | ((with_reducible refine' x_bty ?xo ?xa ?xg ?xr ?_); (case xo => assumption); (case xr => walk_at "boot"); (case xa => walk_at "at"); (case xg => walk_at "none"))
  | ((with_reducible refine' x_cls ?xt ?xo ?xa ?_); (case xt => assumption); (case xo => assumption); (case xa => walk_at "at"))
  | ((with_reducible refine' x_clsQ ?xt ?xo ?xa ?_); (case xt => assumption); (case xo => assumption); (case xa => walk_at "at"))
  | ((with_reducible refine' x_make ?xo ?xa ?xg ?xr ?_ ?xe ?xp); (case xo => assumption); (case xa => walk_at "at"); (case xg => assumption); (case xr => walk_at "room"); (case xe => rfl); (case xp => rfl))
  | ((with_reducible refine' x_callG ?xo ?xa ?xg ?xr ?xd ?_ ?xe ?xp); (case xo => assumption); (case xa => walk_at "at"); (case xg => assumption); (case xr => walk_at "room"); (case xd => assumption); (case xe => rfl); (case xp => rfl))
  | with_reducible refine wss_nil ?_
  | refine ⟨_, _, _, _, rfl, (by assumption), ?_⟩
  | refine ⟨_, _, _, rfl, (by assumption), ?_⟩
  | refine wss_cons ?_)
local macro_rules | `(tactic| walk_at "gw") => `(tactic| repeat walk_at "n3")
local macro_rules | `(tactic| walk_at "go") => `(tactic| repeat (first | walk_at "n3" | ((with_reducible refine' wt_val ?_ ?xv); (case xv => intro _; rfl))))
theorem hole_alter {a b : Addr} {u u1 u2 v : HO} {L : LH} {F : HO → LH} (h : Hole a u L F) (n : v ≠ u1) (m : Mem b v (F u1)) : Mem b v (F u2) := by
  induction h with
  | head =>
    cases m with
    | head => exact absurd rfl n
    | tail m => exact .tail m
  | tail _ ih =>
    cases m with
    | head => exact .head
    | tail m => exact .tail (ih m)
theorem we_weak {X : Cx} {e : Expr} {σ : L2.St} {L L2 : LH} {y : V} (h : N3.WE X e σ L fun v L' => v = y ∧ Sub L' L2) : N3.WE X e σ L fun v L' => v = y ∧ L' = L2 := fun H hL => (h H hL).mono fun v H' ⟨L', h', e, s⟩ => ⟨L2, s _ h', e, rfl⟩
section
variable {P : Program} {w : World} {K : PySem.W.Frag} {mg : Str → Option Value} {base : Heap}
/-! as_question, of a Question -/
def pAsQ (Q : Addr) : Pre := fun vs L Kk => ∃ o dx fs, vs = [.ref o] ∧ Mem o (.ins Q dx fs) L ∧ Kk (.ref o) L
theorem scAsQ : FnScope ["value"] ["value"] (defScope sAsQ) := ⟨rfl, rfl, rfl, by decide +kernel, rfl, by decide +kernel, by decide +kernel⟩
theorem okAsQ {f C Q : Addr} {fd : FuncData} (F : Fun K "as_question" "as_question" sAsQ f fd) (T : Txt K mg C Q) : FnOk P w K mg base CX0 1 f fd ["value"] (SpL (pAsQ Q)) := by
  refine fnX (Gn := ["isinstance", "Question"]) F scAsQ (by decide +kernel) (fun vs L Kk h => ?_) (fun X e1 e2 e3 e4 e5 hX hr vs L Kk h => ?_)
  · obtain ⟨o, dx, fs, rfl, _⟩ := h
    rfl
  · subst e1 e2 e3 e4 e5
    obtain ⟨o, dx, fs, rfl, m, k⟩ := h
    walk_at "go"
    refine wc_isi (r := true) (.own _) (T.tyQ m) T.iQQ ⟨_, rfl, fun _ => ?_, fun z => Bool.noConfusion z⟩
    walk_at "go"
    exact ret_sub k (Sub.refl _)
/-! of_key, constant -/
def Val (TB Q : Addr) (ts : List Tm) (L : LH) (Kk : V → LH → Prop) : Prop := ∀ o r c L', Ext L L' → TabIn TB qN L' → QAt Q o r c L' → QM.Red ltP r c → (∀ k, QM.val r c k = tvs ts k) → Kk (.ref o) L'
def pOfKey (TB Q : Addr) : Pre := fun vs L Kk => ∃ x, vs = [.ref Q, .str x] ∧ Nm x ∧ TabIn TB qN L ∧ Val TB Q [([x], 1, 1)] L Kk
theorem scOfKey : FnScope ["cls", "key"] ["cls", "key"] (defScope sOfKey) := ⟨rfl, rfl, rfl, by decide +kernel, rfl, by decide +kernel, by decide +kernel⟩
theorem okOfKey {f TB C Q : Addr} {fd : FuncData} (F : Fun K "of_key" "Question.of_key" sOfKey f fd) (T : Txt K mg C Q) (GN : GFn P w K mg base "is_name" 1 ["value"] [] (pIsName K)) (GQ : GMk P w K mg base "Question" Q 8 ["self", "terms"] [] (pQInit TB C Q)) :
    FnOk P w K mg base CX0 10 f fd ["cls", "key"] (SpL (pOfKey TB Q)) := by
  refine fnX (Gn := ["is_name"]) F scOfKey (by decide +kernel) (fun vs L Kk h => ?_) (fun X e1 e2 e3 e4 e5 hX hr vs L Kk h => ?_)
  · obtain ⟨x, rfl, _⟩ := h
    rfl
  · subst e1 e2 e3 e4 e5
    obtain ⟨x, rfl, hx, hT, k⟩ := h
    walk_at "go"
    refine is_nm _ hx ⟨_, rfl, (fun z => Bool.noConfusion z), fun _ => ?_⟩
    refine wss_nil ?_
    refine wss_cons (ws_ret (x_makeL (by assumption) (by walk_at "at") (by walk_at "at") rfl GQ (by walk_at "room") ?_))
    walk_at "go"
    refine ⟨show 1 ≤ sizeLine from len_line, fun q => ?_⟩
    walk_at "go"
    refine ⟨show 2 ≤ sizeLine from len_line, fun t => ?_⟩
    walk_at "go"
    refine ⟨show 1 ≤ sizeLine from len_line, fun l => ?_⟩
    walk_at "go"
    intro o dx
    refine ⟨o, dx, l, [.ref t], [([x], 1, 1)], 1, _, rfl, rfl, .head, .cons ⟨t, rfl, ⟨.int 1, q, .tail .head, .int 1, .inr (.tail (.tail .head))⟩⟩ .nil, ⟨by decide, by decide, (show 1 ≤ 200 by decide), ?_, ?_, ?_⟩, ((hT.cons _).cons _).cons _, fun L' r c hE hT' hq hR hv => ⟨rfl, ?_⟩⟩
    · intro t ht
      rw [List.mem_singleton.mp ht]
      exact ⟨(show 1 ≤ 60 by decide), fun y hy => by rw [List.mem_singleton.mp hy]; exact hx⟩
    · intro t ht
      rw [List.mem_singleton.mp ht]
      exact ⟨Int.dvd_refl 1, (by decide : (0 : Int) < 1)⟩
    · intro t ht
      rw [List.mem_singleton.mp ht]
      exact Sm.one
    · exact ret_sub (k o r c L' (((Ext.cons _ _).trans (Ext.cons _ _)).trans ((Ext.cons _ _).trans hE)) hT' hq hR hv) (Sub.refl _)
def pConst (TB C Q : Addr) : Pre := fun vs L Kk => ∃ v n d, vs = [.ref Q, v] ∧ NumL C L v n d ∧ 0 < d ∧ d < 2 ^ 64 ∧ Sm 400 n ∧ TabIn TB qN L ∧ Val TB Q [([], n, d)] L Kk
theorem scConst : FnScope ["cls", "number"] ["cls", "number"] (defScope sConst) := ⟨rfl, rfl, rfl, by decide +kernel, rfl, by decide +kernel, by decide +kernel⟩
theorem okConst {f TB C Q : Addr} {fd : FuncData} (F : Fun K "constant" "Question.constant" sConst f fd) (T : Txt K mg C Q) (GN : GFn P w K mg base "is_number" 2 ["value"] [] (pIsNum C)) (GQ : GMk P w K mg base "Question" Q 8 ["self", "terms"] [] (pQInit TB C Q)) :
    FnOk P w K mg base CX0 10 f fd ["cls", "number"] (SpL (pConst TB C Q)) := by
  refine fnX (Gn := ["is_number"]) F scConst (by decide +kernel) (fun vs L Kk h => ?_) (fun X e1 e2 e3 e4 e5 hX hr vs L Kk h => ?_)
  · obtain ⟨v, n, d, rfl, _⟩ := h
    rfl
  · subst e1 e2 e3 e4 e5
    obtain ⟨v, n, d, rfl, hn, d0, d1, sn, hT, k⟩ := h
    walk_at "go"
    refine ⟨v, rfl, ?_, _, rfl, (fun z => Bool.noConfusion z), fun _ => ?_⟩
    · cases hn with
      | rat m => exact .inr ⟨_, _, _, rfl, m⟩
      | int n => exact .inl ⟨_, rfl⟩
    refine wss_nil ?_
    refine wss_cons (ws_ret (x_makeL (by assumption) (by walk_at "at") (by walk_at "at") rfl GQ (by walk_at "room") ?_))
    walk_at "go"
    refine ⟨show 0 ≤ sizeLine from len_line, fun q => ?_⟩
    walk_at "go"
    refine ⟨show 2 ≤ sizeLine from len_line, fun t => ?_⟩
    walk_at "go"
    refine ⟨show 1 ≤ sizeLine from len_line, fun l => ?_⟩
    walk_at "go"
    intro o dx
    refine ⟨o, dx, l, [.ref t], [([], n, d)], d, _, rfl, rfl, .head, .cons ⟨t, rfl, ⟨v, q, .tail .head, hn.ext (((Ext.cons _ _).trans (Ext.cons _ _)).trans (Ext.cons _ _)), .inr (.tail (.tail .head))⟩⟩ .nil, ⟨d0, d1, (show 1 ≤ 200 by decide), ?_, ?_, ?_⟩, ((hT.cons _).cons _).cons _, fun L' r c hE hT' hq hR hv => ⟨rfl, ?_⟩⟩
    · intro t ht
      rw [List.mem_singleton.mp ht]
      exact ⟨(show 0 ≤ 60 by decide), fun y hy => (List.not_mem_nil hy).elim⟩
    · intro t ht
      rw [List.mem_singleton.mp ht]
      exact ⟨Int.dvd_refl d, d0⟩
    · intro t ht
      rw [List.mem_singleton.mp ht]
      exact sn
    · exact ret_sub (k o r c L' (((Ext.cons _ _).trans (Ext.cons _ _)).trans ((Ext.cons _ _).trans hE)) hT' hq hR hv) (Sub.refl _)
/-! terms -/
/-- a row of pairs: a Ratio, a product -/
def PrsAt (C : Addr) (L : LH) (xs : List V) (r : PM) (c : Int) : Prop := Paired (fun v (p : List Str × Int) => ∃ t a dx q, v = V.ref t ∧ Mem t (.tup [.ref a, .ref q]) L ∧ Mem a (.ins C dx (ratF (nT p.2 c) (nB p.2 c))) L ∧ Mem q (.tup (p.1.map V.str)) L) xs r
theorem PrsAt.map {C : Addr} {L L' : LH} {xs : List V} {r : PM} {c : Int} (h : PrsAt C L xs r c) (k1 : ∀ a x, Mem a (.tup x) L → Mem a (.tup x) L') (k2 : ∀ a dx fs, Mem a (.ins C dx fs) L → Mem a (.ins C dx fs) L') : PrsAt C L' xs r c := by
  induction h with
  | nil => exact .nil
  | cons r _ ih =>
    obtain ⟨t, a, dx, q, e, m1, m2, m3⟩ := r
    exact .cons ⟨t, a, dx, q, e, k1 _ _ m1, k2 _ _ _ m2, k1 _ _ m3⟩ ih
def pTerms (C Q : Addr) : Pre := fun vs L Kk => ∃ o r c, vs = [.ref o] ∧ QAt Q o r c L ∧ (r.map (·.1)).Nodup ∧ 0 < c ∧ c.natAbs.log2 < 9000 ∧ r.length < 1000 ∧ ∀ l xs J, PrsAt C (J ++ (l, .lst xs) :: L) xs r c → Kk (.ref l) (J ++ (l, .lst xs) :: L)
theorem scTerms : FnScope ["self", "product"] ["self"] (defScope sTerms) := ⟨rfl, rfl, rfl, by decide +kernel, rfl, by decide +kernel, by decide +kernel⟩
theorem okTerms {f C Q : Addr} {fd : FuncData} (F : Fun K "terms" "Question.terms" sTerms f fd) (T : Txt K mg C Q) (GM : GMk P w K mg base "Ratio" C 2 ["self", "top", "bottom"] [] (pInit C)) : FnOk P w K mg base CX0 4 f fd ["self"] (SpL (pTerms C Q)) := by
  refine fnXCC (Vn := ["self"]) (Ln := []) (Gn := []) F scTerms (by decide +kernel) (fun vs L Kk h => ?_) (fun X e1 e2 e3 e4 e5 hX hfn hr vs L Kk h => ?_)
  · obtain ⟨o, r, c, rfl, _⟩ := h
    rfl
  · subst e1 e2 e3 e4 e5
    obtain ⟨o, r, c, rfl, ⟨dx, d, mo, md⟩, rnd, c0, cl, lr, k⟩ := h
    refine wss_nd fun nd => ?_
    obtain ⟨G, hf, other⟩ := md.hole
    have ne : o ≠ d := mem_ne nd mo md (by intro z; cases z)
    refine wss_cons (ws_ret (we_lock hf True.intro fun od => ?_))
    have hh := hf.again' (.frz od (.dT (kr r)))
    have mo' := other o _ ne mo (.frz od (.dT (kr r)))
    refine x_lc [("product", 1)] hX (by decide +kernel) (wi_keysT ?_)
    walk_at "go"
    refine ⟨d, od, kr r, rfl, hh.mm, fun R => ⟨fun i L' => ∃ J acc, L' = J ++ (R, .lst acc) :: G (.frz od (.dT (kr r))) ∧ PrsAt C L' acc (r.take i) c, ⟨[], [], rfl, .nil⟩, ?_, ?_, ?_⟩⟩
    · rintro i L' _ ⟨J, acc, rfl, _⟩
      exact (Mem.tail hh.mm).app J
    · rintro i v L' L'' hi ⟨J, acc, rfl, hp⟩ ⟨kk, uu, q, hk, rfl, rfl⟩
      intro s H' Ca cl' fp
      obtain ⟨p, hpi, rfl, rfl⟩ := kr_get hk
      have hB := hX.blk (Vb := ["product", "self"]) (Lb := ["product"]) (Gb := ["Ratio"]) (scope := ⟨.function, [(".0", .local), ("product", .local), ("Ratio", .globalImplicit), ("self", .free)], false, false, []⟩) (by decide +kernel)
      refine x_tgt (hB s H' Ca cl' fp) (by walk_at "at") (by walk_at "at") ⟨rfl, fun s H' Ca cl' fp => ?_⟩
      have hX' := hB s H' Ca cl' fp
      have mo2 : Mem o (.ins Q dx (qF d c)) ((q, HO.tup (List.map kV (ik p.1))) :: (J ++ (R, .lst acc) :: G (.frz od (.dT (kr r))))) := .tail ((Mem.tail mo').app J)
      have dg : DGL d (.ref q) (some (.int p.2)) ((q, HO.tup (List.map kV (ik p.1))) :: (J ++ (R, .lst acc) :: G (.frz od (.dT (kr r))))) := by
        have := DGL.t (a := d) (b := q) (ik p.1) (L := (q, HO.tup (List.map kV (ik p.1))) :: (J ++ (R, .lst acc) :: G (.frz od (.dT (kr r))))) (RdL.fz (.tail ((Mem.tail hh.mm).app J))) .head
        rw [valV_kr, QM.lkO_mem rnd (List.mem_of_getElem? hpi)] at this
        exact this
      walk_at "go"
      refine we_dget (X := X.blk s H' _ (compEnvC _ cl' Ca X.env) fp) (hu1 hr) ?_
      walk_at "go"
      refine ⟨d, .int p.2, rfl, dg, ?_⟩
      walk_at "go"
      intro a da
      refine ⟨_, _, _, _, _, rfl, rfl, by omega, cl, rfl, ?_⟩
      walk_at "go"
      refine ⟨show 2 ≤ sizeLine from len_line, fun t => ?_⟩
      have len : acc.length = (r.take i).length := Paired.length hp
      refine ⟨acc, _, .tail (.tail (.tail (Hole.head.app J))), ?_, _, Sub.refl _, (t, _) :: (a, _) :: (q, _) :: J, acc ++ [.ref t], rfl, ?_⟩
      · rw [len, List.length_take]
        exact len_lt (by omega)
      · rw [take_succ hpi]
        refine paired_snoc (hp.map (fun a x m => ?_) (fun a dx fs m => ?_)) ⟨t, a, da, q, rfl, .head, .tail .head, .tail (.tail (by rw [ik_kV]; exact .head))⟩
        · exact .tail (.tail (.tail (mem_alter (fun z => by cases z) m)))
        · exact .tail (.tail (.tail (mem_alter (fun z => by cases z) m)))
    · rintro L' ⟨J, acc, rfl, hp⟩
      have e : r.take (kr r).length = r := List.take_of_length_le (by rw [kr_len]; exact Nat.le_refl _)
      rw [e] at hp
      refine ⟨fun u => J ++ (R, .lst acc) :: G u, (hh.tail).app J, ?_⟩
      show (EndOf Kk).rt (V.ref R) (J ++ (R, HO.lst acc) :: G (.dT (kr r)))
      rw [hf.self']
      refine ret_sub (k R acc J (hp.map (fun a x m => ?_) (fun a dx fs m => ?_))) (Sub.refl _)
      · have := hole_alter (u2 := .dT (kr r)) ((hh.tail (p := (R, .lst acc))).app J) (fun z => by cases z) m
        rw [hf.self'] at this
        exact this
      · have := hole_alter (u2 := .dT (kr r)) ((hh.tail (p := (R, .lst acc))).app J) (fun z => by cases z) m
        rw [hf.self'] at this
        exact this
end
end K15
set_option Elab.async false
set_option linter.all false
set_option maxRecDepth 100000
set_option maxHeartbeats 4000000
/-! name = {.. for ..} with tuples as keys, where the value is stored at once -/
namespace N3
open PySem PySem.Spec PyProof.Rows L2
section
variable {X : Cx} {pins : List (Addr × Obj)} {kx vx tg iter : Expr} {ifs : List Expr} {scope : Scope} {own : List (Str × Nat)} {pos : Pos} {wi : TI} {g : TG} {tt : TT} {tk tv : TE}
theorem ps_setDcT {i : Nat} {y : Str} {py spos : Pos} (hu : X.A.units + 1 < cLine) (calm : X.calm = true) (nd : X.N.Nodup) (hy : X.N[i]? = some y) (hyl : X.env.scope.names.lookup y = some .local) (hsw : swapsWith (.DictComp kx vx [⟨tg, iter, ifs, 0⟩] scope pos) (some (.Name y py)) spos.line X.env = pure true) (src : PI X tg iter wi) (ok : BlkOk X.N X.env.scope scope own)
    (bg : InBlk X scope fun Z => PG Z tg g) (bt : InBlk X scope fun Z => PTs Z ifs tt) (bk : InBlk X scope fun Z => PE Z kx tk) (bv : InBlk X scope fun Z => PE Z vx tv)
    (fold : ∀ v, foldedSetIterable iter X.env v = pure v := by intro _; rfl) : PS X (.Assign [.Name y py] (.DictComp kx vx [⟨tg, iter, ifs, 0⟩] scope pos) spos) (tAsg (tDcT wi g tt tk tv (own.map (·.2))) (gName i)) := by
  refine ⟨fun pins s σ H DD I h => ?_⟩
  rw [exec_Assign_Name_used _ _ _ _ hsw]
  refine wpAny_bind (wpAny_standAt (wpAny_bind ?_))
  show wpAny _ X.A (do let _ ← comprehension (.DictComp kx vx [⟨tg, iter, ifs, 0⟩] scope pos) scope X.env (firstIterPos [⟨tg, iter, ifs, 0⟩] pos) newDict false (eval iter X.env) (some (assign (.Name y py) X.env))) _ _ s
  have hyp : tDcT wi g tt tk tv (own.map (·.2)) σ H (fun x H1 => gName i x σ H1 DD.nx) := h
  refine wpAny_bind (thn (Q := fun (_ : Value) s' => SP X pins DD .next s') ?_ fun _ s' hq => wpAny_pure (wpAny_pure hq))
  have frees : ∀ y ∈ scope.names, y.2 = .free → ∃ d, X.env.cells.lookup y.1 = some d := by
    intro y hy e
    exact (ok.free y hy e).elim (fun z => I.ok.has _ (.inl z)) fun z => I.ok.has _ (.inr z)
  refine wpAny_comprehension_free rfl fold (closure_ok frees) ok.kind (fun y hy e => by rw [ok.uniq y hy, e]) ?_
  refine thn (src.run pins s σ H _ I hyp) fun xv s1 hx => thn hx fun itv s2 found => ?_
  obtain ⟨it, ws, tn, J, H2, rfl, I2, T, st2, ok2, inside⟩ := found
  refine wpAny_newObj_type (newEnv_comp ?_)
  obtain ⟨D, hD⟩ : ∃ D, D = s2.heap.objs.size := ⟨_, rfl⟩
  rw [← hD]
  have fresh : H2 D = none := I2.hok.fresh (by rw [hD]; exact Nat.le_refl _)
  obtain ⟨W, ⟨m0, start⟩, turn⟩ := inside D fresh
  -- the new dict is laid
  obtain ⟨sD, esD⟩ : ∃ sD : Shared, sD = { s2 with heap := s2.heap.push { cls := .type "dict", data := .dict #[] } } := ⟨_, rfl⟩
  have hpD : sD.heap = s2.heap.push { cls := .type "dict", data := .dict #[] } := by rw [esD]
  obtain ⟨G, eG⟩ : ∃ G : Hp, G = upd H2 D (.dT []) := ⟨_, rfl⟩
  have ID : Inv X pins σ G sD := by
    rw [esD, eG, hD]
    exact I2.laid (t' := s2.toks) (fun _ _ e => Heap.get?_push_of_some _ e) (Nat.le_refl _) (dt_empty s2.heap I2.big)
  rw [← eG] at start
  have lower : ∀ b ∈ ws, b < s2.heap.objs.size := fun b hb => by
    obtain ⟨o, e, _⟩ := T.obj _ _ st2 b hb
    exact Heap.lt_size e
  have okD : ∀ b ∈ ws, FpOk X pins G b ∧ b < sD.heap.objs.size := fun b hb => by
    have lt := lower b hb
    have ne : b ≠ D := by rw [hD]; exact Nat.ne_of_lt lt
    exact ⟨⟨by rw [eG, upd_ne ne]; exact (ok2 b hb).1, (ok2 b hb).2⟩, by rw [hpD, Heap.size_push]; exact Nat.lt_succ_of_lt lt⟩
  have tnD : tn 0 sD.heap := T.keep _ _ _ st2 fun b _ o e => by rw [hpD]; exact Heap.get?_push_of_some _ e
  -- the block is entered
  have IB := block_start ID ok nd okD
  obtain ⟨cl, ecl⟩ : ∃ cl, cl = cellsFrom (sD.heap.objs.size + 1) scope.names (cloFrom X.env.cells scope.names []) := ⟨_, rfl⟩
  obtain ⟨C, eC⟩ : ∃ C, C = sD.heap.objs.size := ⟨_, rfl⟩
  rw [← ecl, ← eC] at IB
  obtain ⟨Z, eZ⟩ : ∃ Z : Cx, Z = X.blk sD G scope (compEnvC scope cl C X.env) ws := ⟨_, rfl⟩
  rw [← eZ] at IB
  have gZ : PG Z tg g := by rw [eZ]; exact bg _ _ _ _ _
  have tZ : PTs Z ifs tt := by rw [eZ]; exact bt _ _ _ _ _
  have kZ : PE Z kx tk := by rw [eZ]; exact bk _ _ _ _ _
  have vZ : PE Z vx tv := by rw [eZ]; exact bv _ _ _ _ _
  have zp : Z.prog = X.prog := by rw [eZ]
  have zw : Z.w = X.w := by rw [eZ]
  have zK : Z.K = X.K := by rw [eZ]
  have zc : Z.calm = true := by rw [eZ]; exact calm
  have zA : Z.A = X.A := by rw [eZ]
  have zenv : Z.env = compEnvC scope cl C X.env := by rw [eZ]
  have zL : Z.env.locals = C := by rw [zenv]; rfl
  have free0 : ∀ b ∈ ws, G b = none := fun b hb => (okD b hb).1.1
  have stands : ∀ {σ' : L2.St} {Hs : Hp} {ss : Shared}, Inv Z [] σ' Hs ss → (∀ b ∈ ws, Hs b = none) → ∀ b ∈ ws, FpOk Z [] Hs b := fun {σ' Hs ss} J0 no b hb => by
    have hex : b ∈ Z.ex := by rw [eZ]; exact hb
    have q := J0.ok.exf b hex
    refine ⟨no b hb, q.1, J0.ok.exfs b hex, .inl hex, fun x c e => q.2 x c e, fun p hp => ?_⟩
    rw [eZ] at hp
    exact absurd (show p ∈ ([] : List (Addr × Obj)) ++ [] from hp) (by simp)
  have whole : codeAny (model X.prog X.w) X.A (.compLoop (.DictComp kx vx [⟨tg, iter, ifs, 0⟩] scope pos) 0 (.ref it) (.ref D) (compEnvC scope cl C X.env)) (compPost (model X.prog X.w) X.A X.xe (some (assign (.Name y py) X.env)) (fun (_ : Value) s' => SP X pins DD .next s') (.ref D) C) { sD with heap := pushCells (sD.heap.push { cls := .type "dict", data := .dict #[] }) scope.names } := by
    have tnB : tn 0 (pushCells (sD.heap.push { cls := .type "dict", data := .dict #[] }) scope.names) := T.keep _ _ _ tnD fun b _ o e => pushCells_keeps _ _ _ _ (Heap.get?_push_of_some _ e)
    refine compLoop_anyD (fun n ss => ∃ i Hs, Inv Z [] (wipe σ (own.map (·.2))) Hs ss ∧ tn i ss.heap ∧ (∀ b ∈ ws, Hs b = none) ∧ W i n Hs) ?_ m0 ⟨0, G, IB, tnB, free0, start⟩
    rintro n s5 ⟨i, H5, I5, tn5, no5, w5⟩
    rcases turn i n H5 w5 with ⟨stop, done⟩ | ⟨go, Nx, less, step⟩
    · have fin := T.done Z zp zw zK zc i [] s5 _ H5 (fun _ _ => False) I5 (stands I5 no5) tn5 stop
      rw [zA] at fin
      refine thnF fin fun r s6 ⟨er, I6⟩ => ?_
      subst er
      rw [eZ] at I6
      have back : Inv X pins σ H5 s6 := ID.call' (ch := ws) I6.os I6.base I6.hok I6.bare fun b hb => by
        obtain ⟨_, q1, q2, q3, q4, q5⟩ := (okD b hb).1
        exact ⟨q3, q1, q4, q5⟩
      have noC : H5 C = none := I6.free
      obtain ⟨mm, hn, _⟩ := I6.loc
      obtain ⟨f0, f1, f2, f3, f4, f5⟩ := ID.fpOk (b := C) (by rw [eC]; exact Nat.le_refl _) noC
      show wpAny _ _ (assign (.Name y py) X.env (.ref D)) _ _ _
      refine wpAny_assign_Name (store_ok2 (v := V.ref D) back nd hy (.inl hyl) rfl (fun s2 I2x ⟨a, sb, ha⟩ => ?_) (.inr hyl))
      have haC : C ≠ a := by
        rcases ha with z | z
        · rw [z]; exact f1
        · exact fun e => f4 y a z e.symm
      refine ⟨mm, hn.sameBut sb haC, fun h3 sb3 => ?_⟩
      exact ⟨_, H5, I2x.turned (t' := s2.toks) (fun b o hb e => (sb3.2 b hb).trans e) f0 f1 f3 f4 f5, done⟩
    · have item := T.item Z zp zw zK zc i [] s5 _ H5 (fun _ _ => False) I5 (stands I5 no5) tn5 go
      rw [zA] at item
      refine thnF item fun r s6 ⟨u, er, hnd⟩ => ?_
      subst er
      refine thnF hnd fun _ s7 ⟨x, H7, I7, r7, y7, tn7, no7⟩ => ?_
      have P7 := I7.pinned (stands I7 no7) (T.obj _ _ tn7)
      -- the end of a turn
      have fin : ∀ {σ8 : L2.St} {se : Shared} {He : Hp}, wipe σ8 (own.map (·.2)) = wipe σ (own.map (·.2)) → Inv Z ([] ++ pinsAt ws s7.heap) σ8 He se → Nx He → ∃ m, m < n ∧ ∃ i Hs, Inv Z [] (wipe σ (own.map (·.2))) Hs se ∧ tn i se.heap ∧ (∀ b ∈ ws, Hs b = none) ∧ W i m Hs := by
        intro σ8 se He wipes Ie nx
        obtain ⟨m', lt, w'⟩ := less He nx
        have stay : ∀ b ∈ ws, ∀ o, s7.heap.get? b = some o → se.heap.get? b = some o ∧ He b = none := fun b hb o e => by
          have z := Ie.pin (b, o) (List.mem_append_right _ (List.mem_append_right _ (mem_pinsAt hb e)))
          exact ⟨z.1, z.2.1⟩
        refine ⟨m', lt, i + 1, He, (Ie.unpinned (pins := [])).weak (by rw [← wipes, wipe_length]) (fun j v e => ?_), T.keep _ _ _ tn7 fun b hb o e => (stay b hb o e).1, fun b hb => ?_, w'⟩
        · rw [← wipes] at e
          exact (wipe_some e).1
        · obtain ⟨o, e, _⟩ := T.obj _ _ tn7 b hb
          exact (stay b hb o e).2
      subst eZ
      refine thnF (gZ.run _ s7 _ H7 x u _ P7 r7 (step x H7 y7)) fun _ s8 ⟨σ8, H8, I8, wipes, q8⟩ => ?_
      refine thnF (tZ.run _ s8 σ8 H8 _ I8 q8) fun b s9 ⟨H9, I9, q9⟩ => ?_
      dsimp only at q9
      rcases Bool.eq_false_or_eq_true b with hb | hb <;> subst hb
      · simp only [if_true] at q9 ⊢
        refine thnF (kZ.run _ s9 σ8 H9 _ I9 q9) fun ku sk ⟨y, Hk, Ik, rk, qk⟩ => ?_
        refine thnF (vZ.run _ sk σ8 Hk _ Ik qk) fun vu sv ⟨zz, Hv, Iv, rv, H6, put, nx⟩ => ?_
        exact put_dictT (X := X.blk sD G scope (compEnvC scope cl C X.env) ws) hu Iv put rk rv fun se Ie => fin wipes Ie nx
      · simp only [Bool.false_eq_true, if_false] at q9 ⊢
        exact fin wipes I9 q9
  subst ecl
  subst eC
  subst esD
  exact codeAny_compStart_dict whole (T.self X.A 0 _ _ _ (T.keep _ _ _ tnD fun b _ o e => pushCells_keeps _ _ _ _ (Heap.get?_push_of_some _ e)) whole)
end
theorem sw_trueD {kx vx : Expr} {gs : List Comprehension} {scope : Scope} {pos py : Pos} {y : Str} {l : Nat} {env : Env} (hk : env.scope.kind = .function) (hy : env.scope.names.lookup y = some .local) (hl : (py.line == pos.line) = true)
    (ha : (scope.names.any fun (n, k) => n == y && (k == .local || k == .cell)) = false) : swapsWith (.DictComp kx vx gs scope pos) (some (.Name y py)) l env = pure true := by
  have ky : env.kindOf y = some .local := hy
  have hb : env.blockKind = .function := by unfold Env.blockKind; rw [hk]; rfl
  unfold swapsWith
  simp only [hb, ky, ha, Expr.pos, hl]
  rfl
section
variable {N Vn Ln Gn : List Str} {sc : Scope} {X : Cx} {tg iter kx vx : Expr} {σ : L2.St} {L : LH} {D : EndsL} {i j : Nat} {pos cpos py : Pos} {y : Str} {scope : Scope}
theorem x_setDcT (own : List (Str × Nat)) (h : XOk N sc Vn Ln Gn X) (hu : X.A.units + 1 < cLine) (ay : At y N i) (cy : At y Ln j) (ok : blkC N sc scope own = true) (hk : sc.kind = .function)
    (ha : (scope.names.any fun (n, k) => n == y && (k == .local || k == .cell)) = false) (hl : (py.line == cpos.line) = true) (q : WI X tg iter σ L (DcTS X scope own tg kx vx σ fun v L' => D.nx (σ.set i (some v)) L'))
    (hs : ∀ x, foldedSetIterable iter X.env x = pure x := by intro _; rfl) : WS X (.Assign [.Name y py] (.DictComp kx vx [⟨tg, iter, [], 0⟩] scope cpos) pos) σ L D := by
  obtain ⟨wi, hi, q⟩ := q
  exact ws_of (ps_setDcT hu h.calm h.nd (h.ix ay) (h.loc cy) (sw_trueD (by rw [h.hsc]; exact hk) (h.loc cy) hl ha) hi (blkOk_by (by rw [h.hN, h.hsc]; exact ok)) (fun _ _ _ _ _ => pgB) (fun _ _ _ _ _ => pts_nil) (fun _ _ _ _ _ => peB) (fun _ _ _ _ _ => peB) hs) (dcTW q)
end
end N3
set_option Elab.async false
set_option linter.all false
set_option maxRecDepth 100000
set_option maxHeartbeats 4000000
namespace K15
open PySem L2 N3
local macro_rules | `(tactic| walk_at "at") => `(tactic| with_reducible (repeat (first | exact At.head | apply At.tail)))
local macro_rules | `(tactic| walk_at "mem") => `(tactic| with_reducible (repeat (first | exact Mem.head | apply Mem.tail)))
local macro_rules | `(tactic| walk_at "boot") => `(tactic| with_reducible (first | exact boot_isi | exact boot_max | exact boot_min | exact boot_abs | exact boot_len | exact boot_repr | exact boot_divmod | exact boot_all | exact boot_sorted | exact boot_int | exact boot_bool | exact boot_str | exact boot_list | exact boot_tuple))
local macro_rules | `(tactic| walk_at "room") => `(tactic| (first | assumption | exact Room.mono (by assumption) (by decide)))
local macro_rules | `(tactic| walk_at "none") => `(tactic| (refine Txt.bn (by assumption) _ ?xz; (case xz => with_reducible (repeat (first | exact InS.head | apply InS.tail)))))
local macro_rules | `(tactic| walk_at "n3") => `(tactic| first
  | with_reducible refine ws_ret ?_
  | with_reducible refine we_int ?_
  | with_reducible refine we_str ?_
  | with_reducible refine we_bool ?_
  | with_reducible refine we_none ?_
  | ((with_reducible refine' x_name ?xo ?xa ?xb ?xc ?_); (case xo => assumption); (case xa => walk_at "at"); (case xb => walk_at "at"); (case xc => rfl))
  | ((with_reducible refine' f_tops ?xt ?_ ?xh); (case xt => assumption); (case xh => rfl))
  | ((with_reducible refine' f_qbot ?xt ?_ ?xh); (case xt => assumption); (case xh => rfl))
  | ((with_reducible refine' we_prop ?xg ?xr ?_ ?xh); (case xg => assumption); (case xr => walk_at "room"); (case xh => rfl))
  | with_reducible refine we_bin ?_
  | ((with_reducible refine wo_mulW ?xm ?_); (case xm => exact Sm.cm (by assumption) (by assumption)))
  | with_reducible refine wo_add ?_
  | with_reducible refine wo_sub ?_
  | with_reducible refine wo_lt ?_
  | with_reducible refine wo_gt ?_
  | with_reducible refine wo_le ?_
  | with_reducible refine wo_ge ?_
  | with_reducible refine wu_neg ?_
  | ((with_reducible refine we_cmp ?xh ?_); (case xh => exact nomark _))
  | ((with_reducible refine wt_cmp ?xh ?_); (case xh => exact nomark _))
  | ((with_reducible refine wa_cons ?_ ?xh); (case xh => rfl))
  | with_reducible refine wa_nil ?_
  | with_reducible refine we_and ?_
  | with_reducible refine we_or ?_
  | with_reducible refine we_not ?_
  | with_reducible refine wt_not ?_
  | with_reducible refine we_un ?_
  | with_reducible refine we_one ?_
  | with_reducible refine wt_ww (ww_or ?_)
  | with_reducible refine wt_ww (ww_and ?_)
  | with_reducible refine ww_or ?_
  | with_reducible refine ww_and ?_
  | with_reducible refine ww_or1 ?_
  | with_reducible refine ww_and1 ?_
  | with_reducible refine we_ifExp ?_
  | with_reducible refine ws_if ?_
  | with_reducible refine ws_pass ?_
  | with_reducible refine we_tup ?_
  | with_reducible refine we_lst ?_
  | ((with_reducible refine' x_set ?xo ?xa ?xb ?_ ?xs); (case xo => assumption); (case xa => walk_at "at"); (case xb => walk_at "at"); (case xs => rfl))
  | ((with_reducible refine' x_setF ?_ ?xs); (case xs => rfl))
  | ((with_reducible refine' x_call ?xo ?xa ?xg ?xr ?_ ?xe ?xp); (case xo => assumption); (case xa => walk_at "at"); (case xg => assumption); (case xr => walk_at "room"); (case xe => rfl); (case xp => rfl))
  | ((with_reducible refine' x_callB ?xo ?xa ?xg ?xr ?_ ?xe ?xp); (case xo => assumption); (case xr => walk_at "boot"); (case xa => walk_at "at"); (case xg => walk_at "none"); (case xe => rfl); (case xp => rfl))
  | ((with_reducible refine' x_callTy ?xo ?xa ?xg ?xr ?_ ?xe ?xp); (case xo => assumption); (case xr => walk_at "boot"); (case xa => walk_at "at"); (case xg => walk_at "none"); (case xe => rfl); (case xp => rfl))
  | ((with_reducible refine' x_callFn ?xo ?xa ?xg ?_ ?xe ?xp); (case xo => assumption); (case xg => with_reducible (first | exact Txt.mgcd (by assumption) | exact Txt.mlcm (by assumption))); (case xa => walk_at "at"); (case xe => rfl); (case xp => rfl))
  | ((with_reducible refine' x_bty ?xo ?xa ?xg ?xr ?_); (case xo => assumption); (case xr => walk_at "boot"); (case xa => walk_at "at"); (case xg => walk_at "none"))
  | ((with_reducible refine' x_cls ?xt ?xo ?xa ?_); (case xt => assumption); (case xo => assumption); (case xa => walk_at "at"))
  | ((with_reducible refine' x_clsQ ?xt ?xo ?xa ?_); (case xt => assumption); (case xo => assumption); (case xa => walk_at "at"))
  | ((with_reducible refine' x_make ?xo ?xa ?xg ?xr ?_ ?xe ?xp); (case xo => assumption); (case xa => walk_at "at"); (case xg => assumption); (case xr => walk_at "room"); (case xe => rfl); (case xp => rfl))
  | ((with_reducible refine' x_callG ?xo ?xa ?xg ?xr ?xd ?_ ?xe ?xp); (case xo => assumption); (case xa => walk_at "at"); (case xg => assumption); (case xr => walk_at "room"); (case xd => assumption); (case xe => rfl); (case xp => rfl))
  | with_reducible refine wss_nil ?_
  | refine ⟨_, _, _, _, rfl, (by assumption), ?_⟩
  | refine ⟨_, _, _, rfl, (by assumption), ?_⟩
  | refine wss_cons ?_)
local macro_rules | `(tactic| walk_at "gw") => `(tactic| repeat walk_at "n3")
local macro_rules | `(tactic| walk_at "go") => `(tactic| repeat (first | walk_at "n3" | ((with_reducible refine' wt_val ?_ ?xv); (case xv => intro _; rfl))))
/-- what is asked of a sum of products that is reckoned with -/
structure PO (r : PM) (c : Int) : Prop where
  nd : (r.map (·.1)).Nodup
  p0 : 0 < c
  p1 : c < 2 ^ 62
  ln : r.length ≤ 400
  sm : ∀ p ∈ r, Sm 400 p.2
theorem lg_of {n : Nat} {x : Int} (h : Sm n x) (h0 : 0 < n := by decide) (h1 : n ≤ 9000 := by decide) : x.natAbs.log2 < 9000 := Nat.lt_of_lt_of_le (Sm.log h h0) h1
section
variable {P : Program} {w : World} {K : PySem.W.Frag} {mg : Str → Option Value} {base : Heap}
/-! _plus -/
def Plus (TB Q : Addr) (s : Int) (r1 : PM) (c1 : Int) (r2 : PM) (c2 : Int) (L : LH) (Kk : V → LH → Prop) : Prop := ∀ o r c L', Ext L L' → TabIn TB qN L' → QAt Q o r c L' → QM.Red ltP r c → (∀ k, QM.val r c k = QM.val r1 c1 k + Rat.divInt (s * QM.lk r2 k) c2) → Kk (.ref o) L'
def pPlus (TB Q : Addr) : Pre := fun vs L Kk => ∃ o1 o2 s r1 c1 r2 c2, vs = [.ref o1, .ref o2, .int s] ∧ (s = 1 ∨ s = -1) ∧ QAt Q o1 r1 c1 L ∧ QAt Q o2 r2 c2 L ∧ PO r1 c1 ∧ PO r2 c2 ∧ TabIn TB qN L ∧ Plus TB Q s r1 c1 r2 c2 L Kk
abbrev nPlus : List Str := ["self", "other", "sign", "bottom", "mine", "yours", "product", "tops"]
theorem scPlus : FnScope nPlus ["self", "other", "sign"] (defScope sPlus) := ⟨rfl, rfl, rfl, by decide +kernel, rfl, by decide +kernel, by decide +kernel⟩
theorem map_take {α β : Type} {f : α → β} {l : List α} {i : Nat} : (l.map f).take i = (l.take i).map f := List.map_take.symm
theorem nk_take {m : PM} (nd : (m.map (·.1)).Nodup) {i : Nat} {p : List Str × Int} (h : m[i]? = some p) : p.1 ∉ (m.take i).map (·.1) := by
  rw [List.map_take]
  exact not_in_take nd (map_getI h)
theorem okPlus {f TB C Q : Addr} {fd : FuncData} (F : Fun K "_plus" "Question._plus" sPlus f fd) (T : Txt K mg C Q) (GQ : GFn P w K mg base "question_of" 7 ["tops", "bottom"] [] (pQOf TB Q)) : FnOk P w K mg base CX0 8 f fd ["self", "other", "sign"] (SpL (pPlus TB Q)) := by
  refine fnXCC (Vn := nPlus) (Ln := ["other", "sign", "bottom", "yours", "product", "tops"]) (Gn := ["lcm", "question_of"]) F scPlus (by decide +kernel) (fun vs L Kk h => ?_) (fun X e1 e2 e3 e4 e5 hX hfn hr vs L Kk h => ?_)
  · obtain ⟨o1, o2, s, r1, c1, r2, c2, rfl, _⟩ := h
    rfl
  · subst e1 e2 e3 e4 e5
    obtain ⟨o1, o2, s, r1, c1, r2, c2, rfl, hs, ⟨dx1, d1, mo1, md1⟩, ⟨dx2, d2, mo2, md2⟩, ⟨nd1, p1, q1, l1, s1⟩, ⟨nd2, p2, q2, l2, s2⟩, hT, k⟩ := h
    refine wss_nd fun nd => ?_
    walk_at "go"
    refine wc_lcm (by omega) (by omega) ?_
    have bd1 := (dvd_lcm_i (a := c1) (b := c2)).1
    have bd2 := (dvd_lcm_i (a := c1) (b := c2)).2
    have bs : Sm 124 ((Nat.lcm c1.natAbs c2.natAbs : Nat) : Int) := by
      have h1 : Nat.lcm c1.natAbs c2.natAbs ≤ c1.natAbs * c2.natAbs := by
        unfold Nat.lcm
        exact Nat.div_le_self _ _
      have h2 : c1.natAbs * c2.natAbs < 2 ^ 62 * 2 ^ 62 := Nat.mul_lt_mul'' (by omega) (by omega)
      show (((Nat.lcm c1.natAbs c2.natAbs : Nat) : Int)).natAbs < 2 ^ 124
      rw [Int.natAbs_natCast]
      have : (2 : Nat) ^ 62 * 2 ^ 62 = 2 ^ 124 := by decide
      omega
    have bp : 0 < ((Nat.lcm c1.natAbs c2.natAbs : Nat) : Int) := by
      have := Nat.lcm_pos (m := c1.natAbs) (n := c2.natAbs) (by omega) (by omega)
      omega
    generalize ((Nat.lcm c1.natAbs c2.natAbs : Nat) : Int) = B at bd1 bd2 bs bp
    have quo : ∀ c, 0 < c → c ∣ B → B.fdiv c = B / c ∧ Sm 124 (B / c) := fun c h0 _ => ⟨Int.fdiv_eq_ediv_of_nonneg _ (Int.le_of_lt h0), by
      have h1 := Int.ediv_le_self c (Int.le_of_lt bp)
      have h2 := Int.ediv_nonneg (Int.le_of_lt bp) (Int.le_of_lt h0)
      show (B / c).natAbs < 2 ^ 124
      have : B.natAbs < 2 ^ 124 := bs
      omega⟩
    obtain ⟨f1, sm1⟩ := quo c1 p1 bd1
    obtain ⟨f2, sm2⟩ := quo c2 p2 bd2
    have ss : Sm 2 s := by rcases hs with rfl | rfl <;> (show (_ : Int).natAbs < 2 ^ 2; decide)
    have lc1 : c1.natAbs.log2 < 9000 := lg_of (n := 62) (show c1.natAbs < 2 ^ 62 by omega)
    have lc2 : c2.natAbs.log2 < 9000 := lg_of (n := 62) (show c2.natAbs < 2 ^ 62 by omega)
    refine wss_cons (ws_asg ?_ (by rfl) ((by intro env e; cases env with | mk => dsimp only at e; subst e; rfl : ∀ env : Env, env.scope = defScope sPlus → swappedStores _ _ env = pure none) X.env hX.hsc))
    walk_at "go"
    refine wo_fdivZ ⟨by omega, lc1⟩ ?_
    rw [f1]
    walk_at "go"
    refine wo_fdivZ ⟨by omega, lc2⟩ ?_
    rw [f2]
    walk_at "go"
    refine ⟨show 2 ≤ sizeLine from len_line, fun pp => ?_⟩
    refine x_tup (by assumption) .head ?_
    refine wgs_cons (x_tgtC hX hfn (by walk_at "at") (by decide +kernel) ?_)
    refine wgs_cons (x_tgt (by assumption) (by walk_at "at") (by walk_at "at") ?_)
    refine wgs_nil (wss_sub (Sub.of_sublist (.cons _ (.refl _))) ?_)
    obtain ⟨G, hf, other⟩ := md1.hole
    have ne1 : o1 ≠ d1 := mem_ne nd mo1 md1 (by intro z; cases z)
    refine wss_cons (ws_lock hf True.intro fun od => ?_)
    have hh := hf.again' (.frz od (.dT (kr r1)))
    have mo1' := other o1 _ ne1 mo1 (.frz od (.dT (kr r1)))
    refine x_setDcT [("product", 6)] hX (hu1 hr) (by walk_at "at") (by walk_at "at") (by decide +kernel) rfl (by decide +kernel) (by decide) (wi_keysT ?_)
    walk_at "go"
    refine ⟨d1, od, kr r1, rfl, hh.mm, fun D => ⟨fun i L' => L' = (D, .dT (kr ((r1.take i).map fun p => (p.1, B / c1 * p.2)))) :: G (.frz od (.dT (kr r1))), rfl, ?_, ?_, ?_⟩⟩
    · rintro i L' _ rfl
      exact .tail hh.mm
    · rintro i v L' L'' hi rfl ⟨kk, uu, q, hk, rfl, rfl⟩
      intro s' H' Ca cl fp
      obtain ⟨p, hpi, rfl, rfl⟩ := kr_get hk
      have hB := hX.blk (Vb := ["product", "mine", "self"]) (Lb := ["product"]) (Gb := []) (scope := ⟨.function, [(".0", .local), ("product", .local), ("mine", .free), ("self", .free)], false, false, []⟩) (by decide +kernel)
      refine x_tgt (hB s' H' Ca cl fp) (by walk_at "at") (by walk_at "at") ⟨rfl, fun s' H' Ca cl fp => ?_⟩
      have hX1 := hB s' H' Ca cl fp
      walk_at "go"
      intro s' H' Ca cl fp
      have hX2 := hB s' H' Ca cl fp
      have mo3 : Mem o1 (.ins Q dx1 (qF d1 c1)) ((q, HO.tup (List.map kV (ik p.1))) :: (D, .dT (kr ((r1.take i).map fun p => (p.1, B / c1 * p.2)))) :: G (.frz od (.dT (kr r1)))) := .tail (.tail mo1')
      have dg : DGL d1 (.ref q) (some (.int p.2)) ((q, HO.tup (List.map kV (ik p.1))) :: (D, .dT (kr ((r1.take i).map fun p => (p.1, B / c1 * p.2)))) :: G (.frz od (.dT (kr r1)))) := by
        have := DGL.t (a := d1) (b := q) (ik p.1) (L := (q, HO.tup (List.map kV (ik p.1))) :: (D, .dT (kr ((r1.take i).map fun p => (p.1, B / c1 * p.2)))) :: G (.frz od (.dT (kr r1)))) (RdL.fz (.tail (.tail hh.mm))) .head
        rw [valV_kr, QM.lkO_mem nd1 (List.mem_of_getElem? hpi)] at this
        exact this
      walk_at "go"
      refine we_dget (X := X.blk s' H' _ (compEnvC _ cl Ca X.env) fp) (hu1 hr) ?_
      walk_at "go"
      refine ⟨d1, .int p.2, rfl, dg, ?_⟩
      have sp := s1 p (List.mem_of_getElem? hpi)
      walk_at "go"
      refine ⟨_, ik p.1, q, _, rfl, .head, .tail .head, ?_, _, Sub.of_sublist (.cons _ (.refl _)), ?_⟩
      · rw [kr_len, List.length_map, List.length_take]
        exact len_lt (by omega)
      · show _ = _
        rw [putK_kr, pt_new _ (by rw [QM.scale_keys]; exact nk_take nd1 hpi), take_succ hpi, List.map_append]
        rfl
    · rintro L' rfl
      have e : r1.take (kr r1).length = r1 := List.take_of_length_le (by rw [kr_len]; exact Nat.le_refl _)
      rw [e]
      refine ⟨fun u => (D, .dT (kr (r1.map fun p => (p.1, B / c1 * p.2)))) :: G u, hh.tail, ?_⟩
      show WSs X _ _ ((D, .dT (kr (r1.map fun p => (p.1, B / c1 * p.2)))) :: G (.dT (kr r1))) _
      rw [hf.self']
      obtain ⟨G2, hf2, other2⟩ := md2.hole
      have ne2 : o2 ≠ d2 := mem_ne nd mo2 md2 (by intro z; cases z)
      refine wss_cons (ws_lock (.tail hf2) True.intro fun od2 => ?_)
      have hh2 := hf2.again' (.frz od2 (.dT (kr r2)))
      have mo2' := other2 o2 _ ne2 mo2 (.frz od2 (.dT (kr r2)))
      refine ws_forW hX.calm hX.pas (wi_keysT ?_)
      have mo4 : Mem o2 (.ins Q dx2 (qF d2 c2)) ((D, .dT (kr (r1.map fun p => (p.1, B / c1 * p.2)))) :: G2 (.frz od2 (.dT (kr r2)))) := .tail mo2'
      walk_at "go"
      refine ⟨d2, od2, kr r2, rfl, .tail hh2.mm, fun i σ' L' => ∃ m v6, σ' = [some (.ref o1), some (.ref o2), some (.int s), some (.int B), some (.int (B / c1)), some (.int (s * (B / c2))), v6, some (.ref D)] ∧ L' = (D, .dT (kr m)) :: G2 (.frz od2 (.dT (kr r2))) ∧ (m.map (·.1)).Nodup ∧ m.length ≤ r1.length + i ∧ ∀ k, QM.val m B k = QM.val r1 c1 k + QM.tv ((r2.take i).map fun p => (p.1, s * p.2, c2)) k, ⟨_, _, rfl, rfl, by rw [QM.scale_keys]; exact nd1, by rw [List.length_map]; exact Nat.le_refl _, fun k => ?_⟩, ?_, ?_, ?_⟩
      · rw [QM.val_scale (by omega) (by omega) bd1]
        show _ = _ + 0
        rw [Rat.add_zero]
      · rintro i σ' L' _ ⟨m, v6, _, rfl, _⟩
        exact .tail hh2.mm
      · rintro i v σ' L' L'' hi ⟨m, v6, rfl, rfl, mnd, mle, mval⟩ ⟨kk, uu, q, hk, rfl, rfl⟩
        obtain ⟨p, hpi, rfl, rfl⟩ := kr_get hk
        refine x_tgt (by assumption) (by walk_at "at") (by walk_at "at") ?_
        have mo5 : Mem o2 (.ins Q dx2 (qF d2 c2)) ((q, HO.tup (List.map kV (ik p.1))) :: (D, .dT (kr m)) :: G2 (.frz od2 (.dT (kr r2)))) := .tail (.tail mo2')
        have dg : DGL d2 (.ref q) (some (.int p.2)) ((q, HO.tup (List.map kV (ik p.1))) :: (D, .dT (kr m)) :: G2 (.frz od2 (.dT (kr r2)))) := by
          have := DGL.t (a := d2) (b := q) (ik p.1) (L := (q, HO.tup (List.map kV (ik p.1))) :: (D, .dT (kr m)) :: G2 (.frz od2 (.dT (kr r2)))) (RdL.fz (.tail (.tail hh2.mm))) .head
          rw [valV_kr, QM.lkO_mem nd2 (List.mem_of_getElem? hpi)] at this
          exact this
        have dm : DGL D (.ref q) ((QM.lkO m p.1).map V.int) ((q, HO.tup (List.map kV (ik p.1))) :: (D, .dT (kr m)) :: G2 (.frz od2 (.dT (kr r2)))) := by
          have := DGL.t (a := D) (b := q) (ik p.1) (L := (q, HO.tup (List.map kV (ik p.1))) :: (D, .dT (kr m)) :: G2 (.frz od2 (.dT (kr r2)))) (.of (.tail .head)) .head
          rw [valV_kr] at this
          exact this
        have eg : ((QM.lkO m p.1).map V.int).getD (V.int 0) = V.int (QM.lk m p.1) := by
          unfold QM.lk
          cases QM.lkO m p.1 <;> rfl
        have sp := s2 p (List.mem_of_getElem? hpi)
        have sy : Sm 126 (s * (B / c2)) := (ss.mul sm2).mono (by decide)
        refine wss_cons (ws_dputT (hu1 hr) ?_)
        walk_at "go"
        refine we_dgetD (hu1 hr) ?_
        walk_at "go"
        refine ⟨D, rfl, .t (.of (.tail .head)), ?_⟩
        walk_at "go"
        refine ⟨_, dm, ?_⟩
        rw [eg]
        walk_at "go"
        refine we_dget (hu1 hr) ?_
        walk_at "go"
        refine ⟨d2, .int p.2, rfl, dg, ?_⟩
        walk_at "go"
        refine ⟨D, q, kr m, ik p.1, _, rfl, rfl, .head, .tail .head, ?_, ?_⟩
        · rw [kr_len]
          have : (kr r2).length = r2.length := kr_len r2
          exact len_lt (by omega)
        · refine wss_nil ⟨_, Sub.of_sublist (.cons _ (.refl _)), _, _, rfl, by rw [putK_kr], QM.nodup_pt mnd _ _, Nat.le_trans (QM.pt_len ..) (by omega), fun k => ?_⟩
          have e : QM.lk m p.1 + s * (B / c2) * p.2 = QM.lk m p.1 + s * p.2 * (B / c2) := by rw [Int.mul_right_comm]
          rw [e, QM.val_pt (by omega) (by omega) bd2 k, mval k, take_succ hpi, List.map_append, List.map_singleton, QM.tv_snoc, Rat.add_assoc]
      · rintro σ' L' ⟨m, v6, rfl, rfl, mnd, mle, mval⟩
        have e : r2.take (kr r2).length = r2 := List.take_of_length_le (by rw [kr_len]; exact Nat.le_refl _)
        rw [e] at mval
        rw [kr_len] at mle
        refine ⟨fun u => (D, .dT (kr m)) :: G2 u, hh2.tail, ?_⟩
        show WSs X _ _ ((D, .dT (kr m)) :: G2 (.dT (kr r2))) _
        rw [hf2.self']
        walk_at "go"
        refine ⟨D, B, m, rfl, .head, mnd, bp, lg_of bs, by omega, hT.cons _, fun o r c L' hE hT' hq hR hv => ?_⟩
        refine ret_sub (k o r c L' ((Ext.cons _ _).trans hE) hT' hq hR (fun k => ?_)) (Sub.refl _)
        rw [hv, mval, QM.tv_poly s c2 nd2 k]
end
end K15
set_option Elab.async false
set_option linter.all false
set_option maxRecDepth 100000
set_option maxHeartbeats 4000000
namespace K15
open PySem L2 N3
local macro_rules | `(tactic| walk_at "at") => `(tactic| with_reducible (repeat (first | exact At.head | apply At.tail)))
local macro_rules | `(tactic| walk_at "mem") => `(tactic| with_reducible (repeat (first | exact Mem.head | apply Mem.tail)))
local macro_rules | `(tactic| walk_at "boot") => `(tactic| with_reducible (first | exact boot_isi | exact boot_max | exact boot_min | exact boot_abs | exact boot_len | exact boot_repr | exact boot_divmod | exact boot_all | exact boot_sorted | exact boot_int | exact boot_bool | exact boot_str | exact boot_list | exact boot_tuple))
local macro_rules | `(tactic| walk_at "room") => `(tactic| (first | assumption | exact Room.mono (by assumption) (by decide)))
local macro_rules | `(tactic| walk_at "none") => `(tactic| (refine Txt.bn (by assumption) _ ?xz; (case xz => with_reducible (repeat (first | exact InS.head | apply InS.tail)))))
local macro_rules | `(tactic| walk_at "n3") => `(tactic| first
  | with_reducible refine ws_ret ?_
  | with_reducible refine we_int ?_
  | with_reducible refine we_str ?_
  | with_reducible refine we_bool ?_
  | with_reducible refine we_none ?_
  | ((with_reducible refine' x_name ?xo ?xa ?xb ?xc ?_); (case xo => assumption); (case xa => walk_at "at"); (case xb => walk_at "at"); (case xc => rfl))
  | ((with_reducible refine' f_tops ?xt ?_ ?xh); (case xt => assumption); (case xh => rfl))
  | ((with_reducible refine' f_qbot ?xt ?_ ?xh); (case xt => assumption); (case xh => rfl))
  | ((with_reducible refine' we_prop ?xg ?xr ?_ ?xh); (case xg => assumption); (case xr => walk_at "room"); (case xh => rfl))
  | with_reducible refine we_bin ?_
  | ((with_reducible refine wo_mulW ?xm ?_); (case xm => exact Sm.cm (by assumption) (by assumption)))
  | with_reducible refine wo_add ?_
  | with_reducible refine wo_sub ?_
  | with_reducible refine wo_lt ?_
  | with_reducible refine wo_gt ?_
  | with_reducible refine wo_le ?_
  | with_reducible refine wo_ge ?_
  | with_reducible refine wu_neg ?_
  | ((with_reducible refine we_cmp ?xh ?_); (case xh => exact nomark _))
  | ((with_reducible refine wt_cmp ?xh ?_); (case xh => exact nomark _))
  | ((with_reducible refine wa_cons ?_ ?xh); (case xh => rfl))
  | with_reducible refine wa_nil ?_
  | with_reducible refine we_and ?_
  | with_reducible refine we_or ?_
  | with_reducible refine we_not ?_
  | with_reducible refine wt_not ?_
  | with_reducible refine we_un ?_
  | with_reducible refine we_one ?_
  | with_reducible refine wt_ww (ww_or ?_)
  | with_reducible refine wt_ww (ww_and ?_)
  | with_reducible refine ww_or ?_
  | with_reducible refine ww_and ?_
  | with_reducible refine ww_or1 ?_
  | with_reducible refine ww_and1 ?_
  | with_reducible refine we_ifExp ?_
  | with_reducible refine ws_if ?_
  | with_reducible refine ws_pass ?_
  | with_reducible refine we_tup ?_
  | with_reducible refine we_lst ?_
  | ((with_reducible refine' x_set ?xo ?xa ?xb ?_ ?xs); (case xo => assumption); (case xa => walk_at "at"); (case xb => walk_at "at"); (case xs => rfl))
  | ((with_reducible refine' x_setF ?_ ?xs); (case xs => rfl))
  | ((with_reducible refine' x_call ?xo ?xa ?xg ?xr ?_ ?xe ?xp); (case xo => assumption); (case xa => walk_at "at"); (case xg => assumption); (case xr => walk_at "room"); (case xe => rfl); (case xp => rfl))
  | ((with_reducible refine' x_callB ?xo ?xa ?xg ?xr ?_ ?xe ?xp); (case xo => assumption); (case xr => walk_at "boot"); (case xa => walk_at "at"); (case xg => walk_at "none"); (case xe => rfl); (case xp => rfl))
  | ((with_reducible refine' x_callTy ?xo ?xa ?xg ?xr ?_ ?xe ?xp); (case xo => assumption); (case xr => walk_at "boot"); (case xa => walk_at "at"); (case xg => walk_at "none"); (case xe => rfl); (case xp => rfl))
  | ((with_reducible refine' x_callFn ?xo ?xa ?xg ?_ ?xe ?xp); (case xo => assumption); (case xg => with_reducible (first | exact Txt.mgcd (by assumption) | exact Txt.mlcm (by assumption))); (case xa => walk_at "at"); (case xe => rfl); (case xp => rfl))
  | ((with_reducible refine' x_bty ?xo ?xa ?xg ?xr ?_); (case xo => assumption); (case xr => walk_at "boot"); (case xa => walk_at "at"); (case xg => walk_at "none"))
  | ((with_reducible refine' x_cls ?xt ?xo ?xa ?_); (case xt => assumption); (case xo => assumption); (case xa => walk_at "at"))
  | ((with_reducible refine' x_clsQ ?xt ?xo ?xa ?_); (case xt => assumption); (case xo => assumption); (case xa => walk_at "at"))
  | ((with_reducible refine' x_make ?xo ?xa ?xg ?xr ?_ ?xe ?xp); (case xo => assumption); (case xa => walk_at "at"); (case xg => assumption); (case xr => walk_at "room"); (case xe => rfl); (case xp => rfl))
  | ((with_reducible refine' x_callG ?xo ?xa ?xg ?xr ?xd ?_ ?xe ?xp); (case xo => assumption); (case xa => walk_at "at"); (case xg => assumption); (case xr => walk_at "room"); (case xd => assumption); (case xe => rfl); (case xp => rfl))
  | with_reducible refine wss_nil ?_
  | refine ⟨_, _, _, _, rfl, (by assumption), ?_⟩
  | refine ⟨_, _, _, rfl, (by assumption), ?_⟩
  | refine wss_cons ?_)
local macro_rules | `(tactic| walk_at "gw") => `(tactic| repeat walk_at "n3")
local macro_rules | `(tactic| walk_at "go") => `(tactic| repeat (first | walk_at "n3" | ((with_reducible refine' wt_val ?_ ?xv); (case xv => intro _; rfl))))
section
variable {P : Program} {w : World} {K : PySem.W.Frag} {mg : Str → Option Value} {base : Heap}
/-! __add__, __sub__ -/
def pPm (TB Q : Addr) (s : Int) : Pre := fun vs L Kk => ∃ o1 o2 r1 c1 r2 c2, vs = [.ref o1, .ref o2] ∧ QAt Q o1 r1 c1 L ∧ QAt Q o2 r2 c2 L ∧ PO r1 c1 ∧ PO r2 c2 ∧ TabIn TB qN L ∧ Plus TB Q s r1 c1 r2 c2 L Kk
theorem scQAdd : FnScope ["self", "other"] ["self", "other"] (defScope sQAdd) := ⟨rfl, rfl, rfl, by decide +kernel, rfl, by decide +kernel, by decide +kernel⟩
theorem okQAdd {f TB C Q : Addr} {fd : FuncData} (F : Fun K "__add__" "Question.__add__" sQAdd f fd) (T : Txt K mg C Q) (GA : GFn P w K mg base "as_question" 1 ["value"] [] (pAsQ Q)) (GP : GMe P w K mg base Q "_plus" 8 ["self", "other", "sign"] [] (pPlus TB Q)) : FnOk P w K mg base CX0 9 f fd ["self", "other"] (SpL (pPm TB Q 1)) := by
  refine fnX (Gn := ["as_question"]) F scQAdd (by decide +kernel) (fun vs L Kk h => ?_) (fun X e1 e2 e3 e4 e5 hX hr vs L Kk h => ?_)
  · obtain ⟨o1, o2, r1, c1, r2, c2, rfl, _⟩ := h
    rfl
  · subst e1 e2 e3 e4 e5
    obtain ⟨o1, o2, r1, c1, r2, c2, rfl, h1, h2, p1, p2, hT, k⟩ := h
    have g1 := h1
    have g2 := h2
    obtain ⟨dx1, d1, mo1, md1⟩ := h1
    obtain ⟨dx2, d2, mo2, md2⟩ := h2
    refine wss_cons (ws_ret (we_meth GP (by walk_at "room") ?_))
    refine x_name (by assumption) (by walk_at "at") (by walk_at "at") rfl ⟨o1, dx1, _, rfl, mo1, qF_no _ _ (by decide +kernel) (by decide +kernel), ?_⟩
    refine wa_cons (x_call (by assumption) (by walk_at "at") GA (by walk_at "room") ?_) rfl
    refine wa_cons (x_name (by assumption) (by walk_at "at") (by walk_at "at") rfl ?_) rfl
    refine wa_nil ⟨o2, dx2, _, rfl, mo2, ?_⟩
    walk_at "go"
    exact ⟨o1, o2, 1, r1, c1, r2, c2, rfl, .inl rfl, g1, g2, p1, p2, hT, fun o r c L' e t q r v => ret_sub (k o _ c L' e t q r v) (Sub.refl _)⟩
theorem scQSub : FnScope ["self", "other"] ["self", "other"] (defScope sQSub) := ⟨rfl, rfl, rfl, by decide +kernel, rfl, by decide +kernel, by decide +kernel⟩
theorem okQSub {f TB C Q : Addr} {fd : FuncData} (F : Fun K "__sub__" "Question.__sub__" sQSub f fd) (T : Txt K mg C Q) (GA : GFn P w K mg base "as_question" 1 ["value"] [] (pAsQ Q)) (GP : GMe P w K mg base Q "_plus" 8 ["self", "other", "sign"] [] (pPlus TB Q)) : FnOk P w K mg base CX0 9 f fd ["self", "other"] (SpL (pPm TB Q (-1))) := by
  refine fnX (Gn := ["as_question"]) F scQSub (by decide +kernel) (fun vs L Kk h => ?_) (fun X e1 e2 e3 e4 e5 hX hr vs L Kk h => ?_)
  · obtain ⟨o1, o2, r1, c1, r2, c2, rfl, _⟩ := h
    rfl
  · subst e1 e2 e3 e4 e5
    obtain ⟨o1, o2, r1, c1, r2, c2, rfl, h1, h2, p1, p2, hT, k⟩ := h
    have g1 := h1
    have g2 := h2
    obtain ⟨dx1, d1, mo1, md1⟩ := h1
    obtain ⟨dx2, d2, mo2, md2⟩ := h2
    refine wss_cons (ws_ret (we_meth GP (by walk_at "room") ?_))
    refine x_name (by assumption) (by walk_at "at") (by walk_at "at") rfl ⟨o1, dx1, _, rfl, mo1, qF_no _ _ (by decide +kernel) (by decide +kernel), ?_⟩
    refine wa_cons (x_call (by assumption) (by walk_at "at") GA (by walk_at "room") ?_) rfl
    refine wa_cons (x_name (by assumption) (by walk_at "at") (by walk_at "at") rfl ?_) rfl
    refine wa_nil ⟨o2, dx2, _, rfl, mo2, ?_⟩
    walk_at "go"
    exact ⟨o1, o2, -1, r1, c1, r2, c2, rfl, .inr rfl, g1, g2, p1, p2, hT, fun o r c L' e t q r v => ret_sub (k o _ c L' e t q r v) (Sub.refl _)⟩
/-! __neg__ -/
def pQNeg (TB Q : Addr) : Pre := fun vs L Kk => ∃ o1 r1 c1, vs = [.ref o1] ∧ QAt Q o1 r1 c1 L ∧ PO r1 c1 ∧ TabIn TB qN L ∧ ∀ o r c L', Ext L L' → TabIn TB qN L' → QAt Q o r c L' → QM.Red ltP r c → (∀ k, QM.val r c k = Rat.divInt (-1 * QM.lk r1 k) c1) → Kk (.ref o) L'
theorem scQNeg : FnScope ["self", "product"] ["self"] (defScope sQNeg) := ⟨rfl, rfl, rfl, by decide +kernel, rfl, by decide +kernel, by decide +kernel⟩
theorem okQNeg {f TB C Q : Addr} {fd : FuncData} (F : Fun K "__neg__" "Question.__neg__" sQNeg f fd) (T : Txt K mg C Q) (GQ : GFn P w K mg base "question_of" 7 ["tops", "bottom"] [] (pQOf TB Q)) : FnOk P w K mg base CX0 8 f fd ["self"] (SpL (pQNeg TB Q)) := by
  refine fnXCC (Vn := ["self"]) (Ln := []) (Gn := ["question_of"]) F scQNeg (by decide +kernel) (fun vs L Kk h => ?_) (fun X e1 e2 e3 e4 e5 hX hfn hr vs L Kk h => ?_)
  · obtain ⟨o1, r1, c1, rfl, _⟩ := h
    rfl
  · subst e1 e2 e3 e4 e5
    obtain ⟨o1, r1, c1, rfl, ⟨dx1, d1, mo1, md1⟩, ⟨nd1, p1, q1, l1, s1⟩, hT, k⟩ := h
    refine wss_nd fun nd => ?_
    obtain ⟨G, hf, other⟩ := md1.hole
    have ne1 : o1 ≠ d1 := mem_ne nd mo1 md1 (by intro z; cases z)
    refine wss_cons (ws_ret (x_call (by assumption) (by walk_at "at") GQ (by walk_at "room") ?_))
    refine wa_cons (we_lock hf True.intro fun od => ?_) rfl
    have hh := hf.again' (.frz od (.dT (kr r1)))
    have mo1' := other o1 _ ne1 mo1 (.frz od (.dT (kr r1)))
    refine x_dcT [("product", 1)] hX (hu1 hr) (by decide +kernel) (wi_keysT ?_)
    walk_at "go"
    refine ⟨d1, od, kr r1, rfl, hh.mm, fun D => ⟨fun i L' => L' = (D, .dT (kr ((r1.take i).map fun p => (p.1, -1 * p.2)))) :: G (.frz od (.dT (kr r1))), rfl, ?_, ?_, ?_⟩⟩
    · rintro i L' _ rfl
      exact .tail hh.mm
    · rintro i v L' L'' hi rfl ⟨kk, uu, q, hk, rfl, rfl⟩
      intro s' H' Ca cl fp
      obtain ⟨p, hpi, rfl, rfl⟩ := kr_get hk
      have hB := hX.blk (Vb := ["product", "self"]) (Lb := ["product"]) (Gb := []) (scope := ⟨.function, [(".0", .local), ("product", .local), ("self", .free)], false, false, []⟩) (by decide +kernel)
      refine x_tgt (hB s' H' Ca cl fp) (by walk_at "at") (by walk_at "at") ⟨rfl, fun s' H' Ca cl fp => ?_⟩
      have hX1 := hB s' H' Ca cl fp
      walk_at "go"
      intro s' H' Ca cl fp
      have hX2 := hB s' H' Ca cl fp
      have mo3 : Mem o1 (.ins Q dx1 (qF d1 c1)) ((q, HO.tup (List.map kV (ik p.1))) :: (D, .dT (kr ((r1.take i).map fun p => (p.1, -1 * p.2)))) :: G (.frz od (.dT (kr r1)))) := .tail (.tail mo1')
      have dg : DGL d1 (.ref q) (some (.int p.2)) ((q, HO.tup (List.map kV (ik p.1))) :: (D, .dT (kr ((r1.take i).map fun p => (p.1, -1 * p.2)))) :: G (.frz od (.dT (kr r1)))) := by
        have := DGL.t (a := d1) (b := q) (ik p.1) (L := (q, HO.tup (List.map kV (ik p.1))) :: (D, .dT (kr ((r1.take i).map fun p => (p.1, -1 * p.2)))) :: G (.frz od (.dT (kr r1)))) (RdL.fz (.tail (.tail hh.mm))) .head
        rw [valV_kr, QM.lkO_mem nd1 (List.mem_of_getElem? hpi)] at this
        exact this
      walk_at "go"
      refine we_dget (X := X.blk s' H' _ (compEnvC _ cl Ca X.env) fp) (hu1 hr) ?_
      walk_at "go"
      refine ⟨d1, .int p.2, rfl, dg, ?_⟩
      walk_at "go"
      refine ⟨_, ik p.1, q, _, rfl, .head, .tail .head, ?_, _, Sub.of_sublist (.cons _ (.refl _)), ?_⟩
      · rw [kr_len, List.length_map, List.length_take]
        exact len_lt (by omega)
      · show _ = _
        rw [putK_kr, pt_new _ (by rw [QM.scale_keys]; exact nk_take nd1 hpi), take_succ hpi, List.map_append, show -p.2 = -1 * p.2 by omega]
        rfl
    · rintro L' rfl
      have e : r1.take (kr r1).length = r1 := List.take_of_length_le (by rw [kr_len]; exact Nat.le_refl _)
      rw [e]
      refine ⟨fun u => (D, .dT (kr (r1.map fun p => (p.1, -1 * p.2)))) :: G u, hh.tail, ?_⟩
      show WA X _ _ ((D, .dT (kr (r1.map fun p => (p.1, -1 * p.2)))) :: G (.dT (kr r1))) _
      rw [hf.self']
      have mo4 : Mem o1 (.ins Q dx1 (qF d1 c1)) ((D, .dT (kr (r1.map fun p => (p.1, -1 * p.2)))) :: L) := .tail mo1
      walk_at "go"
      refine ⟨D, c1, _, rfl, .head, by rw [QM.scale_keys]; exact nd1, p1, lg_of (n := 62) (show c1.natAbs < 2 ^ 62 by omega), by rw [List.length_map]; omega, hT.cons _, fun o r c L' hE hT' hq hR hv => ?_⟩
      refine ret_sub (k o r c L' ((Ext.cons _ _).trans hE) hT' hq hR (fun k => ?_)) (Sub.refl _)
      rw [hv]
      unfold QM.val
      rw [QM.lk_scale]
end
/-! ### the text of a sum of products -/
def wds (c : Int) : Bool → PM → List Str
  | _, [] => []
  | f, p :: l => stx (decide (p.2 < 0)) f :: ttx (nT p.2.natAbs c) (nB p.2.natAbs c) p.1 :: wds c false l
theorem wds_len (c : Int) : ∀ (l : PM) (f : Bool), (wds c f l).length = 2 * l.length
  | [], _ => rfl
  | p :: l, f => by
    show (wds c false l).length + 1 + 1 = _
    rw [wds_len c l, List.length_cons]
    omega
theorem wds_snoc (c : Int) (p : List Str × Int) : ∀ (l : PM) (f : Bool), wds c f (l ++ [p]) = wds c f l ++ [stx (decide (p.2 < 0)) (f && l.isEmpty), ttx (nT p.2.natAbs c) (nB p.2.natAbs c) p.1]
  | [], f => by simp [wds]
  | q :: l, f => by
    show _ :: _ :: wds c false (l ++ [p]) = _
    rw [wds_snoc c p l false]
    simp [wds]
def qtx (r : PM) (c : Int) : Str := if r = [] then "0" else PySem.Txt.join "" (wds c true r.reverse)
theorem stx_len (b f : Bool) : (stx b f).length ≤ 3 := by cases b <;> cases f <;> decide
theorem glued_len (sep : Str) : ∀ (xs : List Str) (a : Array Nat), ((xs.foldl (fun acc p => acc ++ sep.cps ++ p.cps) a).size) = a.size + (xs.map (·.length)).sum + xs.length * sep.length
  | [], a => by simp
  | x :: xs, a => by
    rw [List.foldl_cons, glued_len sep xs, List.map_cons, List.sum_cons, List.length_cons, Nat.succ_mul]
    simp only [Array.size_append, PySem.Str.length]
    omega
theorem join_len (sep : Str) (xs : List Str) : (PySem.Txt.join sep xs).length ≤ (xs.map (·.length)).sum + xs.length * sep.length := by
  cases xs with
  | nil => exact Nat.zero_le _
  | cons x xs =>
    show ((xs.foldl (fun acc p => acc ++ sep.cps ++ p.cps) x.cps).size) ≤ _
    rw [glued_len, List.map_cons, List.sum_cons, List.length_cons, Nat.succ_mul]
    simp only [PySem.Str.length]
    omega
theorem ttx_len {n d : Int} {p : List Str} (hn : n.natAbs.log2 < 1920) (hd : d.natAbs.log2 < 1920) (hp : NmOk p) : (ttx n d p).length ≤ 12000 := by
  have s1 := sum_len (p := p) (m := 8) fun x hx => (hp.2 x hx).le
  have s2 := rstr_len hn hd
  have l1 : ("*" : Str).length = 1 := by decide +kernel
  have hl := hp.1
  unfold ttx
  split
  · refine Nat.le_trans (join_len _ _) ?_
    rw [l1]
    omega
  · refine Nat.le_trans (join_len _ _) ?_
    rw [l1, List.map_cons, List.sum_cons, List.length_cons]
    omega
end K15
set_option Elab.async false
set_option linter.all false
set_option maxRecDepth 100000
set_option maxHeartbeats 4000000
namespace K15
open PySem L2 N3
local macro_rules | `(tactic| walk_at "at") => `(tactic| with_reducible (repeat (first | exact At.head | apply At.tail)))
local macro_rules | `(tactic| walk_at "mem") => `(tactic| with_reducible (repeat (first | exact Mem.head | apply Mem.tail)))
local macro_rules | `(tactic| walk_at "boot") => `(tactic| with_reducible (first | exact boot_isi | exact boot_max | exact boot_min | exact boot_abs | exact boot_len | exact boot_repr | exact boot_divmod | exact boot_all | exact boot_sorted | exact boot_int | exact boot_bool | exact boot_str | exact boot_list | exact boot_tuple))
local macro_rules | `(tactic| walk_at "room") => `(tactic| (first | assumption | exact Room.mono (by assumption) (by decide)))
local macro_rules | `(tactic| walk_at "none") => `(tactic| (refine Txt.bn (by assumption) _ ?xz; (case xz => with_reducible (repeat (first | exact InS.head | apply InS.tail)))))
local macro_rules | `(tactic| walk_at "n3") => `(tactic| first
  | with_reducible refine ws_ret ?_
  | with_reducible refine we_int ?_
  | with_reducible refine we_str ?_
  | with_reducible refine we_bool ?_
  | with_reducible refine we_none ?_
  | ((with_reducible refine' x_name ?xo ?xa ?xb ?xc ?_); (case xo => assumption); (case xa => walk_at "at"); (case xb => walk_at "at"); (case xc => rfl))
  | ((with_reducible refine' f_tops ?xt ?_ ?xh); (case xt => assumption); (case xh => rfl))
  | ((with_reducible refine' f_qbot ?xt ?_ ?xh); (case xt => assumption); (case xh => rfl))
  | ((with_reducible refine' we_prop ?xg ?xr ?_ ?xh); (case xg => assumption); (case xr => walk_at "room"); (case xh => rfl))
  | with_reducible refine we_bin ?_
  | ((with_reducible refine wo_mulW ?xm ?_); (case xm => exact Sm.cm (by assumption) (by assumption)))
  | with_reducible refine wo_add ?_
  | with_reducible refine wo_sub ?_
  | with_reducible refine wo_lt ?_
  | with_reducible refine wo_gt ?_
  | with_reducible refine wo_le ?_
  | with_reducible refine wo_ge ?_
  | with_reducible refine wu_neg ?_
  | ((with_reducible refine we_cmp ?xh ?_); (case xh => exact nomark _))
  | ((with_reducible refine wt_cmp ?xh ?_); (case xh => exact nomark _))
  | ((with_reducible refine wa_cons ?_ ?xh); (case xh => rfl))
  | with_reducible refine wa_nil ?_
  | with_reducible refine we_and ?_
  | with_reducible refine we_or ?_
  | with_reducible refine we_not ?_
  | with_reducible refine wt_not ?_
  | with_reducible refine we_un ?_
  | with_reducible refine we_one ?_
  | with_reducible refine wt_ww (ww_or ?_)
  | with_reducible refine wt_ww (ww_and ?_)
  | with_reducible refine ww_or ?_
  | with_reducible refine ww_and ?_
  | with_reducible refine ww_or1 ?_
  | with_reducible refine ww_and1 ?_
  | with_reducible refine we_ifExp ?_
  | with_reducible refine ws_if ?_
  | with_reducible refine ws_pass ?_
  | with_reducible refine we_tup ?_
  | with_reducible refine we_lst ?_
  | ((with_reducible refine' x_set ?xo ?xa ?xb ?_ ?xs); (case xo => assumption); (case xa => walk_at "at"); (case xb => walk_at "at"); (case xs => rfl))
  | ((with_reducible refine' x_setF ?_ ?xs); (case xs => rfl))
  | ((with_reducible refine' x_call ?xo ?xa ?xg ?xr ?_ ?xe ?xp); (case xo => assumption); (case xa => walk_at "at"); (case xg => assumption); (case xr => walk_at "room"); (case xe => rfl); (case xp => rfl))
  | ((with_reducible refine' x_callB ?xo ?xa ?xg ?xr ?_ ?xe ?xp); (case xo => assumption); (case xr => walk_at "boot"); (case xa => walk_at "at"); (case xg => walk_at "none"); (case xe => rfl); (case xp => rfl))
  | ((with_reducible refine' x_callTy ?xo ?xa ?xg ?xr ?_ ?xe ?xp); (case xo => assumption); (case xr => walk_at "boot"); (case xa => walk_at "at"); (case xg => walk_at "none"); (case xe => rfl); (case xp => rfl))
  | ((with_reducible refine' x_callFn ?xo ?xa ?xg ?_ ?xe ?xp); (case xo => assumption); (case xg => with_reducible (first | exact Txt.mgcd (by assumption) | exact Txt.mlcm (by assumption))); (case xa => walk_at "at"); (case xe => rfl); (case xp => rfl))
  | ((with_reducible refine' x_bty ?xo ?xa ?xg ?xr ?_); (case xo => assumption); (case xr => walk_at "boot"); (case xa => walk_at "at"); (case xg => walk_at "none"))
  | ((with_reducible refine' x_cls ?xt ?xo ?xa ?_); (case xt => assumption); (case xo => assumption); (case xa => walk_at "at"))
  | ((with_reducible refine' x_clsQ ?xt ?xo ?xa ?_); (case xt => assumption); (case xo => assumption); (case xa => walk_at "at"))
  | ((with_reducible refine' x_make ?xo ?xa ?xg ?xr ?_ ?xe ?xp); (case xo => assumption); (case xa => walk_at "at"); (case xg => assumption); (case xr => walk_at "room"); (case xe => rfl); (case xp => rfl))
  | ((with_reducible refine' x_callG ?xo ?xa ?xg ?xr ?xd ?_ ?xe ?xp); (case xo => assumption); (case xa => walk_at "at"); (case xg => assumption); (case xr => walk_at "room"); (case xd => assumption); (case xe => rfl); (case xp => rfl))
  | with_reducible refine wss_nil ?_
  | refine ⟨_, _, _, _, rfl, (by assumption), ?_⟩
  | refine ⟨_, _, _, rfl, (by assumption), ?_⟩
  | refine wss_cons ?_)
local macro_rules | `(tactic| walk_at "gw") => `(tactic| repeat walk_at "n3")
local macro_rules | `(tactic| walk_at "go") => `(tactic| repeat (first | walk_at "n3" | ((with_reducible refine' wt_val ?_ ?xv); (case xv => intro _; rfl))))
section
variable {P : Program} {w : World} {K : PySem.W.Frag} {mg : Str → Option Value} {base : Heap}
theorem abs_eq (x : Int) : (if x < 0 then -x else x) = (x.natAbs : Int) := by
  split <;> omega
theorem nT_mul (t b : Int) (hb : b ≠ 0) : nT t b * sg t b = t := by
  unfold nT
  have h1 : ((Nat.gcd t.natAbs b.natAbs : Nat) : Int) ∣ t := Int.natAbs_dvd_natAbs.mp (by rw [Int.natAbs_natCast]; exact Nat.gcd_dvd_left ..)
  have h2 : sg t b ∣ t := by
    unfold sg
    split
    · exact (Int.neg_dvd).mpr h1
    · exact h1
  rw [Int.fdiv_eq_ediv_of_dvd h2]
  exact Int.ediv_mul_cancel h2
theorem nB_mul (t b : Int) (hb : b ≠ 0) : nB t b * sg t b = b := by
  unfold nB
  have h1 : ((Nat.gcd t.natAbs b.natAbs : Nat) : Int) ∣ b := Int.natAbs_dvd_natAbs.mp (by rw [Int.natAbs_natCast]; exact Nat.gcd_dvd_right ..)
  have h2 : sg t b ∣ b := by
    unfold sg
    split
    · exact (Int.neg_dvd).mpr h1
    · exact h1
  rw [Int.fdiv_eq_ediv_of_dvd h2]
  exact Int.ediv_mul_cancel h2
theorem Sm.nT' {n : Nat} {t b : Int} (h : Sm n t) (hb : b ≠ 0) : Sm n (nT t b) := h.of_mul (nT_mul t b hb) (sg_ne hb)
theorem Sm.nB' {n : Nat} {t b : Int} (h : Sm n b) (hb : b ≠ 0) : Sm n (nB t b) := h.of_mul (nB_mul t b hb) (sg_ne hb)
theorem Sm.lg {n : Nat} {x : Int} (a : Sm n x) (hn : 0 < n := by decide) (hk : n ≤ 1920 := by decide) : x.natAbs.log2 < 1920 := Nat.lt_of_lt_of_le (Sm.log a hn) hk
theorem Sm.abs {n : Nat} {x : Int} (a : Sm n x) : Sm n (x.natAbs : Int) := by
  unfold Sm at *
  omega
/-! __str__ -/
def pQStr (Q : Addr) : Pre := fun vs L Kk => ∃ o r c, vs = [.ref o] ∧ QAt Q o r c L ∧ PO r c ∧ (∀ p ∈ r, NmOk p.1) ∧ Kk (.str (qtx r c)) L
theorem scQStr : FnScope ["self", "words", "product", "top"] ["self"] (defScope sQStr) := ⟨rfl, rfl, rfl, by decide +kernel, rfl, by decide +kernel, by decide +kernel⟩
theorem okQStr {f C Q : Addr} {fd : FuncData} (F : Fun K "__str__" "Question.__str__" sQStr f fd) (T : Txt K mg C Q) (GM : GMk P w K mg base "Ratio" C 2 ["self", "top", "bottom"] [] (pInit C)) (GS : GFn P w K mg base "sign_text" 1 ["is_below", "is_first"] [] pSignTx) (GT : GFn P w K mg base "term_text" 4 ["number", "product"] [] (pTermTx C)) :
    FnOk P w K mg base CX0 5 f fd ["self"] (SpL (pQStr Q)) := by
  refine fnX (Gn := ["reversed", "list", "sign_text", "len", "term_text", "Ratio", "abs"]) F scQStr (by decide +kernel) (fun vs L Kk h => ?_) (fun X e1 e2 e3 e4 e5 hX hr vs L Kk h => ?_)
  · obtain ⟨o, r, c, rfl, _⟩ := h
    rfl
  · subst e1 e2 e3 e4 e5
    obtain ⟨o, r, c, rfl, ⟨dx, d, mo, md⟩, ⟨nd, p0, p1, ln, sm⟩, hnm, k⟩ := h
    walk_at "gw"
    refine wt_dT ?_
    walk_at "go"
    refine ⟨d, kr r, rfl, md, fun z => ?_, fun z => ?_⟩
    · have e : r = [] := by cases r with
        | nil => rfl
        | cons _ _ => cases z
      unfold qtx at k
      rw [if_pos e] at k
      walk_at "go"
      exact ret_sub k (Sub.refl _)
    · have e : ¬ r = [] := fun q => by rw [q] at z; cases z
      unfold qtx at k
      rw [if_neg e] at k
      have c0 : c ≠ 0 := by omega
      have sc : Sm 62 c := (show c.natAbs < 2 ^ 62 by omega)
      walk_at "go"
      refine ⟨show 0 ≤ sizeLine from len_line, fun W => ?_⟩
      have gr := hX.glo (x := "reversed") (by walk_at "at")
      refine wss_cons (ws_forW hX.calm hX.pas (wi_rev gr.1 (T.bn _ (by with_reducible (repeat (first | exact InS.head | apply InS.tail)))) ?_))
      have mo1 : Mem o (.ins Q dx (qF d c)) ((W, .lst []) :: L) := .tail mo
      walk_at "go"
      refine wc_listT hX.calm (.of (.tail md)) fun p bs hbs => ?_
      walk_at "go"
      have hbs' : bs.length = r.length := by rw [hbs, kr_len]
      refine ⟨p, bs.map V.ref, rfl, .of .head, fun i σ' L' => ∃ v2 v3, σ' = [some (.ref o), some (.ref W), v2, v3] ∧ L' = (p, .lst (bs.map V.ref)) :: (tksOf (kr r) bs ++ (W, .lst ((wds c true (r.reverse.take i)).map V.str)) :: L), ⟨none, none, rfl, rfl⟩, ?_, ?_, ?_⟩
      · rintro i σ' L' _ ⟨_, _, _, rfl⟩
        exact .of .head
      · rintro i v σ' L' L'' hi ⟨v2, v3, rfl, rfl⟩ ⟨rfl, hv⟩
        rw [List.length_map] at hi hv
        obtain ⟨b, hb, rfl⟩ := map_get hv
        have hir : i < r.length := by omega
        obtain ⟨q, hq⟩ : ∃ q, r[r.length - 1 - i]? = some q := ⟨_, List.getElem?_eq_getElem (by omega)⟩
        have hqr : r.reverse[i]? = some q := by rw [List.getElem?_reverse hir]; exact hq
        have hqm := List.mem_of_getElem? hq
        have hkq : (kr r)[r.length - 1 - i]? = some (ik q.1, V.int q.2) := map_getI hq
        rw [hbs'] at hb
        have mb0 := tks_mem (L := (W, HO.lst ((wds c true (r.reverse.take i)).map V.str)) :: L) hkq hb
        have mb : Mem b (.tup (List.map kV (ik q.1))) ((p, .lst (bs.map V.ref)) :: (tksOf (kr r) bs ++ (W, .lst ((wds c true (r.reverse.take i)).map V.str)) :: L)) := .tail mb0
        have mo2 : Mem o (.ins Q dx (qF d c)) ((p, .lst (bs.map V.ref)) :: (tksOf (kr r) bs ++ (W, .lst ((wds c true (r.reverse.take i)).map V.str)) :: L)) := .tail ((Mem.tail mo).app _)
        have md2 : Mem d (.dT (kr r)) ((p, .lst (bs.map V.ref)) :: (tksOf (kr r) bs ++ (W, .lst ((wds c true (r.reverse.take i)).map V.str)) :: L)) := .tail ((Mem.tail md).app _)
        have dg := DGL.t (a := d) (b := b) (ik q.1) (.of md2) mb
        rw [valV_kr, QM.lkO_mem nd hqm] at dg
        refine x_tgt (by assumption) (by walk_at "at") (by walk_at "at") ?_
        walk_at "go"
        refine we_dget (hu1 hr) ?_
        walk_at "go"
        refine ⟨d, .int q.2, rfl, dg, ?_⟩
        have hW : Hole W (.lst ((wds c true (r.reverse.take i)).map V.str)) ((p, .lst (bs.map V.ref)) :: (tksOf (kr r) bs ++ (W, .lst ((wds c true (r.reverse.take i)).map V.str)) :: L)) (fun u => (p, .lst (bs.map V.ref)) :: (tksOf (kr r) bs ++ (W, u) :: L)) := .tail (Hole.head.app _)
        have lw : (wds c true (r.reverse.take i)).length = 2 * i := by rw [wds_len, List.length_take, List.length_reverse]; omega
        refine wss_cons (ws_expr (we_append ?_))
        walk_at "go"
        refine ⟨W, _, rfl, .of hW.mm, ?_⟩
        walk_at "go"
        refine wc_len (.of hW.mm) ?_
        walk_at "go"
        refine wo_eq rfl ?_
        walk_at "go"
        refine ⟨_, _, rfl, ?_⟩
        refine ⟨_, _, hW, ?_, ?_⟩
        · rw [List.length_map, lw]
          exact len_lt (by omega)
        have mb3 : Mem b (.tup (q.1.map V.str)) ((p, .lst (bs.map V.ref)) :: (tksOf (kr r) bs ++ (W, .lst ((wds c true (r.reverse.take i)).map V.str ++ [V.str (stx (decide (q.2 < 0)) (decide (V.int ((((wds c true (r.reverse.take i)).map V.str).length : Nat) : Int) = V.int 0)))])) :: L)) := by
          have := tks_mem (L := (W, HO.lst ((wds c true (r.reverse.take i)).map V.str ++ [V.str (stx (decide (q.2 < 0)) (decide (V.int ((((wds c true (r.reverse.take i)).map V.str).length : Nat) : Int) = V.int 0)))])) :: L) hkq hb
          rw [ik_kV] at this
          exact .tail this
        have mo3 : Mem o (.ins Q dx (qF d c)) ((p, .lst (bs.map V.ref)) :: (tksOf (kr r) bs ++ (W, .lst ((wds c true (r.reverse.take i)).map V.str ++ [V.str (stx (decide (q.2 < 0)) (decide (V.int ((((wds c true (r.reverse.take i)).map V.str).length : Nat) : Int) = V.int 0)))])) :: L)) := .tail ((Mem.tail mo).app _)
        have hW3 := hW.again' (.lst ((wds c true (r.reverse.take i)).map V.str ++ [V.str (stx (decide (q.2 < 0)) (decide (V.int ((((wds c true (r.reverse.take i)).map V.str).length : Nat) : Int) = V.int 0)))]))
        refine wss_cons (ws_expr (we_append ?_))
        walk_at "go"
        refine ⟨W, _, rfl, .of hW3.mm, ?_⟩
        walk_at "go"
        refine wc_abs ?_
        rw [abs_eq]
        walk_at "go"
        intro a da
        refine ⟨_, _, _, _, _, rfl, rfl, c0, lg_of sc, rfl, ?_⟩
        walk_at "go"
        have s1 := ((sm q hqm).abs.nT' (b := c) c0).lg
        have s2 := (sc.nB' (t := (q.2.natAbs : Int)) c0).lg
        refine ⟨a, da, _, _, b, q.1, rfl, .head, .tail mb3, s1, s2, hnm q hqm, ?_⟩
        refine ⟨_, _, hW3.tail, ?_, ?_⟩
        · rw [List.length_append, List.length_map, lw]
          exact len_lt (by simp; omega)
        refine wss_nil ⟨_, Sub.of_sublist (.cons _ (.refl _)), _, _, rfl, ?_⟩
        rw [take_succ hqr, wds_snoc, List.map_append]
        have ef : decide (V.int ((((wds c true (r.reverse.take i)).map V.str).length : Nat) : Int) = V.int 0) = (true && (r.reverse.take i).isEmpty) := by
          rw [List.length_map, lw, Bool.true_and]
          by_cases h0 : i = 0
          · subst h0
            exact decide_eq_true rfl
          · rw [decide_eq_false (fun z => by have := V.int.inj z; omega)]
            cases hx : r.reverse.take i with
            | nil =>
              have := congrArg List.length hx
              rw [List.length_take, List.length_reverse] at this
              have this : min i r.length = 0 := this
              omega
            | cons _ _ => rfl
        rw [ef]
        simp
      · rintro σ' L' ⟨v2, v3, rfl, rfl⟩
        have e2 : r.reverse.take (bs.map V.ref).length = r.reverse := List.take_of_length_le (by rw [List.length_map, hbs', List.length_reverse]; exact Nat.le_refl _)
        rw [e2]
        walk_at "go"
        refine we_join ?_
        walk_at "go"
        refine ⟨_, rfl, ?_⟩
        walk_at "go"
        refine ⟨W, wds c true r.reverse, rfl, .of (.tail ((Mem.head).app _)), ?_, ?_⟩
        · have bd : ∀ (l : PM) (f : Bool), (∀ p ∈ l, p ∈ r) → ((wds c f l).map (·.length)).sum ≤ 12003 * l.length := by
            intro l
            induction l with
            | nil => intro f _; exact Nat.zero_le _
            | cons q l ih =>
              intro f hl
              have h1 := ih false fun x hx => hl x (List.mem_cons_of_mem _ hx)
              have hq := hl q List.mem_cons_self
              have h2 := ttx_len ((sm q hq).abs.nT' (b := c) c0).lg (sc.nB' (t := (q.2.natAbs : Int)) c0).lg (hnm q hq)
              have h3 := stx_len (decide (q.2 < 0)) f
              show (((stx (decide (q.2 < 0)) f :: ttx (nT q.2.natAbs c) (nB q.2.natAbs c) q.1 :: wds c false l)).map (·.length)).sum ≤ _
              rw [List.map_cons, List.map_cons, List.sum_cons, List.sum_cons, List.length_cons]
              omega
          have h1 := bd r.reverse true fun p hp => List.mem_reverse.mp hp
          rw [List.length_reverse] at h1
          rw [show ("" : Str).length = 0 by decide +kernel, Nat.mul_zero]
          omega
        · exact ret_sub k (Sub.of_sublist (.cons _ (.trans (.cons _ (.refl _)) (List.sublist_append_right _ _))))
end
end K15
set_option Elab.async false
set_option linter.all false
set_option maxRecDepth 100000
set_option maxHeartbeats 4000000
namespace K15
open PySem L2 N3
local macro_rules | `(tactic| walk_at "at") => `(tactic| with_reducible (repeat (first | exact At.head | apply At.tail)))
local macro_rules | `(tactic| walk_at "mem") => `(tactic| with_reducible (repeat (first | exact Mem.head | apply Mem.tail)))
local macro_rules | `(tactic| walk_at "boot") => `(tactic| with_reducible (first | exact boot_isi | exact boot_max | exact boot_min | exact boot_abs | exact boot_len | exact boot_repr | exact boot_divmod | exact boot_all | exact boot_sorted | exact boot_int | exact boot_bool | exact boot_str | exact boot_list | exact boot_tuple))
local macro_rules | `(tactic| walk_at "room") => `(tactic| (first | assumption | exact Room.mono (by assumption) (by decide)))
local macro_rules | `(tactic| walk_at "none") => `(tactic| (refine Txt.bn (by assumption) _ ?xz; (case xz => with_reducible (repeat (first | exact InS.head | apply InS.tail)))))
local macro_rules | `(tactic| walk_at "n3") => `(tactic| first
  | with_reducible refine ws_ret ?_
  | with_reducible refine we_int ?_
  | with_reducible refine we_str ?_
  | with_reducible refine we_bool ?_
  | with_reducible refine we_none ?_
  | ((with_reducible refine' x_name ?xo ?xa ?xb ?xc ?_); (case xo => assumption); (case xa => walk_at "at"); (case xb => walk_at "at"); (case xc => rfl))
  | ((with_reducible refine' f_tops ?xt ?_ ?xh); (case xt => assumption); (case xh => rfl))
  | ((with_reducible refine' f_qbot ?xt ?_ ?xh); (case xt => assumption); (case xh => rfl))
  | ((with_reducible refine' we_prop ?xg ?xr ?_ ?xh); (case xg => assumption); (case xr => walk_at "room"); (case xh => rfl))
  | with_reducible refine we_bin ?_
  | ((with_reducible refine wo_mulW ?xm ?_); (case xm => exact Sm.cm (by assumption) (by assumption)))
  | with_reducible refine wo_add ?_
  | with_reducible refine wo_sub ?_
  | with_reducible refine wo_lt ?_
  | with_reducible refine wo_gt ?_
  | with_reducible refine wo_le ?_
  | with_reducible refine wo_ge ?_
  | with_reducible refine wu_neg ?_
  | ((with_reducible refine we_cmp ?xh ?_); (case xh => exact nomark _))
  | ((with_reducible refine wt_cmp ?xh ?_); (case xh => exact nomark _))
  | ((with_reducible refine wa_cons ?_ ?xh); (case xh => rfl))
  | with_reducible refine wa_nil ?_
  | with_reducible refine we_and ?_
  | with_reducible refine we_or ?_
  | with_reducible refine we_not ?_
  | with_reducible refine wt_not ?_
  | with_reducible refine we_un ?_
  | with_reducible refine we_one ?_
  | with_reducible refine wt_ww (ww_or ?_)
  | with_reducible refine wt_ww (ww_and ?_)
  | with_reducible refine ww_or ?_
  | with_reducible refine ww_and ?_
  | with_reducible refine ww_or1 ?_
  | with_reducible refine ww_and1 ?_
  | with_reducible refine we_ifExp ?_
  | with_reducible refine ws_if ?_
  | with_reducible refine ws_pass ?_
  | with_reducible refine we_tup ?_
  | with_reducible refine we_lst ?_
  | ((with_reducible refine' x_set ?xo ?xa ?xb ?_ ?xs); (case xo => assumption); (case xa => walk_at "at"); (case xb => walk_at "at"); (case xs => rfl))
  | ((with_reducible refine' x_setF ?_ ?xs); (case xs => rfl))
  | ((with_reducible refine' x_call ?xo ?xa ?xg ?xr ?_ ?xe ?xp); (case xo => assumption); (case xa => walk_at "at"); (case xg => assumption); (case xr => walk_at "room"); (case xe => rfl); (case xp => rfl))
  | ((with_reducible refine' x_callB ?xo ?xa ?xg ?xr ?_ ?xe ?xp); (case xo => assumption); (case xr => walk_at "boot"); (case xa => walk_at "at"); (case xg => walk_at "none"); (case xe => rfl); (case xp => rfl))
  | ((with_reducible refine' x_callTy ?xo ?xa ?xg ?xr ?_ ?xe ?xp); (case xo => assumption); (case xr => walk_at "boot"); (case xa => walk_at "at"); (case xg => walk_at "none"); (case xe => rfl); (case xp => rfl))
  | ((with_reducible refine' x_callFn ?xo ?xa ?xg ?_ ?xe ?xp); (case xo => assumption); (case xg => with_reducible (first | exact Txt.mgcd (by assumption) | exact Txt.mlcm (by assumption))); (case xa => walk_at "at"); (case xe => rfl); (case xp => rfl))
  | ((with_reducible refine' x_bty ?xo ?xa ?xg ?xr ?_); (case xo => assumption); (case xr => walk_at "boot"); (case xa => walk_at "at"); (case xg => walk_at "none"))
  | ((with_reducible refine' x_cls ?xt ?xo ?xa ?_); (case xt => assumption); (case xo => assumption); (case xa => walk_at "at"))
  | ((with_reducible refine' x_clsQ ?xt ?xo ?xa ?_); (case xt => assumption); (case xo => assumption); (case xa => walk_at "at"))
  | ((with_reducible refine' x_make ?xo ?xa ?xg ?xr ?_ ?xe ?xp); (case xo => assumption); (case xa => walk_at "at"); (case xg => assumption); (case xr => walk_at "room"); (case xe => rfl); (case xp => rfl))
  | ((with_reducible refine' x_callG ?xo ?xa ?xg ?xr ?xd ?_ ?xe ?xp); (case xo => assumption); (case xa => walk_at "at"); (case xg => assumption); (case xr => walk_at "room"); (case xd => assumption); (case xe => rfl); (case xp => rfl))
  | with_reducible refine wss_nil ?_
  | refine ⟨_, _, _, _, rfl, (by assumption), ?_⟩
  | refine ⟨_, _, _, rfl, (by assumption), ?_⟩
  | refine wss_cons ?_)
local macro_rules | `(tactic| walk_at "gw") => `(tactic| repeat walk_at "n3")
local macro_rules | `(tactic| walk_at "go") => `(tactic| repeat (first | walk_at "n3" | ((with_reducible refine' wt_val ?_ ?xv); (case xv => intro _; rfl))))
/-- every sign of a text is in range -/
def Wd (x : Str) : Prop := ∀ c ∈ x.cps.toList, c < 16 ^ 8
theorem nm_wd {x : Str} (h : Nm x) : Wd x := by
  have all : ∀ c ∈ CHARS.cps.toList, c < 16 ^ 8 := by decide +kernel
  unfold Nm isNm at h
  simp only [Bool.and_eq_true, decide_eq_true_eq, List.all_eq_true] at h
  exact fun c hc => all c (h.2 c hc)
theorem shown_nm {x : Str} (h : Nm x) : (PyData.str x).shown.length ≤ 82 := by
  rw [PyData.shown_str]
  have := PySem.StrLaws.reprText_len x (nm_wd h)
  have := h.le
  omega
theorem shownAll_nm : ∀ {p : List Str}, (∀ x ∈ p, Nm x) → ∀ t ∈ PyData.shownAll (p.map .str), t.length ≤ 82
  | [], _, t, ht => by
    rw [List.map_nil, PyData.shownAll] at ht
    exact (List.not_mem_nil ht).elim
  | x :: p, h, t, ht => by
    rw [List.map_cons, PyData.shownAll] at ht
    rcases List.mem_cons.mp ht with e | ht
    · rw [e]; exact shown_nm (h x List.mem_cons_self)
    · exact shownAll_nm (fun y hy => h y (List.mem_cons_of_mem _ hy)) t ht
theorem tupleText_len (ts : List Str) {m : Nat} (h : ∀ t ∈ ts, t.length ≤ m) : (tupleText ts).length ≤ (m + 2) * ts.length + 3 := by
  have h1 := sum_len h
  have e : (m + 2) * ts.length = m * ts.length + 2 * ts.length := Nat.add_mul ..
  have hp : piled ts = (ts.map (·.length)).sum + 2 * ts.length := by
    clear h h1 e
    induction ts with
    | nil => rfl
    | cons t ts ih =>
      rw [piled_cons, ih, List.map_cons, List.sum_cons, List.length_cons]
      omega
  unfold tupleText
  rw [strLen_append, strLen_append]
  have e1 : ((("(" : String) : Str)).length = 1 := rfl
  have e3 : (((if ts.length == 1 then ",)" else ")" : String) : Str)).length ≤ 2 := by split <;> decide
  by_cases h0 : ts = []
  · subst h0
    rw [e1]
    have : (Str.join ", " []).length = 0 := rfl
    omega
  · have h2 := join_length_add ts h0
    omega
theorem tpD_len {p : List Str} (h : NmOk p) : (tpD p).shown.length ≤ 5100 := by
  have e : (tpD p).shown = tupleText (PyData.shownAll (p.map .str)) := by simp only [tpD, PyData.shown]
  rw [e]
  have h1 := tupleText_len _ (shownAll_nm h.2)
  rw [PyData.shownAll_length, List.length_map] at h1
  have := h.1
  omega
/-- a term as repr shows it -/
def shT (n d : Int) (p : List Str) : Str := tupleText [rrep n d, (tpD p).shown]
theorem shT_len {n d : Int} {p : List Str} (hn : n.natAbs.log2 < 1920) (hd : d.natAbs.log2 < 1920) (hp : NmOk p) : (shT n d p).length ≤ 15200 := by
  have h1 := rrep_len hn hd
  have h2 := tpD_len hp
  have e : piled [rrep n d, (tpD p).shown] = (rrep n d).length + 2 + ((tpD p).shown.length + 2 + 0) := by rw [piled_cons, piled_cons]; rfl
  have h3 := join_length_add [rrep n d, (tpD p).shown] (by simp)
  unfold shT tupleText
  rw [strLen_append, strLen_append]
  have e1 : ((("(" : String) : Str)).length = 1 := rfl
  have e3 : (((if [rrep n d, (tpD p).shown].length == 1 then ",)" else ")" : String) : Str)).length ≤ 2 := by split <;> decide
  omega
def shs (r : PM) (c : Int) : List Str := r.map fun p => shT (nT p.2 c) (nB p.2 c) p.1
def qrp (r : PM) (c : Int) : Str := ("Question(" : Str) ++ listText (shs r c) ++ ")"
theorem shs_len {r : PM} {c : Int} (h : PO r c) (hn : ∀ p ∈ r, NmOk p.1) : (listText (shs r c)).length ≤ 7000000 := by
  have h1 := PySem.listText_len_le (shs r c)
  have c0 : c ≠ 0 := by have := h.p0; omega
  have sc : Sm 62 c := (show c.natAbs < 2 ^ 62 by have := h.p0; have := h.p1; omega)
  have h2 : ((shs r c).map (·.length)).sum ≤ 15200 * (shs r c).length := sum_len fun x hx => by
    obtain ⟨p, hp, e⟩ := List.mem_map.mp hx
    rw [← e]
    exact shT_len ((h.sm p hp).nT' (b := c) c0).lg (sc.nB' (t := p.2) c0).lg (hn p hp)
  have h3 : (shs r c).length = r.length := List.length_map ..
  have := h.ln
  omega
section
variable {P : Program} {w : World} {K : PySem.W.Frag} {mg : Str → Option Value} {base : Heap}
/-! __repr__ -/
def pQRepr (Q : Addr) : Pre := fun vs L Kk => ∃ o r c, vs = [.ref o] ∧ QAt Q o r c L ∧ PO r c ∧ (∀ p ∈ r, NmOk p.1) ∧ Kk (.str (qrp r c)) L
theorem scQRepr : FnScope ["self"] ["self"] (defScope sQRepr) := ⟨rfl, rfl, rfl, by decide +kernel, rfl, by decide +kernel, by decide +kernel⟩
theorem prs_get {C : Addr} {L : LH} {xs : List V} {r : PM} {c : Int} {i : Nat} {x : V} (h : PrsAt C L xs r c) (hx : xs[i]? = some x) : ∃ p t a dx q, r[i]? = some p ∧ x = V.ref t ∧ Mem t (.tup [.ref a, .ref q]) L ∧ Mem a (.ins C dx (ratF (nT p.2 c) (nB p.2 c))) L ∧ Mem q (.tup (p.1.map V.str)) L := by
  obtain ⟨p, hp, t, a, dx, q, e, m⟩ := paired_get h hx
  exact ⟨p, t, a, dx, q, hp, e, m⟩
theorem okQRepr {f C Q : Addr} {fd : FuncData} (F : Fun K "__repr__" "Question.__repr__" sQRepr f fd) (T : Txt K mg C Q) (GT : GMe P w K mg base Q "terms" 4 ["self"] [] (pTerms C Q)) (GR : GOp P w K mg base C "__repr__" 1 ["self"] (pRepr C)) :
    FnG P w K mg base 6 f fd ["self"] (pQRepr Q) := by
  refine fnXG (Gn := []) F scQRepr (by decide +kernel) (fun vs L Kk h => ?_) (fun X e1 e2 e3 e4 e5 hX hr hgd vs L Kk h => ?_)
  · obtain ⟨o, r, c, rfl, _⟩ := h
    rfl
  · subst e1 e2 e3 e4 e5
    obtain ⟨o, r, c, rfl, hq, po, hnm, k⟩ := h
    obtain ⟨dx, d, mo, md⟩ := hq
    have hl := shs_len po hnm
    have sl : (7100000 : Nat) ≤ sizeLine := by rw [sizeLine_eq]; decide
    have l9 : ("Question(" : Str).length = 9 := by decide +kernel
    have l1 : (")" : Str).length = 1 := by decide +kernel
    have c0 : c ≠ 0 := by have := po.p0; omega
    have sc : Sm 62 c := (show c.natAbs < 2 ^ 62 by have := po.p0; have := po.p1; omega)
    refine wss_cons (ws_ret ?_)
    refine we_joined (.cons "Question(" L (we_str ⟨rfl, rfl⟩) ?_ (.cons (listText (shs r c)) L (we_weak ?_) ?_ (.cons ")" L (we_str ⟨rfl, rfl⟩) ?_ (.nil ?_))))
    · rw [empty_app]
      omega
    · refine we_fmtRPairs GR hr hgd (we_meth0 GT (by walk_at "room") ?_)
      refine x_name (by assumption) (by walk_at "at") (by walk_at "at") rfl ⟨o, dx, _, rfl, mo, qF_no _ _ (by decide +kernel) (by decide +kernel), ?_⟩
      refine ⟨o, r, c, rfl, ⟨dx, d, mo, md⟩, po.nd, po.p0, lg_of sc, by have := po.ln; omega, fun l xs J hp => ?_⟩
      refine ⟨l, xs, shs r c, rfl, (Mem.head).app J, ⟨by rw [Paired.length hp]; exact (List.length_map ..).symm, fun i x hx => ?_⟩, by omega, rfl, Sub.of_sublist (.trans (.cons _ (.refl _)) (List.sublist_append_right _ _))⟩
      obtain ⟨p, t, a, da, q, hpi, rfl, m1, m2, m3⟩ := prs_get hp hx
      have hpm := List.mem_of_getElem? hpi
      refine ⟨t, a, q, da, _, rrep (nT p.2 c) (nB p.2 c), p.1, rfl, m1, m2, m3, map_getI (f := fun p : List Str × Int => shT (nT p.2 c) (nB p.2 c) p.1) hpi, fun z => ?_⟩
      exact ⟨a, da, _, _, rfl, .tail m2, ((po.sm p hpm).nT' (b := c) c0).lg, (sc.nB' (t := p.2) c0).lg, rfl, rfl⟩
    · rw [empty_app, len_app]
      omega
    · rw [empty_app, len_app, len_app]
      omega
    · rw [empty_app]
      exact ret_sub k (Sub.refl _)
end
end K15
set_option Elab.async false
set_option linter.all false
set_option maxRecDepth 100000
set_option maxHeartbeats 4000000
namespace K15
open PySem L2 N3
local macro_rules | `(tactic| walk_at "at") => `(tactic| with_reducible (repeat (first | exact At.head | apply At.tail)))
local macro_rules | `(tactic| walk_at "mem") => `(tactic| with_reducible (repeat (first | exact Mem.head | apply Mem.tail)))
local macro_rules | `(tactic| walk_at "boot") => `(tactic| with_reducible (first | exact boot_isi | exact boot_max | exact boot_min | exact boot_abs | exact boot_len | exact boot_repr | exact boot_divmod | exact boot_all | exact boot_sorted | exact boot_int | exact boot_bool | exact boot_str | exact boot_list | exact boot_tuple))
local macro_rules | `(tactic| walk_at "room") => `(tactic| (first | assumption | exact Room.mono (by assumption) (by decide)))
local macro_rules | `(tactic| walk_at "none") => `(tactic| (refine Txt.bn (by assumption) _ ?xz; (case xz => with_reducible (repeat (first | exact InS.head | apply InS.tail)))))
local macro_rules | `(tactic| walk_at "n3") => `(tactic| first
  | with_reducible refine ws_ret ?_
  | with_reducible refine we_int ?_
  | with_reducible refine we_str ?_
  | with_reducible refine we_bool ?_
  | with_reducible refine we_none ?_
  | ((with_reducible refine' x_name ?xo ?xa ?xb ?xc ?_); (case xo => assumption); (case xa => walk_at "at"); (case xb => walk_at "at"); (case xc => rfl))
  | ((with_reducible refine' f_tops ?xt ?_ ?xh); (case xt => assumption); (case xh => rfl))
  | ((with_reducible refine' f_qbot ?xt ?_ ?xh); (case xt => assumption); (case xh => rfl))
  | ((with_reducible refine' we_prop ?xg ?xr ?_ ?xh); (case xg => assumption); (case xr => walk_at "room"); (case xh => rfl))
  | with_reducible refine we_bin ?_
  | ((with_reducible refine wo_mulW ?xm ?_); (case xm => exact Sm.cm (by assumption) (by assumption)))
  | with_reducible refine wo_add ?_
  | with_reducible refine wo_sub ?_
  | with_reducible refine wo_lt ?_
  | with_reducible refine wo_gt ?_
  | with_reducible refine wo_le ?_
  | with_reducible refine wo_ge ?_
  | with_reducible refine wu_neg ?_
  | ((with_reducible refine we_cmp ?xh ?_); (case xh => exact nomark _))
  | ((with_reducible refine wt_cmp ?xh ?_); (case xh => exact nomark _))
  | ((with_reducible refine wa_cons ?_ ?xh); (case xh => rfl))
  | with_reducible refine wa_nil ?_
  | with_reducible refine we_and ?_
  | with_reducible refine we_or ?_
  | with_reducible refine we_not ?_
  | with_reducible refine wt_not ?_
  | with_reducible refine we_un ?_
  | with_reducible refine we_one ?_
  | with_reducible refine wt_ww (ww_or ?_)
  | with_reducible refine wt_ww (ww_and ?_)
  | with_reducible refine ww_or ?_
  | with_reducible refine ww_and ?_
  | with_reducible refine ww_or1 ?_
  | with_reducible refine ww_and1 ?_
  | with_reducible refine we_ifExp ?_
  | with_reducible refine ws_if ?_
  | with_reducible refine ws_pass ?_
  | with_reducible refine we_tup ?_
  | with_reducible refine we_lst ?_
  | ((with_reducible refine' x_set ?xo ?xa ?xb ?_ ?xs); (case xo => assumption); (case xa => walk_at "at"); (case xb => walk_at "at"); (case xs => rfl))
  | ((with_reducible refine' x_setF ?_ ?xs); (case xs => rfl))
  | ((with_reducible refine' x_call ?xo ?xa ?xg ?xr ?_ ?xe ?xp); (case xo => assumption); (case xa => walk_at "at"); (case xg => assumption); (case xr => walk_at "room"); (case xe => rfl); (case xp => rfl))
  | ((with_reducible refine' x_callB ?xo ?xa ?xg ?xr ?_ ?xe ?xp); (case xo => assumption); (case xr => walk_at "boot"); (case xa => walk_at "at"); (case xg => walk_at "none"); (case xe => rfl); (case xp => rfl))
  | ((with_reducible refine' x_callTy ?xo ?xa ?xg ?xr ?_ ?xe ?xp); (case xo => assumption); (case xr => walk_at "boot"); (case xa => walk_at "at"); (case xg => walk_at "none"); (case xe => rfl); (case xp => rfl))
  | ((with_reducible refine' x_callFn ?xo ?xa ?xg ?_ ?xe ?xp); (case xo => assumption); (case xg => with_reducible (first | exact Txt.mgcd (by assumption) | exact Txt.mlcm (by assumption))); (case xa => walk_at "at"); (case xe => rfl); (case xp => rfl))
  | ((with_reducible refine' x_bty ?xo ?xa ?xg ?xr ?_); (case xo => assumption); (case xr => walk_at "boot"); (case xa => walk_at "at"); (case xg => walk_at "none"))
  | ((with_reducible refine' x_cls ?xt ?xo ?xa ?_); (case xt => assumption); (case xo => assumption); (case xa => walk_at "at"))
  | ((with_reducible refine' x_clsQ ?xt ?xo ?xa ?_); (case xt => assumption); (case xo => assumption); (case xa => walk_at "at"))
  | ((with_reducible refine' x_make ?xo ?xa ?xg ?xr ?_ ?xe ?xp); (case xo => assumption); (case xa => walk_at "at"); (case xg => assumption); (case xr => walk_at "room"); (case xe => rfl); (case xp => rfl))
  | ((with_reducible refine' x_callG ?xo ?xa ?xg ?xr ?xd ?_ ?xe ?xp); (case xo => assumption); (case xa => walk_at "at"); (case xg => assumption); (case xr => walk_at "room"); (case xd => assumption); (case xe => rfl); (case xp => rfl))
  | with_reducible refine wss_nil ?_
  | refine ⟨_, _, _, _, rfl, (by assumption), ?_⟩
  | refine ⟨_, _, _, rfl, (by assumption), ?_⟩
  | refine wss_cons ?_)
local macro_rules | `(tactic| walk_at "gw") => `(tactic| repeat walk_at "n3")
local macro_rules | `(tactic| walk_at "go") => `(tactic| repeat (first | walk_at "n3" | ((with_reducible refine' wt_val ?_ ?xv); (case xv => intro _; rfl))))
local macro_rules | `(tactic| walk_at "hole") => `(tactic| with_reducible (repeat (first | assumption | exact Hole.head | apply Hole.tail)))
section
variable {X : Cx} {tg a b : Expr} {σ : L2.St} {L : LH} {S : SK} {p apos : Pos}
theorem wi_range2 (hg : Gl X "range") (hm : X.mg "range" = none) (h : WA X [a, b] σ L fun vs L1 => ∃ i j : Int, vs = [.int i, .int j] ∧ (-(2 ^ 62) ≤ i ∧ i < 2 ^ 62 ∧ -(2 ^ 62) ≤ j ∧ j < 2 ^ 62) ∧ S (j - i).toNat (fun _ => True) (YLfn fun k => .int (i + (k : Int))) L1)
    (hst : starEach [a, b] X.env = [(false, eval a X.env), (false, eval b X.env)] := by rfl) (hst2 : starEach [b] X.env = [(false, eval b X.env)] := by rfl) : WI X tg (.Call (.Name "range" p) [a, b] [] apos) σ L S :=
  ⟨_, pi_range2 hg hm pa_sem hst hst2, fun _ hL R k => a_then h hL fun _ L1 H1 h1 ⟨i, j, ev, jj, s⟩ => ⟨i, j, ev, jj, k _ L1 H1 _ _ _ h1 (⟨_, _, walk_range, fun _ _ _ _ => True.intro, fun i L H v H' _ hL y => ⟨L, by rw [y.1]; exact hL, rfl, y.2⟩⟩) s⟩⟩
end
section
variable {P : Program} {w : World} {K : PySem.W.Frag} {mg : Str → Option Value} {base : Heap}
abbrev rl (a b : Int) : HO := .lst [.int a, .int b]
theorem small_of {i : Int} {m : Int} (h0 : 0 ≤ i) (h1 : i < m) (hm : m ≤ 2 ^ 64 := by decide) : -(2 ^ 64) < i ∧ i < 2 ^ 64 := by
  have : -(2 ^ 64 : Int) < 0 := by decide
  exact ⟨by omega, by omega⟩
/-! draw -/
def pDraw : Pre := fun vs L Kk => ∃ r m a b F, vs = [.ref r, .int m] ∧ Hole r (rl a b) L F ∧ 0 < m ∧ m < 1073741824 ∧ ∀ d a' b', 0 ≤ d → d < m → Kk (.int d) (F (rl a' b'))
theorem scDraw : FnScope ["_law_rng_here", "_law_many", "_law_digit"] ["_law_rng_here", "_law_many"] (defScope sDraw) := ⟨rfl, rfl, rfl, by decide +kernel, rfl, by decide +kernel, by decide +kernel⟩
theorem okDraw {f C Q : Addr} {fd : FuncData} (F : Fun K "_law_draw" "_law_draw" sDraw f fd) (T : Txt K mg C Q) : FnOk P w K mg base CX0 1 f fd ["_law_rng_here", "_law_many"] (SpL pDraw) := by
  refine fnX (Gn := ["divmod", "int"]) F scDraw (by decide +kernel) (fun vs L Kk h => ?_) (fun X e1 e2 e3 e4 e5 hX hr vs L Kk h => ?_)
  · obtain ⟨r, m, a, b, G, rfl, _⟩ := h
    rfl
  · subst e1 e2 e3 e4 e5
    obtain ⟨r, m, a, b, G, rfl, hh, h0, h1, k⟩ := h
    have ml : SqLL X.K r [.int a, .int b] L := fun H hL => SqL.of (hL.at_ _ _ hh.mem)
    walk_at "go"
    refine we_ixL ?_
    walk_at "go"
    refine ⟨r, _, _, _, rfl, rfl, ml, atI0, ?_⟩
    walk_at "go"
    refine ⟨_, rfl, fun z => ?_, fun z => ?_⟩
    · refine wss_cons (ws_asg ?_)
      walk_at "go"
      refine we_ixL ?_
      walk_at "go"
      refine ⟨r, _, _, _, rfl, rfl, ml, atI0, ?_⟩
      walk_at "go"
      refine wc_divmod ⟨h0, h1⟩ fun p => ?_
      refine x_tup (by assumption) .head ?_
      refine wgs_cons (wg_setL ?_)
      walk_at "go"
      refine ⟨r, _, _, 0, _, rfl, rfl, .tail hh, rfl, ?_⟩
      refine wgs_cons (x_tgt (by assumption) (by walk_at "at") (by walk_at "at") ?_)
      refine wgs_nil ?_
      walk_at "go"
      exact ret_sub (k _ _ _ (Int.emod_nonneg _ (by omega)) (Int.emod_lt_of_pos _ h0)) (Sub.of_sublist (.cons _ (.refl _)))
    · walk_at "go"
      refine ws_asg ?_
      walk_at "go"
      refine we_ixL ?_
      walk_at "go"
      refine ⟨r, _, _, _, rfl, rfl, ml, atI1, ?_⟩
      walk_at "go"
      refine wo_mul (.inr ⟨by decide, by decide⟩) ?_
      walk_at "go"
      refine wc_int ?_
      walk_at "go"
      refine wo_mod (by decide) ?_
      refine wg_setL ?_
      walk_at "go"
      refine ⟨r, _, _, 1, _, rfl, rfl, hh, rfl, ?_⟩
      have g : ∀ x : Int, Hole r (rl a x) (G (rl a x)) G := fun x => hh.again _
      walk_at "go"
      refine we_ixL ?_
      walk_at "go"
      refine ⟨r, _, _, _, rfl, rfl, fun H hL => SqL.of (hL.at_ _ _ (g _).mem), atI1, ?_⟩
      walk_at "go"
      refine we_ixL ?_
      walk_at "go"
      refine ⟨r, _, _, _, rfl, rfl, fun H hL => SqL.of (hL.at_ _ _ (g _).mem), atI1, ?_⟩
      refine wo_mul (.inl (small_of (m := 2147483563) (Int.emod_nonneg _ (by decide)) (Int.emod_lt_of_pos _ (by decide)))) ?_
      walk_at "go"
      refine wc_int ?_
      walk_at "go"
      refine wo_mod (by decide) ?_
      walk_at "go"
      refine wo_fdiv ⟨by decide, by decide⟩ ?_
      walk_at "go"
      refine wo_mod h0 ?_
      exact ret_sub (k _ _ _ (Int.emod_nonneg _ (by omega)) (Int.emod_lt_of_pos _ h0)) (Sub.refl _)
/-! rng -/
def pRng (K : PySem.W.Frag) : Pre := fun vs L Kk => ∃ (s : Addr) (k : Nat) (ns : List Int), vs = [.ref s, .int (k : Int)] ∧ k < 100 ∧ SqLL K s (ns.map V.int) L ∧ ∀ p a b, Kk (.ref p) ((p, rl a b) :: L)
theorem scRng : FnScope ["_law_script", "_law_k", "_law_cell"] ["_law_script", "_law_k"] (defScope sRng) := ⟨rfl, rfl, rfl, by decide +kernel, rfl, by decide +kernel, by decide +kernel⟩
theorem okRng {f C Q : Addr} {fd : FuncData} (F : Fun K "_law_rng" "_law_rng" sRng f fd) (T : Txt K mg C Q) : FnOk P w K mg base CX0 1 f fd ["_law_script", "_law_k"] (SpL (pRng K)) := by
  refine fnX (Gn := ["len", "max", "abs", "int"]) F scRng (by decide +kernel) (fun vs L Kk h => ?_) (fun X e1 e2 e3 e4 e5 hX hr vs L Kk h => ?_)
  · obtain ⟨s, k, ns, rfl, _⟩ := h
    rfl
  · subst e1 e2 e3 e4 e5
    obtain ⟨s, k, ns, rfl, hk, hs, kk⟩ := h
    have tail : ∀ (c : Int) (σ : L2.St), σ = [some (.ref s), some (.int (k : Int)), some (.int c)] → WSs X (defBody sRng).tail.tail σ L (EndOf Kk) := by
      rintro c σ rfl
      walk_at "go"
      refine wc_abs ?_
      walk_at "go"
      refine wo_pow ⟨by decide, by decide, by decide⟩ ?_
      walk_at "go"
      refine wc_max hX.calm ?_
      walk_at "go"
      refine wc_abs ?_
      walk_at "go"
      refine wc_int ?_
      walk_at "go"
      refine wo_mod (by decide) ?_
      walk_at "go"
      refine wc_int ?_
      walk_at "go"
      refine wo_mul (.inl ⟨by decide, by decide⟩) ?_
      walk_at "go"
      refine wo_pow ⟨by decide, by decide, by omega⟩ ?_
      refine wo_mul (.inl ?_) ?_
      · generalize (if c < 0 then -c else c) = y
        have h0 := Int.emod_nonneg y (show (2147483549 : Int) ≠ 0 by decide)
        have h1 := Int.emod_lt_of_pos y (show (0 : Int) < 2147483549 by decide)
        have : -(2 ^ 64 : Int) < 0 := by decide
        exact ⟨by omega, by omega⟩
      walk_at "go"
      refine wo_mod (by decide) ?_
      walk_at "go"
      refine ⟨show 2 ≤ sizeLine from len_line, fun p => ?_⟩
      exact ret_sub (kk p _ _) (Sub.refl _)
    walk_at "go"
    refine wo_mul (.inl ⟨by decide, by decide⟩) ?_
    walk_at "go"
    refine wc_len hs ?_
    walk_at "go"
    refine ⟨_, rfl, fun z => ?_, fun z => ?_⟩
    · rw [List.length_map] at z
      have hlt : k < ns.length := by have := of_decide_eq_true z; omega
      walk_at "go"
      refine we_ixL ?_
      walk_at "go"
      refine ⟨s, _, _, _, rfl, rfl, hs, atI_nat (v := .int ns[k]) (by rw [List.getElem?_map, List.getElem?_eq_getElem hlt]; rfl), ?_⟩
      refine wss_nil (tail _ _ rfl)
    · exact wss_nil (tail _ _ rfl)
/-! choice -/
def pChoice : Pre := fun vs L Kk => ∃ (r : Addr) (v : V) (a b : Int) (F : HO → LH), vs = [.ref r, v] ∧ Hole r (rl a b) L F ∧
  ((∃ s xs, v = .ref s ∧ (∀ o, Mem s (.lst xs) (F o)) ∧ 0 < xs.length ∧ xs.length < 1000 ∧ ∀ x a' b', x ∈ xs → Kk x (F (rl a' b'))) ∨
   (∃ z : Str, v = .str z ∧ 0 < z.length ∧ z.length < 1000 ∧ ∀ c a' b', c ∈ z.cps.toList → Kk (.str ⟨#[c]⟩) (F (rl a' b'))))
theorem scChoice : FnScope ["_law_rng_here", "_law_some"] ["_law_rng_here", "_law_some"] (defScope sChoice) := ⟨rfl, rfl, rfl, by decide +kernel, rfl, by decide +kernel, by decide +kernel⟩
theorem at_pick {α : Type} {xs : List α} {d : Int} (h0 : 0 ≤ d) (h1 : d < (xs.length : Int)) : ∃ x ∈ xs, atI xs d = some x := by
  obtain ⟨n, rfl⟩ : ∃ n : Nat, d = n := ⟨d.toNat, by omega⟩
  have hn : n < xs.length := by omega
  exact ⟨xs[n], List.getElem_mem hn, atI_nat (List.getElem?_eq_getElem hn)⟩
theorem okChoice {f C Q : Addr} {fd : FuncData} (F : Fun K "_law_choice" "_law_choice" sChoice f fd) (T : Txt K mg C Q) (GD : GFn P w K mg base "_law_draw" 1 ["_law_rng_here", "_law_many"] [] pDraw) : FnOk P w K mg base CX0 2 f fd ["_law_rng_here", "_law_some"] (SpL pChoice) := by
  refine fnX (Gn := ["_law_draw", "len"]) F scChoice (by decide +kernel) (fun vs L Kk h => ?_) (fun X e1 e2 e3 e4 e5 hX hr vs L Kk h => ?_)
  · obtain ⟨r, v, a, b, G, rfl, _⟩ := h
    rfl
  · subst e1 e2 e3 e4 e5
    obtain ⟨r, v, a, b, G, rfl, hh, ⟨s, xs, rfl, ms, h0, h1, k⟩ | ⟨z, rfl, h0, h1, k⟩⟩ := h
    · have ms0 : Mem s (.lst xs) L := by
        rw [← hh.self']
        exact ms _
      walk_at "go"
      refine we_ixL ?_
      walk_at "go"
      refine wc_len (.of ms0) ?_
      walk_at "go"
      refine ⟨r, _, a, b, G, rfl, hh, by omega, by omega, fun d a' b' d0 d1 => ?_⟩
      obtain ⟨x, hx, ha⟩ := at_pick d0 d1
      refine ⟨s, _, _, _, rfl, rfl, .of (ms _), ha, ?_⟩
      exact ret_sub (k x a' b' hx) (Sub.refl _)
    · walk_at "go"
      refine we_ixS ?_
      walk_at "go"
      refine wc_lenS (Nat.le_of_lt (len_lt h1)) ?_
      walk_at "go"
      refine ⟨r, _, a, b, G, rfl, hh, by omega, by omega, fun d a' b' d0 d1 => ?_⟩
      obtain ⟨c, hc, ha⟩ := at_pick (xs := z.cps.toList) d0 (by simpa [PySem.Str.length] using d1)
      refine ⟨z, _, c, rfl, rfl, Nat.le_of_lt (len_lt h1), ha, ?_⟩
      exact ret_sub (k c a' b' hc) (Sub.refl _)
/-! words -/
theorem glue_all : ∀ (cs : List Nat) (a : Array Nat), ((cs.map fun c => (⟨#[c]⟩ : Str)).foldl (fun acc p => acc ++ ("" : Str).cps ++ p.cps) a).toList = a.toList ++ cs
  | [], a => by simp
  | c :: cs, a => by
    rw [List.map_cons, List.foldl_cons, glue_all cs]
    rw [show ("" : Str).cps = #[] from by decide +kernel]
    simp
theorem join_sg (cs : List Nat) : (PySem.Txt.join "" (cs.map fun c => (⟨#[c]⟩ : Str))).cps.toList = cs := by
  unfold PySem.Txt.join Builtin.Str.glued
  cases cs with
  | nil => rfl
  | cons c cs =>
    show (List.foldl (fun acc p => acc ++ ("" : Str).cps ++ p.cps) (#[c] : Array Nat) (cs.map fun c => (⟨#[c]⟩ : Str))).toList = _
    rw [glue_all]
    rfl
theorem join_bound (cs : List Nat) (h : cs.length ≤ 100) : ((cs.map fun c => (⟨#[c]⟩ : Str)).map (·.length)).sum + (cs.map fun c => (⟨#[c]⟩ : Str)).length * ("" : Str).length ≤ 16777216 := by
  rw [show ("" : Str).length = 0 by decide +kernel, Nat.mul_zero, Nat.add_zero]
  have : ((cs.map fun c => (⟨#[c]⟩ : Str)).map (·.length)).sum = cs.length := by
    clear h
    induction cs with
    | nil => rfl
    | cons c cs ih =>
      rw [List.map_cons, List.map_cons, List.sum_cons, ih, List.length_cons]
      show 1 + _ = _
      omega
  omega
/-- a letter and at most n signs behind it -/
def Bg (n : Nat) (x : Str) : Prop := ∃ c cs, x.cps.toList = c :: cs ∧ c ∈ LETTERS.cps.toList ∧ (∀ d ∈ cs, d ∈ CHARS.cps.toList) ∧ cs.length ≤ n
theorem let_chars : ∀ c ∈ LETTERS.cps.toList, c ∈ CHARS.cps.toList := by decide +kernel
theorem len_is (x : Str) : x.length = x.cps.toList.length := by simp [PySem.Str.length]
theorem Bg.nm {n : Nat} {x : Str} (h : Bg n x) (hn : n ≤ 7) : Nm x := by
  obtain ⟨c, cs, e, hc, hs, hl⟩ := h
  have l : x.length = cs.length + 1 := by rw [len_is, e]; rfl
  unfold Nm isNm
  rw [e, l]
  simp only [Bool.and_eq_true, decide_eq_true_eq, List.all_eq_true]
  refine ⟨⟨⟨by omega, by omega⟩, hc⟩, fun d hd => ?_⟩
  rcases List.mem_cons.mp hd with h | h
  · rw [h]; exact let_chars c hc
  · exact hs d h
theorem app_cps (a b : Str) : (a ++ b).cps.toList = a.cps.toList ++ b.cps.toList := by
  show (a.cps ++ b.cps).toList = _
  rw [Array.toList_append]
theorem Bg.app {n m : Nat} {x y : Str} (h : Bg n x) (hy : ∀ d ∈ y.cps.toList, d ∈ CHARS.cps.toList) (hl : y.cps.toList.length ≤ m) : Bg (n + m) (x ++ y) := by
  obtain ⟨c, cs, e, hc, hs, hn⟩ := h
  refine ⟨c, cs ++ y.cps.toList, by rw [app_cps, e]; rfl, hc, fun d hd => ?_, by rw [List.length_append]; omega⟩
  rcases List.mem_append.mp hd with h | h
  · exact hs d h
  · exact hy d h
theorem Bg.one {c : Nat} (h : c ∈ LETTERS.cps.toList) : Bg 0 ⟨#[c]⟩ := ⟨c, [], rfl, h, fun _ h => (List.not_mem_nil h).elim, Nat.le_refl _⟩
/-! common -/
def pCommon : Pre := fun vs L Kk => ∃ x y : Int, vs = [.int x, .int y] ∧ Kk (.int ((Nat.gcd x.natAbs y.natAbs : Nat) : Int)) L
theorem scCommon : FnScope ["_law_one", "_law_other"] ["_law_one", "_law_other"] (defScope sCommon) := ⟨rfl, rfl, rfl, by decide +kernel, rfl, by decide +kernel, by decide +kernel⟩
theorem okCommon {f C Q : Addr} {fd : FuncData} (F : Fun K "_law_common" "_law_common" sCommon f fd) (T : Txt K mg C Q) : FnOk P w K mg base CX0 1 f fd ["_law_one", "_law_other"] (SpL pCommon) := by
  refine fnX (Gn := ["abs", "int"]) F scCommon (by decide +kernel) (fun vs L Kk h => ?_) (fun X e1 e2 e3 e4 e5 hX hr vs L Kk h => ?_)
  · obtain ⟨x, y, rfl, _⟩ := h
    rfl
  · subst e1 e2 e3 e4 e5
    obtain ⟨x, y, rfl, k⟩ := h
    refine wss_cons (x_par (by assumption) (by walk_at "at") (by walk_at "at") (by walk_at "at") (by walk_at "at") (by decide) ?_)
    walk_at "go"
    refine wc_abs ?_
    walk_at "go"
    refine wc_abs ?_
    rw [abs_eq, abs_eq]
    refine wss_cons (ws_while hX.pas (fun n σ' L' => ∃ m : Nat, σ' = [some (.int (m : Int)), some (.int (n : Int))] ∧ L' = L ∧ Nat.gcd m n = Nat.gcd x.natAbs y.natAbs) (n := y.natAbs) ⟨x.natAbs, rfl, rfl, rfl⟩ ?_)
    rintro n σ' L' ⟨m, rfl, rfl, e⟩
    walk_at "go"
    refine ⟨_, rfl, fun z => ?_, fun z => ?_⟩
    · have hn : 0 < n := by have := of_decide_eq_true z; omega
      refine wss_cons (x_par (by assumption) (by walk_at "at") (by walk_at "at") (by walk_at "at") (by walk_at "at") (by decide) ?_)
      walk_at "go"
      refine wc_int ?_
      walk_at "go"
      refine wo_mod (by omega) ?_
      refine wss_nil ⟨m % n, Nat.mod_lt _ hn, _, Sub.refl _, n, ?_, rfl, ?_⟩
      · rw [← Int.natCast_emod]
        rfl
      · rw [← e, Nat.gcd_comm n, ← Nat.gcd_rec, Nat.gcd_comm]
    · have hn : n = 0 := by have := of_decide_eq_false z; omega
      subst hn
      walk_at "go"
      rw [Nat.gcd_zero_right] at e
      rw [← e] at k
      exact ret_sub k (Sub.refl _)
end
section
variable {P : Program} {w : World} {K : PySem.W.Frag} {mg : Str → Option Value} {base : Heap}
/-! names -/
/-- the text of 10 + i -/
def tx (i : Nat) : Str := Str.ofString (toString (10 + (i : Int)))
theorem tx_ok : ∀ i < 90, ((tx i).cps.toList.all (fun c => decide (c ∈ CHARS.cps.toList)) = true) ∧ (tx i).length = 2 := by decide +kernel
theorem tx_nd : ((List.range 90).map fun i => (tx i).cps.toList).Nodup := by decide +kernel
theorem Bg.mono {n m : Nat} {x : Str} (h : Bg n x) (hm : n ≤ m) : Bg m x := by
  obtain ⟨c, cs, e, hc, hs, hl⟩ := h
  exact ⟨c, cs, e, hc, hs, Nat.le_trans hl hm⟩
theorem Bg.tx {n : Nat} {x : Str} (h : Bg n x) {i : Nat} (hi : i < 90) : Bg (n + 2) (x ++ tx i) := by
  obtain ⟨a, b⟩ := tx_ok i hi
  refine h.app (fun d hd => ?_) (by rw [← len_is, b]; exact Nat.le_refl 2)
  rw [List.all_eq_true] at a
  exact of_decide_eq_true (a d hd)
/-- a name and ninety more -/
def spare (x : Str) : List Str := x :: (List.range 90).map fun i => x ++ tx i
theorem spare_len (x : Str) : (spare x).length = 91 := by unfold spare; rw [List.length_cons, List.length_map, List.length_range]
theorem spare_nm {x : Str} (h : Bg 2 x) : ∀ y ∈ spare x, Nm y := by
  intro y hy
  rcases List.mem_cons.mp hy with e | e
  · rw [e]; exact h.nm (by decide)
  · obtain ⟨i, hi, rfl⟩ := List.mem_map.mp e
    exact (h.tx (List.mem_range.mp hi)).nm (by decide)
theorem more_nd (x : Str) : ((List.range 90).map fun i => x ++ tx i).Nodup := by
  have h := tx_nd
  have e : ((List.range 90).map fun i => x ++ tx i).map (fun y : Str => y.cps.toList) = ((List.range 90).map fun i => (tx i).cps.toList).map (x.cps.toList ++ ·) := by
    rw [List.map_map, List.map_map]
    exact List.map_congr_left fun i _ => app_cps _ _
  have n2 : (((List.range 90).map fun i => (tx i).cps.toList).map (x.cps.toList ++ ·)).Nodup := by
    rw [List.nodup_iff_pairwise_ne] at h ⊢
    exact List.pairwise_map.mpr (h.imp fun ne e => ne (List.append_cancel_left e))
  rw [← e, List.nodup_iff_pairwise_ne] at n2
  rw [List.nodup_iff_pairwise_ne]
  exact (List.pairwise_map.mp n2).imp fun ne e => ne (by rw [e])
theorem pigeon : ∀ (l k : List Str), l.Nodup → k.length < l.length → ∃ y ∈ l, y ∉ k
  | [], k, _, h => absurd h (Nat.not_lt_zero _)
  | a :: l, k, nd, h => by
    by_cases ha : a ∈ k
    · obtain ⟨y, hy, hk⟩ := pigeon l (k.erase a) (List.nodup_cons.mp nd).2 (by rw [List.length_erase_of_mem ha]; have : 0 < k.length := List.length_pos_of_mem ha; rw [List.length_cons] at h; omega)
      refine ⟨y, List.mem_cons_of_mem _ hy, fun q => hk ?_⟩
      have ne : y ≠ a := fun e => (List.nodup_cons.mp nd).1 (e ▸ hy)
      exact (List.mem_erase_of_ne ne).mpr q
    · exact ⟨a, List.mem_cons_self, ha⟩
def free (fs ts : List Str) (y : Str) : Bool := !inV (.str y) (fs.map V.str) && !inV (.str y) (ts.map V.str)
theorem inV_str (y : Str) (l : List Str) : inV (.str y) (l.map V.str) = decide (y ∈ l) := by
  induction l with
  | nil => rfl
  | cons a l ih =>
    have e : inV (.str y) ((a :: l).map V.str) = (eqV (.str a) (.str y) || inV (.str y) (l.map V.str)) := rfl
    rw [e, ih]
    by_cases h : y = a
    · subst h
      have : eqV (.str y) (.str y) = true := by simp [eqV]
      rw [this]
      simp
    · have : eqV (.str a) (.str y) = false := by
        have h' : ¬ a = y := fun z => h z.symm
        simp [eqV, h']
      rw [this]
      simp [h]
theorem free_some (x : Str) {fs ts : List Str} (h : fs.length + ts.length < 90) : ∃ y ys, (spare x).filter (free fs ts) = y :: ys := by
  obtain ⟨y, hy, hn⟩ := pigeon _ (fs ++ ts) (more_nd x) (by rw [List.length_map, List.length_range, List.length_append]; exact h)
  have hf : free fs ts y = true := by
    unfold free
    rw [inV_str, inV_str]
    simp only [List.mem_append, not_or] at hn
    simp [hn.1, hn.2]
  have hm : y ∈ (spare x).filter (free fs ts) := List.mem_filter.mpr ⟨List.mem_cons_of_mem _ hy, hf⟩
  cases e : (spare x).filter (free fs ts) with
  | nil => rw [e] at hm; exact (List.not_mem_nil hm).elim
  | cons a l => exact ⟨a, l, rfl⟩
theorem flat_str (l : List Str) : (l.map V.str).all flatV = true := by
  rw [List.all_eq_true]
  intro v hv
  obtain ⟨x, _, rfl⟩ := List.mem_map.mp hv
  rfl
def pNames : Pre := fun vs L Kk => ∃ (r t : Addr) (m : Nat) (ts : List Str) (a b : Int) (F : HO → LH), vs = [.ref r, .int (m : Int), .ref t] ∧ Hole r (rl a b) L F ∧ (∀ o, Mem t (.lst (ts.map V.str)) (F o)) ∧ m < 10 ∧ ts.length < 20 ∧
  ∀ (q : Addr) (ns : List Str) (a' b' : Int), ns.length = m → (∀ y ∈ ns, Nm y) → Kk (.ref q) ((q, .lst (ns.map V.str)) :: F (rl a' b'))
theorem scNames : FnScope ["_law_rng_here", "_law_many", "_law_taken", "_law_found", "_law_k", "_law_size", "_law_name", "_law_spare", "_law_turn", "_law_one"] ["_law_rng_here", "_law_many", "_law_taken"] (defScope sNames) := ⟨rfl, rfl, rfl, by decide +kernel, rfl, by decide +kernel, by decide +kernel⟩
abbrev SIGNS : Str := "abcdefghijkmnopq0123456789"
theorem signs_ok : ∀ c ∈ SIGNS.cps.toList, c ∈ CHARS.cps.toList := by decide +kernel
theorem okNames {f C Q : Addr} {fd : FuncData} (F : Fun K "_law_names" "_law_names" sNames f fd) (T : Txt K mg C Q) (GD : GFn P w K mg base "_law_draw" 1 ["_law_rng_here", "_law_many"] [] pDraw) : FnOk P w K mg base CX0 2 f fd ["_law_rng_here", "_law_many", "_law_taken"] (SpL pNames) := by
  refine fnXCC (Vn := ["_law_rng_here", "_law_many", "_law_taken", "_law_found", "_law_k", "_law_size", "_law_name", "_law_spare"]) (Ln := ["_law_many", "_law_k", "_law_size", "_law_spare"]) (Gn := ["range", "_law_draw"]) F scNames (by decide +kernel) (fun vs L Kk h => ?_) (fun X e1 e2 e3 e4 e5 hX hfn hr vs L Kk h => ?_)
  · obtain ⟨r, t, m, ts, a, b, G, rfl, _⟩ := h
    rfl
  · subst e1 e2 e3 e4 e5
    obtain ⟨r, t, m, ts, a, b, G, rfl, hh, mt, hm, hts, k⟩ := h
    have zr : X.mg "range" = none := by walk_at "none"
    have zs : X.mg "str" = none := by walk_at "none"
    refine wss_cons (x_setC hX hfn (by walk_at "at") (by decide +kernel) ?_)
    walk_at "go"
    refine ⟨show 0 ≤ sizeLine from len_line, fun fd => ?_⟩
    refine wss_cons (ws_forW hX.calm hX.pas (wi_range (hX.glo (by walk_at "at")).1 zr ?_))
    walk_at "go"
    refine ⟨m, rfl, by omega, by omega, fun i σ' L' => ∃ (fs : List Str) (a' b' : Int) (u1 u2 u3 u4 : Option V), fs.length = i ∧ (∀ y ∈ fs, Nm y) ∧ σ' = [some (.ref r), some (.int (m : Int)), some (.ref t), some (.ref fd), u1, u2, u3, u4, none, none] ∧ L' = (fd, .lst (fs.map V.str)) :: G (rl a' b'), ?_, fun _ _ _ _ _ => True.intro, ?_, ?_⟩
    · exact ⟨[], a, b, none, none, none, none, rfl, fun _ h => (List.not_mem_nil h).elim, rfl, by rw [hh.self']; rfl⟩
    · rintro i v σ' L' L'' hi ⟨fs, a1, b1, u1, u2, u3, u4, hl, hn, rfl, rfl⟩ ⟨rfl, rfl⟩
      have him : i < m := by simpa using hi
      refine x_tgt (by assumption) (by walk_at "at") (by walk_at "at") ?_
      walk_at "go"
      refine ⟨r, _, a1, b1, _, rfl, .tail (hh.again' _), by decide, by decide, fun sz a2 b2 s0 s1 => ?_⟩
      refine wss_cons (x_setC hX hfn (by walk_at "at") (by decide +kernel) ?_)
      refine we_ixS ?_
      walk_at "go"
      refine ⟨r, _, a2, b2, _, rfl, .tail (hh.again' _), by decide, by decide, fun d a3 b3 d0 d1 => ?_⟩
      obtain ⟨c, hc, ha⟩ := at_pick (xs := LETTERS.cps.toList) d0 (by rw [show LETTERS.cps.toList.length = 26 by decide +kernel]; exact d1)
      refine ⟨LETTERS, _, c, rfl, rfl, len_line (by decide +kernel), ha, ?_⟩
      refine wss_cons (x_setC hX hfn (by walk_at "at") (by decide +kernel) ?_)
      walk_at "go"
      refine we_join ?_
      walk_at "go"
      refine ⟨_, rfl, ?_⟩
      refine x_lc [("_law_turn", 8)] hX (by decide +kernel) (wi_range (hX.glo (by walk_at "at")).1 zr ?_)
      walk_at "go"
      refine ⟨sz, rfl, by omega, by omega, fun D => ⟨fun i L' => ∃ (cs : List Nat) (a' b' : Int), cs.length = i ∧ (∀ c ∈ cs, c ∈ CHARS.cps.toList) ∧ L' = (D, .lst ((cs.map fun c => (⟨#[c]⟩ : Str)).map V.str)) :: (fd, .lst (fs.map V.str)) :: G (rl a' b'), ?_, fun _ _ _ _ => True.intro, ?_, ?_⟩⟩
      · exact ⟨[], a3, b3, rfl, fun _ h => (List.not_mem_nil h).elim, rfl⟩
      · rintro i v L' L'' hi ⟨cs, a1, b1, hl, hc, rfl⟩ ⟨rfl, rfl⟩
        intro s H' Ca cl fp
        have hB := hX.blk (Vb := ["_law_turn", "_law_rng_here"]) (Lb := ["_law_turn"]) (Gb := ["_law_draw"]) (scope := ⟨.function, [(".0", .local), ("_law_turn", .local), ("_law_draw", .globalImplicit), ("_law_rng_here", .free)], false, false, []⟩) (by decide +kernel)
        refine x_tgt (hB s H' Ca cl fp) (by walk_at "at") (by walk_at "at") ⟨rfl, fun s H' Ca cl fp => ?_⟩
        have hX1 := hB s H' Ca cl fp
        refine we_ixS ?_
        walk_at "go"
        refine ⟨r, _, a1, b1, _, rfl, .tail (.tail (hh.again' _)), by decide, by decide, fun d a2 b2 d0 d1 => ?_⟩
        obtain ⟨c, hc', ha⟩ := at_pick (xs := SIGNS.cps.toList) d0 (by rw [show SIGNS.cps.toList.length = 26 by decide +kernel]; exact d1)
        refine ⟨SIGNS, _, c, rfl, rfl, len_line (by decide +kernel), ha, ?_⟩
        refine ⟨_, _, .head, ?_, _, Sub.refl _, cs ++ [c], a2, b2, by rw [List.length_append, hl]; rfl, fun d hd => ?_, ?_⟩
        · rw [List.length_map, List.length_map]
          have : i < sz.toNat := hi
          exact len_lt (by omega)
        · rcases List.mem_append.mp hd with h | h
          · exact hc d h
          · rw [List.mem_singleton.mp h]
            exact signs_ok c hc'
        · rw [List.map_append, List.map_append]
          rfl
      rintro L' ⟨cs, a4, b4, hlc, hcs, rfl⟩
      refine ⟨D, _, rfl, .of .head, join_bound cs (by omega), ?_⟩
      have e := join_sg cs
      have b1' : Bg 2 (⟨#[c]⟩ ++ PySem.Txt.join "" (cs.map fun c => (⟨#[c]⟩ : Str))) := ((Bg.one hc).app (m := 2) (by rw [e]; exact hcs) (by rw [e]; omega)).mono (by decide)
      refine wo_cat ?_ ?_
      · rw [len_is, len_is, e]
        exact len_line (by show 1 + _ ≤ _; omega)
      generalize (⟨#[c]⟩ ++ PySem.Txt.join "" (cs.map fun c => (⟨#[c]⟩ : Str))) = x at b1'
      have xl : x.length ≤ 8 := (b1'.nm (by decide)).le
      refine wss_sub' (L' := (fd, .lst (fs.map V.str)) :: G (rl a4 b4)) (Sub.of_sublist (.cons _ (.refl _))) ?_
      walk_at "go"
      refine ⟨show 1 ≤ sizeLine from len_line, fun p1 => ?_⟩
      refine x_lc [("_law_turn", 8)] hX (by decide +kernel) (wi_range2 (hX.glo (by walk_at "at")).1 zr ?_)
      walk_at "go"
      refine ⟨10, 100, rfl, by decide, fun D2 => ⟨fun i L' => L' = (D2, .lst (((List.range i).map fun i => x ++ tx i).map V.str)) :: (p1, .lst [.str x]) :: (fd, .lst (fs.map V.str)) :: G (rl a4 b4), rfl, fun _ _ _ _ => True.intro, ?_, ?_⟩⟩
      · rintro i v L' L'' hi rfl ⟨rfl, rfl⟩
        intro s H' Ca cl fp
        have hi90 : i < 90 := hi
        have hB := hX.blk (Vb := ["_law_turn", "_law_name"]) (Lb := ["_law_turn"]) (Gb := ["str"]) (scope := ⟨.function, [(".0", .local), ("_law_turn", .local), ("str", .globalImplicit), ("_law_name", .free)], false, false, []⟩) (by decide +kernel)
        refine x_tgt (hB s H' Ca cl fp) (by walk_at "at") (by walk_at "at") ⟨rfl, fun s H' Ca cl fp => ?_⟩
        have hX1 := hB s H' Ca cl fp
        walk_at "go"
        refine wc_strI ?_ ?_
        · by_cases z : (10 + (i : Int)).natAbs = 0
          · rw [z]; decide
          · exact (Nat.log2_lt z).mpr (Nat.lt_of_lt_of_le (show (10 + (i : Int)).natAbs < 2 ^ 10 by omega) (Nat.pow_le_pow_right (by decide) (by decide)))
        show WO _ _ _ (.str (tx i)) _ _
        refine wo_cat ?_ ?_
        · rw [(tx_ok i hi90).2]
          exact len_line (by omega)
        refine ⟨_, _, .head, ?_, _, Sub.refl _, ?_⟩
        · rw [List.length_map, List.length_map, List.length_range]
          exact len_lt (by omega)
        · show _ = _
          rw [List.range_succ, List.map_append, List.map_append]
          rfl
      rintro L' rfl
      refine wo_catL (.tail .head) .head ?_ fun p2 => ?_
      · rw [List.length_map, List.length_map, List.length_range]
        exact len_line (n := 91)
      refine wss_sub' (L' := (p2, .lst ((spare x).map V.str)) :: (fd, .lst (fs.map V.str)) :: G (rl a4 b4)) (Sub.of_sublist (.cons₂ _ (.cons _ (.cons _ (.refl _))))) ?_
      walk_at "go"
      refine ws_expr ?_
      refine we_append ?_
      walk_at "go"
      refine ⟨fd, _, rfl, .of (.tail .head), ?_⟩
      refine we_ixL ?_
      refine x_lcI [("_law_one", 9)] hX (by decide +kernel) (wi_list ?_)
      walk_at "go"
      refine ⟨p2, _, rfl, .of .head, fun D3 => ⟨fun i L' => L' = (D3, .lst ((((spare x).take i).filter (free fs ts)).map V.str)) :: (p2, .lst ((spare x).map V.str)) :: (fd, .lst (fs.map V.str)) :: G (rl a4 b4), rfl, ?_, ?_, ?_⟩⟩
      · rintro i L' _ rfl
        exact .of (.tail .head)
      · rintro i v L' L'' hi rfl ⟨rfl, hv⟩
        intro s H' Ca cl fp
        obtain ⟨y, hy, rfl⟩ := map_get hv
        have hB := hX.blk (Vb := ["_law_one", "_law_found", "_law_taken"]) (Lb := ["_law_one"]) (Gb := []) (scope := ⟨.function, [(".0", .local), ("_law_one", .local), ("_law_found", .free), ("_law_taken", .free)], false, false, []⟩) (by decide +kernel)
        refine x_tgt (hB s H' Ca cl fp) (by walk_at "at") (by walk_at "at") ⟨rfl, fun s H' Ca cl fp => ?_⟩
        have hX1 := hB s H' Ca cl fp
        walk_at "go"
        have key : ∀ (z1 : Bool), free fs ts y = z1 → (((spare x).take (i + 1)).filter (free fs ts)) = if z1 = true then ((spare x).take i).filter (free fs ts) ++ [y] else ((spare x).take i).filter (free fs ts) := by
          intro z1 e
          rw [filt_take hy, e]
        refine wt_cmp rfl ?_
        walk_at "go"
        refine wo_notInL (.of (.tail (.tail .head))) rfl (flat_str _) ⟨_, rfl, fun z => ?_, fun z => ?_⟩
        · refine ww_and1 (wt_cmp rfl ?_)
          walk_at "go"
          refine wo_notInL (.of (.tail (.tail (.tail (mt _))))) rfl (flat_str _) ⟨_, rfl, fun z2 => ?_, fun z2 => ?_⟩
          · have hf : free fs ts y = true := by unfold free; rw [z, z2]; rfl
            intro s H' Ca cl fp
            have hX2 := hB s H' Ca cl fp
            walk_at "go"
            refine ⟨_, _, .head, ?_, _, Sub.refl _, ?_⟩
            · rw [List.length_map]
              refine len_lt (Nat.lt_of_le_of_lt (List.length_filter_le _ _) (Nat.lt_of_le_of_lt (by rw [List.length_take]; exact Nat.min_le_right _ _) ?_))
              rw [spare_len]
              decide
            · show _ = _
              rw [key _ hf, if_pos rfl, List.map_append]
              rfl
          · have hf : free fs ts y = false := by unfold free; rw [z2, Bool.and_false]
            refine ⟨_, Sub.refl _, ?_⟩
            show _ = _
            rw [key _ hf]
            rfl
        · have hf : free fs ts y = false := by unfold free; rw [z, Bool.false_and]
          refine ⟨fun z => Bool.noConfusion z, fun _ => ⟨_, Sub.refl _, ?_⟩⟩
          show _ = _
          rw [key _ hf]
          rfl
      · rintro L' rfl
        obtain ⟨y, ys, hy⟩ := free_some x (fs := fs) (ts := ts) (by omega)
        have hyn : Nm y := spare_nm b1' y ((List.mem_filter (p := free fs ts)).mp (by rw [hy]; exact List.mem_cons_self)).1
        rw [List.length_map, List.take_length, hy]
        walk_at "go"
        refine ⟨D3, _, 0, .str y, rfl, rfl, .of .head, atI_nat (j := 0) rfl, ?_⟩
        refine ⟨fs.map V.str, _, .tail (.tail .head), by rw [List.length_map]; exact len_lt (by omega), ?_⟩
        refine wss_nil ⟨(fd, .lst ((fs ++ [y]).map V.str)) :: G (rl a4 b4), ?_, fs ++ [y], a4, b4, _, _, _, _, by rw [List.length_append, hl]; rfl, fun u hu => ?_, rfl, rfl⟩
        · rw [List.map_append]
          exact Sub.of_sublist (.cons _ (.cons _ (.refl _)))
        · rcases List.mem_append.mp hu with h | h
          · exact hn u h
          · rw [List.mem_singleton.mp h]
            exact hyn
    · rintro σ' L' ⟨fs, a1, b1, u1, u2, u3, u4, hl, hn, rfl, rfl⟩
      walk_at "go"
      exact ret_sub (k fd fs a1 b1 (by simpa using hl) hn) (Sub.refl _)
end
end K15
set_option Elab.async false
set_option linter.all false
set_option maxRecDepth 100000
set_option maxHeartbeats 4000000
namespace K15
open PySem L2 N3
local macro_rules | `(tactic| walk_at "at") => `(tactic| with_reducible (repeat (first | exact At.head | apply At.tail)))
local macro_rules | `(tactic| walk_at "mem") => `(tactic| with_reducible (repeat (first | exact Mem.head | apply Mem.tail)))
local macro_rules | `(tactic| walk_at "boot") => `(tactic| with_reducible (first | exact boot_isi | exact boot_max | exact boot_min | exact boot_abs | exact boot_len | exact boot_repr | exact boot_divmod | exact boot_all | exact boot_sorted | exact boot_int | exact boot_bool | exact boot_str | exact boot_list | exact boot_tuple))
local macro_rules | `(tactic| walk_at "room") => `(tactic| (first | assumption | exact Room.mono (by assumption) (by decide)))
local macro_rules | `(tactic| walk_at "none") => `(tactic| (refine Txt.bn (by assumption) _ ?xz; (case xz => with_reducible (repeat (first | exact InS.head | apply InS.tail)))))
local macro_rules | `(tactic| walk_at "n3") => `(tactic| first
  | with_reducible refine ws_ret ?_
  | with_reducible refine we_int ?_
  | with_reducible refine we_str ?_
  | with_reducible refine we_bool ?_
  | with_reducible refine we_none ?_
  | ((with_reducible refine' x_name ?xo ?xa ?xb ?xc ?_); (case xo => assumption); (case xa => walk_at "at"); (case xb => walk_at "at"); (case xc => rfl))
  | ((with_reducible refine' f_tops ?xt ?_ ?xh); (case xt => assumption); (case xh => rfl))
  | ((with_reducible refine' f_qbot ?xt ?_ ?xh); (case xt => assumption); (case xh => rfl))
  | ((with_reducible refine' we_prop ?xg ?xr ?_ ?xh); (case xg => assumption); (case xr => walk_at "room"); (case xh => rfl))
  | with_reducible refine we_bin ?_
  | ((with_reducible refine wo_mulW ?xm ?_); (case xm => exact Sm.cm (by assumption) (by assumption)))
  | with_reducible refine wo_add ?_
  | with_reducible refine wo_sub ?_
  | with_reducible refine wo_lt ?_
  | with_reducible refine wo_gt ?_
  | with_reducible refine wo_le ?_
  | with_reducible refine wo_ge ?_
  | with_reducible refine wu_neg ?_
  | ((with_reducible refine we_cmp ?xh ?_); (case xh => exact nomark _))
  | ((with_reducible refine wt_cmp ?xh ?_); (case xh => exact nomark _))
  | ((with_reducible refine wa_cons ?_ ?xh); (case xh => rfl))
  | with_reducible refine wa_nil ?_
  | with_reducible refine we_and ?_
  | with_reducible refine we_or ?_
  | with_reducible refine we_not ?_
  | with_reducible refine wt_not ?_
  | with_reducible refine we_un ?_
  | with_reducible refine we_one ?_
  | with_reducible refine wt_ww (ww_or ?_)
  | with_reducible refine wt_ww (ww_and ?_)
  | with_reducible refine ww_or ?_
  | with_reducible refine ww_and ?_
  | with_reducible refine ww_or1 ?_
  | with_reducible refine ww_and1 ?_
  | with_reducible refine we_ifExp ?_
  | with_reducible refine ws_if ?_
  | with_reducible refine ws_pass ?_
  | with_reducible refine we_tup ?_
  | with_reducible refine we_lst ?_
  | ((with_reducible refine' x_set ?xo ?xa ?xb ?_ ?xs); (case xo => assumption); (case xa => walk_at "at"); (case xb => walk_at "at"); (case xs => rfl))
  | ((with_reducible refine' x_setF ?_ ?xs); (case xs => rfl))
  | ((with_reducible refine' x_call ?xo ?xa ?xg ?xr ?_ ?xe ?xp); (case xo => assumption); (case xa => walk_at "at"); (case xg => assumption); (case xr => walk_at "room"); (case xe => rfl); (case xp => rfl))
  | ((with_reducible refine' x_callB ?xo ?xa ?xg ?xr ?_ ?xe ?xp); (case xo => assumption); (case xr => walk_at "boot"); (case xa => walk_at "at"); (case xg => walk_at "none"); (case xe => rfl); (case xp => rfl))
  | ((with_reducible refine' x_callTy ?xo ?xa ?xg ?xr ?_ ?xe ?xp); (case xo => assumption); (case xr => walk_at "boot"); (case xa => walk_at "at"); (case xg => walk_at "none"); (case xe => rfl); (case xp => rfl))
  | ((with_reducible refine' x_callFn ?xo ?xa ?xg ?_ ?xe ?xp); (case xo => assumption); (case xg => with_reducible (first | exact Txt.mgcd (by assumption) | exact Txt.mlcm (by assumption))); (case xa => walk_at "at"); (case xe => rfl); (case xp => rfl))
  | ((with_reducible refine' x_bty ?xo ?xa ?xg ?xr ?_); (case xo => assumption); (case xr => walk_at "boot"); (case xa => walk_at "at"); (case xg => walk_at "none"))
  | ((with_reducible refine' x_cls ?xt ?xo ?xa ?_); (case xt => assumption); (case xo => assumption); (case xa => walk_at "at"))
  | ((with_reducible refine' x_clsQ ?xt ?xo ?xa ?_); (case xt => assumption); (case xo => assumption); (case xa => walk_at "at"))
  | ((with_reducible refine' x_make ?xo ?xa ?xg ?xr ?_ ?xe ?xp); (case xo => assumption); (case xa => walk_at "at"); (case xg => assumption); (case xr => walk_at "room"); (case xe => rfl); (case xp => rfl))
  | ((with_reducible refine' x_callG ?xo ?xa ?xg ?xr ?xd ?_ ?xe ?xp); (case xo => assumption); (case xa => walk_at "at"); (case xg => assumption); (case xr => walk_at "room"); (case xd => assumption); (case xe => rfl); (case xp => rfl))
  | with_reducible refine wss_nil ?_
  | refine ⟨_, _, _, _, rfl, (by assumption), ?_⟩
  | refine ⟨_, _, _, rfl, (by assumption), ?_⟩
  | refine wss_cons ?_)
local macro_rules | `(tactic| walk_at "gw") => `(tactic| repeat walk_at "n3")
local macro_rules | `(tactic| walk_at "go") => `(tactic| repeat (first | walk_at "n3" | ((with_reducible refine' wt_val ?_ ?xv); (case xv => intro _; rfl))))
/-! ### dicts by products, any values -/
def kg {β : Type} (v : β → V) (m : List (List Str × β)) : List (TKey × V) := m.map fun e => (ik e.1, v e.2)
theorem kg_len {β : Type} (v : β → V) (m : List (List Str × β)) : (kg v m).length = m.length := List.length_map ..
theorem valV_kg {β : Type} (v : β → V) (m : List (List Str × β)) (p : List Str) : valV (kg v m) (ik p) = (QM.lkO m p).map v := by
  induction m with
  | nil => rfl
  | cons q m ih =>
    have e : kg v (q :: m) = (ik q.1, v q.2) :: kg v m := rfl
    rw [e, QM.lkO_cons]
    by_cases h : q.1 = p
    · rw [if_pos h, valV_pos (by rw [h])]; rfl
    · rw [if_neg h, valV_neg (fun z => h (ik_inj z)), ih]
theorem putK_kg {β : Type} (v : β → V) (m : List (List Str × β)) (p : List Str) (b : β) : putK (kg v m) (ik p) (v b) = kg v (QM.pt m p b) := by
  have ea : ((kg v m).any fun kv => decide (kv.1 = ik p)) = (m.any fun q => decide (q.1 = p)) := by
    unfold kg
    rw [List.any_map]
    congr 1
    funext q
    simp only [Function.comp]
    by_cases h : q.1 = p
    · rw [decide_eq_true h, decide_eq_true (by rw [h])]
    · rw [decide_eq_false h, decide_eq_false fun z => h (ik_inj z)]
  unfold putK QM.pt
  rw [ea]
  split
  · unfold kg
    rw [List.map_map, List.map_map]
    refine List.map_congr_left fun q _ => ?_
    simp only [Function.comp]
    by_cases h : q.1 = p
    · rw [if_pos h, if_pos (by rw [h])]
    · rw [if_neg h, if_neg fun z => h (ik_inj z)]
  · unfold kg
    rw [List.map_append]
    rfl
theorem kg_get {β : Type} {v : β → V} {m : List (List Str × β)} {i : Nat} {k : TKey} {u : V} (h : (kg v m)[i]? = some (k, u)) : ∃ p, m[i]? = some p ∧ k = ik p.1 ∧ u = v p.2 := by
  obtain ⟨p, hp, e⟩ := map_get h
  exact ⟨p, hp, (Prod.mk.inj e).1.symm, (Prod.mk.inj e).2.symm⟩
/-! ### the law's terms -/
/-- what is known of a term's number -/
def TO (n d : Int) : Prop := n ≠ 0 ∧ 0 < d ∧ d ∣ 3000000000 ∧ n.natAbs < 2 ^ 94 ∧ Nat.gcd n.natAbs d.natAbs = 1 ∧ (rstr n.natAbs d = "1" ↔ (n.natAbs = 1 ∧ d = 1)) ∧ 0 < (rstr n.natAbs d).length
instance (n d : Int) : Decidable (TO n d) := by unfold TO; infer_instance
theorem to_all : ∀ x ∈ ([1, -1, 1, -1, 2, -3, 12, 10 ^ (12 : Int).toNat, -(10 ^ (28 : Int).toNat)] : List Int), ∀ y ∈ ([1, 1, 1, 2, 3, 12, 10 ^ (9 : Int).toNat] : List Int),
    (((Nat.gcd x.natAbs y.natAbs : Nat) : Int) ≠ 0 ∧ ((Nat.gcd x.natAbs y.natAbs : Nat) : Int).natAbs.log2 < 9000) ∧ TO (x.fdiv ((Nat.gcd x.natAbs y.natAbs : Nat) : Int)) (y.fdiv ((Nat.gcd x.natAbs y.natAbs : Nat) : Int)) := by decide +kernel
/-- a list of the law's terms: tuples (top, bottom, product) -/
def TlAt (L : LH) (xs : List V) (ts : List Tm) : Prop := Paired (fun v (t : Tm) => ∃ a q, v = V.ref a ∧ Mem a (.tup [.int t.2.1, .int t.2.2, .ref q]) L ∧ Mem q (.tup (t.1.map V.str)) L) xs ts
theorem TlAt.map {L L' : LH} {xs : List V} {ts : List Tm} (h : TlAt L xs ts) (k : ∀ a x, Mem a (.tup x) L → Mem a (.tup x) L') : TlAt L' xs ts := by
  induction h with
  | nil => exact .nil
  | cons r _ ih =>
    obtain ⟨a, q, e, m1, m2⟩ := r
    exact .cons ⟨a, q, e, k _ _ m1, k _ _ m2⟩ ih
theorem TlAt.ext {L L' : LH} {xs : List V} {ts : List Tm} (h : TlAt L xs ts) (e : Ext L L') : TlAt L' xs ts := h.map fun a x m => e _ _ m fun _ z => nomatch z
def srtd (p : List Str) : Prop := p.Pairwise fun x y => ¬ ltS y x
structure LtOk (ts : List Tm) : Prop where
  nd : (ts.map (·.1)).Nodup
  ln : ts.length ≤ 6
  nm : ∀ t ∈ ts, NmOk t.1
  so : ∀ t ∈ ts, srtd t.1
  ok : ∀ t ∈ ts, TO t.2.1 t.2.2
section
variable {P : Program} {w : World} {K : PySem.W.Frag} {mg : Str → Option Value} {base : Heap}
def pLTerms : Pre := fun vs L Kk => ∃ (r s : Addr) (ns : List Str) (a b : Int) (F : HO → LH), vs = [.ref r, .ref s] ∧ Hole r (rl a b) L F ∧ (∀ o, Mem s (.lst (ns.map V.str)) (F o)) ∧ 0 < ns.length ∧ ns.length < 1000 ∧ (∀ x ∈ ns, Nm x) ∧
  ∀ (l : Addr) (xs : List V) (ts : List Tm) (J : LH) (a' b' : Int), Mem l (.lst xs) J → TlAt J xs ts → LtOk ts → Kk (.ref l) (J ++ F (rl a' b'))
abbrev nLTerms : List Str := ["_law_rng_here", "_law_names_here", "_law_found", "_law_turn", "_law_product", "_law_top", "_law_bottom", "_law_common_here", "_law_k"]
abbrev vLTerms : List Str := ["_law_rng_here", "_law_names_here", "_law_found", "_law_turn", "_law_product", "_law_top", "_law_bottom", "_law_common_here"]
theorem scLTerms : FnScope nLTerms ["_law_rng_here", "_law_names_here"] (defScope sLTerms) := ⟨rfl, rfl, rfl, by decide +kernel, rfl, by decide +kernel, by decide +kernel⟩
/-- the value's place -/
abbrev vw : Addr × Int × Int → V := fun b => .ref b.1
theorem okLTerms {f C Q : Addr} {fd : FuncData} (F : Fun K "_law_terms" "_law_terms" sLTerms f fd) (T : Txt K mg C Q) (GD : GFn P w K mg base "_law_draw" 1 ["_law_rng_here", "_law_many"] [] pDraw) (CH : GFn P w K mg base "_law_choice" 2 ["_law_rng_here", "_law_some"] [] pChoice)
    (CM : GFn P w K mg base "_law_common" 1 ["_law_one", "_law_other"] [] pCommon) : FnOk P w K mg base CX0 3 f fd ["_law_rng_here", "_law_names_here"] (SpL pLTerms) := by
  refine fnXCC (Vn := vLTerms) (Ln := ["_law_turn", "_law_product", "_law_top", "_law_bottom", "_law_common_here"]) (Gn := ["range", "_law_draw", "tuple", "sorted", "_law_choice", "_law_common"]) F scLTerms (by decide +kernel) (fun vs L Kk h => ?_) (fun X e1 e2 e3 e4 e5 hX hfn hr vs L Kk h => ?_)
  · obtain ⟨r, s, ns, a, b, G, rfl, _⟩ := h
    rfl
  · subst e1 e2 e3 e4 e5
    obtain ⟨r, s, ns, a, b, G, rfl, hh, mt, n0, n1, hns, k⟩ := h
    have zr : X.mg "range" = none := by walk_at "none"
    refine wss_cons (x_setC hX hfn (by walk_at "at") (by decide +kernel) (we_dnewT fun fd => ?_))
    refine wss_cons (ws_forW hX.calm hX.pas (wi_range (hX.glo (by walk_at "at")).1 zr ?_))
    walk_at "go"
    refine ⟨r, _, a, b, _, rfl, .tail hh, by decide, by decide, fun d a1 b1 d0 d1 => ?_⟩
    walk_at "go"
    refine ⟨d, rfl, by omega, by omega, fun i σ' L' => ∃ (m : List (List Str × (Addr × Int × Int))) (J : LH) (a' b' : Int) (u1 u2 u3 u4 u5 : Option V), m.length ≤ i ∧ (m.map (·.1)).Nodup ∧ (∀ e ∈ m, NmOk e.1 ∧ srtd e.1 ∧ TO e.2.2.1 e.2.2.2 ∧ Mem e.2.1 (.tup [.int e.2.2.1, .int e.2.2.2]) J) ∧
      σ' = [some (.ref r), some (.ref s), some (.ref fd), u1, u2, u3, u4, u5, none] ∧ L' = (fd, .dT (kg vw m)) :: (J ++ G (rl a' b')), ?_, fun _ _ _ _ _ => True.intro, ?_, ?_⟩
    · exact ⟨[], [], a1, b1, none, none, none, none, none, Nat.le_refl _, List.nodup_nil, fun _ h => (List.not_mem_nil h).elim, rfl, rfl⟩
    · rintro i v σ' L' L'' hi ⟨m, J, a2, b2, u1, u2, u3, u4, u5, ml, mnd, hm, rfl, rfl⟩ ⟨rfl, rfl⟩
      have hi6 : i < 6 := by omega
      refine x_tgt (by assumption) (by walk_at "at") (by walk_at "at") ?_
      refine wss_cons (x_set (by assumption) (by walk_at "at") (by walk_at "at") ?_)
      refine x_callTy (by assumption) (by walk_at "at") (by walk_at "none") boot_tuple (wa_cons (x_callB (by assumption) (by walk_at "at") (by walk_at "none") boot_sorted (wa_cons ?_ rfl) rfl rfl) rfl) rfl rfl
      refine x_lc [("_law_k", 8)] hX (by decide +kernel) (wi_range (hX.glo (by walk_at "at")).1 zr ?_)
      walk_at "go"
      refine ⟨r, _, a2, b2, _, rfl, .tail ((hh.again' _).app J), by decide, by decide, fun sz a3 b3 s0 s1 => ?_⟩
      walk_at "go"
      refine ⟨sz, rfl, by omega, by omega, fun D => ⟨fun i L' => ∃ (ks : List Str) (a' b' : Int), ks.length = i ∧ (∀ c ∈ ks, c ∈ ns) ∧ L' = (D, .lst (ks.map V.str)) :: (fd, .dT (kg vw m)) :: (J ++ G (rl a' b')), ?_, fun _ _ _ _ => True.intro, ?_, ?_⟩⟩
      · exact ⟨[], a3, b3, rfl, fun _ h => (List.not_mem_nil h).elim, rfl⟩
      · rintro i v L' L'' hi ⟨ks, a4, b4, hl, hc, rfl⟩ ⟨rfl, rfl⟩
        intro s' H' Ca cl fp
        have hB := hX.blk (Vb := ["_law_k", "_law_names_here", "_law_rng_here"]) (Lb := ["_law_k"]) (Gb := ["_law_choice"]) (scope := ⟨.function, [(".0", .local), ("_law_k", .local), ("_law_choice", .globalImplicit), ("_law_names_here", .free), ("_law_rng_here", .free)], false, false, []⟩) (by decide +kernel)
        refine x_tgt (hB s' H' Ca cl fp) (by walk_at "at") (by walk_at "at") ⟨rfl, fun s' H' Ca cl fp => ?_⟩
        have hX1 := hB s' H' Ca cl fp
        refine x_call hX1 (by walk_at "at") CH (by exact hr.mono (by decide)) ?_
        walk_at "go"
        refine ⟨r, _, a4, b4, _, rfl, .tail (.tail ((hh.again' _).app J)), .inl ⟨s, _, rfl, fun o => .tail (.tail ((mt o).app J)), by rw [List.length_map]; exact n0, by rw [List.length_map]; exact n1, fun x a5 b5 hx => ?_⟩⟩
        obtain ⟨y, hy, rfl⟩ := List.mem_map.mp hx
        refine ⟨_, _, .head, ?_, _, Sub.refl _, ks ++ [y], a5, b5, by rw [List.length_append, hl]; rfl, fun c hcc => ?_, ?_⟩
        · rw [List.length_map]
          have : i < sz.toNat := hi
          exact len_lt (by omega)
        · rcases List.mem_append.mp hcc with h | h
          · exact hc c h
          · rw [List.mem_singleton.mp h]; exact hy
        · rw [List.map_append]
          rfl
      rintro L' ⟨ks, a4, b4, hl, hc, rfl⟩
      have hl5 : ks.length ≤ 4 := by omega
      walk_at "go"
      refine wc_sortedS (.of .head) (by omega) fun ys sp hp hs => ?_
      walk_at "go"
      refine wc_tupOf (.of .head) fun tq => ?_
      have ynm : NmOk ys := ⟨by rw [hp.length_eq]; omega, fun x hx => hns x (hc x (hp.mem_iff.mp hx))⟩
      have yso : srtd ys := nlt_of_sorted hs
      refine wss_sub' (L' := (tq, .tup (ys.map V.str)) :: (fd, .dT (kg vw m)) :: (J ++ G (rl a4 b4))) (Sub.of_sublist (.cons₂ _ (.cons _ (.cons _ (.refl _))))) ?_
      walk_at "go"
      repeat (first | walk_at "n3" | refine wo_pow ⟨by decide, by decide, by decide⟩ ?_)
      refine ⟨show 9 ≤ sizeLine from len_line, fun p1 => ?_⟩
      walk_at "go"
      refine ⟨r, _, a4, b4, _, rfl, .tail (.tail (.tail ((hh.again' _).app J))), .inl ⟨p1, _, rfl, fun o => .head, by decide, by decide, fun x a5 b5 hx => ?_⟩⟩
      obtain ⟨tp, htp, rfl⟩ := List.mem_map.mp (show x ∈ ([1, -1, 1, -1, 2, -3, 12, 10 ^ (12 : Int).toNat, -(10 ^ (28 : Int).toNat)] : List Int).map V.int from hx)
      refine wss_sub' (L' := (tq, .tup (ys.map V.str)) :: (fd, .dT (kg vw m)) :: (J ++ G (rl a5 b5))) (Sub.of_sublist (.cons _ (.refl _))) ?_
      walk_at "go"
      repeat (first | walk_at "n3" | refine wo_pow ⟨by decide, by decide, by decide⟩ ?_)
      refine ⟨show 7 ≤ sizeLine from len_line, fun p2 => ?_⟩
      walk_at "go"
      refine ⟨r, _, a5, b5, _, rfl, .tail (.tail (.tail ((hh.again' _).app J))), .inl ⟨p2, _, rfl, fun o => .head, by decide, by decide, fun x a6 b6 hx => ?_⟩⟩
      obtain ⟨bt, hbt, rfl⟩ := List.mem_map.mp (show x ∈ ([1, 1, 1, 2, 3, 12, 10 ^ (9 : Int).toNat] : List Int).map V.int from hx)
      refine wss_sub' (L' := (tq, .tup (ys.map V.str)) :: (fd, .dT (kg vw m)) :: (J ++ G (rl a6 b6))) (Sub.of_sublist (.cons _ (.refl _))) ?_
      obtain ⟨⟨g0, gl⟩, hto⟩ := to_all tp htp bt hbt
      walk_at "go"
      refine ⟨tp, bt, rfl, ?_⟩
      generalize ((Nat.gcd tp.natAbs bt.natAbs : Nat) : Int) = g at g0 gl hto
      refine wss_cons (ws_dputT (hu1 hr) ?_)
      walk_at "go"
      refine wo_fdivZ ⟨g0, gl⟩ ?_
      walk_at "go"
      refine wo_fdivZ ⟨g0, gl⟩ ?_
      walk_at "go"
      refine ⟨show 2 ≤ sizeLine from len_line, fun tv => ?_⟩
      walk_at "go"
      refine ⟨fd, tq, kg vw m, ik ys, _, rfl, rfl, .tail (by rw [ik_kV]; exact .head), .tail (.tail .head), by rw [kg_len]; exact len_lt (by omega), ?_⟩
      refine wss_nil ⟨(fd, .dT (kg vw (QM.pt m ys (tv, tp.fdiv g, bt.fdiv g)))) :: ((tv, .tup [.int (tp.fdiv g), .int (bt.fdiv g)]) :: J ++ G (rl a6 b6)), ?_, _, _, a6, b6, _, _, _, _, _, Nat.le_trans (QM.pt_len ..) (by omega), QM.nodup_pt mnd _ _, fun e he => ?_, rfl, rfl⟩
      · rw [show (V.ref tv) = vw (tv, tp.fdiv g, bt.fdiv g) from rfl, putK_kg]
        intro H hH
        have h1 : Holds ((tv, .tup [.int (tp.fdiv g), .int (bt.fdiv g)]) :: (fd, .dT (kg vw (QM.pt m ys (tv, tp.fdiv g, bt.fdiv g)))) :: (J ++ G (rl a6 b6))) H := Sub.of_sublist (.cons₂ _ (.cons _ (.refl _))) H hH
        refine ⟨⟨fun q hq e => ?_, ?_, h1.nd.2.2⟩, fun a u hm => h1.at_ a u ?_⟩
        · rcases List.mem_cons.mp hq with z | hq
          · subst z
            have := h1.nd.1 (fd, _) List.mem_cons_self e.symm
            have z2 := (Prod.mk.inj this.1).2
            cases z2
          · exact h1.nd.2.1 q hq e
        · exact fun q hq e => h1.nd.1 q (List.mem_cons_of_mem _ hq) e
        · rcases List.mem_cons.mp hm with z | hm
          · rw [z]; exact List.mem_cons_of_mem _ List.mem_cons_self
          · rcases List.mem_cons.mp hm with z | hm
            · rw [z]; exact List.mem_cons_self
            · exact List.mem_cons_of_mem _ (List.mem_cons_of_mem _ hm)
      · rcases QM.pt_mem he with z | he
        · rw [z]
          exact ⟨ynm, yso, hto, .head⟩
        · obtain ⟨h1, h2, h3, h4⟩ := hm e he
          exact ⟨h1, h2, h3, .tail h4⟩
    · rintro σ' L' ⟨m, J, a2, b2, u1, u2, u3, u4, u5, ml, mnd, hm, rfl, rfl⟩
      have hl6 : m.length ≤ 6 := by omega
      have hf : Hole fd (.dT (kg vw m)) ((fd, .dT (kg vw m)) :: (J ++ G (rl a2 b2))) (fun u => (fd, u) :: (J ++ G (rl a2 b2))) := .head
      refine wss_cons (ws_ret (we_lock hf True.intro fun od => ?_))
      refine x_lc [("_law_product", 4)] hX (by decide +kernel) (wi_keysT ?_)
      walk_at "go"
      refine ⟨fd, od, kg vw m, rfl, .head, fun R => ⟨fun i L' => ∃ (J2 : LH) (acc : List V), L' = J2 ++ (R, .lst acc) :: (fd, .frz od (.dT (kg vw m))) :: (J ++ G (rl a2 b2)) ∧ TlAt J2 acc ((m.map fun e => ((e.1, e.2.2) : Tm)).take i), ⟨[], [], rfl, .nil⟩, ?_, ?_, ?_⟩⟩
      · rintro i L' _ ⟨J2, acc, rfl, _⟩
        exact (Mem.tail .head).app J2
      · rintro i v L' L'' hi ⟨J2, acc, rfl, hp⟩ ⟨kk, uu, q, hk, rfl, rfl⟩
        intro s' H' Ca cl fp
        obtain ⟨e, hei, rfl, rfl⟩ := kg_get hk
        have hem := List.mem_of_getElem? hei
        obtain ⟨h1, h2, h3, h4⟩ := hm e hem
        have hB := hX.blk (Vb := ["_law_product", "_law_found"]) (Lb := ["_law_product"]) (Gb := []) (scope := ⟨.function, [(".0", .local), ("_law_product", .local), ("_law_found", .free)], false, false, []⟩) (by decide +kernel)
        refine x_tgt (hB s' H' Ca cl fp) (by walk_at "at") (by walk_at "at") ⟨rfl, fun s' H' Ca cl fp => ?_⟩
        have hX' := hB s' H' Ca cl fp
        have dg := DGL.t (a := fd) (b := q) (ik e.1) (L := (q, HO.tup (List.map kV (ik e.1))) :: (J2 ++ (R, .lst acc) :: (fd, .frz od (.dT (kg vw m))) :: (J ++ G (rl a2 b2)))) (RdL.fz (.tail ((Mem.tail .head).app J2))) .head
        rw [valV_kg, QM.lkO_mem mnd hem] at dg
        have mv : Mem e.2.1 (.tup [.int e.2.2.1, .int e.2.2.2]) ((q, HO.tup (List.map kV (ik e.1))) :: (J2 ++ (R, .lst acc) :: (fd, .frz od (.dT (kg vw m))) :: (J ++ G (rl a2 b2)))) := .tail (Mem.app (.tail (.tail (h4.sl (List.sublist_append_left _ _)))) J2)
        refine we_tup (wa_cons (we_ixT (X := X.blk s' H' _ (compEnvC _ cl Ca X.env) fp) (we_dget (X := X.blk s' H' _ (compEnvC _ cl Ca X.env) fp) (hu1 hr) ?_)) rfl)
        walk_at "go"
        refine ⟨fd, .ref e.2.1, rfl, dg, ?_⟩
        walk_at "go"
        refine ⟨e.2.1, _, _, _, rfl, rfl, .of mv, atI0, ?_⟩
        refine wa_cons (we_ixT (X := X.blk s' H' _ (compEnvC _ cl Ca X.env) fp) (we_dget (X := X.blk s' H' _ (compEnvC _ cl Ca X.env) fp) (hu1 hr) ?_)) rfl
        walk_at "go"
        refine ⟨fd, .ref e.2.1, rfl, dg, ?_⟩
        walk_at "go"
        refine ⟨e.2.1, _, _, _, rfl, rfl, .of mv, atI1, ?_⟩
        walk_at "go"
        refine ⟨show 3 ≤ sizeLine from len_line, fun t => ?_⟩
        have len : acc.length = ((m.map fun e => ((e.1, e.2.2) : Tm)).take i).length := Paired.length hp
        refine ⟨acc, _, .tail (.tail (Hole.head.app J2)), ?_, _, Sub.refl _, (t, _) :: (q, _) :: J2, acc ++ [.ref t], rfl, ?_⟩
        · rw [len, List.length_take, List.length_map]
          exact len_lt (by omega)
        · rw [take_succ (map_getI (f := fun e : List Str × (Addr × Int × Int) => ((e.1, e.2.2) : Tm)) hei)]
          exact paired_snoc (hp.map fun a x m => .tail (.tail m)) ⟨t, q, rfl, .head, .tail (by rw [ik_kV]; exact .head)⟩
      · rintro L' ⟨J2, acc, rfl, hp⟩
        have e : (m.map fun e => ((e.1, e.2.2) : Tm)).take (kg vw m).length = m.map fun e => ((e.1, e.2.2) : Tm) := List.take_of_length_le (by rw [kg_len, List.length_map]; exact Nat.le_refl _)
        rw [e] at hp
        refine ⟨fun u => J2 ++ (R, .lst acc) :: (fd, u) :: (J ++ G (rl a2 b2)), (Hole.head.tail).app J2, ?_⟩
        have e2 : J2 ++ (R, .lst acc) :: (fd, .dT (kg vw m)) :: (J ++ G (rl a2 b2)) = (J2 ++ (R, .lst acc) :: (fd, .dT (kg vw m)) :: J) ++ G (rl a2 b2) := by simp
        show (EndOf Kk).rt (V.ref R) (J2 ++ (R, .lst acc) :: (fd, .dT (kg vw m)) :: (J ++ G (rl a2 b2)))
        rw [e2]
        refine ret_sub (k R acc _ _ a2 b2 ((Mem.head).app J2) (hp.map fun a x mm => mm.sl (List.sublist_append_left _ _)) ⟨?_, ?_, ?_, ?_, ?_⟩) (Sub.refl _)
        · rw [List.map_map]; exact mnd
        · rw [List.length_map]; exact hl6
        · intro t ht
          obtain ⟨e, he, rfl⟩ := List.mem_map.mp ht
          exact (hm e he).1
        · intro t ht
          obtain ⟨e, he, rfl⟩ := List.mem_map.mp ht
          exact (hm e he).2.1
        · intro t ht
          obtain ⟨e, he, rfl⟩ := List.mem_map.mp ht
          exact (hm e he).2.2.1
end
end K15
set_option Elab.async false
set_option linter.all false
set_option maxRecDepth 100000
set_option maxHeartbeats 4000000
namespace K15
open PySem L2 N3
local macro_rules | `(tactic| walk_at "at") => `(tactic| with_reducible (repeat (first | exact At.head | apply At.tail)))
local macro_rules | `(tactic| walk_at "mem") => `(tactic| with_reducible (repeat (first | exact Mem.head | apply Mem.tail)))
local macro_rules | `(tactic| walk_at "boot") => `(tactic| with_reducible (first | exact boot_isi | exact boot_max | exact boot_min | exact boot_abs | exact boot_len | exact boot_repr | exact boot_divmod | exact boot_all | exact boot_sorted | exact boot_int | exact boot_bool | exact boot_str | exact boot_list | exact boot_tuple))
local macro_rules | `(tactic| walk_at "room") => `(tactic| (first | assumption | exact Room.mono (by assumption) (by decide)))
local macro_rules | `(tactic| walk_at "none") => `(tactic| (refine Txt.bn (by assumption) _ ?xz; (case xz => with_reducible (repeat (first | exact InS.head | apply InS.tail)))))
local macro_rules | `(tactic| walk_at "n3") => `(tactic| first
  | with_reducible refine ws_ret ?_
  | with_reducible refine we_int ?_
  | with_reducible refine we_str ?_
  | with_reducible refine we_bool ?_
  | with_reducible refine we_none ?_
  | ((with_reducible refine' x_name ?xo ?xa ?xb ?xc ?_); (case xo => assumption); (case xa => walk_at "at"); (case xb => walk_at "at"); (case xc => rfl))
  | ((with_reducible refine' f_tops ?xt ?_ ?xh); (case xt => assumption); (case xh => rfl))
  | ((with_reducible refine' f_qbot ?xt ?_ ?xh); (case xt => assumption); (case xh => rfl))
  | ((with_reducible refine' we_prop ?xg ?xr ?_ ?xh); (case xg => assumption); (case xr => walk_at "room"); (case xh => rfl))
  | with_reducible refine we_bin ?_
  | ((with_reducible refine wo_mulW ?xm ?_); (case xm => exact Sm.cm (by assumption) (by assumption)))
  | with_reducible refine wo_add ?_
  | with_reducible refine wo_sub ?_
  | with_reducible refine wo_lt ?_
  | with_reducible refine wo_gt ?_
  | with_reducible refine wo_le ?_
  | with_reducible refine wo_ge ?_
  | with_reducible refine wu_neg ?_
  | ((with_reducible refine we_cmp ?xh ?_); (case xh => exact nomark _))
  | ((with_reducible refine wt_cmp ?xh ?_); (case xh => exact nomark _))
  | ((with_reducible refine wa_cons ?_ ?xh); (case xh => rfl))
  | with_reducible refine wa_nil ?_
  | with_reducible refine we_and ?_
  | with_reducible refine we_or ?_
  | with_reducible refine we_not ?_
  | with_reducible refine wt_not ?_
  | with_reducible refine we_un ?_
  | with_reducible refine we_one ?_
  | with_reducible refine wt_ww (ww_or ?_)
  | with_reducible refine wt_ww (ww_and ?_)
  | with_reducible refine ww_or ?_
  | with_reducible refine ww_and ?_
  | with_reducible refine ww_or1 ?_
  | with_reducible refine ww_and1 ?_
  | with_reducible refine we_ifExp ?_
  | with_reducible refine ws_if ?_
  | with_reducible refine ws_pass ?_
  | with_reducible refine we_tup ?_
  | with_reducible refine we_lst ?_
  | ((with_reducible refine' x_set ?xo ?xa ?xb ?_ ?xs); (case xo => assumption); (case xa => walk_at "at"); (case xb => walk_at "at"); (case xs => rfl))
  | ((with_reducible refine' x_setF ?_ ?xs); (case xs => rfl))
  | ((with_reducible refine' x_call ?xo ?xa ?xg ?xr ?_ ?xe ?xp); (case xo => assumption); (case xa => walk_at "at"); (case xg => assumption); (case xr => walk_at "room"); (case xe => rfl); (case xp => rfl))
  | ((with_reducible refine' x_callB ?xo ?xa ?xg ?xr ?_ ?xe ?xp); (case xo => assumption); (case xr => walk_at "boot"); (case xa => walk_at "at"); (case xg => walk_at "none"); (case xe => rfl); (case xp => rfl))
  | ((with_reducible refine' x_callTy ?xo ?xa ?xg ?xr ?_ ?xe ?xp); (case xo => assumption); (case xr => walk_at "boot"); (case xa => walk_at "at"); (case xg => walk_at "none"); (case xe => rfl); (case xp => rfl))
  | ((with_reducible refine' x_callFn ?xo ?xa ?xg ?_ ?xe ?xp); (case xo => assumption); (case xg => with_reducible (first | exact Txt.mgcd (by assumption) | exact Txt.mlcm (by assumption))); (case xa => walk_at "at"); (case xe => rfl); (case xp => rfl))
  | ((with_reducible refine' x_bty ?xo ?xa ?xg ?xr ?_); (case xo => assumption); (case xr => walk_at "boot"); (case xa => walk_at "at"); (case xg => walk_at "none"))
  | ((with_reducible refine' x_cls ?xt ?xo ?xa ?_); (case xt => assumption); (case xo => assumption); (case xa => walk_at "at"))
  | ((with_reducible refine' x_clsQ ?xt ?xo ?xa ?_); (case xt => assumption); (case xo => assumption); (case xa => walk_at "at"))
  | ((with_reducible refine' x_make ?xo ?xa ?xg ?xr ?_ ?xe ?xp); (case xo => assumption); (case xa => walk_at "at"); (case xg => assumption); (case xr => walk_at "room"); (case xe => rfl); (case xp => rfl))
  | ((with_reducible refine' x_callG ?xo ?xa ?xg ?xr ?xd ?_ ?xe ?xp); (case xo => assumption); (case xa => walk_at "at"); (case xg => assumption); (case xr => walk_at "room"); (case xd => assumption); (case xe => rfl); (case xp => rfl))
  | with_reducible refine wss_nil ?_
  | refine ⟨_, _, _, _, rfl, (by assumption), ?_⟩
  | refine ⟨_, _, _, rfl, (by assumption), ?_⟩
  | refine wss_cons ?_)
local macro_rules | `(tactic| walk_at "gw") => `(tactic| repeat walk_at "n3")
local macro_rules | `(tactic| walk_at "go") => `(tactic| repeat (first | walk_at "n3" | ((with_reducible refine' wt_val ?_ ?xv); (case xv => intro _; rfl))))
/-! ### texts put together -/
theorem fold_app (sep : Str) : ∀ (xs : List Str) (a b : Array Nat), xs.foldl (fun acc p => acc ++ sep.cps ++ p.cps) (a ++ b) = a ++ xs.foldl (fun acc p => acc ++ sep.cps ++ p.cps) b
  | [], a, b => rfl
  | x :: xs, a, b => by
    rw [List.foldl_cons, List.foldl_cons, Array.append_assoc, Array.append_assoc, fold_app sep xs a, ← Array.append_assoc]
theorem join_cons (sep x y : Str) (ys : List Str) : PySem.Txt.join sep (x :: y :: ys) = x ++ sep ++ PySem.Txt.join sep (y :: ys) := by
  show (⟨(y :: ys).foldl (fun acc p => acc ++ sep.cps ++ p.cps) x.cps⟩ : Str) = ⟨x.cps ++ sep.cps ++ ys.foldl (fun acc p => acc ++ sep.cps ++ p.cps) y.cps⟩
  rw [List.foldl_cons, fold_app]
theorem join_one (sep x : Str) : PySem.Txt.join sep [x] = x := rfl
theorem join_eq (sep : Str) : ∀ xs : List Str, PySem.Txt.join sep xs = Str.join sep xs
  | [] => rfl
  | [x] => rfl
  | x :: y :: ys => by
    rw [join_cons, join_eq sep (y :: ys)]
    rfl
theorem sapp_assoc (a b c : Str) : a ++ b ++ c = a ++ (b ++ c) := str_ext (by rw [app_cps, app_cps, app_cps, app_cps, List.append_assoc])
theorem emp_l (a : Str) : ("" : Str) ++ a = a := str_ext (by rw [app_cps]; rfl)
theorem emp_r (a : Str) : a ++ ("" : Str) = a := str_ext (by rw [app_cps]; exact List.append_nil _)
theorem join0_two : ∀ (W : List Str) (a b : Str), PySem.Txt.join "" (W ++ [a, b]) = PySem.Txt.join "" W ++ a ++ b
  | [], a, b => by
    rw [List.nil_append, join_cons, join_one, emp_r]
    show a ++ b = ("" : Str) ++ a ++ b
    rw [emp_l]
  | [x], a, b => by
    rw [List.singleton_append, join_cons, join_cons, join_one, join_one, emp_r, emp_r, sapp_assoc]
  | x :: y :: W, a, b => by
    rw [List.cons_append, List.cons_append, join_cons, ← List.cons_append, join0_two (y :: W) a b, join_cons]
    simp only [sapp_assoc]
/-- the words of a list of terms, the greatest first -/
def tws : Bool → List Tm → List Str
  | _, [] => []
  | f, t :: l => stx (decide (t.2.1 < 0)) f :: ttx t.2.1.natAbs t.2.2 t.1 :: tws false l
theorem tws_snoc (t : Tm) : ∀ (l : List Tm) (f : Bool), tws f (l ++ [t]) = tws f l ++ [stx (decide (t.2.1 < 0)) (f && l.isEmpty), ttx t.2.1.natAbs t.2.2 t.1]
  | [], f => by simp [tws]
  | q :: l, f => by
    show _ :: _ :: tws false (l ++ [t]) = _
    rw [tws_snoc t l false]
    simp [tws]
/-- the text of a list of terms, the greatest first -/
def txt (D : List Tm) : Str := if D = [] then "0" else PySem.Txt.join "" (tws true D)
/-- a list of terms as repr shows it -/
def rpt (A : List Tm) : Str := ("Question(" : Str) ++ listText (A.map fun t => shT t.2.1 t.2.2 t.1) ++ ")"
theorem shT_eq (n d : Int) (p : List Str) : shT n d p = ("(Ratio(" : Str) ++ itx n ++ ", " ++ itx d ++ "), " ++ (tpD p).shown ++ ")" := by
  have e1 : ("(Ratio(" : Str) = ("(" : Str) ++ "Ratio(" := by decide +kernel
  have e2 : ("), " : Str) = (")" : Str) ++ ", " := by decide +kernel
  unfold shT tupleText rrep
  rw [e1, e2]
  show ("(" : Str) ++ (("Ratio(" : Str) ++ itx n ++ ", " ++ itx d ++ ")" ++ ", " ++ (tpD p).shown) ++ (")" : Str) = _
  simp only [sapp_assoc]
theorem rpt_eq (A : List Tm) : rpt A = ("Question([" : Str) ++ PySem.Txt.join ", " (A.map fun t => shT t.2.1 t.2.2 t.1) ++ "])" := by
  have e1 : ("Question([" : Str) = ("Question(" : Str) ++ "[" := by decide +kernel
  have e2 : ("])" : Str) = ("]" : Str) ++ ")" := by decide +kernel
  unfold rpt
  rw [listText_eq_join, e1, e2, join_eq]
  simp only [sapp_assoc]
theorem ttx_is {n d : Int} {p : List Str} (h : TO n d) : ttx n.natAbs d p = if p = [] then rstr n.natAbs d else if rstr n.natAbs d = "1" then PySem.Txt.join "*" p else rstr n.natAbs d ++ "*" ++ PySem.Txt.join "*" p := by
  have h1 := h.2.2.2.2.2.1
  unfold ttx
  by_cases hp : p = []
  · rw [if_pos hp, if_neg (fun z => z.1 hp), hp, join_one]
  · rw [if_neg hp]
    by_cases ho : rstr n.natAbs d = "1"
    · obtain ⟨a, b⟩ := h1.mp ho
      rw [if_pos ho, if_pos ⟨hp, by omega, b⟩]
    · rw [if_neg ho, if_neg (fun z => ho (h1.mpr ⟨by omega, z.2.2⟩))]
      cases p with
      | nil => exact absurd rfl hp
      | cons y ys => rw [join_cons]
theorem ttx_pos {n d : Int} {p : List Str} (h : TO n d) (hp : NmOk p) : 0 < (ttx n.natAbs d p).length := by
  have h2 := h.2.2.2.2.2.2
  rw [ttx_is h]
  split
  · exact h2
  · rename_i np
    split
    · cases p with
      | nil => exact absurd rfl np
      | cons y ys =>
        have hy := hp.2 y List.mem_cons_self
        have l1 : 1 ≤ y.length := by
          unfold Nm isNm at hy
          simp only [Bool.and_eq_true, decide_eq_true_eq] at hy
          exact hy.1.1.1
        cases ys with
        | nil => rw [join_one]; exact l1
        | cons z zs => rw [join_cons, len_app, len_app]; omega
    · rw [len_app, len_app]; omega
theorem to_lg {n d : Int} (h : TO n d) : n.natAbs.log2 < 1920 ∧ d.natAbs.log2 < 1920 ∧ ((n.natAbs : Nat) : Int).natAbs.log2 < 1920 := by
  have s1 : Sm 94 n := h.2.2.2.1
  have s2 : Sm 32 d := by
    have := Int.le_of_dvd (by decide) h.2.2.1
    have := h.2.1
    show d.natAbs < 2 ^ 32
    omega
  exact ⟨s1.lg, s2.lg, s1.abs.lg⟩
theorem we_joinT {X : Cx} {o e : Expr} {σ : L2.St} {L : LH} {K : V → LH → Prop} {apos cpos : Pos} (h : N3.WE X o σ L fun x L1 => ∃ z, x = .str z ∧ N3.WE X e σ L1 fun y L2 => ∃ q ys, y = .ref q ∧ SqTL X.K q (List.map V.str ys) L2 ∧ (ys.map (·.length)).sum + ys.length * z.length ≤ 16777216 ∧ K (.str (PySem.Txt.join z ys)) L2)
    (hs : starEach [e] X.env = [(false, eval e X.env)] := by rfl) (hbase : attributeBase o "join" X.env (eval o X.env) = eval o X.env := by rfl) (hline : (apos.endLine == cpos.line) = true := by rfl) : N3.WE X (.Call (.Attribute o "join" apos) [e] [] cpos) σ L K := by
  refine we_of (pe_join pe_sem pe_sem hs hbase hline) fun _ hL => e_then h hL fun x L1 H1 h1 ⟨z, ex, k1⟩ => ?_
  subst ex
  exact ⟨⟨z, rfl⟩, e_then k1 h1 fun y L2 H2 h2 ⟨q, ys, ey, sq, hl, k⟩ => by
    subst ey
    exact ⟨z, q, ys, rfl, rfl, .inr (sq H2 h2), hl, L2, h2, k⟩⟩
theorem eqv_tup_nil (p : List Str) : PyData.eqv (tpD p) (tpD []) = decide (p = []) := eqv_tp p []
theorem dp_tup {K : PySem.W.Frag} {L : LH} {q : Addr} {p : List Str} (m : Mem q (.tup (p.map V.str)) L) : DpL K (.ref q) (tpD p) L := fun H hL => by
  have all : ∀ (p : List Str), DpAll K H (p.map V.str) (p.map PyData.str) := fun p => by
    induction p with
    | nil => exact .nil
    | cons x p ih => exact .cons (.str x) ih
  exact .tup (SqT.of (hL.get m)) (all p)
section
variable {P : Program} {w : World} {K : PySem.W.Frag} {mg : Str → Option Value} {base : Heap}
/-! _law_plain -/
def pPlain : Pre := fun vs L Kk => ∃ n d q p, vs = [.int n, .int d, .ref q] ∧ Mem q (.tup (List.map V.str p)) L ∧ TO n d ∧ NmOk p ∧ Kk (.str (ttx n.natAbs d p)) L
theorem scPlain : FnScope ["_law_top", "_law_bottom", "_law_product", "_law_number"] ["_law_top", "_law_bottom", "_law_product"] (defScope sPlain) := ⟨rfl, rfl, rfl, by decide +kernel, rfl, by decide +kernel, by decide +kernel⟩
theorem nm_cp {x : Str} (h : Nm x) : ∀ c ∈ x.cps.toList, c < 0x110000 := by
  have all : ∀ c ∈ CHARS.cps.toList, c < 0x110000 := by decide +kernel
  unfold Nm isNm at h
  simp only [Bool.and_eq_true, decide_eq_true_eq, List.all_eq_true] at h
  exact fun c hc => all c (h.2 c hc)
theorem shaped_tp {p : List Str} (hp : ∀ x ∈ p, Nm x) : SeqAt.shaped (tpD p) = true := by
  have dep := depth_txts p
  have all : ∀ p : List Str, (∀ x ∈ p, Nm x) → PyData.canLayAll0 (p.map PyData.str) = true := fun p => by
    induction p with
    | nil => intro _; simp [PyData.canLayAll0]
    | cons x p ih =>
      intro h
      rw [List.map_cons, PyData.canLayAll0, ih fun y hy => h y (List.mem_cons_of_mem _ hy)]
      simp only [PyData.canLay0, Bool.and_true]
      have hx := h x List.mem_cons_self
      unfold PyData.strOk
      simp only [Array.all_eq_true_iff_forall_mem, decide_eq_true_eq]
      intro c hc
      exact nm_cp hx c (by simpa using hc)
  unfold SeqAt.shaped
  rw [Bool.and_eq_true]
  refine ⟨?_, decide_eq_true ?_⟩
  · simp only [tpD, PyData.canLay0]
    exact all p hp
  · simp only [tpD, PyData.depth]
    omega
theorem okPlain {f C Q : Addr} {fd : FuncData} (F : Fun K "_law_plain" "_law_plain" sPlain f fd) (T : Txt K mg C Q) : FnOk P w K mg base CX0 1 f fd ["_law_top", "_law_bottom", "_law_product"] (SpL pPlain) := by
  refine fnX (Gn := ["str", "abs"]) F scPlain (by decide +kernel) (fun vs L Kk h => ?_) (fun X e1 e2 e3 e4 e5 hX hr vs L Kk h => ?_)
  · obtain ⟨n, d, q, p, rfl, _⟩ := h
    rfl
  · subst e1 e2 e3 e4 e5
    obtain ⟨n, d, q, p, rfl, mq, hto, hp, k⟩ := h
    obtain ⟨g1, g2, g3⟩ := to_lg hto
    have ln := itx_len g3
    have ld := itx_len g2
    have lb := line_big
    have sl : (200000 : Nat) ≤ sizeLine := by rw [sizeLine_eq]; decide
    have lr := rstr_len g3 g2
    have s1 := sum_len (p := p) (m := 8) fun x hx => (hp.2 x hx).le
    have hl := hp.1
    have l1 : ("*" : Str).length = 1 := by decide +kernel
    have jl := join_len "*" p
    rw [l1] at jl
    rw [ttx_is hto] at k
    have rest : ∀ σ : L2.St, σ = [some (.int n), some (.int d), some (.ref q), some (.str (rstr n.natAbs d))] → WSs X (defBody sPlain).tail σ L (EndOf Kk) := by
      rintro σ rfl
      refine wss_cons (ws_if (wt_cmp rfl ?_))
      walk_at "go"
      refine ⟨show 0 ≤ sizeLine from len_line, fun z => ?_⟩
      refine wo_eqD (by have := hr.units; omega) (dp_tup (.tail mq)) (dp_tup (p := []) .head) (shaped_tp hp.2) (shaped_tp fun x hx => (List.not_mem_nil hx).elim) ?_
      rw [eqv_tup_nil]
      refine ⟨_, rfl, fun y => ?_, fun y => ?_⟩
      · rw [if_pos (of_decide_eq_true y)] at k
        walk_at "go"
        exact ret_sub k (Sub.of_sublist (.cons _ (.refl _)))
      · rw [if_neg (of_decide_eq_false y)] at k
        refine wss_nil (wss_sub (Sub.of_sublist (.cons _ (.refl _))) ?_)
        refine wss_cons (ws_ret (we_ifExp (wt_cmp rfl ?_)))
        walk_at "go"
        refine wo_eq rfl ⟨_, rfl, fun y2 => ?_, fun y2 => ?_⟩
        · rw [if_pos (V.str.inj (of_decide_eq_true y2))] at k
          refine we_joinT ?_
          walk_at "go"
          refine ⟨_, rfl, ?_⟩
          walk_at "go"
          refine ⟨q, p, rfl, .of mq, by rw [l1]; omega, ?_⟩
          exact ret_sub k (Sub.refl _)
        · rw [if_neg (fun e => of_decide_eq_false y2 (by rw [e]))] at k
          walk_at "go"
          refine wo_cat (by rw [l1]; omega) ?_
          refine we_joinT ?_
          walk_at "go"
          refine ⟨_, rfl, ?_⟩
          walk_at "go"
          refine ⟨q, p, rfl, .of mq, by rw [l1]; omega, ?_⟩
          refine wo_cat (by rw [len_app, l1]; omega) ?_
          exact ret_sub k (Sub.refl _)
    refine wss_cons (x_set (by assumption) (by walk_at "at") (by walk_at "at") (we_ifExp (wt_cmp rfl ?_)))
    walk_at "go"
    refine wo_eq rfl ⟨_, rfl, fun z => ?_, fun z => ?_⟩
    · have e : d = 1 := V.int.inj (of_decide_eq_true z)
      walk_at "go"
      refine wc_abs ?_
      rw [abs_eq]
      walk_at "go"
      refine wc_strI g3 (rest _ ?_)
      unfold rstr
      rw [if_pos e]
      rfl
    · have e : ¬ d = 1 := fun q => of_decide_eq_false z (by rw [q])
      walk_at "go"
      refine wc_abs ?_
      rw [abs_eq]
      walk_at "go"
      refine wc_strI g3 ?_
      walk_at "go"
      refine wo_cat ?_ ?_
      · rw [show ("/" : Str).length = 1 by decide +kernel]
        exact Nat.le_trans (Nat.add_le_add_right ln 1) (by omega)
      walk_at "go"
      refine wc_strI g2 ?_
      refine wo_cat ?_ ?_
      · rw [len_app, show ("/" : Str).length = 1 by decide +kernel]
        exact Nat.le_trans (Nat.add_le_add (Nat.add_le_add_right ln 1) ld) (by omega)
      refine rest _ ?_
      unfold rstr
      rw [if_neg e]
      rfl
end
end K15
set_option Elab.async false
set_option linter.all false
set_option maxRecDepth 100000
set_option maxHeartbeats 4000000
namespace K15
open PySem L2 N3
local macro_rules | `(tactic| walk_at "at") => `(tactic| with_reducible (repeat (first | exact At.head | apply At.tail)))
local macro_rules | `(tactic| walk_at "mem") => `(tactic| with_reducible (repeat (first | exact Mem.head | apply Mem.tail)))
local macro_rules | `(tactic| walk_at "boot") => `(tactic| with_reducible (first | exact boot_isi | exact boot_max | exact boot_min | exact boot_abs | exact boot_len | exact boot_repr | exact boot_divmod | exact boot_all | exact boot_sorted | exact boot_int | exact boot_bool | exact boot_str | exact boot_list | exact boot_tuple))
local macro_rules | `(tactic| walk_at "room") => `(tactic| (first | assumption | exact Room.mono (by assumption) (by decide)))
local macro_rules | `(tactic| walk_at "none") => `(tactic| (refine Txt.bn (by assumption) _ ?xz; (case xz => with_reducible (repeat (first | exact InS.head | apply InS.tail)))))
local macro_rules | `(tactic| walk_at "n3") => `(tactic| first
  | with_reducible refine ws_ret ?_
  | with_reducible refine we_int ?_
  | with_reducible refine we_str ?_
  | with_reducible refine we_bool ?_
  | with_reducible refine we_none ?_
  | ((with_reducible refine' x_name ?xo ?xa ?xb ?xc ?_); (case xo => assumption); (case xa => walk_at "at"); (case xb => walk_at "at"); (case xc => rfl))
  | ((with_reducible refine' f_tops ?xt ?_ ?xh); (case xt => assumption); (case xh => rfl))
  | ((with_reducible refine' f_qbot ?xt ?_ ?xh); (case xt => assumption); (case xh => rfl))
  | ((with_reducible refine' we_prop ?xg ?xr ?_ ?xh); (case xg => assumption); (case xr => walk_at "room"); (case xh => rfl))
  | with_reducible refine we_bin ?_
  | ((with_reducible refine wo_mulW ?xm ?_); (case xm => exact Sm.cm (by assumption) (by assumption)))
  | with_reducible refine wo_add ?_
  | with_reducible refine wo_sub ?_
  | with_reducible refine wo_lt ?_
  | with_reducible refine wo_gt ?_
  | with_reducible refine wo_le ?_
  | with_reducible refine wo_ge ?_
  | with_reducible refine wu_neg ?_
  | ((with_reducible refine we_cmp ?xh ?_); (case xh => exact nomark _))
  | ((with_reducible refine wt_cmp ?xh ?_); (case xh => exact nomark _))
  | ((with_reducible refine wa_cons ?_ ?xh); (case xh => rfl))
  | with_reducible refine wa_nil ?_
  | with_reducible refine we_and ?_
  | with_reducible refine we_or ?_
  | with_reducible refine we_not ?_
  | with_reducible refine wt_not ?_
  | with_reducible refine we_un ?_
  | with_reducible refine we_one ?_
  | with_reducible refine wt_ww (ww_or ?_)
  | with_reducible refine wt_ww (ww_and ?_)
  | with_reducible refine ww_or ?_
  | with_reducible refine ww_and ?_
  | with_reducible refine ww_or1 ?_
  | with_reducible refine ww_and1 ?_
  | with_reducible refine we_ifExp ?_
  | with_reducible refine ws_if ?_
  | with_reducible refine ws_pass ?_
  | with_reducible refine we_tup ?_
  | with_reducible refine we_lst ?_
  | ((with_reducible refine' x_set ?xo ?xa ?xb ?_ ?xs); (case xo => assumption); (case xa => walk_at "at"); (case xb => walk_at "at"); (case xs => rfl))
  | ((with_reducible refine' x_setF ?_ ?xs); (case xs => rfl))
  | ((with_reducible refine' x_call ?xo ?xa ?xg ?xr ?_ ?xe ?xp); (case xo => assumption); (case xa => walk_at "at"); (case xg => assumption); (case xr => walk_at "room"); (case xe => rfl); (case xp => rfl))
  | ((with_reducible refine' x_callB ?xo ?xa ?xg ?xr ?_ ?xe ?xp); (case xo => assumption); (case xr => walk_at "boot"); (case xa => walk_at "at"); (case xg => walk_at "none"); (case xe => rfl); (case xp => rfl))
  | ((with_reducible refine' x_callTy ?xo ?xa ?xg ?xr ?_ ?xe ?xp); (case xo => assumption); (case xr => walk_at "boot"); (case xa => walk_at "at"); (case xg => walk_at "none"); (case xe => rfl); (case xp => rfl))
  | ((with_reducible refine' x_callFn ?xo ?xa ?xg ?_ ?xe ?xp); (case xo => assumption); (case xg => with_reducible (first | exact Txt.mgcd (by assumption) | exact Txt.mlcm (by assumption))); (case xa => walk_at "at"); (case xe => rfl); (case xp => rfl))
  | ((with_reducible refine' x_bty ?xo ?xa ?xg ?xr ?_); (case xo => assumption); (case xr => walk_at "boot"); (case xa => walk_at "at"); (case xg => walk_at "none"))
  | ((with_reducible refine' x_cls ?xt ?xo ?xa ?_); (case xt => assumption); (case xo => assumption); (case xa => walk_at "at"))
  | ((with_reducible refine' x_clsQ ?xt ?xo ?xa ?_); (case xt => assumption); (case xo => assumption); (case xa => walk_at "at"))
  | ((with_reducible refine' x_make ?xo ?xa ?xg ?xr ?_ ?xe ?xp); (case xo => assumption); (case xa => walk_at "at"); (case xg => assumption); (case xr => walk_at "room"); (case xe => rfl); (case xp => rfl))
  | ((with_reducible refine' x_callG ?xo ?xa ?xg ?xr ?xd ?_ ?xe ?xp); (case xo => assumption); (case xa => walk_at "at"); (case xg => assumption); (case xr => walk_at "room"); (case xd => assumption); (case xe => rfl); (case xp => rfl))
  | with_reducible refine wss_nil ?_
  | refine ⟨_, _, _, _, rfl, (by assumption), ?_⟩
  | refine ⟨_, _, _, rfl, (by assumption), ?_⟩
  | refine wss_cons ?_)
local macro_rules | `(tactic| walk_at "gw") => `(tactic| repeat walk_at "n3")
local macro_rules | `(tactic| walk_at "go") => `(tactic| repeat (first | walk_at "n3" | ((with_reducible refine' wt_val ?_ ?xv); (case xv => intro _; rfl))))
/-- a row as a term -/
def r4t (t : Row4) : Tm := (t.2.2.1, t.2.2.2.1, t.2.2.2.2)
theorem Rows4.map {rows : List Row4} {L L' : LH} (h : Rows4 rows L) (k : ∀ a x, Mem a (.tup x) L → Mem a (.tup x) L') : Rows4 rows L' := fun t ht => ⟨k _ _ (h t ht).1, k _ _ (h t ht).2⟩
theorem tl_get {L : LH} {xs : List V} {ts : List Tm} {i : Nat} {x : V} (h : TlAt L xs ts) (hx : xs[i]? = some x) : ∃ t a q, ts[i]? = some t ∧ x = V.ref a ∧ Mem a (.tup [.int t.2.1, .int t.2.2, .ref q]) L ∧ Mem q (.tup (t.1.map V.str)) L := by
  obtain ⟨t, ht, a, q, e, m⟩ := paired_get h hx
  exact ⟨t, a, q, ht, e, m⟩
theorem step_txt {D : List Tm} {i : Nat} {t : Tm} (h : D[i]? = some t) : PySem.Txt.join "" (tws true (D.take (i + 1))) = PySem.Txt.join "" (tws true (D.take i)) ++ stx (decide (t.2.1 < 0)) (D.take i).isEmpty ++ ttx t.2.1.natAbs t.2.2 t.1 := by
  rw [take_succ h, tws_snoc, join0_two, Bool.true_and]
section
variable {P : Program} {w : World} {K : PySem.W.Frag} {mg : Str → Option Value} {base : Heap}
/-! _law_greatest_first -/
def pGF : Pre := fun vs L Kk => ∃ (l : Addr) (xs : List V) (ts : List Tm), vs = [.ref l] ∧ Mem l (.lst xs) L ∧ TlAt L xs ts ∧ ts.length ≤ 200 ∧
  ∀ (l' : Addr) (xs' : List V) (us : List Tm) (J : LH), us.Perm ts → us.Pairwise (fun a b : Tm => ¬ ltP b.1 a.1) → Mem l' (.lst xs') J → TlAt (J ++ L) xs' us.reverse → Kk (.ref l') (J ++ L)
abbrev nGF : List Str := ["_law_terms_here", "_law_ranked", "_law_top", "_law_bottom", "_law_product", "_law_size"]
theorem scGF : FnScope nGF ["_law_terms_here"] (defScope sGF) := ⟨rfl, rfl, rfl, by decide +kernel, rfl, by decide +kernel, by decide +kernel⟩
theorem okGF {f C Q : Addr} {fd : FuncData} (F : Fun K "_law_greatest_first" "_law_greatest_first" sGF f fd) (T : Txt K mg C Q) : FnOk P w K mg base CX0 1 f fd ["_law_terms_here"] (SpL pGF) := by
  refine fnXC (Vn := ["_law_terms_here", "_law_ranked"]) (Ln := ["_law_terms_here", "_law_ranked"]) (Gn := ["sorted"]) F scGF (by decide +kernel) (fun vs L Kk h => ?_) (fun X e1 e2 e3 e4 e5 hX hr vs L Kk h => ?_)
  · obtain ⟨l, xs, ts, rfl, _⟩ := h
    rfl
  · subst e1 e2 e3 e4 e5
    obtain ⟨l, xs, ts, rfl, ml, hts, ln, k⟩ := h
    have lxs := Paired.length hts
    refine wss_cons (x_set (by assumption) (by walk_at "at") (by walk_at "at") (x_callB (by assumption) (by walk_at "at") (by walk_at "none") boot_sorted (wa_cons ?_ rfl) rfl rfl))
    refine x_lc [("_law_top", 2), ("_law_bottom", 3), ("_law_product", 4)] hX (by decide +kernel) (wi_list ?_)
    walk_at "go"
    refine ⟨l, xs, rfl, .of ml, fun R => ⟨fun i L' => ∃ (J : LH) (rows : List Row4), L' = J ++ (R, .lst (refs4 rows)) :: L ∧ Rows4 rows L' ∧ rows.map r4t = ts.take i, ⟨[], [], rfl, (fun _ h => (List.not_mem_nil h).elim), rfl⟩, ?_, ?_, ?_⟩⟩
    · rintro i L' _ ⟨J, rows, rfl, _⟩
      exact .of ((Mem.tail ml).app J)
    · rintro i v L' L'' hi ⟨J, rows, rfl, hrow, hmap⟩ ⟨rfl, hv⟩
      intro s' H' Ca cl fp
      obtain ⟨t, a, q, ht, rfl, ma, mq⟩ := tl_get hts hv
      have ma2 : Mem a (.tup [.int t.2.1, .int t.2.2, .ref q]) (J ++ (R, .lst (refs4 rows)) :: L) := (Mem.tail ma).app J
      have mq2 : Mem q (.tup (t.1.map V.str)) (J ++ (R, .lst (refs4 rows)) :: L) := (Mem.tail mq).app J
      have hB := hX.blk (Vb := ["_law_top", "_law_bottom", "_law_product"]) (Lb := ["_law_top", "_law_bottom", "_law_product"]) (Gb := ["len"]) (scope := ⟨.function, [(".0", .local), ("_law_top", .local), ("_law_bottom", .local), ("_law_product", .local), ("len", .globalImplicit)], false, false, []⟩) (by decide +kernel)
      refine x_tup (hB s' H' Ca cl fp) ma2 ?_
      refine wgs_cons (x_tgt (hB s' H' Ca cl fp) (by walk_at "at") (by walk_at "at") ?_)
      refine wgs_cons (x_tgt (hB s' H' Ca cl fp) (by walk_at "at") (by walk_at "at") ?_)
      refine wgs_cons (x_tgt (hB s' H' Ca cl fp) (by walk_at "at") (by walk_at "at") ?_)
      refine wgs_nil ⟨rfl, fun s' H' Ca cl fp => ?_⟩
      have hX' := hB s' H' Ca cl fp
      walk_at "go"
      refine wc_lenTup (X := X.blk s' H' _ (compEnvC _ cl Ca X.env) fp) (.of mq2) ?_
      walk_at "go"
      refine ⟨show 4 ≤ sizeLine from len_line, fun u => ?_⟩
      have len : rows.length = (ts.take i).length := by rw [← hmap, List.length_map]
      refine ⟨refs4 rows, _, .tail (Hole.head.app J), ?_, _, Sub.refl _, (u, .tup [.int (((t.1.map V.str).length : Nat) : Int), .ref q, .int t.2.1, .int t.2.2]) :: J, rows ++ [(u, q, t.1, t.2.1, t.2.2)], ?_, ?_, ?_⟩
      · rw [List.length_map, len, List.length_take]
        exact len_lt (by omega)
      · rw [show refs4 (rows ++ [(u, q, t.1, t.2.1, t.2.2)]) = refs4 rows ++ [V.ref u] from List.map_append]
        rfl
      · intro x hx
        rcases List.mem_append.mp hx with h | h
        · exact ⟨.tail (mem_alter (fun z => by unfold row4 at z; cases z) (hrow x h).1), .tail (mem_alter (fun z => by cases z) (hrow x h).2)⟩
        · rw [List.mem_singleton.mp h]
          refine ⟨?_, .tail ((Mem.tail mq).app J)⟩
          show Mem u (row4 (u, q, t.1, t.2.1, t.2.2)) _
          unfold row4
          rw [show ((List.map V.str t.1).length : Int) = (t.1.length : Int) by rw [List.length_map]]
          exact .head
      · rw [List.map_append, hmap, take_succ ht]
        rfl
    · rintro L' ⟨J, rows, rfl, hrow, hmap⟩
      have e : ts.take xs.length = ts := List.take_of_length_le (by rw [lxs]; exact Nat.le_refl _)
      rw [e] at hmap
      walk_at "go"
      refine wc_sorted4 (by have := hr.units; omega) ((Mem.head).app J) hrow fun ts' p hp hs => ?_
      have hE : Ext (J ++ (R, .lst (refs4 rows)) :: L) ((p, .lst (refs4 ts')) :: (J ++ (R, .lst (refs4 rows)) :: L)) := Ext.cons _ _
      have hrow' : Rows4 ts' ((p, .lst (refs4 ts')) :: (J ++ (R, .lst (refs4 rows)) :: L)) := fun t ht => ⟨.tail (hrow t (hp.mem_iff.mp ht)).1, .tail (hrow t (hp.mem_iff.mp ht)).2⟩
      refine wss_cons (ws_ret (x_lc [("_law_size", 5), ("_law_product", 4), ("_law_top", 2), ("_law_bottom", 3)] hX (by decide +kernel) (wi_list (we_revL ?_))))
      walk_at "go"
      refine ⟨p, _, rfl, .of .head, fun p3 => ?_⟩
      have lts : ts'.length = ts.length := by rw [hp.length_eq, ← hmap, List.length_map]
      refine ⟨p3, _, rfl, .of .head, fun R2 => ⟨fun i L' => ∃ (J2 : LH) (acc : List V), L' = J2 ++ (R2, .lst acc) :: (p3, .lst (refs4 ts').reverse) :: (p, .lst (refs4 ts')) :: (J ++ (R, .lst (refs4 rows)) :: L) ∧ TlAt L' acc ((ts'.reverse.map r4t).take i), ⟨[], [], rfl, .nil⟩, ?_, ?_, ?_⟩⟩
      · rintro i L' _ ⟨J2, acc, rfl, _⟩
        exact .of ((Mem.tail .head).app J2)
      · rintro i v L' L'' hi ⟨J2, acc, rfl, htl⟩ ⟨rfl, hv⟩
        intro s' H' Ca cl fp
        rw [← List.map_reverse] at hv
        obtain ⟨t, ht, rfl⟩ := map_get hv
        have htm : t ∈ ts' := List.mem_reverse.mp (List.mem_of_getElem? ht)
        have m1 : Mem t.1 (row4 t) (J2 ++ (R2, .lst acc) :: (p3, .lst (refs4 ts').reverse) :: (p, .lst (refs4 ts')) :: (J ++ (R, .lst (refs4 rows)) :: L)) := Mem.app (.tail (.tail (hrow' t htm).1)) J2
        have m2 : Mem t.2.1 (.tup (t.2.2.1.map V.str)) (J2 ++ (R2, .lst acc) :: (p3, .lst (refs4 ts').reverse) :: (p, .lst (refs4 ts')) :: (J ++ (R, .lst (refs4 rows)) :: L)) := Mem.app (.tail (.tail (hrow' t htm).2)) J2
        have hB := hX.blk (Vb := ["_law_size", "_law_product", "_law_top", "_law_bottom"]) (Lb := ["_law_size", "_law_product", "_law_top", "_law_bottom"]) (Gb := []) (scope := ⟨.function, [(".0", .local), ("_law_size", .local), ("_law_product", .local), ("_law_top", .local), ("_law_bottom", .local)], false, false, []⟩) (by decide +kernel)
        refine x_tup (hB s' H' Ca cl fp) m1 ?_
        refine wgs_cons (x_tgt (hB s' H' Ca cl fp) (by walk_at "at") (by walk_at "at") ?_)
        refine wgs_cons (x_tgt (hB s' H' Ca cl fp) (by walk_at "at") (by walk_at "at") ?_)
        refine wgs_cons (x_tgt (hB s' H' Ca cl fp) (by walk_at "at") (by walk_at "at") ?_)
        refine wgs_cons (x_tgt (hB s' H' Ca cl fp) (by walk_at "at") (by walk_at "at") ?_)
        refine wgs_nil ⟨rfl, fun s' H' Ca cl fp => ?_⟩
        have hX' := hB s' H' Ca cl fp
        walk_at "go"
        refine ⟨show 3 ≤ sizeLine from len_line, fun u => ?_⟩
        have len : acc.length = ((ts'.reverse.map r4t).take i).length := Paired.length htl
        refine ⟨acc, _, .tail (Hole.head.app J2), ?_, _, Sub.refl _, (u, _) :: J2, acc ++ [.ref u], rfl, ?_⟩
        · rw [len, List.length_take, List.length_map, List.length_reverse]
          exact len_lt (by omega)
        · rw [take_succ (map_getI (f := r4t) ht)]
          refine paired_snoc (htl.map fun a x m => .tail (mem_alter (fun z => by cases z) m)) ⟨u, t.2.1, rfl, .head, .tail (mem_alter (fun z => by cases z) m2)⟩
      · rintro L' ⟨J2, acc, rfl, htl⟩
        have e2 : (ts'.reverse.map r4t).take (refs4 ts').reverse.length = (ts'.map r4t).reverse := by
          rw [List.take_of_length_le (by rw [List.length_map, List.length_reverse, List.length_reverse, List.length_map]; exact Nat.le_refl _), List.map_reverse]
        rw [e2] at htl
        have e3 : J2 ++ (R2, .lst acc) :: (p3, .lst (refs4 ts').reverse) :: (p, .lst (refs4 ts')) :: (J ++ (R, .lst (refs4 rows)) :: L) = (J2 ++ (R2, .lst acc) :: (p3, .lst (refs4 ts').reverse) :: (p, .lst (refs4 ts')) :: (J ++ [(R, .lst (refs4 rows))])) ++ L := by simp
        rw [e3] at htl
        show (EndOf Kk).rt (V.ref R2) _
        rw [e3]
        exact ret_sub (k R2 acc (ts'.map r4t) _ (by rw [← hmap]; exact hp.map _) (List.pairwise_map.mpr hs) ((Mem.head).app J2) htl) (Sub.refl _)
/-! _law_text -/
def pLText : Pre := fun vs L Kk => ∃ (l : Addr) (xs : List V) (ts : List Tm), vs = [.ref l] ∧ Mem l (.lst xs) L ∧ TlAt L xs ts ∧ ts.length ≤ 200 ∧ (∀ t ∈ ts, NmOk t.1 ∧ TO t.2.1 t.2.2) ∧
  ∀ us : List Tm, us.Perm ts → us.Pairwise (fun a b : Tm => ¬ ltP b.1 a.1) → Kk (.str (txt us.reverse)) L
theorem scLText : FnScope ["_law_terms_here", "_law_text_here", "_law_top", "_law_bottom", "_law_product", "_law_plain_here"] ["_law_terms_here"] (defScope sLText) := ⟨rfl, rfl, rfl, by decide +kernel, rfl, by decide +kernel, by decide +kernel⟩
theorem okLText {f C Q : Addr} {fd : FuncData} (F : Fun K "_law_text" "_law_text" sLText f fd) (T : Txt K mg C Q) (GG : GFn P w K mg base "_law_greatest_first" 1 ["_law_terms_here"] [] pGF) (GP : GFn P w K mg base "_law_plain" 1 ["_law_top", "_law_bottom", "_law_product"] [] pPlain) : FnOk P w K mg base CX0 2 f fd ["_law_terms_here"] (SpL pLText) := by
  refine fnX (Gn := ["_law_greatest_first", "_law_plain"]) F scLText (by decide +kernel) (fun vs L Kk h => ?_) (fun X e1 e2 e3 e4 e5 hX hr vs L Kk h => ?_)
  · obtain ⟨l, xs, ts, rfl, _⟩ := h
    rfl
  · subst e1 e2 e3 e4 e5
    obtain ⟨l, xs, ts, rfl, ml, hts, ln, hok, k⟩ := h
    walk_at "go"
    refine ws_forW hX.calm hX.pas (wi_list ?_)
    walk_at "go"
    refine ⟨l, xs, ts, rfl, ml, hts, ln, fun l' xs' us J hp hs ml' htl => ?_⟩
    have hok' : ∀ t ∈ us.reverse, NmOk t.1 ∧ TO t.2.1 t.2.2 := fun t ht => hok t (hp.mem_iff.mp (List.mem_reverse.mp ht))
    have lus : us.length ≤ 200 := by rw [hp.length_eq]; exact ln
    have tl : ∀ (D : List Tm) (f : Bool), (∀ t ∈ D, NmOk t.1 ∧ TO t.2.1 t.2.2) → ((tws f D).map (·.length)).sum ≤ 12003 * D.length := by
      intro D
      induction D with
      | nil => intro f _; exact Nat.zero_le _
      | cons q D ih =>
        intro f hl
        have h1 := ih false fun x hx => hl x (List.mem_cons_of_mem _ hx)
        obtain ⟨h4, h5⟩ := hl q List.mem_cons_self
        have h6 := to_lg h5
        have h2 := ttx_len h6.2.2 h6.2.1 h4
        have h3 := stx_len (decide (q.2.1 < 0)) f
        show (((stx (decide (q.2.1 < 0)) f :: ttx q.2.1.natAbs q.2.2 q.1 :: tws false D)).map (·.length)).sum ≤ _
        rw [List.map_cons, List.map_cons, List.sum_cons, List.sum_cons, List.length_cons]
        omega
    have le0 : ("" : Str).length = 0 := by decide +kernel
    have tlen : ∀ i, (PySem.Txt.join "" (tws true (us.reverse.take i))).length ≤ 12003 * 200 := fun i => by
      refine Nat.le_trans (join_len "" _) ?_
      rw [le0, Nat.mul_zero]
      have := tl (us.reverse.take i) true fun t ht => hok' t (List.mem_of_mem_take ht)
      have h7 : (us.reverse.take i).length ≤ 200 := by rw [List.length_take, List.length_reverse]; omega
      have := Nat.mul_le_mul_left 12003 h7
      omega
    have sl : (3000000 : Nat) ≤ sizeLine := by rw [sizeLine_eq]; decide
    refine ⟨l', xs', rfl, .of (ml'.sl (List.sublist_append_left _ _)), fun i σ' L' => ∃ v2 v3 v4 v5, σ' = [some (.ref l), some (.str (PySem.Txt.join "" (tws true (us.reverse.take i)))), v2, v3, v4, v5] ∧ L' = J ++ L ∧ (i = 0 ∨ 0 < (PySem.Txt.join "" (tws true (us.reverse.take i))).length), ⟨none, none, none, none, rfl, rfl, .inl rfl⟩, ?_, ?_, ?_⟩
    · rintro i σ' L' _ ⟨_, _, _, _, _, rfl, _⟩
      exact .of (ml'.sl (List.sublist_append_left _ _))
    · rintro i v σ' L' L'' hi ⟨v2, v3, v4, v5, rfl, rfl, h0⟩ ⟨rfl, hv⟩
      obtain ⟨t, a, q, ht, rfl, ma, mq⟩ := tl_get htl hv
      obtain ⟨hnm, hto⟩ := hok' t (List.mem_of_getElem? ht)
      have hpos := ttx_pos hto hnm
      have hlg := to_lg hto
      have hlen := ttx_len hlg.2.2 hlg.2.1 hnm
      have l1 : ("-" : Str).length = 1 := by decide +kernel
      have l3 : (" - " : Str).length = 3 := by decide +kernel
      have l3' : (" + " : Str).length = 3 := by decide +kernel
      have ti := tlen i
      refine x_tup (by assumption) ma ?_
      refine wgs_cons (x_tgt (by assumption) (by walk_at "at") (by walk_at "at") ?_)
      refine wgs_cons (x_tgt (by assumption) (by walk_at "at") (by walk_at "at") ?_)
      refine wgs_cons (x_tgt (by assumption) (by walk_at "at") (by walk_at "at") ?_)
      refine wgs_nil ?_
      walk_at "go"
      refine ⟨hto, hnm, ?_⟩
      refine wss_cons (ws_if (wt_cmp rfl ?_))
      walk_at "go"
      have hst := step_txt ht
      have lt : i < us.reverse.length := (List.getElem?_eq_some_iff.mp ht).1
      have pos' : 0 < (PySem.Txt.join "" (tws true (us.reverse.take (i + 1)))).length := by
        rw [hst, len_app]
        omega
      refine wo_eq rfl ⟨_, rfl, fun y => ?_, fun y => ?_⟩
      · have y' := V.str.inj (of_decide_eq_true y)
        have i0 : i = 0 := by
          rcases h0 with z | z
          · exact z
          · rw [y'] at z; exact absurd z (by rw [le0]; decide)
        rw [y', emp_l, i0] at hst
        rw [i0] at pos'
        refine wss_cons (x_set (by assumption) (by walk_at "at") (by walk_at "at") (we_ifExp (wt_cmp rfl ?_)))
        walk_at "go"
        refine ⟨_, rfl, fun z => ?_, fun z => ?_⟩
        · rw [z] at hst
          walk_at "go"
          refine wo_cat (by rw [l1]; omega) ?_
          first | refine wss_nil (wss_nil ⟨_, Sub.refl _, some (.int t.2.1), some (.int t.2.2), some (.ref q), some (.str (ttx t.2.1.natAbs t.2.2 t.1)), ?_, rfl, .inr (by rw [i0]; exact pos')⟩) | refine wss_nil ⟨_, Sub.refl _, some (.int t.2.1), some (.int t.2.2), some (.ref q), some (.str (ttx t.2.1.natAbs t.2.2 t.1)), ?_, rfl, .inr (by rw [i0]; exact pos')⟩ | refine ⟨_, Sub.refl _, some (.int t.2.1), some (.int t.2.2), some (.ref q), some (.str (ttx t.2.1.natAbs t.2.2 t.1)), ?_, rfl, .inr (by rw [i0]; exact pos')⟩
          rw [i0, hst]
          rfl
        · rw [z] at hst
          walk_at "go"
          first | refine wss_nil (wss_nil ⟨_, Sub.refl _, some (.int t.2.1), some (.int t.2.2), some (.ref q), some (.str (ttx t.2.1.natAbs t.2.2 t.1)), ?_, rfl, .inr (by rw [i0]; exact pos')⟩) | refine wss_nil ⟨_, Sub.refl _, some (.int t.2.1), some (.int t.2.2), some (.ref q), some (.str (ttx t.2.1.natAbs t.2.2 t.1)), ?_, rfl, .inr (by rw [i0]; exact pos')⟩ | refine ⟨_, Sub.refl _, some (.int t.2.1), some (.int t.2.2), some (.ref q), some (.str (ttx t.2.1.natAbs t.2.2 t.1)), ?_, rfl, .inr (by rw [i0]; exact pos')⟩
          rw [i0, hst, show stx false (us.reverse.take 0).isEmpty = "" from rfl, emp_l]
          rfl
      · have i0 : i ≠ 0 := fun e => by
          rw [e] at y
          exact absurd (decide_eq_true (p := V.str (PySem.Txt.join "" (tws true (us.reverse.take 0))) = V.str "") rfl) (by rw [y]; decide)
        have ie : (us.reverse.take i).isEmpty = false := by
          cases hx : us.reverse.take i with
          | nil =>
            have := congrArg List.length hx
            rw [List.length_take] at this
            have this : min i us.reverse.length = 0 := this
            omega
          | cons _ _ => rfl
        rw [ie] at hst
        refine wss_cons (x_set (by assumption) (by walk_at "at") (by walk_at "at") (we_bin (we_bin ?_)))
        walk_at "go"
        refine ⟨_, rfl, fun z => ?_, fun z => ?_⟩
        · rw [z] at hst
          walk_at "go"
          refine wo_cat (by rw [l3]; omega) ?_
          walk_at "go"
          refine wo_cat (by rw [len_app, l3]; omega) ?_
          refine wss_nil (wss_nil ⟨_, Sub.refl _, some (.int t.2.1), some (.int t.2.2), some (.ref q), some (.str (ttx t.2.1.natAbs t.2.2 t.1)), ?_, rfl, .inr pos'⟩)
          rw [hst]
          rfl
        · rw [z] at hst
          walk_at "go"
          refine wo_cat (by rw [l3']; omega) ?_
          walk_at "go"
          refine wo_cat (by rw [len_app, l3']; omega) ?_
          refine wss_nil (wss_nil ⟨_, Sub.refl _, some (.int t.2.1), some (.int t.2.2), some (.ref q), some (.str (ttx t.2.1.natAbs t.2.2 t.1)), ?_, rfl, .inr pos'⟩)
          rw [hst]
          rfl
    · rintro σ' L' ⟨v2, v3, v4, v5, rfl, rfl, h0⟩
      have e2 : us.reverse.take xs'.length = us.reverse := List.take_of_length_le (by rw [Paired.length htl]; exact Nat.le_refl _)
      rw [e2] at h0 ⊢
      have kk := k us hp hs
      refine wss_cons (ws_ret (we_ifExp (wt_cmp rfl ?_)))
      walk_at "go"
      refine wo_ne rfl ⟨_, rfl, fun y => ?_, fun y => ?_⟩
      · have np : us.reverse ≠ [] := fun e => by
          rw [e] at y
          exact absurd (decide_eq_true (p := V.str (PySem.Txt.join "" (tws true [])) = V.str "") rfl) (by rw [Bool.not_eq_true'] at y; rw [y]; decide)
        unfold txt at kk
        rw [if_neg np] at kk
        walk_at "go"
        exact ret_sub kk (Sub.of_sublist (List.sublist_append_right _ _))
      · have np : us.reverse = [] := by
          rw [Bool.not_eq_false'] at y
          have y' := V.str.inj (of_decide_eq_true y)
          have lx : xs'.length = us.reverse.length := Paired.length htl
          rcases h0 with z | z
          · exact List.eq_nil_of_length_eq_zero (by omega)
          · rw [y'] at z; exact absurd z (by rw [le0]; decide)
        unfold txt at kk
        rw [if_pos np] at kk
        walk_at "go"
        exact ret_sub kk (Sub.of_sublist (List.sublist_append_right _ _))
end
end K15
set_option Elab.async false
set_option linter.all false
set_option maxRecDepth 100000
set_option maxHeartbeats 4000000
namespace K15
open PySem L2 N3
local macro_rules | `(tactic| walk_at "at") => `(tactic| with_reducible (repeat (first | exact At.head | apply At.tail)))
local macro_rules | `(tactic| walk_at "mem") => `(tactic| with_reducible (repeat (first | exact Mem.head | apply Mem.tail)))
local macro_rules | `(tactic| walk_at "boot") => `(tactic| with_reducible (first | exact boot_isi | exact boot_max | exact boot_min | exact boot_abs | exact boot_len | exact boot_repr | exact boot_divmod | exact boot_all | exact boot_sorted | exact boot_int | exact boot_bool | exact boot_str | exact boot_list | exact boot_tuple))
local macro_rules | `(tactic| walk_at "room") => `(tactic| (first | assumption | exact Room.mono (by assumption) (by decide)))
local macro_rules | `(tactic| walk_at "none") => `(tactic| (refine Txt.bn (by assumption) _ ?xz; (case xz => with_reducible (repeat (first | exact InS.head | apply InS.tail)))))
local macro_rules | `(tactic| walk_at "n3") => `(tactic| first
  | with_reducible refine ws_ret ?_
  | with_reducible refine we_int ?_
  | with_reducible refine we_str ?_
  | with_reducible refine we_bool ?_
  | with_reducible refine we_none ?_
  | ((with_reducible refine' x_name ?xo ?xa ?xb ?xc ?_); (case xo => assumption); (case xa => walk_at "at"); (case xb => walk_at "at"); (case xc => rfl))
  | ((with_reducible refine' f_tops ?xt ?_ ?xh); (case xt => assumption); (case xh => rfl))
  | ((with_reducible refine' f_qbot ?xt ?_ ?xh); (case xt => assumption); (case xh => rfl))
  | ((with_reducible refine' we_prop ?xg ?xr ?_ ?xh); (case xg => assumption); (case xr => walk_at "room"); (case xh => rfl))
  | with_reducible refine we_bin ?_
  | ((with_reducible refine wo_mulW ?xm ?_); (case xm => exact Sm.cm (by assumption) (by assumption)))
  | with_reducible refine wo_add ?_
  | with_reducible refine wo_sub ?_
  | with_reducible refine wo_lt ?_
  | with_reducible refine wo_gt ?_
  | with_reducible refine wo_le ?_
  | with_reducible refine wo_ge ?_
  | with_reducible refine wu_neg ?_
  | ((with_reducible refine we_cmp ?xh ?_); (case xh => exact nomark _))
  | ((with_reducible refine wt_cmp ?xh ?_); (case xh => exact nomark _))
  | ((with_reducible refine wa_cons ?_ ?xh); (case xh => rfl))
  | with_reducible refine wa_nil ?_
  | with_reducible refine we_and ?_
  | with_reducible refine we_or ?_
  | with_reducible refine we_not ?_
  | with_reducible refine wt_not ?_
  | with_reducible refine we_un ?_
  | with_reducible refine we_one ?_
  | with_reducible refine wt_ww (ww_or ?_)
  | with_reducible refine wt_ww (ww_and ?_)
  | with_reducible refine ww_or ?_
  | with_reducible refine ww_and ?_
  | with_reducible refine ww_or1 ?_
  | with_reducible refine ww_and1 ?_
  | with_reducible refine we_ifExp ?_
  | with_reducible refine ws_if ?_
  | with_reducible refine ws_pass ?_
  | with_reducible refine we_tup ?_
  | with_reducible refine we_lst ?_
  | ((with_reducible refine' x_set ?xo ?xa ?xb ?_ ?xs); (case xo => assumption); (case xa => walk_at "at"); (case xb => walk_at "at"); (case xs => rfl))
  | ((with_reducible refine' x_setF ?_ ?xs); (case xs => rfl))
  | ((with_reducible refine' x_call ?xo ?xa ?xg ?xr ?_ ?xe ?xp); (case xo => assumption); (case xa => walk_at "at"); (case xg => assumption); (case xr => walk_at "room"); (case xe => rfl); (case xp => rfl))
  | ((with_reducible refine' x_callB ?xo ?xa ?xg ?xr ?_ ?xe ?xp); (case xo => assumption); (case xr => walk_at "boot"); (case xa => walk_at "at"); (case xg => walk_at "none"); (case xe => rfl); (case xp => rfl))
  | ((with_reducible refine' x_callTy ?xo ?xa ?xg ?xr ?_ ?xe ?xp); (case xo => assumption); (case xr => walk_at "boot"); (case xa => walk_at "at"); (case xg => walk_at "none"); (case xe => rfl); (case xp => rfl))
  | ((with_reducible refine' x_callFn ?xo ?xa ?xg ?_ ?xe ?xp); (case xo => assumption); (case xg => with_reducible (first | exact Txt.mgcd (by assumption) | exact Txt.mlcm (by assumption))); (case xa => walk_at "at"); (case xe => rfl); (case xp => rfl))
  | ((with_reducible refine' x_bty ?xo ?xa ?xg ?xr ?_); (case xo => assumption); (case xr => walk_at "boot"); (case xa => walk_at "at"); (case xg => walk_at "none"))
  | ((with_reducible refine' x_cls ?xt ?xo ?xa ?_); (case xt => assumption); (case xo => assumption); (case xa => walk_at "at"))
  | ((with_reducible refine' x_clsQ ?xt ?xo ?xa ?_); (case xt => assumption); (case xo => assumption); (case xa => walk_at "at"))
  | ((with_reducible refine' x_make ?xo ?xa ?xg ?xr ?_ ?xe ?xp); (case xo => assumption); (case xa => walk_at "at"); (case xg => assumption); (case xr => walk_at "room"); (case xe => rfl); (case xp => rfl))
  | ((with_reducible refine' x_callG ?xo ?xa ?xg ?xr ?xd ?_ ?xe ?xp); (case xo => assumption); (case xa => walk_at "at"); (case xg => assumption); (case xr => walk_at "room"); (case xd => assumption); (case xe => rfl); (case xp => rfl))
  | with_reducible refine wss_nil ?_
  | refine ⟨_, _, _, _, rfl, (by assumption), ?_⟩
  | refine ⟨_, _, _, rfl, (by assumption), ?_⟩
  | refine wss_cons ?_)
local macro_rules | `(tactic| walk_at "gw") => `(tactic| repeat walk_at "n3")
local macro_rules | `(tactic| walk_at "go") => `(tactic| repeat (first | walk_at "n3" | ((with_reducible refine' wt_val ?_ ?xv); (case xv => intro _; rfl))))
theorem paired_rev {α β : Type} {R : α → β → Prop} {xs : List α} {ys : List β} (h : Paired R xs ys) : Paired R xs.reverse ys.reverse := by
  induction h with
  | nil => exact .nil
  | cons r _ ih =>
    rw [List.reverse_cons, List.reverse_cons]
    exact paired_snoc ih r
theorem nT_id {n d : Int} (h : TO n d) : nT n d = n ∧ nB n d = d := by
  have hd := h.2.1
  have hg := h.2.2.2.2.1
  have e : sg n d = 1 := by
    unfold sg
    rw [if_neg (by omega), hg]
    rfl
  unfold nT nB
  rw [e, Int.fdiv_one, Int.fdiv_one]
  exact ⟨rfl, rfl⟩
theorem tmsOk_of {ts : List Tm} (ln : ts.length ≤ 200) (h : ∀ t ∈ ts, NmOk t.1 ∧ TO t.2.1 t.2.2) : TmsOk 3000000000 ts :=
  ⟨by decide, by decide, ln, fun t ht => (h t ht).1, fun t ht => ⟨(h t ht).2.2.2.1, (h t ht).2.2.1⟩, fun t ht => Sm.mono (n := 400) (m := 94) (h t ht).2.2.2.2.1 (by decide)⟩
section
variable {P : Program} {w : World} {K : PySem.W.Frag} {mg : Str → Option Value} {base : Heap}
/-! _law_shown -/
def pShown : Pre := fun vs L Kk => ∃ (l : Addr) (xs : List V) (ts : List Tm), vs = [.ref l] ∧ Mem l (.lst xs) L ∧ TlAt L xs ts ∧ ts.length ≤ 200 ∧ (∀ t ∈ ts, NmOk t.1 ∧ TO t.2.1 t.2.2) ∧
  ∀ us : List Tm, us.Perm ts → us.Pairwise (fun a b : Tm => ¬ ltP b.1 a.1) → Kk (.str (rpt us)) L
theorem scShown : FnScope ["_law_terms_here", "_law_parts", "_law_top", "_law_bottom", "_law_product"] ["_law_terms_here"] (defScope sShown) := ⟨rfl, rfl, rfl, by decide +kernel, rfl, by decide +kernel, by decide +kernel⟩
theorem okShown {f C Q : Addr} {fd : FuncData} (F : Fun K "_law_shown" "_law_shown" sShown f fd) (T : Txt K mg C Q) (GG : GFn P w K mg base "_law_greatest_first" 1 ["_law_terms_here"] [] pGF) : FnG P w K mg base 2 f fd ["_law_terms_here"] pShown := by
  refine fnXG (Gn := ["_law_greatest_first", "str", "repr"]) F scShown (by decide +kernel) (fun vs L Kk h => ?_) (fun X e1 e2 e3 e4 e5 hX hr hgd vs L Kk h => ?_)
  · obtain ⟨l, xs, ts, rfl, _⟩ := h
    rfl
  · subst e1 e2 e3 e4 e5
    obtain ⟨l, xs, ts, rfl, ml, hts, ln, hok, k⟩ := h
    walk_at "go"
    refine ⟨show 0 ≤ sizeLine from len_line, fun W => ?_⟩
    refine wss_cons (ws_forW hX.calm hX.pas (wi_list (we_revL ?_)))
    walk_at "go"
    refine ⟨l, xs, ts, rfl, .tail ml, hts.map fun a x m => .tail m, ln, fun l' xs' us J hp hs ml' htl => ?_⟩
    refine ⟨l', xs', rfl, .of (ml'.sl (List.sublist_append_left _ _)), fun p3 => ?_⟩
    have htr : TlAt (J ++ (W, .lst []) :: L) xs'.reverse us := by
      have := paired_rev htl
      rw [List.reverse_reverse] at this
      exact this
    have hok' : ∀ t ∈ us, NmOk t.1 ∧ TO t.2.1 t.2.2 := fun t ht => hok t (hp.mem_iff.mp ht)
    have lus : us.length ≤ 200 := by rw [hp.length_eq]; exact ln
    have sl : (4000000 : Nat) ≤ sizeLine := by rw [sizeLine_eq]; decide
    refine ⟨p3, xs'.reverse, rfl, .of .head, fun i σ' L' => ∃ v2 v3 v4, σ' = [some (.ref l), some (.ref W), v2, v3, v4] ∧ L' = (p3, .lst xs'.reverse) :: (J ++ (W, .lst (((us.take i).map fun t => shT t.2.1 t.2.2 t.1).map V.str)) :: L), ⟨none, none, none, rfl, rfl⟩, ?_, ?_, ?_⟩
    · rintro i σ' L' _ ⟨_, _, _, _, rfl⟩
      exact .of .head
    · rintro i v σ' L' L'' hi ⟨v2, v3, v4, rfl, rfl⟩ ⟨rfl, hv⟩
      obtain ⟨t, a, q, ht, rfl, ma, mq⟩ := tl_get htr hv
      obtain ⟨hnm, hto⟩ := hok' t (List.mem_of_getElem? ht)
      obtain ⟨g1, g2, g3⟩ := to_lg hto
      have lt : i < us.length := (List.getElem?_eq_some_iff.mp ht).1
      have ma' : Mem a (.tup [.int t.2.1, .int t.2.2, .ref q]) ((p3, .lst xs'.reverse) :: (J ++ (W, .lst (((us.take i).map fun t => shT t.2.1 t.2.2 t.1).map V.str)) :: L)) := .tail (mem_alter (fun z => by cases z) ma)
      have mq' : Mem q (.tup (t.1.map V.str)) ((p3, .lst xs'.reverse) :: (J ++ (W, .lst (((us.take i).map fun t => shT t.2.1 t.2.2 t.1).map V.str)) :: L)) := .tail (mem_alter (fun z => by cases z) mq)
      have hW : Hole W (.lst (((us.take i).map fun t => shT t.2.1 t.2.2 t.1).map V.str)) ((p3, .lst xs'.reverse) :: (J ++ (W, .lst (((us.take i).map fun t => shT t.2.1 t.2.2 t.1).map V.str)) :: L)) (fun u => (p3, .lst xs'.reverse) :: (J ++ (W, u) :: L)) := .tail (Hole.head.app J)
      refine x_tup (by assumption) ma' ?_
      refine wgs_cons (x_tgt (by assumption) (by walk_at "at") (by walk_at "at") ?_)
      refine wgs_cons (x_tgt (by assumption) (by walk_at "at") (by walk_at "at") ?_)
      refine wgs_cons (x_tgt (by assumption) (by walk_at "at") (by walk_at "at") ?_)
      refine wgs_nil ?_
      have ln' := itx_len g1
      have ld := itx_len g2
      have lp := tpD_len hnm
      have l7 : ("(Ratio(" : Str).length = 7 := by decide +kernel
      have l2 : (", " : Str).length = 2 := by decide +kernel
      have l3 : ("), " : Str).length = 3 := by decide +kernel
      have l1 : (")" : Str).length = 1 := by decide +kernel
      refine wss_cons (ws_expr (we_append ?_))
      walk_at "go"
      refine ⟨W, _, rfl, .of hW.mm, ?_⟩
      walk_at "go"
      refine wc_strI g1 ?_
      show WO _ _ _ (.str (itx t.2.1)) _ _
      refine wo_cat (by rw [l7]; omega) ?_
      walk_at "go"
      refine wo_cat (by rw [len_app, l7, l2]; omega) ?_
      walk_at "go"
      refine wc_strI g2 ?_
      show WO _ _ _ (.str (itx t.2.2)) _ _
      refine wo_cat (by rw [len_app, len_app, l7, l2]; omega) ?_
      walk_at "go"
      refine wo_cat (by rw [len_app, len_app, len_app, l7, l2, l3]; omega) ?_
      walk_at "go"
      refine wc_reprD hgd ?_ (dp_tup mq') ?_ (by omega) ?_
      · have dep := depth_txts t.1
        have := hr.units
        simp only [tpD, PyData.depth]
        omega
      · simp only [tpD, PyData.showable]
        exact showable_txts t.1
      refine wo_cat (by rw [len_app, len_app, len_app, len_app, l7, l2, l3]; omega) ?_
      walk_at "go"
      refine wo_cat (by rw [len_app, len_app, len_app, len_app, len_app, l7, l2, l3, l1]; omega) ?_
      refine ⟨_, _, hW, ?_, ?_⟩
      · rw [List.length_map, List.length_map, List.length_take]
        exact len_lt (by omega)
      · refine wss_nil ⟨_, Sub.refl _, _, _, _, rfl, ?_⟩
        rw [take_succ ht, List.map_append, List.map_append, List.map_singleton, List.map_singleton, shT_eq]
    · rintro σ' L' ⟨v2, v3, v4, rfl, rfl⟩
      have e2 : us.take xs'.reverse.length = us := List.take_of_length_le (by rw [Paired.length htr]; exact Nat.le_refl _)
      rw [e2]
      have kk := k us hp hs
      rw [rpt_eq] at kk
      have bd : ((us.map fun t => shT t.2.1 t.2.2 t.1).map (·.length)).sum ≤ 15200 * (us.map fun t => shT t.2.1 t.2.2 t.1).length := sum_len fun x hx => by
        obtain ⟨t, ht, e⟩ := List.mem_map.mp hx
        obtain ⟨hnm, hto⟩ := hok' t ht
        obtain ⟨g1, g2, g3⟩ := to_lg hto
        rw [← e]
        exact shT_len g1 g2 hnm
      rw [List.length_map] at bd
      have l2 : (", " : Str).length = 2 := by decide +kernel
      have jl := join_len ", " (us.map fun t => shT t.2.1 t.2.2 t.1)
      rw [l2, List.length_map] at jl
      have l10 : ("Question([" : Str).length = 10 := by decide +kernel
      have mW : Mem W (.lst ((us.map fun t => shT t.2.1 t.2.2 t.1).map V.str)) ((p3, .lst xs'.reverse) :: (J ++ (W, .lst ((us.map fun t => shT t.2.1 t.2.2 t.1).map V.str)) :: L)) := .tail (Mem.head.app J)
      have l2' : ("])" : Str).length = 2 := by decide +kernel
      walk_at "go"
      refine we_join ?_
      walk_at "go"
      refine ⟨_, rfl, ?_⟩
      walk_at "go"
      refine ⟨W, _, rfl, .of mW, ?_, ?_⟩
      · rw [List.length_map, l2]
        omega
      refine wo_cat (by rw [l10]; omega) ?_
      walk_at "go"
      refine wo_cat (by rw [len_app, l10, l2']; omega) ?_
      exact ret_sub kk (Sub.of_sublist (.cons _ (.trans (.cons _ (.refl _)) (List.sublist_append_right _ _))))
/-! _law_made -/
def pMade (TB Q : Addr) : Pre := fun vs L Kk => ∃ (l : Addr) (xs : List V) (ts : List Tm), vs = [.ref l] ∧ Mem l (.lst xs) L ∧ TlAt L xs ts ∧ ts.length ≤ 200 ∧ (∀ t ∈ ts, NmOk t.1 ∧ TO t.2.1 t.2.2) ∧ TabIn TB qN L ∧ Val TB Q ts L Kk
abbrev nMade : List Str := ["_law_terms_here", "_law_top", "_law_bottom", "_law_product"]
theorem scMade : FnScope nMade ["_law_terms_here"] (defScope sMade) := ⟨rfl, rfl, rfl, by decide +kernel, rfl, by decide +kernel, by decide +kernel⟩
theorem TmsAt.map' {C : Addr} {L L' : LH} {xs : List V} {ts : List Tm} (h : TmsAt C L xs ts) (e : L.Sublist L') : TmsAt C L' xs ts := h.ext fun a o m _ => m.sl e
theorem okMade {f TB C Q : Addr} {fd : FuncData} (F : Fun K "_law_made" "_law_made" sMade f fd) (T : Txt K mg C Q) (GM : GMk P w K mg base "Ratio" C 2 ["self", "top", "bottom"] [] (pInit C)) (GQ : GMk P w K mg base "Question" Q 8 ["self", "terms"] [] (pQInit TB C Q)) :
    FnOk P w K mg base CX0 10 f fd ["_law_terms_here"] (SpL (pMade TB Q)) := by
  refine fnXC (Vn := ["_law_terms_here"]) (Ln := ["_law_terms_here"]) (Gn := ["Question"]) F scMade (by decide +kernel) (fun vs L Kk h => ?_) (fun X e1 e2 e3 e4 e5 hX hr vs L Kk h => ?_)
  · obtain ⟨l, xs, ts, rfl, _⟩ := h
    rfl
  · subst e1 e2 e3 e4 e5
    obtain ⟨l, xs, ts, rfl, ml, hts, ln, hok, hT, k⟩ := h
    have lxs := Paired.length hts
    refine wss_cons (ws_ret (x_make (by assumption) (by walk_at "at") GQ (by walk_at "room") (wa_cons ?_ rfl)))
    refine x_lc [("_law_top", 1), ("_law_bottom", 2), ("_law_product", 3)] hX (by decide +kernel) (wi_list ?_)
    walk_at "go"
    refine ⟨l, xs, rfl, .of ml, fun R => ⟨fun i L' => ∃ (J : LH) (acc : List V), L' = J ++ (R, .lst acc) :: L ∧ TmsAt C J acc (ts.take i), ⟨[], [], rfl, .nil⟩, ?_, ?_, ?_⟩⟩
    · rintro i L' _ ⟨J, acc, rfl, _⟩
      exact .of ((Mem.tail ml).app J)
    · rintro i v L' L'' hi ⟨J, acc, rfl, hacc⟩ ⟨rfl, hv⟩
      intro s' H' Ca cl fp
      obtain ⟨t, a, q, ht, rfl, ma, mq⟩ := tl_get hts hv
      obtain ⟨hnm, hto⟩ := hok t (List.mem_of_getElem? ht)
      obtain ⟨g1, g2, g3⟩ := to_lg hto
      have ma2 : Mem a (.tup [.int t.2.1, .int t.2.2, .ref q]) (J ++ (R, .lst acc) :: L) := (Mem.tail ma).app J
      have mq2 : Mem q (.tup (t.1.map V.str)) (J ++ (R, .lst acc) :: L) := (Mem.tail mq).app J
      have hB := hX.blk (Vb := ["_law_top", "_law_bottom", "_law_product"]) (Lb := ["_law_top", "_law_bottom", "_law_product"]) (Gb := ["Ratio", "list"]) (scope := ⟨.function, [(".0", .local), ("_law_top", .local), ("_law_bottom", .local), ("_law_product", .local), ("Ratio", .globalImplicit), ("list", .globalImplicit)], false, false, []⟩) (by decide +kernel)
      refine x_tup (hB s' H' Ca cl fp) ma2 ?_
      refine wgs_cons (x_tgt (hB s' H' Ca cl fp) (by walk_at "at") (by walk_at "at") ?_)
      refine wgs_cons (x_tgt (hB s' H' Ca cl fp) (by walk_at "at") (by walk_at "at") ?_)
      refine wgs_cons (x_tgt (hB s' H' Ca cl fp) (by walk_at "at") (by walk_at "at") ?_)
      refine wgs_nil ⟨rfl, fun s' H' Ca cl fp => ?_⟩
      have hX' := hB s' H' Ca cl fp
      refine we_tup (wa_cons (x_make hX' (by walk_at "at") GM (hr.mono (by decide)) ?_ (by rfl) (by rfl)) (by rfl))
      walk_at "go"
      intro b db
      have hd := hto.2.1
      refine ⟨_, _, _, _, _, rfl, rfl, by omega, Nat.lt_of_lt_of_le g2 (by decide), rfl, ?_⟩
      rw [(nT_id hto).1, (nT_id hto).2]
      walk_at "go"
      refine wc_listTup (X := X.blk s' H' _ (compEnvC _ cl Ca X.env) fp) (.of (.tail mq2)) fun lq => ?_
      walk_at "go"
      refine ⟨show 2 ≤ sizeLine from len_line, fun u => ?_⟩
      have len : acc.length = (ts.take i).length := Paired.length hacc
      refine ⟨acc, _, .tail (.tail (.tail (Hole.head.app J))), ?_, _, Sub.refl _, (u, _) :: (lq, _) :: (b, _) :: J, acc ++ [.ref u], rfl, ?_⟩
      · rw [len, List.length_take]
        exact len_lt (by omega)
      · rw [take_succ ht]
        exact paired_snoc (hacc.map' (.cons _ (.cons _ (.cons _ (.refl _))))) ⟨u, rfl, ⟨.ref b, lq, .head, .rat (.tail (.tail .head)), .inl (.tail .head)⟩⟩
    · rintro L' ⟨J, acc, rfl, hacc⟩
      have e : ts.take xs.length = ts := List.take_of_length_le (by rw [lxs]; exact Nat.le_refl _)
      rw [e] at hacc
      walk_at "go"
      intro o dx
      have hE0 : Ext L (J ++ (R, .lst acc) :: L) := (Ext.cons _ _).trans (Ext.app _ _)
      refine ⟨o, dx, R, acc, ts, 3000000000, _, rfl, rfl, (Mem.head).app J, hacc.map' (List.sublist_append_left _ _), tmsOk_of ln hok, (hT.cons _).app J, fun L' r c hE hT' hq hR hv => ⟨rfl, ?_⟩⟩
      exact ret_sub (k o r c L' (hE0.trans hE) hT' hq hR hv) (Sub.refl _)
end
end K15
set_option Elab.async false
set_option linter.all false
set_option maxRecDepth 100000
set_option maxHeartbeats 4000000
namespace K15
open PySem L2 N3
local macro_rules | `(tactic| walk_at "at") => `(tactic| with_reducible (repeat (first | exact At.head | apply At.tail)))
local macro_rules | `(tactic| walk_at "mem") => `(tactic| with_reducible (repeat (first | exact Mem.head | apply Mem.tail)))
local macro_rules | `(tactic| walk_at "boot") => `(tactic| with_reducible (first | exact boot_isi | exact boot_max | exact boot_min | exact boot_abs | exact boot_len | exact boot_repr | exact boot_divmod | exact boot_all | exact boot_sorted | exact boot_int | exact boot_bool | exact boot_str | exact boot_list | exact boot_tuple))
local macro_rules | `(tactic| walk_at "room") => `(tactic| (first | assumption | exact Room.mono (by assumption) (by decide)))
local macro_rules | `(tactic| walk_at "none") => `(tactic| (refine Txt.bn (by assumption) _ ?xz; (case xz => with_reducible (repeat (first | exact InS.head | apply InS.tail)))))
local macro_rules | `(tactic| walk_at "n3") => `(tactic| first
  | with_reducible refine ws_ret ?_
  | with_reducible refine we_int ?_
  | with_reducible refine we_str ?_
  | with_reducible refine we_bool ?_
  | with_reducible refine we_none ?_
  | ((with_reducible refine' x_name ?xo ?xa ?xb ?xc ?_); (case xo => assumption); (case xa => walk_at "at"); (case xb => walk_at "at"); (case xc => rfl))
  | ((with_reducible refine' f_tops ?xt ?_ ?xh); (case xt => assumption); (case xh => rfl))
  | ((with_reducible refine' f_qbot ?xt ?_ ?xh); (case xt => assumption); (case xh => rfl))
  | ((with_reducible refine' we_prop ?xg ?xr ?_ ?xh); (case xg => assumption); (case xr => walk_at "room"); (case xh => rfl))
  | with_reducible refine we_bin ?_
  | ((with_reducible refine wo_mulW ?xm ?_); (case xm => exact Sm.cm (by assumption) (by assumption)))
  | with_reducible refine wo_add ?_
  | with_reducible refine wo_sub ?_
  | with_reducible refine wo_lt ?_
  | with_reducible refine wo_gt ?_
  | with_reducible refine wo_le ?_
  | with_reducible refine wo_ge ?_
  | with_reducible refine wu_neg ?_
  | ((with_reducible refine we_cmp ?xh ?_); (case xh => exact nomark _))
  | ((with_reducible refine wt_cmp ?xh ?_); (case xh => exact nomark _))
  | ((with_reducible refine wa_cons ?_ ?xh); (case xh => rfl))
  | with_reducible refine wa_nil ?_
  | with_reducible refine we_and ?_
  | with_reducible refine we_or ?_
  | with_reducible refine we_not ?_
  | with_reducible refine wt_not ?_
  | with_reducible refine we_un ?_
  | with_reducible refine we_one ?_
  | with_reducible refine wt_ww (ww_or ?_)
  | with_reducible refine wt_ww (ww_and ?_)
  | with_reducible refine ww_or ?_
  | with_reducible refine ww_and ?_
  | with_reducible refine ww_or1 ?_
  | with_reducible refine ww_and1 ?_
  | with_reducible refine we_ifExp ?_
  | with_reducible refine ws_if ?_
  | with_reducible refine ws_pass ?_
  | with_reducible refine we_tup ?_
  | with_reducible refine we_lst ?_
  | ((with_reducible refine' x_set ?xo ?xa ?xb ?_ ?xs); (case xo => assumption); (case xa => walk_at "at"); (case xb => walk_at "at"); (case xs => rfl))
  | ((with_reducible refine' x_setF ?_ ?xs); (case xs => rfl))
  | ((with_reducible refine' x_call ?xo ?xa ?xg ?xr ?_ ?xe ?xp); (case xo => assumption); (case xa => walk_at "at"); (case xg => assumption); (case xr => walk_at "room"); (case xe => rfl); (case xp => rfl))
  | ((with_reducible refine' x_callB ?xo ?xa ?xg ?xr ?_ ?xe ?xp); (case xo => assumption); (case xr => walk_at "boot"); (case xa => walk_at "at"); (case xg => walk_at "none"); (case xe => rfl); (case xp => rfl))
  | ((with_reducible refine' x_callTy ?xo ?xa ?xg ?xr ?_ ?xe ?xp); (case xo => assumption); (case xr => walk_at "boot"); (case xa => walk_at "at"); (case xg => walk_at "none"); (case xe => rfl); (case xp => rfl))
  | ((with_reducible refine' x_callFn ?xo ?xa ?xg ?_ ?xe ?xp); (case xo => assumption); (case xg => with_reducible (first | exact Txt.mgcd (by assumption) | exact Txt.mlcm (by assumption))); (case xa => walk_at "at"); (case xe => rfl); (case xp => rfl))
  | ((with_reducible refine' x_bty ?xo ?xa ?xg ?xr ?_); (case xo => assumption); (case xr => walk_at "boot"); (case xa => walk_at "at"); (case xg => walk_at "none"))
  | ((with_reducible refine' x_cls ?xt ?xo ?xa ?_); (case xt => assumption); (case xo => assumption); (case xa => walk_at "at"))
  | ((with_reducible refine' x_clsQ ?xt ?xo ?xa ?_); (case xt => assumption); (case xo => assumption); (case xa => walk_at "at"))
  | ((with_reducible refine' x_make ?xo ?xa ?xg ?xr ?_ ?xe ?xp); (case xo => assumption); (case xa => walk_at "at"); (case xg => assumption); (case xr => walk_at "room"); (case xe => rfl); (case xp => rfl))
  | ((with_reducible refine' x_callG ?xo ?xa ?xg ?xr ?xd ?_ ?xe ?xp); (case xo => assumption); (case xa => walk_at "at"); (case xg => assumption); (case xr => walk_at "room"); (case xd => assumption); (case xe => rfl); (case xp => rfl))
  | with_reducible refine wss_nil ?_
  | refine ⟨_, _, _, _, rfl, (by assumption), ?_⟩
  | refine ⟨_, _, _, rfl, (by assumption), ?_⟩
  | refine wss_cons ?_)
local macro_rules | `(tactic| walk_at "gw") => `(tactic| repeat walk_at "n3")
local macro_rules | `(tactic| walk_at "go") => `(tactic| repeat (first | walk_at "n3" | ((with_reducible refine' wt_val ?_ ?xv); (case xv => intro _; rfl))))
/-! ### the one form of a sum of products, and its texts -/
theorem nf {x c n d : Int} (hc : 0 < c) (hd : 0 < d) (hg : Nat.gcd n.natAbs d.natAbs = 1) (e : x * d = n * c) : nT x c = n ∧ nB x c = d := by
  have h1 : d.natAbs ∣ c.natAbs := by
    have h2 : d.natAbs ∣ n.natAbs * c.natAbs := by
      rw [← Int.natAbs_mul, ← e, Int.natAbs_mul]
      exact Nat.dvd_mul_left ..
    exact Nat.Coprime.dvd_of_dvd_mul_left (show Nat.Coprime d.natAbs n.natAbs by unfold Nat.Coprime; rw [Nat.gcd_comm]; exact hg) h2
  obtain ⟨u, hu⟩ := h1
  have hc2 : c = d * (u : Int) := by
    have h3 : (c.natAbs : Int) = (d.natAbs : Int) * (u : Int) := by rw [hu]; push_cast; rfl
    rw [show (c.natAbs : Int) = c by omega, show (d.natAbs : Int) = d by omega] at h3
    exact h3
  have up : 0 < (u : Int) := by
    rcases Nat.eq_zero_or_pos u with z | z
    · rw [z] at hc2
      simp at hc2
      omega
    · omega
  have hx : x = n * (u : Int) := by
    rw [hc2, ← Int.mul_assoc, Int.mul_right_comm] at e
    exact Int.eq_of_mul_eq_mul_right (by omega) e
  have hs : sg x c = (u : Int) := by
    unfold sg
    rw [if_neg (by omega), hx, hc2, Int.natAbs_mul, Int.natAbs_mul, Int.natAbs_natCast, Nat.gcd_mul_right, hg, Nat.one_mul]
  unfold nT nB
  rw [hs, hx, hc2]
  exact ⟨Int.mul_fdiv_cancel _ (by omega), Int.mul_fdiv_cancel _ (by omega)⟩
/-- the terms of a sum over a bottom -/
def tms (r : PM) (c : Int) : List Tm := r.map fun p => (p.1, nT p.2 c, nB p.2 c)
theorem sg_abs (t c : Int) : sg (t.natAbs : Int) c = sg t c := by unfold sg; rw [Int.natAbs_natCast]
theorem sg_pos {t c : Int} (hc : 0 < c) : 0 < sg t c := by
  have := sg_ne (t := t) (b := c) (by omega)
  unfold sg at *
  rw [if_neg (by omega)] at *
  omega
theorem sg_dvd (t c : Int) : sg t c ∣ t := by
  have h1 : ((Nat.gcd t.natAbs c.natAbs : Nat) : Int) ∣ t := Int.natAbs_dvd_natAbs.mp (by rw [Int.natAbs_natCast]; exact Nat.gcd_dvd_left ..)
  unfold sg
  split
  · exact (Int.neg_dvd).mpr h1
  · exact h1
theorem nT_abs {t c : Int} (hc : 0 < c) : nT (t.natAbs : Int) c = ((nT t c).natAbs : Int) ∧ nB (t.natAbs : Int) c = nB t c ∧ (t < 0 ↔ nT t c < 0) := by
  obtain ⟨u, hu⟩ := sg_dvd t c
  have hp := sg_pos (t := t) hc
  have e1 : nT t c = u := by
    unfold nT
    conv => lhs; arg 1; rw [hu]
    exact Int.mul_fdiv_cancel_left _ (by omega)
  have e2 : nT (t.natAbs : Int) c = (u.natAbs : Int) := by
    unfold nT
    rw [sg_abs]
    have : ((t.natAbs : Nat) : Int) = sg t c * (u.natAbs : Int) := by
      have h2 : t.natAbs = (sg t c).natAbs * u.natAbs := by conv => lhs; rw [hu]
                                                            exact Int.natAbs_mul ..
      rw [h2]
      push_cast
      rw [show ((sg t c).natAbs : Int) = sg t c by omega]
    rw [this]
    exact Int.mul_fdiv_cancel_left _ (by omega)
  refine ⟨by rw [e1, e2], by unfold nB; rw [sg_abs], ?_⟩
  rw [e1]
  constructor
  · intro h
    rw [hu] at h
    rcases Int.lt_or_le u 0 with z | z
    · exact z
    · have := Int.mul_nonneg (Int.le_of_lt hp) z
      omega
  · intro h
    rw [hu]
    exact Int.mul_neg_of_pos_of_neg hp h
theorem wds_tws {c : Int} (hc : 0 < c) : ∀ (l : PM) (f : Bool), wds c f l = tws f (tms l c)
  | [], _ => rfl
  | p :: l, f => by
    obtain ⟨h1, h2, h3⟩ := nT_abs (t := p.2) hc
    show stx (decide (p.2 < 0)) f :: ttx (nT p.2.natAbs c) (nB p.2.natAbs c) p.1 :: wds c false l = stx (decide (nT p.2 c < 0)) f :: ttx ((nT p.2 c).natAbs : Int) (nB p.2 c) p.1 :: tws false (tms l c)
    rw [h1, h2, wds_tws hc l false, decide_eq_decide.mpr h3]
theorem qtx_txt {r : PM} {c : Int} (hc : 0 < c) : qtx r c = txt (tms r c).reverse := by
  unfold qtx txt
  have e : (tms r c).reverse = tms r.reverse c := by unfold tms; rw [List.map_reverse]
  rw [e, wds_tws hc]
  by_cases h : r = []
  · subst h
    rfl
  · rw [if_neg h, if_neg]
    intro z
    have := congrArg List.length z
    unfold tms at this
    rw [List.length_map, List.length_reverse] at this
    exact h (List.eq_nil_of_length_eq_zero this)
theorem qrp_rpt (r : PM) (c : Int) : qrp r c = rpt (tms r c) := by
  unfold qrp rpt shs tms
  rw [List.map_map]
  rfl
/-- what is asked of a list of terms -/
structure IsT (ts : List Tm) : Prop where
  nd : (ts.map (·.1)).Nodup
  ln : ts.length ≤ 200
  so : ∀ t ∈ ts, srtd t.1
  ok : ∀ t ∈ ts, NmOk t.1 ∧ TO t.2.1 t.2.2
theorem LtOk.isT {ts : List Tm} (h : LtOk ts) : IsT ts := ⟨h.nd, Nat.le_trans h.ln (by decide), h.so, fun t ht => ⟨h.nm t ht, h.ok t ht⟩⟩
theorem IsT.tvs {ts : List Tm} (h : IsT ts) (k : List Str) : K15.tvs ts k = QM.tv ts k := by
  unfold K15.tvs
  have e : ts.map sTm = ts := by
    conv => rhs; rw [← List.map_id ts]
    refine List.map_congr_left fun t ht => ?_
    show (srt t.1, t.2.1, t.2.2) = t
    rw [srt_id (h.so t ht)]
  rw [e]
theorem nodup_le : ∀ (l l' : List (List Str)), l.Nodup → (∀ x ∈ l, x ∈ l') → l.length ≤ l'.length
  | [], _, _, _ => Nat.zero_le _
  | a :: l, l', nd, h => by
    have ha := h a List.mem_cons_self
    have nd' := List.nodup_cons.mp nd
    have := nodup_le l (l'.erase a) nd'.2 fun x hx => (List.mem_erase_of_ne (fun e => nd'.1 (by rw [← e]; exact hx))).mpr (h x (List.mem_cons_of_mem _ hx))
    rw [List.length_erase_of_mem ha] at this
    have : 0 < l'.length := List.length_pos_of_mem ha
    rw [List.length_cons]
    omega
theorem div_ne {n d : Int} (hn : n ≠ 0) (hd : 0 < d) : Rat.divInt n d ≠ 0 := fun z => by
  have : Rat.divInt n d = Rat.divInt 0 1 := by rw [z, Rat.zero_divInt]
  rw [Rat.divInt_eq_divInt_iff (by omega) (by decide)] at this
  omega
section
variable {r : PM} {c : Int} {ts : List Tm}
theorem key_iff (hT : IsT ts) (hR : QM.Red ltP r c) (hv : ∀ k, QM.val r c k = QM.tv ts k) (k : List Str) : k ∈ r.map (·.1) ↔ k ∈ ts.map (·.1) := by
  rw [hR.can.mem ltP_ord]
  constructor
  · intro h
    apply Classical.byContradiction
    intro z
    have e := hv k
    rw [QM.tv_out z] at e
    exact div_ne h hR.pos e
  · intro h z
    obtain ⟨t, ht, rfl⟩ := List.mem_map.mp h
    have e := hv t.1
    unfold QM.val at e
    rw [z, Rat.zero_divInt, QM.tv_in hT.nd ht] at e
    have := (hT.ok t ht).2
    exact div_ne this.1 this.2.1 e.symm
theorem term_at (hT : IsT ts) (hR : QM.Red ltP r c) (hv : ∀ k, QM.val r c k = QM.tv ts k) {t : Tm} (ht : t ∈ ts) : nT (QM.lk r t.1) c = t.2.1 ∧ nB (QM.lk r t.1) c = t.2.2 := by
  have e := hv t.1
  rw [QM.tv_in hT.nd ht] at e
  have hto := (hT.ok t ht).2
  have e2 := (Rat.divInt_eq_divInt_iff (by have := hR.pos; omega) (by have := hto.2.1; omega)).mp e
  exact nf hR.pos hto.2.1 hto.2.2.2.2.1 e2
theorem tms_is (hT : IsT ts) (hR : QM.Red ltP r c) (hv : ∀ k, QM.val r c k = QM.tv ts k) {us : List Tm} (hp : us.Perm ts) (hs : us.Pairwise (fun a b : Tm => ¬ ltP b.1 a.1)) : tms r c = us := by
  have nu : (us.map (·.1)).Nodup := (hp.map (·.1)).symm.nodup hT.nd
  have ek : r.map (·.1) = us.map (·.1) := ltP_ord.uniq hR.can.asc (ltP_ord.strict (List.pairwise_map.mpr hs) nu) fun x => by
    rw [key_iff hT hR hv, (hp.map (·.1)).mem_iff]
  have e1 : tms r c = (r.map (·.1)).map fun k => ((k, nT (QM.lk r k) c, nB (QM.lk r k) c) : Tm) := by
    unfold tms
    rw [List.map_map]
    refine List.map_congr_left fun p hp => ?_
    simp only [Function.comp]
    rw [QM.lk_mem (hR.can.nd ltP_ord) hp]
  have e2 : (us.map (·.1)).map (fun k => ((k, nT (QM.lk r k) c, nB (QM.lk r k) c) : Tm)) = us := by
    rw [List.map_map]
    conv => rhs; rw [← List.map_id us]
    refine List.map_congr_left fun u hu => ?_
    simp only [Function.comp]
    obtain ⟨h1, h2⟩ := term_at hT hR hv (hp.mem_iff.mp hu)
    rw [h1, h2]
    rfl
  rw [e1, ek, e2]
theorem po_of (hT : IsT ts) (hR : QM.Red ltP r c) (hv : ∀ k, QM.val r c k = QM.tv ts k) : PO r c ∧ ∀ p ∈ r, NmOk p.1 := by
  have nd := hR.can.nd ltP_ord
  have fv : ∀ k, QM.val r c k = Rat.divInt (QM.lk (ts.map fun t => (t.1, t.2.1 * (3000000000 / t.2.2))) k) 3000000000 := fun k => by
    rw [hv]
    have e0 : (ts.map fun t => ((t.1, t.2.1 * (3000000000 / t.2.2)) : List Str × Int)).map (·.1) = ts.map (·.1) := by rw [List.map_map]; rfl
    by_cases h : k ∈ ts.map (·.1)
    · obtain ⟨t, ht, rfl⟩ := List.mem_map.mp h
      have hto := (hT.ok t ht).2
      rw [QM.tv_in hT.nd ht, show QM.lk (ts.map fun t => ((t.1, t.2.1 * (3000000000 / t.2.2)) : List Str × Int)) t.1 = t.2.1 * (3000000000 / t.2.2) from QM.lk_mem (p := ((t.1, t.2.1 * (3000000000 / t.2.2)) : List Str × Int)) (by rw [e0]; exact hT.nd) (List.mem_map.mpr ⟨t, ht, rfl⟩)]
      have hd := hto.2.1
      rw [Rat.divInt_eq_divInt_iff (by omega) (by decide), Int.mul_assoc, Int.ediv_mul_cancel hto.2.2.1]
    · rw [QM.tv_out h, QM.lk_out (by rw [e0]; exact h), Rat.zero_divInt]
  obtain ⟨d1, bd⟩ := hR.bound ltP_ord (by decide) _ fv
  have c1 := Int.le_of_dvd (by decide) d1
  have keys : ∀ p ∈ r, ∃ t ∈ ts, t.1 = p.1 := fun p hp => by
    have := (key_iff hT hR hv p.1).mp (List.mem_map.mpr ⟨p, hp, rfl⟩)
    obtain ⟨t, ht, e⟩ := List.mem_map.mp this
    exact ⟨t, ht, e⟩
  refine ⟨⟨nd, hR.pos, by omega, ?_, fun p hp => ?_⟩, fun p hp => ?_⟩
  · have := nodup_le (r.map (·.1)) (ts.map (·.1)) nd fun x hx => (key_iff hT hR hv x).mp hx
    rw [List.length_map, List.length_map] at this
    have := hT.ln
    omega
  · obtain ⟨t, ht, e⟩ := keys p hp
    have hto := (hT.ok t ht).2
    have e0 : (ts.map fun t => ((t.1, t.2.1 * (3000000000 / t.2.2)) : List Str × Int)).map (·.1) = ts.map (·.1) := by rw [List.map_map]; rfl
    have b1 := bd p.1
    rw [QM.lk_mem nd hp, ← e, show QM.lk (ts.map fun t => ((t.1, t.2.1 * (3000000000 / t.2.2)) : List Str × Int)) t.1 = t.2.1 * (3000000000 / t.2.2) from QM.lk_mem (p := ((t.1, t.2.1 * (3000000000 / t.2.2)) : List Str × Int)) (by rw [e0]; exact hT.nd) (List.mem_map.mpr ⟨t, ht, rfl⟩)] at b1
    have s1 : Sm 94 t.2.1 := hto.2.2.2.1
    have s2 : Sm 32 (3000000000 / t.2.2) := by
      have h1 := Int.ediv_le_self t.2.2 (show (0 : Int) ≤ 3000000000 by decide)
      have h2 := Int.ediv_nonneg (show (0 : Int) ≤ 3000000000 by decide) (Int.le_of_lt hto.2.1)
      show (3000000000 / t.2.2).natAbs < 2 ^ 32
      omega
    have s3 := s1.mul s2
    exact Sm.mono (m := 126) (Nat.lt_of_le_of_lt b1 s3) (by decide)
  · obtain ⟨t, ht, e⟩ := keys p hp
    rw [← e]
    exact (hT.ok t ht).1
end
/-- a Question at o whose value is that of the terms -/
structure QT (TB Q o : Addr) (ts : List Tm) (L : LH) : Prop where
  ex : ∃ r c, QAt Q o r c L ∧ PO r c ∧ (∀ p ∈ r, NmOk p.1) ∧ QM.Red ltP r c ∧ (∀ k, QM.val r c k = QM.tv ts k) ∧ (∀ us : List Tm, us.Perm ts → us.Pairwise (fun a b : Tm => ¬ ltP b.1 a.1) → qtx r c = txt us.reverse ∧ qrp r c = rpt us)
theorem QT.ext {TB Q o : Addr} {ts : List Tm} {L L' : LH} (h : QT TB Q o ts L) (e : Ext L L') : QT TB Q o ts L' := by
  obtain ⟨r, c, hq, h⟩ := h.ex
  exact ⟨r, c, hq.ext e, h⟩
theorem tv_neg (ts : List Tm) (k : List Str) : QM.tv (ts.map fun t => ((t.1, -t.2.1, t.2.2) : Tm)) k = -QM.tv ts k := by
  induction ts with
  | nil => show (0 : Rat) = -0; rw [Rat.neg_zero]
  | cons t ts ih =>
    show (if t.1 = k then Rat.divInt (-t.2.1) t.2.2 else 0) + QM.tv (ts.map _) k = -((if t.1 = k then Rat.divInt t.2.1 t.2.2 else 0) + QM.tv ts k)
    rw [ih, Rat.neg_add]
    congr 1
    split
    · rw [Rat.neg_divInt]
    · rw [Rat.neg_zero]
theorem TO.neg {n d : Int} (h : TO n d) : TO (-n) d := by
  unfold TO at *
  rw [Int.natAbs_neg]
  exact ⟨by omega, h.2⟩
theorem IsT.neg {ts : List Tm} (h : IsT ts) : IsT (ts.map fun t => ((t.1, -t.2.1, t.2.2) : Tm)) := by
  refine ⟨by rw [List.map_map]; exact h.nd, by rw [List.length_map]; exact h.ln, fun t ht => ?_, fun t ht => ?_⟩
  · obtain ⟨u, hu, rfl⟩ := List.mem_map.mp ht
    exact h.so u hu
  · obtain ⟨u, hu, rfl⟩ := List.mem_map.mp ht
    exact ⟨(h.ok u hu).1, (h.ok u hu).2.neg⟩
theorem IsT.take {ts : List Tm} (h : IsT ts) (i : Nat) : IsT (ts.take i) :=
  ⟨by rw [List.map_take]; exact h.nd.sublist (List.take_sublist ..), Nat.le_trans (by rw [List.length_take]; exact Nat.min_le_right _ _) h.ln, fun t ht => h.so t (List.mem_of_mem_take ht), fun t ht => h.ok t (List.mem_of_mem_take ht)⟩
theorem IsT.one {ts : List Tm} (h : IsT ts) {t : Tm} (ht : t ∈ ts) : IsT [t] :=
  ⟨List.nodup_cons.mpr ⟨List.not_mem_nil, List.nodup_nil⟩, (show 1 ≤ 200 by decide), fun u hu => by rw [List.mem_singleton.mp hu]; exact h.so t ht, fun u hu => by rw [List.mem_singleton.mp hu]; exact h.ok t ht⟩
theorem IsT.nil : IsT [] := ⟨List.nodup_nil, Nat.zero_le _, fun _ h => (List.not_mem_nil h).elim, fun _ h => (List.not_mem_nil h).elim⟩
theorem hole_keep {a b : Addr} {o u : HO} {L : LH} {F : HO → LH} (h : Hole a o L F) (n : b ≠ a) (m : Mem b u L) (o' : HO) : Mem b u (F o') := by
  induction h with
  | head =>
    cases m with
    | head => exact absurd rfl n
    | tail m => exact .tail m
  | tail _ ih =>
    cases m with
    | head => exact .head
    | tail m => exact .tail (ih m)
end K15
set_option Elab.async false
set_option linter.all false
set_option maxRecDepth 100000
set_option maxHeartbeats 4000000
namespace K15
open PySem L2 N3
local macro_rules | `(tactic| walk_at "at") => `(tactic| with_reducible (repeat (first | exact At.head | apply At.tail)))
local macro_rules | `(tactic| walk_at "mem") => `(tactic| with_reducible (repeat (first | exact Mem.head | apply Mem.tail)))
local macro_rules | `(tactic| walk_at "boot") => `(tactic| with_reducible (first | exact boot_isi | exact boot_max | exact boot_min | exact boot_abs | exact boot_len | exact boot_repr | exact boot_divmod | exact boot_all | exact boot_sorted | exact boot_int | exact boot_bool | exact boot_str | exact boot_list | exact boot_tuple))
local macro_rules | `(tactic| walk_at "room") => `(tactic| (first | assumption | exact Room.mono (by assumption) (by decide)))
local macro_rules | `(tactic| walk_at "none") => `(tactic| (refine Txt.bn (by assumption) _ ?xz; (case xz => with_reducible (repeat (first | exact InS.head | apply InS.tail)))))
local macro_rules | `(tactic| walk_at "n3") => `(tactic| first
  | with_reducible refine ws_ret ?_
  | with_reducible refine we_int ?_
  | with_reducible refine we_str ?_
  | with_reducible refine we_bool ?_
  | with_reducible refine we_none ?_
  | ((with_reducible refine' x_name ?xo ?xa ?xb ?xc ?_); (case xo => assumption); (case xa => walk_at "at"); (case xb => walk_at "at"); (case xc => rfl))
  | ((with_reducible refine' f_tops ?xt ?_ ?xh); (case xt => assumption); (case xh => rfl))
  | ((with_reducible refine' f_qbot ?xt ?_ ?xh); (case xt => assumption); (case xh => rfl))
  | ((with_reducible refine' we_prop ?xg ?xr ?_ ?xh); (case xg => assumption); (case xr => walk_at "room"); (case xh => rfl))
  | with_reducible refine we_bin ?_
  | ((with_reducible refine wo_mulW ?xm ?_); (case xm => exact Sm.cm (by assumption) (by assumption)))
  | with_reducible refine wo_add ?_
  | with_reducible refine wo_sub ?_
  | with_reducible refine wo_lt ?_
  | with_reducible refine wo_gt ?_
  | with_reducible refine wo_le ?_
  | with_reducible refine wo_ge ?_
  | with_reducible refine wu_neg ?_
  | ((with_reducible refine we_cmp ?xh ?_); (case xh => exact nomark _))
  | ((with_reducible refine wt_cmp ?xh ?_); (case xh => exact nomark _))
  | ((with_reducible refine wa_cons ?_ ?xh); (case xh => rfl))
  | with_reducible refine wa_nil ?_
  | with_reducible refine we_and ?_
  | with_reducible refine we_or ?_
  | with_reducible refine we_not ?_
  | with_reducible refine wt_not ?_
  | with_reducible refine we_un ?_
  | with_reducible refine we_one ?_
  | with_reducible refine wt_ww (ww_or ?_)
  | with_reducible refine wt_ww (ww_and ?_)
  | with_reducible refine ww_or ?_
  | with_reducible refine ww_and ?_
  | with_reducible refine ww_or1 ?_
  | with_reducible refine ww_and1 ?_
  | with_reducible refine we_ifExp ?_
  | with_reducible refine ws_if ?_
  | with_reducible refine ws_pass ?_
  | with_reducible refine we_tup ?_
  | with_reducible refine we_lst ?_
  | ((with_reducible refine' x_set ?xo ?xa ?xb ?_ ?xs); (case xo => assumption); (case xa => walk_at "at"); (case xb => walk_at "at"); (case xs => rfl))
  | ((with_reducible refine' x_setF ?_ ?xs); (case xs => rfl))
  | ((with_reducible refine' x_call ?xo ?xa ?xg ?xr ?_ ?xe ?xp); (case xo => assumption); (case xa => walk_at "at"); (case xg => assumption); (case xr => walk_at "room"); (case xe => rfl); (case xp => rfl))
  | ((with_reducible refine' x_callB ?xo ?xa ?xg ?xr ?_ ?xe ?xp); (case xo => assumption); (case xr => walk_at "boot"); (case xa => walk_at "at"); (case xg => walk_at "none"); (case xe => rfl); (case xp => rfl))
  | ((with_reducible refine' x_callTy ?xo ?xa ?xg ?xr ?_ ?xe ?xp); (case xo => assumption); (case xr => walk_at "boot"); (case xa => walk_at "at"); (case xg => walk_at "none"); (case xe => rfl); (case xp => rfl))
  | ((with_reducible refine' x_callFn ?xo ?xa ?xg ?_ ?xe ?xp); (case xo => assumption); (case xg => with_reducible (first | exact Txt.mgcd (by assumption) | exact Txt.mlcm (by assumption))); (case xa => walk_at "at"); (case xe => rfl); (case xp => rfl))
  | ((with_reducible refine' x_bty ?xo ?xa ?xg ?xr ?_); (case xo => assumption); (case xr => walk_at "boot"); (case xa => walk_at "at"); (case xg => walk_at "none"))
  | ((with_reducible refine' x_cls ?xt ?xo ?xa ?_); (case xt => assumption); (case xo => assumption); (case xa => walk_at "at"))
  | ((with_reducible refine' x_clsQ ?xt ?xo ?xa ?_); (case xt => assumption); (case xo => assumption); (case xa => walk_at "at"))
  | ((with_reducible refine' x_make ?xo ?xa ?xg ?xr ?_ ?xe ?xp); (case xo => assumption); (case xa => walk_at "at"); (case xg => assumption); (case xr => walk_at "room"); (case xe => rfl); (case xp => rfl))
  | ((with_reducible refine' x_callG ?xo ?xa ?xg ?xr ?xd ?_ ?xe ?xp); (case xo => assumption); (case xa => walk_at "at"); (case xg => assumption); (case xr => walk_at "room"); (case xd => assumption); (case xe => rfl); (case xp => rfl))
  | with_reducible refine wss_nil ?_
  | refine ⟨_, _, _, _, rfl, (by assumption), ?_⟩
  | refine ⟨_, _, _, rfl, (by assumption), ?_⟩
  | refine wss_cons ?_)
local macro_rules | `(tactic| walk_at "gw") => `(tactic| repeat walk_at "n3")
local macro_rules | `(tactic| walk_at "go") => `(tactic| repeat (first | walk_at "n3" | ((with_reducible refine' wt_val ?_ ?xv); (case xv => intro _; rfl))))
theorem dun_add : PySem.dunder Operator.Add.info.2 = "__add__" := by decide +kernel
theorem dun_sub : PySem.dunder Operator.Sub.info.2 = "__sub__" := by decide +kernel
theorem ne_true {x y : Str} (h : x = y) {z : Prop} (q : (!decide (V.str x = V.str y)) = true) : z := by
  rw [h, decide_eq_true rfl] at q
  cases q
/-- what the law's test leans on -/
structure Rq (P : Program) (w : World) (K : PySem.W.Frag) (mg : Str → Option Value) (base : Heap) (TB C Q t0 : Addr) : Prop where
  T : Txt K mg C Q
  E0 : EmpT K t0
  D : GFn P w K mg base "_law_draw" 1 ["_law_rng_here", "_law_many"] [] pDraw
  Nm : GFn P w K mg base "_law_names" 2 ["_law_rng_here", "_law_many", "_law_taken"] [] pNames
  Tm : GFn P w K mg base "_law_terms" 3 ["_law_rng_here", "_law_names_here"] [] pLTerms
  Md : GFn P w K mg base "_law_made" 10 ["_law_terms_here"] [] (pMade TB Q)
  Tx : GFn P w K mg base "_law_text" 2 ["_law_terms_here"] [] pLText
  Sh : GFg P w K mg base "_law_shown" 2 ["_law_terms_here"] [] pShown
  St : GOp P w K mg base Q "__str__" 5 ["self"] (pQStr Q)
  Rp : GOpG P w K mg base Q "__repr__" 6 ["self"] (pQRepr Q)
  Ng : GOp P w K mg base Q "__neg__" 8 ["self"] (pQNeg TB Q)
  Ad : GOp P w K mg base Q "__add__" 9 ["self", "other"] (pPm TB Q 1)
  Sb : GOp P w K mg base Q "__sub__" 9 ["self", "other"] (pPm TB Q (-1))
  Q0 : GMk P w K mg base "Question" Q 1 ["self", "terms"] [.ref t0] (pInit0 K Q)
  Qn : GMk P w K mg base "Question" Q 8 ["self", "terms"] [] (pQInit TB C Q)
  Rn : GMk P w K mg base "Ratio" C 2 ["self", "top", "bottom"] [] (pInit C)
  Ok : GCm P w K mg base Q "of_key" 10 (pOfKey TB Q)
  Cn : GCm P w K mg base Q "constant" 10 (pConst TB C Q)
  sf : PySem.W.selfFirst K Q = true
section
variable {P : Program} {w : World} {K : PySem.W.Frag} {mg : Str → Option Value} {base : Heap}
def pRight (TB : Addr) : Pre := fun vs L Kk => ∃ (r : Addr) (a b : Int) (F : HO → LH), vs = [.ref r] ∧ Hole r (rl a b) L F ∧ TabIn TB qN L ∧ ∀ a' b' L', Ext (F (rl a' b')) L' → TabIn TB qN L' → Kk (.bl true) L'
abbrev nRight : List Str := ["_law_rng_here", "_law_names_here", "_law_terms_here", "_law_one", "_law_turned", "_law_parts", "_law_top", "_law_bottom", "_law_product", "_law_alone"]
theorem scRight : FnScope nRight ["_law_rng_here"] (defScope sRight) := ⟨rfl, rfl, rfl, by decide +kernel, rfl, by decide +kernel, by decide +kernel⟩
abbrev gRight : List Str := ["_law_names", "_law_draw", "_law_terms", "_law_made", "str", "_law_text", "repr", "_law_shown", "Question", "Ratio"]
/-- the parts of a Question with the value of the terms -/
theorem val_of {ts : List Tm} {r : PM} {c : Int} (h : IsT ts) (hv : ∀ k, QM.val r c k = tvs ts k) (k : List Str) : QM.val r c k = QM.tv ts k := by rw [hv, h.tvs]
theorem one_mul_div (x c : Int) : Rat.divInt (1 * x) c = Rat.divInt x c := by rw [Int.one_mul]
theorem neg_mul_div (x c : Int) : Rat.divInt (-1 * x) c = -Rat.divInt x c := by rw [Rat.neg_divInt]; congr 1; omega
theorem rev_tvs {t : Tm} (h : srtd t.1) (k : List Str) : tvs [(t.1.reverse, t.2.1, t.2.2)] k = QM.tv [t] k := by
  unfold tvs
  show QM.tv [(srt t.1.reverse, t.2.1, t.2.2)] k = _
  rw [srt_rev, srt_id h]
theorem tvs_perm {ts us : List Tm} (h : ts.Perm us) (k : List Str) : tvs ts k = tvs us k := QM.tv_perm (h.map sTm) k
theorem txt_key (y : Str) : txt [(([y], 1, 1) : Tm)] = y := by
  unfold txt
  rw [if_neg (by simp)]
  show PySem.Txt.join "" [stx (decide ((1 : Int) < 0)) true, ttx (((1 : Int).natAbs : Nat) : Int) 1 [y]] = y
  rw [join_cons, join_one, emp_r]
  have e1 : stx (decide ((1 : Int) < 0)) true = "" := rfl
  have e2 : ttx (((1 : Int).natAbs : Nat) : Int) 1 [y] = y := by
    unfold ttx
    rw [if_pos ⟨by simp, rfl, rfl⟩, join_one]
  rw [e1, e2, emp_l]
theorem ww_sub {X : Cx} {e : Expr} {σ : L2.St} {L L' : LH} {KT : Bool → LH → Prop} (s : Sub L L') (h : WW X e σ L' KT) : WW X e σ L KT := fun H hL => h H (s H hL)
theorem okRight {f TB C Q t0 : Addr} {fd : FuncData} (F : Fun K "_law_right" "_law_right" sRight f fd) (R : Rq P w K mg base TB C Q t0) : FnG P w K mg base 13 f fd ["_law_rng_here"] (pRight TB) := by
  refine fnXG (Gn := gRight) F scRight (by decide +kernel) (fun vs L Kk h => ?_) (fun X e1 e2 e3 e4 e5 hX hr hgd vs L Kk h => ?_)
  · obtain ⟨r, a, b, G, rfl, _⟩ := h
    rfl
  · subst e1 e2 e3 e4 e5
    obtain ⟨r, a, b, G, rfl, hh, hT, k⟩ := h
    obtain ⟨T, E0, GD, GNm, GTm, GMd, GTx, GSh, GSt, GRp, GNg, GAd, GSb, GQ0, GQn, GRn, GOk, GCn, hsf⟩ := R
    refine wss_nd fun nd => ?_
    have hTG : ∀ a' b', TabIn TB qN (G (rl a' b')) := fun a' b' => hT.hole hh nd (fun _ z => nomatch z) (fun c z => by unfold LamX.CodeO at z; cases z) (fun b' u n m o' => hole_keep hh n m o') _
    clear hT nd
    walk_at "go"
    refine ⟨r, _, a, b, _, rfl, hh, by decide, by decide, fun d a1 b1 d0 d1 => ?_⟩
    walk_at "go"
    refine ⟨show 0 ≤ sizeLine from len_line, fun e0 => ?_⟩
    walk_at "go"
    obtain ⟨m, hm⟩ : ∃ m : Nat, 1 + d = (m : Int) := ⟨(1 + d).toNat, by omega⟩
    rw [hm]
    refine ⟨r, e0, m, [], a1, b1, _, rfl, .tail (hh.again' _), fun o => .head, by omega, by decide, fun nq ns a2 b2 hl hn => ?_⟩
    walk_at "go"
    refine ⟨r, nq, ns, a2, b2, _, rfl, .tail (.tail (hh.again' _)), fun o => .head, by omega, by omega, hn, fun l xs ts J a3 b3 ml0 tl0 hlt => ?_⟩
    have hI := hlt.isT
    have e1 : Ext (G (rl a3 b3)) (J ++ (nq, .lst (ns.map V.str)) :: (e0, .lst []) :: G (rl a3 b3)) := ((Ext.cons _ _).trans (Ext.cons _ _)).trans (Ext.app _ _)
    have hT1 : TabIn TB qN (J ++ (nq, .lst (ns.map V.str)) :: (e0, .lst []) :: G (rl a3 b3)) := (((hTG a3 b3).cons _).cons _).app J
    have ml1 : Mem l (.lst xs) (J ++ (nq, .lst (ns.map V.str)) :: (e0, .lst []) :: G (rl a3 b3)) := ml0.sl (List.sublist_append_left _ _)
    have tl1 : TlAt (J ++ (nq, .lst (ns.map V.str)) :: (e0, .lst []) :: G (rl a3 b3)) xs ts := tl0.map fun a x m => m.sl (List.sublist_append_left _ _)
    have mn1 : Mem nq (.lst (ns.map V.str)) (J ++ (nq, .lst (ns.map V.str)) :: (e0, .lst []) :: G (rl a3 b3)) := (Mem.head).app J
    have k1 : ∀ L', Ext (J ++ (nq, .lst (ns.map V.str)) :: (e0, .lst []) :: G (rl a3 b3)) L' → TabIn TB qN L' → Kk (.bl true) L' := fun L' e t => k a3 b3 L' (e1.trans e) t
    have hn0 : ∃ y ys, ns = y :: ys := by
      cases ns with
      | nil => simp at hl; omega
      | cons y ys => exact ⟨y, ys, rfl⟩
    clear k hTG e1 ml0 tl0 hh hm d0 d1
    generalize J ++ (nq, HO.lst (ns.map V.str)) :: (e0, HO.lst []) :: G (rl a3 b3) = L1 at *
    -- one
    walk_at "go"
    refine ⟨l, xs, ts, rfl, ml1, tl1, hI.ln, hI.ok, hT1, fun o1 r1 c1 L2 e12 hT2 q1 R1 v1' => ?_⟩
    have v1 := val_of hI v1'
    obtain ⟨po1, nm1⟩ := po_of hI R1 v1
    have ml2 := e12 _ _ ml1 (fun _ z => nomatch z)
    have mn2 := e12 _ _ mn1 (fun _ z => nomatch z)
    have tl2 := tl1.ext e12
    have k2 : ∀ L', Ext L2 L' → TabIn TB qN L' → Kk (.bl true) L' := fun L' e t => k1 L' (e12.trans e) t
    clear k1 tl1 ml1 mn1 hT1 e12 v1'
    -- turned
    refine wss_cons (x_setLc [("_law_top", 6), ("_law_bottom", 7), ("_law_product", 8)] hX (by walk_at "at") (by walk_at "at") (by decide +kernel) rfl (by decide +kernel) rfl (wi_list ?_))
    walk_at "go"
    refine ⟨l, xs, rfl, .of ml2, fun Rt => ⟨fun i L' => ∃ (J : LH) (acc : List V), L' = J ++ (Rt, .lst acc) :: L2 ∧ TlAt L' acc ((ts.map fun t => ((t.1, -t.2.1, t.2.2) : Tm)).take i), ⟨[], [], rfl, .nil⟩, ?_, ?_, ?_⟩⟩
    · rintro i L' _ ⟨J, acc, rfl, _⟩
      exact .of ((Mem.tail ml2).app J)
    · rintro i v L' L'' hi ⟨J, acc, rfl, hacc⟩ ⟨rfl, hv⟩
      intro s' H' Ca cl fp
      obtain ⟨t, a, q, ht, rfl, ma, mq⟩ := tl_get tl2 hv
      have ma2 : Mem a (.tup [.int t.2.1, .int t.2.2, .ref q]) (J ++ (Rt, .lst acc) :: L2) := (Mem.tail ma).app J
      have hB := hX.blk (Vb := ["_law_top", "_law_bottom", "_law_product"]) (Lb := ["_law_top", "_law_bottom", "_law_product"]) (Gb := []) (scope := ⟨.function, [(".0", .local), ("_law_top", .local), ("_law_bottom", .local), ("_law_product", .local)], false, false, []⟩) (by decide +kernel)
      refine x_tup (hB s' H' Ca cl fp) ma2 ?_
      refine wgs_cons (x_tgt (hB s' H' Ca cl fp) (by walk_at "at") (by walk_at "at") ?_)
      refine wgs_cons (x_tgt (hB s' H' Ca cl fp) (by walk_at "at") (by walk_at "at") ?_)
      refine wgs_cons (x_tgt (hB s' H' Ca cl fp) (by walk_at "at") (by walk_at "at") ?_)
      refine wgs_nil ⟨rfl, fun s' H' Ca cl fp => ?_⟩
      have hX' := hB s' H' Ca cl fp
      walk_at "go"
      refine ⟨show 3 ≤ sizeLine from len_line, fun u => ?_⟩
      have len : acc.length = ((ts.map fun t => ((t.1, -t.2.1, t.2.2) : Tm)).take i).length := Paired.length hacc
      refine ⟨acc, _, .tail (Hole.head.app J), ?_, _, Sub.refl _, (u, _) :: J, acc ++ [.ref u], rfl, ?_⟩
      · rw [len, List.length_take, List.length_map]
        have := hI.ln
        exact len_lt (by omega)
      · rw [take_succ (map_getI (f := fun t : Tm => ((t.1, -t.2.1, t.2.2) : Tm)) ht)]
        exact paired_snoc (hacc.map fun a x m => .tail (mem_alter (fun z => by cases z) m)) ⟨u, q, rfl, .head, .tail ((Mem.tail mq).app J)⟩
    rintro L' ⟨J, acc, rfl, hacc⟩
    have e : (ts.map fun t => ((t.1, -t.2.1, t.2.2) : Tm)).take xs.length = ts.map fun t => ((t.1, -t.2.1, t.2.2) : Tm) := List.take_of_length_le (by rw [List.length_map, Paired.length tl2]; exact Nat.le_refl _)
    rw [e] at hacc
    have hIn := hI.neg
    have e23 : Ext L2 (J ++ (Rt, .lst acc) :: L2) := (Ext.cons _ _).trans (Ext.app _ _)
    have hT3 : TabIn TB qN (J ++ (Rt, .lst acc) :: L2) := (hT2.cons _).app J
    have mR3 : Mem Rt (.lst acc) (J ++ (Rt, .lst acc) :: L2) := (Mem.head).app J
    have ml3 := e23 _ _ ml2 (fun _ z => nomatch z)
    have mn3 := e23 _ _ mn2 (fun _ z => nomatch z)
    have tl3 := tl2.ext e23
    have q13 := q1.ext e23
    have k3 : ∀ L', Ext (J ++ (Rt, .lst acc) :: L2) L' → TabIn TB qN L' → Kk (.bl true) L' := fun L' e t => k2 L' (e23.trans e) t
    clear k2 tl2 ml2 mn2 hT2 e23 q1
    show WSs X _ _ (J ++ (Rt, .lst acc) :: L2) _
    generalize J ++ (Rt, HO.lst acc) :: L2 = L3 at *
    -- the texts
    obtain ⟨dx1, dd1, mo13, md13⟩ := id q13
    refine wss_cons (ws_if ?_)
    walk_at "go"
    refine wc_ownStr GSt (by walk_at "room") mo13 ⟨o1, r1, c1, rfl, q13, po1, nm1, _, rfl, ?_⟩
    walk_at "go"
    refine ⟨l, xs, ts, rfl, ml3, tl3, hI.ln, hI.ok, fun us hp hs => ?_⟩
    have tx1 : qtx r1 c1 = txt us.reverse := by rw [qtx_txt R1.pos, tms_is hI R1 v1 hp hs]
    refine wo_ne rfl ⟨_, rfl, fun _ => ?_, fun z => ne_true tx1 z⟩
    walk_at "go"
    refine wc_ownReprG GRp (by walk_at "room") hgd mo13 ⟨o1, r1, c1, rfl, q13, po1, nm1, _, rfl, ?_⟩
    walk_at "go"
    refine ⟨l, xs, ts, rfl, ml3, tl3, hI.ln, hI.ok, fun us2 hp2 hs2 => ?_⟩
    refine wo_ne rfl ⟨_, rfl, fun _ => ?_, fun z => ne_true (by rw [qrp_rpt, tms_is hI R1 v1 hp2 hs2]) z⟩
    walk_at "go"
    refine wu_own GNg (by walk_at "room") mo13 ⟨o1, r1, c1, rfl, q13, po1, hT3, fun o3 r3 c3 L4 e34 hT4 q3 R3 v3' => ?_⟩
    have v3 : ∀ k, QM.val r3 c3 k = QM.tv (ts.map fun t => ((t.1, -t.2.1, t.2.2) : Tm)) k := fun k => by
      rw [v3', neg_mul_div, tv_neg, ← v1 k]
      rfl
    obtain ⟨po3, nm3⟩ := po_of hIn R3 v3
    obtain ⟨dx3, dd3, mo3, md3⟩ := id q3
    have ml4 := e34 _ _ ml3 (fun _ z => nomatch z)
    have mn4 := e34 _ _ mn3 (fun _ z => nomatch z)
    have tl4 := tl3.ext e34
    have q14 := q13.ext e34
    have mR4 := e34 _ _ mR3 (fun _ z => nomatch z)
    have tn4 := hacc.ext e34
    have k4 : ∀ L', Ext L4 L' → TabIn TB qN L' → Kk (.bl true) L' := fun L' e t => k3 L' (e34.trans e) t
    clear k3 tl3 ml3 mn3 hT3 q13 mo13 md13 mR3 hacc e34
    walk_at "go"
    refine wc_ownStr GSt (by walk_at "room") mo3 ⟨o3, r3, c3, rfl, q3, po3, nm3, _, rfl, ?_⟩
    walk_at "go"
    refine ⟨Rt, acc, _, rfl, mR4, tn4, hIn.ln, hIn.ok, fun us3 hp3 hs3 => ?_⟩
    refine wo_ne rfl ⟨_, rfl, fun z => ne_true (by rw [qtx_txt R3.pos, tms_is hIn R3 v3 hp3 hs3]) z, fun _ => ?_⟩
    refine wss_nil ?_
    -- the parts
    refine wss_cons (x_set (by assumption) (by walk_at "at") (by walk_at "at") (x_make0 (by assumption) (by walk_at "at") GQ0 (by walk_at "room") ?_))
    intro op dp
    refine ⟨op, dp, t0, L4, rfl, rfl, E0, fun d0 => ⟨rfl, ?_⟩⟩
    have e45 : Ext L4 ((d0, .dT []) :: (op, .ins Q dp (qF d0 1)) :: L4) := (Ext.cons _ _).trans (Ext.cons _ _)
    have qp5 : QAt Q op [] 1 ((d0, .dT []) :: (op, .ins Q dp (qF d0 1)) :: L4) := ⟨dp, d0, .tail .head, .head⟩
    have hT5 : TabIn TB qN ((d0, .dT []) :: (op, .ins Q dp (qF d0 1)) :: L4) := (hT4.cons _).cons _
    have ml5 := e45 _ _ ml4 (fun _ z => nomatch z)
    have mn5 := e45 _ _ mn4 (fun _ z => nomatch z)
    have tl5 := tl4.ext e45
    have q15 := q14.ext e45
    have k5 : ∀ L', Ext ((d0, .dT []) :: (op, .ins Q dp (qF d0 1)) :: L4) L' → TabIn TB qN L' → Kk (.bl true) L' := fun L' e t => k4 L' (e45.trans e) t
    clear k4 tl4 ml4 mn4 hT4 q14 mR4 tn4 e45 q3 mo3 md3
    generalize (d0, HO.dT []) :: (op, HO.ins Q dp (qF d0 1)) :: L4 = L5 at *
    refine wss_cons (ws_forW hX.calm hX.pas (wi_list ?_))
    walk_at "go"
    refine ⟨l, xs, rfl, .of ml5, fun i σ' L' => ∃ (o : Addr) (rp : PM) (cp : Int) (v6 v7 v8 : Option V), σ' = [some (.ref r), some (.ref nq), some (.ref l), some (.ref o1), some (.ref Rt), some (.ref o), v6, v7, v8, none] ∧ Ext L5 L' ∧ TabIn TB qN L' ∧ QAt Q o rp cp L' ∧ QM.Red ltP rp cp ∧ (∀ k, QM.val rp cp k = QM.tv (ts.take i) k), ⟨op, [], 1, none, none, none, rfl, Ext.refl _, hT5, qp5, QM.red_nil, fun k => QM.val_nil 1 k⟩, ?_, ?_, ?_⟩
    · rintro i σ' L' _ ⟨o, rp, cp, v6, v7, v8, _, e, _⟩
      exact .of (e _ _ ml5 (fun _ z => nomatch z))
    · rintro i v σ' L' L'' hi ⟨o, rp, cp, v6, v7, v8, rfl, e5, hT6, qo, Ro, vo⟩ ⟨rfl, hv⟩
      obtain ⟨t, a, q, ht, rfl, ma, mq⟩ := tl_get tl5 hv
      have htm := List.mem_of_getElem? ht
      obtain ⟨hnm, hto⟩ := hI.ok t htm
      have hso := hI.so t htm
      obtain ⟨g1, g2, g3⟩ := to_lg hto
      have ma6 := e5 _ _ ma (fun _ z => nomatch z)
      have mq6 := e5 _ _ mq (fun _ z => nomatch z)
      have hd := hto.2.1
      refine x_tup (by assumption) ma6 ?_
      refine wgs_cons (x_tgt (by assumption) (by walk_at "at") (by walk_at "at") ?_)
      refine wgs_cons (x_tgt (by assumption) (by walk_at "at") (by walk_at "at") ?_)
      refine wgs_cons (x_tgt (by assumption) (by walk_at "at") (by walk_at "at") ?_)
      refine wgs_nil ?_
      refine wss_cons (x_set (by assumption) (by walk_at "at") (by walk_at "at") (we_bin ?_))
      refine x_name (by assumption) (by walk_at "at") (by walk_at "at") rfl ?_
      refine x_make (by assumption) (by walk_at "at") GQn (by walk_at "room") (wa_cons (we_lst (wa_cons (we_tup (wa_cons (x_make (by assumption) (by walk_at "at") GRn (by walk_at "room") ?_ (by rfl) (by rfl)) (by rfl))) (by rfl))) (by rfl))
      walk_at "go"
      intro b db
      refine ⟨_, _, _, _, _, rfl, rfl, by omega, Nat.lt_of_lt_of_le g2 (by decide), rfl, ?_⟩
      rw [(nT_id hto).1, (nT_id hto).2]
      refine wa_cons (we_revT ?_) (by rfl)
      walk_at "go"
      refine ⟨q, _, rfl, .of (.tail mq6), fun pr => ?_⟩
      rw [← List.map_reverse]
      walk_at "go"
      refine ⟨show 2 ≤ sizeLine from len_line, fun tt => ?_⟩
      walk_at "go"
      refine ⟨show 1 ≤ sizeLine from len_line, fun lt => ?_⟩
      walk_at "go"
      intro o' do'
      have hok1 : ∀ u ∈ [((t.1.reverse, t.2.1, t.2.2) : Tm)], NmOk u.1 ∧ TO u.2.1 u.2.2 := fun u hu => by
        rw [List.mem_singleton.mp hu]
        exact ⟨⟨by rw [List.length_reverse]; exact hnm.1, fun x hx => hnm.2 x (List.mem_reverse.mp hx)⟩, hto⟩
      refine ⟨o', do', lt, [.ref tt], [(t.1.reverse, t.2.1, t.2.2)], 3000000000, _, rfl, rfl, .head, .cons ⟨tt, rfl, ⟨.ref b, pr, .tail .head, .rat (.tail (.tail (.tail .head))), .inr (.tail (.tail .head))⟩⟩ .nil, tmsOk_of (show 1 ≤ 200 by decide) hok1, (((hT6.cons _).cons _).cons _).cons _, fun L7 r7 c7 e67 hT7 q7 R7 v7' => ⟨rfl, ?_⟩⟩
      have e67' : Ext L'' L7 := (((Ext.cons _ _).trans (Ext.cons _ _)).trans ((Ext.cons _ _).trans (Ext.cons _ _))).trans e67
      have hI1 := hI.one htm
      have v7 : ∀ k, QM.val r7 c7 k = QM.tv [t] k := fun k => by rw [v7', rev_tvs hso]
      obtain ⟨po7, _⟩ := po_of hI1 R7 v7
      obtain ⟨poo, _⟩ := po_of (hI.take i) Ro vo
      have qo7 := qo.ext e67'
      obtain ⟨dxo, ddo, moo, mdo⟩ := id qo7
      obtain ⟨dx7, dd7, mo7, md7⟩ := id q7
      refine wo_own (op := .Add) (k := 9) (ps := ["self", "other"]) (pre := pPm TB Q 1) (by rw [dun_add]; exact GAd) hsf (by walk_at "room") moo mo7 ⟨o, o', rp, cp, r7, c7, rfl, qo7, q7, poo, po7, hT7, fun o9 r9 c9 L9 e79 hT9 q9 R9 v9 => ?_⟩
      refine wss_nil ⟨_, Sub.refl _, o9, r9, c9, _, _, _, rfl, (e5.trans e67').trans e79, hT9, q9, R9, fun k => ?_⟩
      rw [v9, one_mul_div, vo, take_succ ht, QM.tv_snoc]
      have := v7 k
      unfold QM.val at this
      rw [this]
      show _ + (_ + (0 : Rat)) = _
      rw [Rat.add_zero]
    rintro σ' L6 ⟨o2, r2, c2, v6, v7, v8, rfl, e56, hT6, q2, R2, v2'⟩
    have e2 : ts.take xs.length = ts := List.take_of_length_le (by rw [Paired.length tl5]; exact Nat.le_refl _)
    rw [e2] at v2'
    obtain ⟨po2, nm2⟩ := po_of hI R2 v2'
    have ml6 := e56 _ _ ml5 (fun _ z => nomatch z)
    have mn6 := e56 _ _ mn5 (fun _ z => nomatch z)
    have tl6 := tl5.ext e56
    have q16 := q15.ext e56
    have k6 : ∀ L', Ext L6 L' → TabIn TB qN L' → Kk (.bl true) L' := fun L' e t => k5 L' (e56.trans e) t
    clear k5 tl5 ml5 mn5 hT5 q15 qp5 e56
    obtain ⟨dx1', dd1', mo16, md16⟩ := id q16
    obtain ⟨dx2, dd2, mo26, md26⟩ := id q2
    refine wss_cons (ws_if ?_)
    walk_at "go"
    refine wc_ownStr GSt (by walk_at "room") mo26 ⟨o2, r2, c2, rfl, q2, po2, nm2, _, rfl, ?_⟩
    walk_at "go"
    refine wc_ownStr GSt (by walk_at "room") mo16 ⟨o1, r1, c1, rfl, q16, po1, nm1, _, rfl, ?_⟩
    have same : qtx r2 c2 = qtx r1 c1 := by
      obtain ⟨ea, eb⟩ := R2.ext ltP_ord R1 fun k => by rw [v2', v1]
      rw [ea, eb]
    refine wo_ne rfl ⟨_, rfl, fun _ => ?_, fun z => ne_true same z⟩
    walk_at "go"
    refine we_revL ?_
    walk_at "go"
    refine ⟨l, xs, rfl, .of ml6, fun p3 => ?_⟩
    walk_at "go"
    have tr6 : TlAt ((p3, .lst xs.reverse) :: L6) xs.reverse ts.reverse := paired_rev (tl6.map fun a x m => .tail m)
    refine ⟨p3, xs.reverse, ts.reverse, rfl, .head, tr6, by rw [List.length_reverse]; exact hI.ln, fun t ht => hI.ok t (List.mem_reverse.mp ht), hT6.cons _, fun o8 r8 c8 L8 e78 hT8 q8 R8 v8' => ?_⟩
    have e68 : Ext L6 L8 := (Ext.cons _ _).trans e78
    have v8 : ∀ k, QM.val r8 c8 k = QM.tv ts k := fun k => by rw [v8', tvs_perm (List.reverse_perm ts), hI.tvs]
    obtain ⟨po8, nm8⟩ := po_of hI R8 v8
    obtain ⟨dx8, dd8, mo8, md8⟩ := id q8
    have ml8 := e68 _ _ ml6 (fun _ z => nomatch z)
    have mn8 := e68 _ _ mn6 (fun _ z => nomatch z)
    have tl8 := tl6.ext e68
    have q18 := q16.ext e68
    have k8 : ∀ L', Ext L8 L' → TabIn TB qN L' → Kk (.bl true) L' := fun L' e t => k6 L' (e68.trans e) t
    clear k6 tl6 ml6 mn6 hT6 q16 q2 mo16 md16 mo26 md26 e68 e78 tr6
    obtain ⟨dx18, dd18, mo18, md18⟩ := id q18
    walk_at "go"
    refine wc_ownStr GSt (by walk_at "room") mo8 ⟨o8, r8, c8, rfl, q8, po8, nm8, _, rfl, ?_⟩
    walk_at "go"
    refine ⟨l, xs, ts, rfl, ml8, tl8, hI.ln, hI.ok, fun us hp hs => ?_⟩
    refine wo_ne rfl ⟨_, rfl, fun _ => ?_, fun z => ne_true (by rw [qtx_txt R8.pos, tms_is hI R8 v8 hp hs]) z⟩
    walk_at "go"
    refine wo_own (op := .Sub) (k := 9) (ps := ["self", "other"]) (pre := pPm TB Q (-1)) (by rw [dun_sub]; exact GSb) hsf (by walk_at "room") mo18 mo18 ⟨o1, o1, r1, c1, r1, c1, rfl, q18, q18, po1, po1, hT8, fun o9 r9 c9 L9 e89 hT9 q9 R9 v9' => ?_⟩
    have v9 : ∀ k, QM.val r9 c9 k = QM.tv [] k := fun k => by
      rw [v9', neg_mul_div]
      show QM.val r1 c1 k + -QM.val r1 c1 k = 0
      exact Rat.add_neg_cancel _
    obtain ⟨po9, nm9⟩ := po_of IsT.nil R9 v9
    obtain ⟨dx9, dd9, mo9, md9⟩ := id q9
    have ml9 := e89 _ _ ml8 (fun _ z => nomatch z)
    have mn9 := e89 _ _ mn8 (fun _ z => nomatch z)
    have tl9 := tl8.ext e89
    have q19 := q18.ext e89
    have k9 : ∀ L', Ext L9 L' → TabIn TB qN L' → Kk (.bl true) L' := fun L' e t => k8 L' (e89.trans e) t
    clear k8 tl8 ml8 mn8 hT8 q18 q8 mo8 md8 mo18 md18 e89
    walk_at "go"
    refine wc_ownStr GSt (by walk_at "room") mo9 ⟨o9, r9, c9, rfl, q9, po9, nm9, _, rfl, ?_⟩
    walk_at "go"
    have z9 : qtx r9 c9 = "0" := by rw [qtx_txt R9.pos, tms_is IsT.nil R9 v9 (List.Perm.refl []) .nil]; rfl
    refine wo_ne rfl ⟨_, rfl, fun z => ne_true z9 z, fun _ => ?_⟩
    refine wss_nil ?_
    clear q9 mo9 md9
    -- nothing
    have pon : PO [] 1 := ⟨List.nodup_nil, by decide, by decide, by decide, fun _ h => (List.not_mem_nil h).elim⟩
    refine wss_cons (ws_if ?_)
    walk_at "go"
    refine x_make0 (by assumption) (by walk_at "at") GQ0 (by walk_at "room") ?_
    intro o10 dx10
    refine ⟨o10, dx10, t0, L9, rfl, rfl, E0, fun d10 => ⟨rfl, ?_⟩⟩
    walk_at "go"
    refine wc_ownStr GSt (by walk_at "room") (.tail .head) ⟨o10, [], 1, rfl, ⟨dx10, d10, .tail .head, .head⟩, pon, (fun _ h => (List.not_mem_nil h).elim), _, rfl, ?_⟩
    walk_at "go"
    refine wo_ne rfl ⟨_, rfl, fun _ => ?_, fun z => ne_true rfl z⟩
    refine ww_sub (L' := L9) (Sub.of_sublist (.cons _ (.cons _ (.refl _)))) ?_
    walk_at "go"
    refine x_make0 (by assumption) (by walk_at "at") GQ0 (by walk_at "room") ?_
    intro o11 dx11
    refine ⟨o11, dx11, t0, L9, rfl, rfl, E0, fun d11 => ⟨rfl, ?_⟩⟩
    walk_at "go"
    refine wc_ownReprG GRp (by walk_at "room") hgd (.tail .head) ⟨o11, [], 1, rfl, ⟨dx11, d11, .tail .head, .head⟩, pon, (fun _ h => (List.not_mem_nil h).elim), _, rfl, ?_⟩
    walk_at "go"
    refine wo_ne rfl ⟨_, rfl, fun z => ne_true (by decide +kernel) z, fun _ => ?_⟩
    refine wss_nil (wss_sub (Sub.of_sublist (.cons _ (.cons _ (.refl _)))) ?_)
    -- one by one
    refine wss_cons (ws_forW hX.calm hX.pas (wi_list (we_slTo ?_)))
    walk_at "go"
    refine ⟨l, xs, rfl, .of ml9, fun p12 => ?_⟩
    have cut_get : ∀ (i : Nat) (v : V), (cutV xs none (some 2))[i]? = some v → xs[i]? = some v := fun i v h => by
      unfold cutV at h
      rw [HT.sIx_none, List.drop_zero] at h
      rw [List.getElem?_take] at h
      split at h
      · exact h
      · cases h
    have ml12 : Mem l (.lst xs) ((p12, .lst (cutV xs none (some 2))) :: L9) := .tail ml9
    have mn12 : Mem nq (.lst (ns.map V.str)) ((p12, .lst (cutV xs none (some 2))) :: L9) := .tail mn9
    have mp12 : Mem p12 (.lst (cutV xs none (some 2))) ((p12, .lst (cutV xs none (some 2))) :: L9) := .head
    have tl12 : TlAt ((p12, .lst (cutV xs none (some 2))) :: L9) xs ts := tl9.map fun a x m => .tail m
    have q112 : QAt Q o1 r1 c1 ((p12, .lst (cutV xs none (some 2))) :: L9) := q19.ext (Ext.cons _ _)
    have hT12 : TabIn TB qN ((p12, .lst (cutV xs none (some 2))) :: L9) := hT9.cons _
    have k12 : ∀ L', Ext ((p12, .lst (cutV xs none (some 2))) :: L9) L' → TabIn TB qN L' → Kk (.bl true) L' := fun L' e t => k9 L' ((Ext.cons _ _).trans e) t
    clear k9 tl9 ml9 mn9 hT9 q19
    generalize (p12, HO.lst (cutV xs none (some 2))) :: L9 = L12 at *
    refine ⟨p12, _, rfl, .of mp12, fun i σ' L' => ∃ (v6 v7 v8 v9 : Option V), σ' = [some (.ref r), some (.ref nq), some (.ref l), some (.ref o1), some (.ref Rt), some (.ref o2), v6, v7, v8, v9] ∧ Ext L12 L' ∧ TabIn TB qN L', ⟨_, _, _, _, rfl, Ext.refl _, hT12⟩, ?_, ?_, ?_⟩
    · rintro i σ' L' _ ⟨v6, v7, v8, v9, _, e, _⟩
      exact .of (e _ _ mp12 (fun _ z => nomatch z))
    · rintro i v σ' L' L'' hi ⟨v6, v7, v8, v9, rfl, e12, hT6⟩ ⟨rfl, hv⟩
      obtain ⟨t, a, q, ht, rfl, ma, mq⟩ := tl_get tl12 (cut_get _ _ hv)
      have htm := List.mem_of_getElem? ht
      obtain ⟨hnm, hto⟩ := hI.ok t htm
      obtain ⟨g1, g2, g3⟩ := to_lg hto
      have ma6 := e12 _ _ ma (fun _ z => nomatch z)
      have mq6 := e12 _ _ mq (fun _ z => nomatch z)
      have hd := hto.2.1
      have hI1 := hI.one htm
      refine x_tup (by assumption) ma6 ?_
      refine wgs_cons (x_tgt (by assumption) (by walk_at "at") (by walk_at "at") ?_)
      refine wgs_cons (x_tgt (by assumption) (by walk_at "at") (by walk_at "at") ?_)
      refine wgs_cons (x_tgt (by assumption) (by walk_at "at") (by walk_at "at") ?_)
      refine wgs_nil ?_
      refine wss_cons (x_set (by assumption) (by walk_at "at") (by walk_at "at") ?_)
      refine x_make (by assumption) (by walk_at "at") GQn (by walk_at "room") (wa_cons (we_lst (wa_cons (we_tup (wa_cons (x_make (by assumption) (by walk_at "at") GRn (by walk_at "room") ?_ (by rfl) (by rfl)) (by rfl))) (by rfl))) (by rfl))
      walk_at "go"
      intro b db
      refine ⟨_, _, _, _, _, rfl, rfl, by omega, Nat.lt_of_lt_of_le g2 (by decide), rfl, ?_⟩
      rw [(nT_id hto).1, (nT_id hto).2]
      walk_at "go"
      refine ⟨show 2 ≤ sizeLine from len_line, fun tt => ?_⟩
      walk_at "go"
      refine ⟨show 1 ≤ sizeLine from len_line, fun lt => ?_⟩
      walk_at "go"
      intro o' do'
      refine ⟨o', do', lt, [.ref tt], [t], 3000000000, _, rfl, rfl, .head, .cons ⟨tt, rfl, ⟨.ref b, q, .tail .head, .rat (.tail (.tail .head)), .inr (.tail (.tail (.tail mq6)))⟩⟩ .nil, tmsOk_of hI1.ln hI1.ok, ((hT6.cons _).cons _).cons _, fun L7 r7 c7 e67 hT7 q7 R7 v7' => ⟨rfl, ?_⟩⟩
      have e67' : Ext L'' L7 := (((Ext.cons _ _).trans (Ext.cons _ _)).trans ((Ext.cons _ _))).trans e67
      have v7 := val_of hI1 v7'
      obtain ⟨po7, nm7⟩ := po_of hI1 R7 v7
      obtain ⟨dx7, dd7, mo7, md7⟩ := id q7
      have mq7 := e67' _ _ mq6 (fun _ z => nomatch z)
      refine wss_cons (ws_if ?_)
      walk_at "go"
      refine wc_ownStr GSt (by walk_at "room") mo7 ⟨o', r7, c7, rfl, q7, po7, nm7, _, rfl, ?_⟩
      walk_at "go"
      refine ⟨show 3 ≤ sizeLine from len_line, fun u => ?_⟩
      walk_at "go"
      refine ⟨show 1 ≤ sizeLine from len_line, fun w1 => ?_⟩
      walk_at "go"
      refine ⟨w1, [.ref u], [t], rfl, .head, .cons ⟨u, q, rfl, .tail .head, .tail (.tail mq7)⟩ .nil, hI1.ln, hI1.ok, fun us hp hs => ?_⟩
      refine wo_ne rfl ⟨_, rfl, fun z => ne_true (by rw [qtx_txt R7.pos, tms_is hI1 R7 v7 hp hs]) z, fun _ => ?_⟩
      refine wss_nil (wss_nil ⟨L7, Sub.of_sublist (.cons _ (.cons _ (.refl _))), _, _, _, _, rfl, e12.trans e67', hT7⟩)
    rintro σ' L13 ⟨v6, v7, v8, v9, rfl, e13, hT13⟩
    have ml13 := e13 _ _ ml12 (fun _ z => nomatch z)
    have mn13 := e13 _ _ mn12 (fun _ z => nomatch z)
    have tl13 := tl12.ext e13
    have q113 := q112.ext e13
    have k13 : ∀ L', Ext L13 L' → TabIn TB qN L' → Kk (.bl true) L' := fun L' e t => k12 L' (e13.trans e) t
    clear k12 tl12 ml12 mn12 hT12 q112 e13 mp12
    -- a key, a constant
    obtain ⟨y, ys, rfl⟩ := hn0
    have hy := hn y List.mem_cons_self
    have hIy : IsT [(([y], 1, 1) : Tm)] := ⟨List.nodup_cons.mpr ⟨List.not_mem_nil, List.nodup_nil⟩, (show 1 ≤ 200 by decide), fun u hu => by rw [List.mem_singleton.mp hu]; exact List.pairwise_singleton _ _, fun u hu => by
      rw [List.mem_singleton.mp hu]
      exact ⟨⟨(show 1 ≤ 60 by decide), fun x hx => by rw [List.mem_singleton.mp hx]; exact hy⟩, (by decide +kernel : TO 1 1)⟩⟩
    refine wss_cons (ws_if ?_)
    walk_at "go"
    refine we_cmeth GOk (by walk_at "room") (x_clsQ T (by assumption) (by walk_at "at") ⟨rfl, ?_⟩)
    refine wa_cons (we_ixL ?_) (by rfl)
    walk_at "go"
    refine ⟨nq, _, _, _, rfl, rfl, .of mn13, atI0, ?_⟩
    walk_at "go"
    refine ⟨y, rfl, hy, hT13, fun o14 r14 c14 L14 e14 hT14 q14 R14 v14' => ?_⟩
    have v14 := val_of hIy v14'
    obtain ⟨po14, nm14⟩ := po_of hIy R14 v14
    obtain ⟨dx14, dd14, mo14, md14⟩ := id q14
    have mn14 := e14 _ _ mn13 (fun _ z => nomatch z)
    walk_at "go"
    refine wc_ownStr GSt (by walk_at "room") mo14 ⟨o14, r14, c14, rfl, q14, po14, nm14, _, rfl, ?_⟩
    refine we_ixL ?_
    walk_at "go"
    refine ⟨nq, _, _, _, rfl, rfl, .of mn14, atI0, ?_⟩
    have z14 : qtx r14 c14 = y := by
      rw [qtx_txt R14.pos, tms_is hIy R14 v14 (List.Perm.refl _) (List.pairwise_singleton _ _)]
      exact txt_key y
    refine wo_ne rfl ⟨_, rfl, fun _ => ?_, fun z => ne_true z14 z⟩
    have hIc : IsT [(([], -7, 1) : Tm)] := ⟨List.nodup_cons.mpr ⟨List.not_mem_nil, List.nodup_nil⟩, (show 1 ≤ 200 by decide), fun u hu => by rw [List.mem_singleton.mp hu]; exact .nil, fun u hu => by
      rw [List.mem_singleton.mp hu]
      exact ⟨⟨(show 0 ≤ 60 by decide), fun x hx => (List.not_mem_nil hx).elim⟩, (by decide +kernel : TO (-7) 1)⟩⟩
    walk_at "go"
    refine we_cmeth GCn (by walk_at "room") (x_clsQ T (by assumption) (by walk_at "at") ⟨rfl, ?_⟩)
    walk_at "go"
    refine ⟨.int (-7), -7, 1, rfl, .int _, by decide, by decide, (show (-7 : Int).natAbs < 2 ^ 400 by decide), hT14, fun o15 r15 c15 L15 e15 hT15 q15 R15 v15' => ?_⟩
    have v15 := val_of hIc v15'
    obtain ⟨po15, nm15⟩ := po_of hIc R15 v15
    obtain ⟨dx15, dd15, mo15, md15⟩ := id q15
    walk_at "go"
    refine wc_ownStr GSt (by walk_at "room") mo15 ⟨o15, r15, c15, rfl, q15, po15, nm15, _, rfl, ?_⟩
    walk_at "go"
    have z15 : qtx r15 c15 = "-7" := by
      rw [qtx_txt R15.pos, tms_is hIc R15 v15 (List.Perm.refl _) (List.pairwise_singleton _ _)]
      decide +kernel
    refine wo_ne rfl ⟨_, rfl, fun z => ne_true z15 z, fun _ => ?_⟩
    refine wss_nil ?_
    -- once more
    have e135 := e14.trans e15
    have ml15 := e135 _ _ ml13 (fun _ z => nomatch z)
    have tl15 := tl13.ext e135
    have q115 := q113.ext e135
    obtain ⟨dx1z, dd1z, mo1z, md1z⟩ := id q115
    walk_at "go"
    refine wc_ownStr GSt (by walk_at "room") mo1z ⟨o1, r1, c1, rfl, q115, po1, nm1, _, rfl, ?_⟩
    walk_at "go"
    refine ⟨l, xs, ts, rfl, ml15, tl15, hI.ln, hI.ok, fun us hp hs => ?_⟩
    have tx1 : qtx r1 c1 = txt us.reverse := by rw [qtx_txt R1.pos, tms_is hI R1 v1 hp hs]
    refine wo_eq rfl ⟨_, rfl, fun _ => ?_, fun z => ?_⟩
    · walk_at "go"
      refine wc_ownReprG GRp (by walk_at "room") hgd mo1z ⟨o1, r1, c1, rfl, q115, po1, nm1, _, rfl, ?_⟩
      walk_at "go"
      refine ⟨l, xs, ts, rfl, ml15, tl15, hI.ln, hI.ok, fun us2 hp2 hs2 => ?_⟩
      refine wo_eq rfl ?_
      rw [decide_eq_true (by rw [qrp_rpt, tms_is hI R1 v1 hp2 hs2])]
      exact ret_sub (k13 _ e135 hT15) (Sub.refl _)
    · rw [tx1, decide_eq_true rfl] at z
      cases z
end
end K15
set_option Elab.async false
set_option linter.all false
set_option maxRecDepth 100000
set_option maxHeartbeats 4000000
/-! the law's entry, where one maker's table is told -/
namespace N3
open PySem PySem.Spec L2 PySem.W PySem.Calls
open PyProof.Rows hiding St
/-- the script is known, whatever else is -/
def ScrL (K : PySem.W.Frag) (a : Addr) (ns : List Int) (L : LH) : Prop := (∀ H, SqL K H a (ns.map V.int)) ∨ ∃ ob, Mem a (.frz ob (.lst (ns.map V.int))) L
theorem ScrL.sq {K : PySem.W.Frag} {a : Addr} {ns : List Int} {L : LH} (h : ScrL K a ns L) : SqLL K a (ns.map V.int) L := h.elim (fun g H _ => g H) fun ⟨_, m⟩ => .fz m
theorem ScrL.ext {K : PySem.W.Frag} {a : Addr} {ns : List Int} {L L' : LH} (h : ScrL K a ns L) (e : Ext L L') : ScrL K a ns L' := h.imp id fun ⟨ob, m⟩ => ⟨ob, e _ _ m fun _ z => nomatch z⟩
section
variable {P : Program} {w : World} {K : PySem.W.Frag} {mg mb : Str → Option Value} {k : Nat} {fa a c tb : Addr} {fd : FuncData} {x : Str} {pre : Pre} {s₁ : Shared} {vs : List Value} {ns : List Int}
/-- what the heap is known to hold at the entry: the table, perhaps the script -/
structure EntryH (s₁ : Shared) (K : PySem.W.Frag) (a tb : Addr) (ob : Obj) (ns : List Int) (H : Hp) : Prop where
  tab : H tb = some (.tbl #[])
  only : ∀ b u, H b = some u → (b = tb ∧ u = .tbl #[]) ∨ (b = a ∧ K.lookup a = none ∧ u = .frz ob (.lst (ns.map V.int)))
theorem law_callGT
    (KX : K.In s₁.heap) (hns : s₁.heap.Ns mainGlobals mg) (hb : s₁.heap.Ns builtinsNs mb) (hbb : ∀ x : Str, x ≠ "__name__" → mb x = bootBuiltins x) (hlim : s₁.heap.NoLimit) (hg : s₁.gens = #[])
    (tbl : s₁.heap.get? tb = some { cls := .none, data := .fields #[] }) (tbn : K.lookup tb = none) (ch : PySem.W.CodeHd s₁.heap c tb)
    (hm : ∃ (bm : Addr) (ob : Obj), mg "__builtins__" = some (.ref bm) ∧ bm ≠ builtinsNs ∧ s₁.heap.get? bm = some ob ∧ ob.cls = .type "module" ∧ ob.dict = some builtinsNs ∧ ob.data = .plain)
    (ha : s₁.heap.get? a = some { cls := .type "list", data := .seq vs.toArray }) (hi : IntsAre vs ns) (hl : ns.length ≤ sizeLine) (hr : Room k callerA)
    (F : ∀ base : Heap, K.In base → base.Ns mainGlobals mg → LamX.TabB base mg c tb → FnG P w K mg base k fa fd [x] pre) (hbind : ∀ (s : Shared) (u : Value), BindsTo s fd ⟨[u], []⟩ [(x, u)])
    (hsp : ∀ L, ScrL K a ns L → (∀ q, TabIn tb q L) → pre [.ref a] L fun v _ => v = .bl true) :
    codeAny (model P w) callerA (.call (.ref fa) ⟨[.ref a], []⟩) (fun r s' => r = .ok (.ret (.bool true)) ∧ OldK s₁.heap s'.heap ∧ s'.os = s₁.os ∧ AllBare s'.gens) s₁ := by
  have rv := vals_ints hi
  have nat : a ≠ tb := fun z => by
    rw [z, tbl] at ha
    cases ha
  have main : ∀ (ob : Obj) (H : Hp) (L : LH), EntryH s₁ K a tb ob ns H → Holds L H → ScrL K a ns L → Mem tb (.tbl #[]) L → HOk P w H s₁.heap →
      codeAny (model P w) callerA (.call (.ref fa) ⟨[.ref a], []⟩) (fun r s' => r = .ok (.ret (.bool true)) ∧ OldK s₁.heap s'.heap ∧ s'.os = s₁.os ∧ AllBare s'.gens) s₁ := by
    intro ob H L EH hL hS mT ok
    -- what lies there as anything but a row or a bare record is not tracked
    have away : ∀ {b : Addr} {o : Obj}, s₁.heap.get? b = some o → (∀ us n, o.data ≠ .seq us n) → b ≠ tb → H b = none := fun {b o} e h1 h2 => by
      cases q : H b with
      | none => rfl
      | some u =>
        rcases EH.only b u q with ⟨z, _⟩ | ⟨z, _, _⟩
        · exact absurd z h2
        · rw [z, ha] at e
          cases e
          exact absurd rfl (h1 _ _)
    have hid : ∀ {b : Addr} {o : Obj}, s₁.heap.get? b = some o → (∀ us n, o.data ≠ .seq us n) → b ≠ tb → (hidT s₁.heap H).get? b = some o := fun e h1 h2 => hidT_get e (away e h1 h2)
    have nsOf : ∀ {b : Addr} {m : Str → Option Value}, s₁.heap.Ns b m → (hidT s₁.heap H).Ns b m := fun {b m} ⟨o, es, ep, e, d, r⟩ =>
      ⟨o, es, ep, hid e (fun us n z => by rw [d] at z; cases z) (fun z => by rw [z, tbl] at e; cases e; cases d), d, r⟩
    have inK : K.In (hidT s₁.heap H) := fun b o e => hidT_get (KX b o e) (by
      cases q : H b with
      | none => rfl
      | some u =>
        rcases EH.only b u q with ⟨z, _⟩ | ⟨z, z2, _⟩
        · rw [z, tbn] at e; cases e
        · rw [z, z2] at e; cases e)
    have md : Mod K mg (hidT s₁.heap H) := ⟨inK, nsOf hns, ⟨mb, nsOf hb, hbb⟩, by
      obtain ⟨mc, h1, h2⟩ := hlim
      exact ⟨mc, nsOf h1, h2⟩⟩
    have TB : LamX.TabB (hidT s₁.heap H) mg c tb := by
      refine ⟨?_, ?_, fun z => ?_⟩
      · obtain ⟨o, us, fl, tf, fg, tg, ef, tx, tt, q0, q1, q2, q3, q4, q5, q6, q7, q8, qn⟩ := ch
        exact ⟨o, us, fl, tf, fg, tg, ef, tx, tt, hid q0 (fun us' n z => by rw [q2] at z; cases z) qn, q1, q2, q3, q4, q5, q6, q7, q8, qn⟩
      · obtain ⟨bm, ob', b1, b2, b3, b4, b5, b6⟩ := hm
        have n1 : bm ≠ tb := fun z => by
          rw [z, tbl] at b3
          cases b3
          cases b6
        have n2 : bm ≠ mainGlobals := fun z => by
          obtain ⟨o, es, ep, e, d, _⟩ := hns
          rw [z, e] at b3
          cases b3
          rw [d] at b6
          cases b6
        exact ⟨bm, ob', b1, b2, n2, n1, hid b3 (fun us n z => by rw [b6] at z; cases z) n1, b4, b5, b6⟩
      · obtain ⟨o, es, ep, e, d, _⟩ := hns
        rw [z, tbl] at e
        cases e
        cases d
    have e0 : Env0 P w K mg (hidT s₁.heap H) callerA [] s₁ H := ⟨rfl, md, fun b o e => of_hidT e, Nat.le_of_eq (hidT_size _ _), trivial, fun b z => (List.not_mem_nil z).elim, ok, .of_eq hg⟩
    have run := (F _ inK (nsOf hns) TB).run callerA [] s₁ H ⟨[.ref a], []⟩ [.ref a] [.ref a] L _ hr rfl e0 (hbind s₁ (.ref a)) (.cons rfl .nil) hL (hsp L hS fun q => ⟨#[], mT, trivial, fun pos cv z => by cases z⟩)
    refine codeAny_mono run fun r s' h => ?_
    cases r with
    | error e => exact (h : False).elim
    | ok fl =>
      cases fl with
      | next => exact False.elim h
      | brk => exact False.elim h
      | cont => exact False.elim h
      | ret u =>
        obtain ⟨v, H', os, bare, un, ok', r', _, _, e⟩ := h
        subst e
        cases r'
        obtain ⟨more, gm⟩ := un.tbls tb #[] EH.tab
        have gm2 : s'.heap.get? tb = some { cls := .none, data := .fields _ } := ok' tb _ gm
        have kept : ∀ b o, b ≠ tb → s₁.heap.get? b = some o → s'.heap.get? b = some o := fun b o n e => by
          cases q : H b with
          | none => exact un.keep b o e q (fun z => (List.not_mem_nil z).elim) (fun z => (List.not_mem_nil z).elim)
          | some u =>
            rcases EH.only b u q with ⟨z, _⟩ | ⟨_, _, z⟩
            · exact absurd z n
            · rw [z] at q
              obtain ⟨e1, _⟩ := ok b _ q
              obtain ⟨e2, _⟩ := ok' b _ (un.frzs b ob _ q)
              rw [e1] at e
              cases e
              exact e2
        refine ⟨rfl, ⟨fun b o e => ?_, fun b o e => ?_⟩, os, bare⟩
        · by_cases n : b = tb
          · rw [n] at e ⊢
            rw [tbl] at e
            cases e
            exact .inr (.inl ⟨(ch.tab tbl).isCodeTable, rfl, #[], _, rfl, by rw [Array.empty_append]; exact gm2⟩)
          · exact .inl (kept b o n e)
        · by_cases n : b = tb
          · rw [n]
            exact ⟨_, gm2⟩
          · exact ⟨o, kept b o n e⟩
  by_cases hk : K.lookup a = none
  · let ob : Obj := { cls := .type "list", data := .seq vs.toArray }
    let H : Hp := fun b => if b = tb then some (.tbl #[]) else if b = a then some (.frz ob (.lst (ns.map V.int))) else none
    have Ht : H tb = some (.tbl #[]) := if_pos rfl
    have Ha : H a = some (.frz ob (.lst (ns.map V.int))) := (if_neg nat).trans (if_pos rfl)
    have Ho : ∀ b u, H b = some u → (b = tb ∧ u = .tbl #[]) ∨ (b = a ∧ K.lookup a = none ∧ u = .frz ob (.lst (ns.map V.int))) := fun b u z => by
      by_cases n : b = tb
      · rw [n, Ht] at z
        cases z
        exact .inl ⟨n, rfl⟩
      · by_cases m : b = a
        · rw [m, Ha] at z
          cases z
          exact .inr ⟨m, hk, rfl⟩
        · exact absurd (((if_neg n).trans (if_neg m)).symm.trans z) (by intro z; cases z)
    refine main ob H [(tb, .tbl #[]), (a, .frz ob (.lst (ns.map V.int)))] ⟨Ht, Ho⟩ ⟨⟨fun q hq e => ?_, fun q hq e => (List.not_mem_nil hq).elim, trivial⟩, fun b u hm => ?_⟩ (.inr ⟨ob, .tail .head⟩) .head fun b u z => ?_
    · rw [List.mem_singleton.mp hq] at e
      exact absurd e nat
    · rcases List.mem_cons.mp hm with z | hm
      · cases z; exact Ht
      · cases List.mem_singleton.mp hm; exact Ha
    · rcases Ho b u z with ⟨rfl, rfl⟩ | ⟨rfl, _, rfl⟩
      · exact tbl
      · exact ⟨ha, by rw [List.length_map]; exact hl, vs, _, rv, ha⟩
  · obtain ⟨o, ho⟩ := Option.ne_none_iff_exists'.mp hk
    have e := KX a o ho
    rw [ha] at e
    cases e
    have hs : ∀ H, SqL K H a (ns.map V.int) := fun H => .inr ⟨_, vs.toArray, _, ho, rfl, rfl, rfl, by rw [List.size_toArray, hi.length]; exact hl, by simpa using rv⟩
    let H : Hp := fun b => if b = tb then some (.tbl #[]) else none
    have Ht : H tb = some (.tbl #[]) := if_pos rfl
    have Ho : ∀ b u, H b = some u → b = tb ∧ u = .tbl #[] := fun b u z => by
      by_cases n : b = tb
      · rw [n, Ht] at z
        cases z
        exact ⟨n, rfl⟩
      · exact absurd ((if_neg n).symm.trans z) (by intro z; cases z)
    refine main { cls := .none, data := .plain } H [(tb, .tbl #[])] ⟨Ht, fun b u z => .inl (Ho b u z)⟩ ⟨⟨fun q hq e => (List.not_mem_nil hq).elim, trivial⟩, fun b u hm => ?_⟩ (.inl hs) .head fun b u z => ?_
    · cases List.mem_singleton.mp hm; exact Ht
    · obtain ⟨rfl, rfl⟩ := Ho b u z
      exact tbl
end
theorem walk_GT {l : PySem.W.OpenLaw} {n k : Nat} {q : Program} {loose : List Str} {XP : (Str → Option Value) → Heap → Prop} {YP : World → Heap → Prop} {d : DefRec} {K : Params → PySem.W.Frag} {pre : PySem.W.Frag → Pre} {x : Str} {c tb : Addr}
    (hn : l.most = some n) (hn2 : n ≤ sizeLine) (hdf : d.params.defaults = []) (hr : Room k callerA) (hY : ∀ (w : World) (h : Heap), YP w h → (K w.params).In h)
    (hT : ∀ (w : World) (h : Heap), YP w h → h.get? tb = some { cls := .none, data := .fields #[] }) (hN : ∀ w : World, (K w.params).lookup tb = none) (hC : ∀ (w : World) (h : Heap), (K w.params).In h → PySem.W.CodeHd h c tb)
    (F : ∀ (w : World) (mg : Str → Option Value) (fa : Addr) (h : Heap), (K w.params).In h → h.Ns mainGlobals mg → mg d.name = some (.ref fa) →
      ∃ fd : FuncData, (∀ (s : Shared) (u : Value), BindsTo s fd ⟨[u], []⟩ [(x, u)]) ∧ ∀ base : Heap, (K w.params).In base → base.Ns mainGlobals mg → LamX.TabB base mg c tb → FnG l.prog w (K w.params) mg base k fa fd [x] (pre (K w.params)))
    (hsp : ∀ (w : World) (L : LH) (a : Addr) (ns : List Int), ns.length ≤ n → ScrL (K w.params) a ns L → (∀ q, TabIn tb q L) → pre (K w.params) [.ref a] L fun v _ => v = .bl true) :
    PySem.W.WalkO q loose XP YP l.row.toRowW d [] (fun f vs => PySem.call f vs) := by
  refine Att.attach_call hn hdf fun w s₀ s₁ mg mb fa o pm cd doc a vs ns G Y ho hd hcd hmg hobj hints hlen hg => ?_
  obtain ⟨fd, hb, hF⟩ := F w mg fa _ (hY w _ Y) G.T.g hmg
  exact law_callGT (hY w _ Y) G.T.g G.T.b G.T.builtins G.T.nolimit hg (hT w _ Y) (hN w) (hC w _ (hY w _ Y)) G.T.bmain hobj hints (Nat.le_trans hlen hn2) hr hF hb fun L hS hQ => hsp w L a ns hlen hS hQ
end N3
set_option Elab.async false
set_option linter.all false
set_option maxRecDepth 100000
set_option maxHeartbeats 4000000
namespace K15
open PySem L2 N3
local macro_rules | `(tactic| walk_at "at") => `(tactic| with_reducible (repeat (first | exact At.head | apply At.tail)))
local macro_rules | `(tactic| walk_at "mem") => `(tactic| with_reducible (repeat (first | exact Mem.head | apply Mem.tail)))
local macro_rules | `(tactic| walk_at "boot") => `(tactic| with_reducible (first | exact boot_isi | exact boot_max | exact boot_min | exact boot_abs | exact boot_len | exact boot_repr | exact boot_divmod | exact boot_all | exact boot_sorted | exact boot_int | exact boot_bool | exact boot_str | exact boot_list | exact boot_tuple))
local macro_rules | `(tactic| walk_at "room") => `(tactic| (first | assumption | exact Room.mono (by assumption) (by decide)))
local macro_rules | `(tactic| walk_at "none") => `(tactic| (refine Txt.bn (by assumption) _ ?xz; (case xz => with_reducible (repeat (first | exact InS.head | apply InS.tail)))))
local macro_rules | `(tactic| walk_at "n3") => `(tactic| first
  | with_reducible refine ws_ret ?_
  | with_reducible refine we_int ?_
  | with_reducible refine we_str ?_
  | with_reducible refine we_bool ?_
  | with_reducible refine we_none ?_
  | ((with_reducible refine' x_name ?xo ?xa ?xb ?xc ?_); (case xo => assumption); (case xa => walk_at "at"); (case xb => walk_at "at"); (case xc => rfl))
  | ((with_reducible refine' f_tops ?xt ?_ ?xh); (case xt => assumption); (case xh => rfl))
  | ((with_reducible refine' f_qbot ?xt ?_ ?xh); (case xt => assumption); (case xh => rfl))
  | ((with_reducible refine' we_prop ?xg ?xr ?_ ?xh); (case xg => assumption); (case xr => walk_at "room"); (case xh => rfl))
  | with_reducible refine we_bin ?_
  | ((with_reducible refine wo_mulW ?xm ?_); (case xm => exact Sm.cm (by assumption) (by assumption)))
  | with_reducible refine wo_add ?_
  | with_reducible refine wo_sub ?_
  | with_reducible refine wo_lt ?_
  | with_reducible refine wo_gt ?_
  | with_reducible refine wo_le ?_
  | with_reducible refine wo_ge ?_
  | with_reducible refine wu_neg ?_
  | ((with_reducible refine we_cmp ?xh ?_); (case xh => exact nomark _))
  | ((with_reducible refine wt_cmp ?xh ?_); (case xh => exact nomark _))
  | ((with_reducible refine wa_cons ?_ ?xh); (case xh => rfl))
  | with_reducible refine wa_nil ?_
  | with_reducible refine we_and ?_
  | with_reducible refine we_or ?_
  | with_reducible refine we_not ?_
  | with_reducible refine wt_not ?_
  | with_reducible refine we_un ?_
  | with_reducible refine we_one ?_
  | with_reducible refine wt_ww (ww_or ?_)
  | with_reducible refine wt_ww (ww_and ?_)
  | with_reducible refine ww_or ?_
  | with_reducible refine ww_and ?_
  | with_reducible refine ww_or1 ?_
  | with_reducible refine ww_and1 ?_
  | with_reducible refine we_ifExp ?_
  | with_reducible refine ws_if ?_
  | with_reducible refine ws_pass ?_
  | with_reducible refine we_tup ?_
  | with_reducible refine we_lst ?_
  | ((with_reducible refine' x_set ?xo ?xa ?xb ?_ ?xs); (case xo => assumption); (case xa => walk_at "at"); (case xb => walk_at "at"); (case xs => rfl))
  | ((with_reducible refine' x_setF ?_ ?xs); (case xs => rfl))
  | ((with_reducible refine' x_call ?xo ?xa ?xg ?xr ?_ ?xe ?xp); (case xo => assumption); (case xa => walk_at "at"); (case xg => assumption); (case xr => walk_at "room"); (case xe => rfl); (case xp => rfl))
  | ((with_reducible refine' x_callB ?xo ?xa ?xg ?xr ?_ ?xe ?xp); (case xo => assumption); (case xr => walk_at "boot"); (case xa => walk_at "at"); (case xg => walk_at "none"); (case xe => rfl); (case xp => rfl))
  | ((with_reducible refine' x_callTy ?xo ?xa ?xg ?xr ?_ ?xe ?xp); (case xo => assumption); (case xr => walk_at "boot"); (case xa => walk_at "at"); (case xg => walk_at "none"); (case xe => rfl); (case xp => rfl))
  | ((with_reducible refine' x_callFn ?xo ?xa ?xg ?_ ?xe ?xp); (case xo => assumption); (case xg => with_reducible (first | exact Txt.mgcd (by assumption) | exact Txt.mlcm (by assumption))); (case xa => walk_at "at"); (case xe => rfl); (case xp => rfl))
  | ((with_reducible refine' x_bty ?xo ?xa ?xg ?xr ?_); (case xo => assumption); (case xr => walk_at "boot"); (case xa => walk_at "at"); (case xg => walk_at "none"))
  | ((with_reducible refine' x_cls ?xt ?xo ?xa ?_); (case xt => assumption); (case xo => assumption); (case xa => walk_at "at"))
  | ((with_reducible refine' x_clsQ ?xt ?xo ?xa ?_); (case xt => assumption); (case xo => assumption); (case xa => walk_at "at"))
  | ((with_reducible refine' x_make ?xo ?xa ?xg ?xr ?_ ?xe ?xp); (case xo => assumption); (case xa => walk_at "at"); (case xg => assumption); (case xr => walk_at "room"); (case xe => rfl); (case xp => rfl))
  | ((with_reducible refine' x_callG ?xo ?xa ?xg ?xr ?xd ?_ ?xe ?xp); (case xo => assumption); (case xa => walk_at "at"); (case xg => assumption); (case xr => walk_at "room"); (case xd => assumption); (case xe => rfl); (case xp => rfl))
  | with_reducible refine wss_nil ?_
  | refine ⟨_, _, _, _, rfl, (by assumption), ?_⟩
  | refine ⟨_, _, _, rfl, (by assumption), ?_⟩
  | refine wss_cons ?_)
local macro_rules | `(tactic| walk_at "gw") => `(tactic| repeat walk_at "n3")
local macro_rules | `(tactic| walk_at "go") => `(tactic| repeat (first | walk_at "n3" | ((with_reducible refine' wt_val ?_ ?xv); (case xv => intro _; rfl))))
section
variable {P : Program} {w : World} {K : PySem.W.Frag} {mg : Str → Option Value} {base : Heap}
/-! law -/
def pLaw (TB : Addr) (K : PySem.W.Frag) : Pre := fun vs L Kk => ∃ (a : Addr) (ns : List Int), vs = [.ref a] ∧ ScrL K a ns L ∧ ns.length ≤ 63 ∧ (∀ q, TabIn TB q L) ∧ ∀ L', Kk (.bl true) L'
theorem scLaw : FnScope ["_law_script", "_law_k", "_law_rng_here", "_law_turn"] ["_law_script"] (defScope sLaw) := ⟨rfl, rfl, rfl, by decide +kernel, rfl, by decide +kernel, by decide +kernel⟩
theorem okLaw {f TB C Q : Addr} {fd : FuncData} (F : Fun K "law" "law" sLaw f fd) (T : Txt K mg C Q) (GR : GFn P w K mg base "_law_rng" 1 ["_law_script", "_law_k"] [] (pRng K)) (GG : GFg P w K mg base "_law_right" 13 ["_law_rng_here"] [] (pRight TB)) : FnG P w K mg base 14 f fd ["_law_script"] (pLaw TB K) := by
  refine fnXG (Gn := ["range", "max", "min", "len", "_law_rng", "_law_right"]) F scLaw (by decide +kernel) (fun vs L Kk h => ?_) (fun X e1 e2 e3 e4 e5 hX hr hgd vs L Kk h => ?_)
  · obtain ⟨a, ns, rfl, _⟩ := h
    rfl
  · subst e1 e2 e3 e4 e5
    obtain ⟨a, ns, rfl, hS, hl, hT, k⟩ := h
    have zr : X.mg "range" = none := by walk_at "none"
    have gr := (hX.glo (x := "range") .head).1
    refine wss_cons (ws_forR hX.calm hX.pas zr ?_ gr)
    walk_at "go"
    refine wc_len hS.sq ?_
    walk_at "go"
    refine wc_min hX.calm ?_
    walk_at "go"
    refine wc_max hX.calm ?_
    rw [List.length_map]
    walk_at "go"
    have b0 : ∀ n : Nat, n ≤ 63 → (1 : Int) ≤ (if (if (n : Int) < 4 then (n : Int) else 4) > 1 then (if (n : Int) < 4 then (n : Int) else 4) else 1) ∧ (if (if (n : Int) < 4 then (n : Int) else 4) > 1 then (if (n : Int) < 4 then (n : Int) else 4) else 1) ≤ 4 := by
      intro n hn
      split <;> split at * <;> omega
    have b1 := b0 ns.length hl
    refine ⟨_, rfl, Int.le_trans (by decide) b1.1, Int.lt_of_le_of_lt b1.2 (by decide), fun i σ' L' => (∃ x y z, σ' = [some (.ref a), x, y, z]) ∧ Ext L L' ∧ TabIn TB qN L', ⟨⟨_, _, _, rfl⟩, Ext.refl _, hT _⟩, ?_, ?_⟩
    · rintro i σ' L' hi ⟨⟨x, y, z, rfl⟩, e1, hT1⟩
      generalize (if (if (ns.length : Int) < 4 then (ns.length : Int) else 4) > 1 then (if (ns.length : Int) < 4 then (ns.length : Int) else 4) else 1) = m at *
      refine x_tgt (by assumption) (by walk_at "at") (by walk_at "at") ?_
      walk_at "go"
      rw [Int.zero_add]
      refine ⟨a, i, ns, rfl, by omega, (hS.ext e1).sq, fun p c d => ?_⟩
      refine wss_nd fun nd => ?_
      have fo : ∀ b v, Mem b v L' → b ≠ p := fun b v mm => fresh_ne nd rfl mm
      refine wss_cons (ws_forR hX.calm hX.pas zr ?_ gr)
      walk_at "go"
      refine ⟨5, rfl, by decide, by decide, fun j σ' L2 => (∃ z, σ' = [some (.ref a), some (.int (i : Int)), some (.ref p), z]) ∧ (∃ c d, Mem p (rl c d) L2) ∧ Ext L' L2 ∧ TabIn TB qN L2, ⟨⟨_, rfl⟩, ⟨c, d, .head⟩, Ext.cons _ _, hT1.cons _⟩, ?_, ?_⟩
      · rintro j σ' L2 hj ⟨⟨z, rfl⟩, ⟨c, d, mp⟩, e2, hT2⟩
        refine x_tgt (by assumption) (by walk_at "at") (by walk_at "at") ?_
        obtain ⟨G, hh, keep⟩ := mp.hole
        walk_at "go"
        refine ⟨hT2, fun c' d' L3 e3 hT3 => ⟨true, rfl, fun z => Bool.noConfusion z, fun _ => ?_⟩⟩
        have mp3 := e3 _ _ (hh.again' (rl c' d')).mm (fun _ z => nomatch z)
        exact wss_nil (wss_nil ⟨_, Sub.refl _, ⟨_, rfl⟩, ⟨c', d', mp3⟩, (ext_hole e2 keep fo _).trans e3, hT3⟩)
      · rintro σ' L2 ⟨⟨z, rfl⟩, ⟨c, d, mp⟩, e2, hT2⟩
        exact wss_nil ⟨_, Sub.refl _, ⟨_, _, _, rfl⟩, e1.trans e2, hT2⟩
    · rintro σ' L' ⟨⟨x, y, z, rfl⟩, e1, hT1⟩
      walk_at "go"
      exact ret_sub (k L') (Sub.refl _)
end
end K15
set_option Elab.async false
set_option linter.all false
set_option maxRecDepth 100000
set_option maxHeartbeats 4000000
namespace K15
open PySem L2 N3
theorem kit_self {K : PySem.W.Frag} {t : Value} : PySem.W.kitOne K t t = some true := by
  unfold PySem.W.kitOne
  rw [if_pos (beq_self_eq_true t)]
theorem kit_bt {K : PySem.W.Frag} {t : Value} {T : String} {b : Bool} (h : PySem.W.kitMeta T = true) (n : (t == .type T) = false) (u : PySem.W.subIn K t (.type T) = some b) : PySem.W.kitOne K t (.type T) = some b := by
  unfold PySem.W.kitOne PySem.W.kitCls
  rw [n]
  simp only [h, if_true]
  exact u
theorem kit_own {K : PySem.W.Frag} {t : Value} {C : Addr} {b : Bool} (i : PySem.W.isClsIn K C = true) (y : PySem.W.typeIn K (.ref C) = some (.type "type")) (n : (t == .ref C) = false) (u : PySem.W.subIn K t (.ref C) = some b) : PySem.W.kitOne K t (.ref C) = some b := by
  have i' : (PySem.W.clsIn K C).isSome = true := i
  unfold PySem.W.kitOne PySem.W.kitCls
  rw [n]
  simp [i', y, u]
theorem all_mk {P : Program} {w : World} {K : PySem.W.Frag} {h : Heap} {mg : Str → Option Value} {fa cc TB C Q finit Tinit t0 fqinit Tqinit feq fstr frepr fterms fplus fqadd fqsub fqneg fqstr fqrepr ptop ftop pbottom fbottom pofk fofk pcon fcon fisn fino fisi fisu fasr flon fist fcob fasq fqof fttx fstx frng fdraw fchoice fnames fcommon flterms fgf fplain fltext fshown fmade fright flaw : Addr} (X : K.In h) (G : h.Ns mainGlobals mg) (hfa : mg "law" = some (.ref fa))
    {odinit aninit dTinit odqinit anqinit dTqinit dt0 odeq aneq odstr anstr odrepr anrepr odterms anterms odplus anplus odqadd anqadd odqsub anqsub odqneg anqneg odqstr anqstr odqrepr anqrepr odtop antop odbottom anbottom odofk anofk odcon ancon odisn anisn odino anino odisi anisi odisu anisu odasr anasr odlon anlon odist anist odcob ancob odasq anasq odqof anqof odttx anttx odstx anstx odrng anrng oddraw andraw odchoice anchoice odnames annames odcommon ancommon odlterms anlterms odgf angf odplain anplain odltext anltext odshown anshown odmade anmade odright anright odlaw anlaw : Option Addr} {slinit sTinit slqinit sTqinit st0 sleq slstr slrepr slterms slplus slqadd slqsub slqneg slqstr slqrepr sltop slbottom slofk slcon slisn slino slisi slisu slasr sllon slist slcob slasq slqof slttx slstx slrng sldraw slchoice slnames slcommon sllterms slgf slplain slltext slshown slmade slright sllaw : Array (Option Value)} {ocinit kVinit dcinit pminit cdinit ctinit oTinit ocqinit kVqinit dcqinit pmqinit cdqinit ctqinit oTqinit oceq kVeq dceq pmeq cdeq cteq ocstr kVstr dcstr pmstr cdstr ctstr ocrepr kVrepr dcrepr pmrepr cdrepr ctrepr octerms kVterms dcterms pmterms cdterms ctterms ocplus kVplus dcplus pmplus cdplus ctplus ocqadd kVqadd dcqadd pmqadd cdqadd ctqadd ocqsub kVqsub dcqsub pmqsub cdqsub ctqsub ocqneg kVqneg dcqneg pmqneg cdqneg ctqneg ocqstr kVqstr dcqstr pmqstr cdqstr ctqstr ocqrepr kVqrepr dcqrepr pmqrepr cdqrepr ctqrepr octop kVtop dctop pmtop cdtop cttop ocbottom kVbottom dcbottom pmbottom cdbottom ctbottom ocofk kVofk dcofk pmofk cdofk ctofk occon kVcon dccon pmcon cdcon ctcon ocisn kVisn dcisn pmisn cdisn ctisn ocino kVino dcino pmino ctino ocisi kVisi dcisi pmisi cdisi ctisi ocisu kVisu dcisu pmisu cdisu ctisu ocasr kVasr dcasr pmasr cdasr ctasr oclon kVlon dclon pmlon cdlon ctlon ocist kVist dcist pmist cdist ctist occob kVcob dccob pmcob cdcob ctcob ocasq kVasq dcasq pmasq cdasq ctasq ocqof kVqof dcqof pmqof cdqof ctqof octtx kVttx dcttx pmttx cdttx ctttx ocstx kVstx dcstx pmstx cdstx ctstx ocrng kVrng dcrng pmrng cdrng ctrng ocdraw kVdraw dcdraw pmdraw cddraw ctdraw occhoice kVchoice dcchoice pmchoice cdchoice ctchoice ocnames kVnames dcnames pmnames cdnames ctnames occommon kVcommon dccommon pmcommon cdcommon ctcommon oclterms kVlterms dclterms pmlterms cdlterms ctlterms ocgf kVgf dcgf pmgf cdgf ctgf ocplain kVplain dcplain pmplain cdplain ctplain ocltext kVltext dcltext pmltext cdltext ctltext ocshown kVshown dcshown pmshown cdshown ctshown ocmade kVmade dcmade pmmade cdmade ctmade ocright kVright dcright pmright cdright ctright oclaw kVlaw dclaw pmlaw cdlaw ctlaw : Value} {rtop rbottom rofk rcon : List Value} {tL tH tN nTinit tinit_0 nTqinit nt0 : Nat}
    (aC : PySem.W.nsIn K mainGlobals "Ratio" = some (some (.ref C)))
    (pgC : PySem.W.plainGet K C Str.empty = true)
    (hdC : PySem.W.hasDictIn K C = true)
    (poC : PySem.W.plainOver K C = true)
    (saC : PySem.W.findIn K (.ref C) "__setattr__" = some (some (.builtin "object.__setattr__")))
    (kcC : PySem.W.keepIn K (.ref C) = true)
    (aQ : PySem.W.nsIn K mainGlobals "Question" = some (some (.ref Q)))
    (pgQ : PySem.W.plainGet K Q Str.empty = true)
    (hdQ : PySem.W.hasDictIn K Q = true)
    (poQ : PySem.W.plainOver K Q = true)
    (saQ : PySem.W.findIn K (.ref Q) "__setattr__" = some (some (.builtin "object.__setattr__")))
    (kcQ : PySem.W.keepIn K (.ref Q) = true)
    (nT : PySem.W.findIn K (.ref C) "_top" = some none)
    (nB : PySem.W.findIn K (.ref C) "_bottom" = some none)
    (qnT : PySem.W.findIn K (.ref Q) "_tops" = some none)
    (qnB : PySem.W.findIn K (.ref Q) "_bottom" = some none)
    (ca : PySem.W.findIn K (.ref C) "__class__" = some (some (.builtin "object.__class__")))
    (qca : PySem.W.findIn K (.ref Q) "__class__" = some (some (.builtin "object.__class__")))
    (cn : PySem.W.specialIn K (.builtin "object.__class__") "__get__" = some (some (.builtin "getset_descriptor.__get__")))
    (ct : PySem.W.takesIn K (.builtin "object.__class__") = some true)
    (cm : PySem.W.mroIn K C (.type "object") = some true)
    (qcm : PySem.W.mroIn K Q (.type "object") = some true)
    (icC : PySem.W.isClsIn K C = true)
    (tyC : PySem.W.typeIn K (.ref C) = some (.type "type"))
    (uCI : PySem.W.subIn K (.ref C) (.type "int") = some false)
    (uIC : PySem.W.subIn K (.type "int") (.ref C) = some false)
    (nfC : PySem.W.notFirst K C (.ref C) = true)
    (mgcd : PySem.W.nsIn K mainGlobals "gcd" = some (some (.builtin "math.gcd")))
    (mlcm : PySem.W.nsIn K mainGlobals "lcm" = some (some (.builtin "math.lcm")))
    (gL : PySem.W.nsIn K mainGlobals "LETTERS" = some (some (.str "abcdefghijklmnopqrstuvwxyz" tL)))
    (gH : PySem.W.nsIn K mainGlobals "CHARACTERS" = some (some (.str "abcdefghijklmnopqrstuvwxyz0123456789" tH)))
    (gN : PySem.W.nsIn K mainGlobals "LONGEST" = some (some (.int 8 tN)))
    (z_isinstance : PySem.W.nsIn K mainGlobals "isinstance" = some none)
    (z_int : PySem.W.nsIn K mainGlobals "int" = some none)
    (z_bool : PySem.W.nsIn K mainGlobals "bool" = some none)
    (z_max : PySem.W.nsIn K mainGlobals "max" = some none)
    (z_min : PySem.W.nsIn K mainGlobals "min" = some none)
    (z_abs : PySem.W.nsIn K mainGlobals "abs" = some none)
    (z_len : PySem.W.nsIn K mainGlobals "len" = some none)
    (z_str : PySem.W.nsIn K mainGlobals "str" = some none)
    (z_repr : PySem.W.nsIn K mainGlobals "repr" = some none)
    (z_divmod : PySem.W.nsIn K mainGlobals "divmod" = some none)
    (z_range : PySem.W.nsIn K mainGlobals "range" = some none)
    (z_all : PySem.W.nsIn K mainGlobals "all" = some none)
    (z_list : PySem.W.nsIn K mainGlobals "list" = some none)
    (z_tuple : PySem.W.nsIn K mainGlobals "tuple" = some none)
    (z_sorted : PySem.W.nsIn K mainGlobals "sorted" = some none)
    (z_reversed : PySem.W.nsIn K mainGlobals "reversed" = some none)
    (z_enumerate : PySem.W.nsIn K mainGlobals "enumerate" = some none)
    (mkC : PySem.W.makesIn K C = true)
    (mkQ : PySem.W.makesIn K Q = true)
    (ainit : PySem.W.findIn K (.ref C) "__init__" = some (some (.ref finit)))
    (iinit : PySem.W.isFn K (.ref finit) = true)
    (linit : K.lookup finit = some ⟨ocinit, odinit, .func (PySem.W.fnOf "__init__" "Ratio.__init__" (defArgs sInit) (defBody sInit) (defScope sInit) (.ref Tinit) kVinit dcinit pminit aninit cdinit ctinit), slinit⟩)
    (cinit : PySem.W.codeIn K cdinit "Ratio.__init__" = true)
    (kinit : PySem.W.keepIn K (.ref finit) = true)
    (qinit : K.lookup Tinit = some ⟨oTinit, dTinit, .seq #[.int 1 tinit_0] nTinit, sTinit⟩)
    (aqinit : PySem.W.findIn K (.ref Q) "__init__" = some (some (.ref fqinit)))
    (iqinit : PySem.W.isFn K (.ref fqinit) = true)
    (lqinit : K.lookup fqinit = some ⟨ocqinit, odqinit, .func (PySem.W.fnOf "__init__" "Question.__init__" (defArgs sQInit) (defBody sQInit) (defScope sQInit) (.ref Tqinit) kVqinit dcqinit pmqinit anqinit cdqinit ctqinit), slqinit⟩)
    (cqinit : PySem.W.codeIn K cdqinit "Question.__init__" = true)
    (kqinit : PySem.W.keepIn K (.ref fqinit) = true)
    (qqinit : K.lookup Tqinit = some ⟨oTqinit, dTqinit, .seq #[.ref t0] nTqinit, sTqinit⟩)
    (qt0 : K.lookup t0 = some ⟨.type "tuple", dt0, .seq #[] nt0, st0⟩)
    (aeq : PySem.W.findIn K (.ref C) "__eq__" = some (some (.ref feq)))
    (ieq : PySem.W.isFn K (.ref feq) = true)
    (leq : K.lookup feq = some ⟨oceq, odeq, .func (PySem.W.fnOf "__eq__" "Ratio.__eq__" (defArgs sEq) (defBody sEq) (defScope sEq) .none kVeq dceq pmeq aneq cdeq cteq), sleq⟩)
    (ceq : PySem.W.codeIn K cdeq "Ratio.__eq__" = true)
    (keq : PySem.W.keepIn K (.ref feq) = true)
    (astr : PySem.W.findIn K (.ref C) "__str__" = some (some (.ref fstr)))
    (istr : PySem.W.isFn K (.ref fstr) = true)
    (lstr : K.lookup fstr = some ⟨ocstr, odstr, .func (PySem.W.fnOf "__str__" "Ratio.__str__" (defArgs sStr) (defBody sStr) (defScope sStr) .none kVstr dcstr pmstr anstr cdstr ctstr), slstr⟩)
    (cstr : PySem.W.codeIn K cdstr "Ratio.__str__" = true)
    (kstr : PySem.W.keepIn K (.ref fstr) = true)
    (arepr : PySem.W.findIn K (.ref C) "__repr__" = some (some (.ref frepr)))
    (irepr : PySem.W.isFn K (.ref frepr) = true)
    (lrepr : K.lookup frepr = some ⟨ocrepr, odrepr, .func (PySem.W.fnOf "__repr__" "Ratio.__repr__" (defArgs sRepr) (defBody sRepr) (defScope sRepr) .none kVrepr dcrepr pmrepr anrepr cdrepr ctrepr), slrepr⟩)
    (crepr : PySem.W.codeIn K cdrepr "Ratio.__repr__" = true)
    (krepr : PySem.W.keepIn K (.ref frepr) = true)
    (aterms : PySem.W.findIn K (.ref Q) "terms" = some (some (.ref fterms)))
    (iterms : PySem.W.isFn K (.ref fterms) = true)
    (lterms : K.lookup fterms = some ⟨octerms, odterms, .func (PySem.W.fnOf "terms" "Question.terms" (defArgs sTerms) (defBody sTerms) (defScope sTerms) .none kVterms dcterms pmterms anterms cdterms ctterms), slterms⟩)
    (cterms : PySem.W.codeIn K cdterms "Question.terms" = true)
    (kterms : PySem.W.keepIn K (.ref fterms) = true)
    (aplus : PySem.W.findIn K (.ref Q) "_plus" = some (some (.ref fplus)))
    (iplus : PySem.W.isFn K (.ref fplus) = true)
    (lplus : K.lookup fplus = some ⟨ocplus, odplus, .func (PySem.W.fnOf "_plus" "Question._plus" (defArgs sPlus) (defBody sPlus) (defScope sPlus) .none kVplus dcplus pmplus anplus cdplus ctplus), slplus⟩)
    (cplus : PySem.W.codeIn K cdplus "Question._plus" = true)
    (kplus : PySem.W.keepIn K (.ref fplus) = true)
    (aqadd : PySem.W.findIn K (.ref Q) "__add__" = some (some (.ref fqadd)))
    (iqadd : PySem.W.isFn K (.ref fqadd) = true)
    (lqadd : K.lookup fqadd = some ⟨ocqadd, odqadd, .func (PySem.W.fnOf "__add__" "Question.__add__" (defArgs sQAdd) (defBody sQAdd) (defScope sQAdd) .none kVqadd dcqadd pmqadd anqadd cdqadd ctqadd), slqadd⟩)
    (cqadd : PySem.W.codeIn K cdqadd "Question.__add__" = true)
    (kqadd : PySem.W.keepIn K (.ref fqadd) = true)
    (aqsub : PySem.W.findIn K (.ref Q) "__sub__" = some (some (.ref fqsub)))
    (iqsub : PySem.W.isFn K (.ref fqsub) = true)
    (lqsub : K.lookup fqsub = some ⟨ocqsub, odqsub, .func (PySem.W.fnOf "__sub__" "Question.__sub__" (defArgs sQSub) (defBody sQSub) (defScope sQSub) .none kVqsub dcqsub pmqsub anqsub cdqsub ctqsub), slqsub⟩)
    (cqsub : PySem.W.codeIn K cdqsub "Question.__sub__" = true)
    (kqsub : PySem.W.keepIn K (.ref fqsub) = true)
    (aqneg : PySem.W.findIn K (.ref Q) "__neg__" = some (some (.ref fqneg)))
    (iqneg : PySem.W.isFn K (.ref fqneg) = true)
    (lqneg : K.lookup fqneg = some ⟨ocqneg, odqneg, .func (PySem.W.fnOf "__neg__" "Question.__neg__" (defArgs sQNeg) (defBody sQNeg) (defScope sQNeg) .none kVqneg dcqneg pmqneg anqneg cdqneg ctqneg), slqneg⟩)
    (cqneg : PySem.W.codeIn K cdqneg "Question.__neg__" = true)
    (kqneg : PySem.W.keepIn K (.ref fqneg) = true)
    (aqstr : PySem.W.findIn K (.ref Q) "__str__" = some (some (.ref fqstr)))
    (iqstr : PySem.W.isFn K (.ref fqstr) = true)
    (lqstr : K.lookup fqstr = some ⟨ocqstr, odqstr, .func (PySem.W.fnOf "__str__" "Question.__str__" (defArgs sQStr) (defBody sQStr) (defScope sQStr) .none kVqstr dcqstr pmqstr anqstr cdqstr ctqstr), slqstr⟩)
    (cqstr : PySem.W.codeIn K cdqstr "Question.__str__" = true)
    (kqstr : PySem.W.keepIn K (.ref fqstr) = true)
    (aqrepr : PySem.W.findIn K (.ref Q) "__repr__" = some (some (.ref fqrepr)))
    (iqrepr : PySem.W.isFn K (.ref fqrepr) = true)
    (lqrepr : K.lookup fqrepr = some ⟨ocqrepr, odqrepr, .func (PySem.W.fnOf "__repr__" "Question.__repr__" (defArgs sQRepr) (defBody sQRepr) (defScope sQRepr) .none kVqrepr dcqrepr pmqrepr anqrepr cdqrepr ctqrepr), slqrepr⟩)
    (cqrepr : PySem.W.codeIn K cdqrepr "Question.__repr__" = true)
    (kqrepr : PySem.W.keepIn K (.ref fqrepr) = true)
    (atop : PySem.W.findIn K (.ref C) "top" = some (some (.ref ptop)))
    (gtop : PySem.W.specialIn K (.ref ptop) "__get__" = some (some (.builtin "property.__get__")))
    (ttop : PySem.W.takesIn K (.ref ptop) = some true)
    (rctop : PySem.W.recIn K ptop "property" = some (.ref ftop :: rtop))
    (ltop : K.lookup ftop = some ⟨octop, odtop, .func (PySem.W.fnOf "top" "Ratio.top" (defArgs sTop) (defBody sTop) (defScope sTop) .none kVtop dctop pmtop antop cdtop cttop), sltop⟩)
    (ctop : PySem.W.codeIn K cdtop "Ratio.top" = true)
    (ktop : PySem.W.keepIn K (.ref ftop) = true)
    (abottom : PySem.W.findIn K (.ref C) "bottom" = some (some (.ref pbottom)))
    (gbottom : PySem.W.specialIn K (.ref pbottom) "__get__" = some (some (.builtin "property.__get__")))
    (tbottom : PySem.W.takesIn K (.ref pbottom) = some true)
    (rcbottom : PySem.W.recIn K pbottom "property" = some (.ref fbottom :: rbottom))
    (lbottom : K.lookup fbottom = some ⟨ocbottom, odbottom, .func (PySem.W.fnOf "bottom" "Ratio.bottom" (defArgs sBot) (defBody sBot) (defScope sBot) .none kVbottom dcbottom pmbottom anbottom cdbottom ctbottom), slbottom⟩)
    (cbottom : PySem.W.codeIn K cdbottom "Ratio.bottom" = true)
    (kbottom : PySem.W.keepIn K (.ref fbottom) = true)
    (rdQ : PySem.W.readsIn K Q (.type "type") = true)
    (gaQ : PySem.W.specialIn K (.ref Q) "__getattribute__" = some (some (.builtin "type.__getattribute__")))
    (aofk : PySem.W.findCls K (.ref Q) (.type "type") "of_key" = some (.get (.builtin "classmethod.__get__") (.ref pofk) .none (.ref Q)))
    (rcofk : PySem.W.recIn K pofk "classmethod" = some (.ref fofk :: rofk))
    (iofk : PySem.W.fnIn K fofk = true)
    (lofk : K.lookup fofk = some ⟨ocofk, odofk, .func (PySem.W.fnOf "of_key" "Question.of_key" (defArgs sOfKey) (defBody sOfKey) (defScope sOfKey) .none kVofk dcofk pmofk anofk cdofk ctofk), slofk⟩)
    (cofk : PySem.W.codeIn K cdofk "Question.of_key" = true)
    (kofk : PySem.W.keepIn K (.ref fofk) = true)
    (acon : PySem.W.findCls K (.ref Q) (.type "type") "constant" = some (.get (.builtin "classmethod.__get__") (.ref pcon) .none (.ref Q)))
    (rccon : PySem.W.recIn K pcon "classmethod" = some (.ref fcon :: rcon))
    (icon : PySem.W.fnIn K fcon = true)
    (lcon : K.lookup fcon = some ⟨occon, odcon, .func (PySem.W.fnOf "constant" "Question.constant" (defArgs sConst) (defBody sConst) (defScope sConst) .none kVcon dccon pmcon ancon cdcon ctcon), slcon⟩)
    (ccon : PySem.W.codeIn K cdcon "Question.constant" = true)
    (kcon : PySem.W.keepIn K (.ref fcon) = true)
    (sf : PySem.W.selfFirst K Q = true)
    (aisn : PySem.W.nsIn K mainGlobals "is_name" = some (some (.ref fisn)))
    (lisn : K.lookup fisn = some ⟨ocisn, odisn, .func (PySem.W.fnOf "is_name" "is_name" (defArgs sIsName) (defBody sIsName) (defScope sIsName) .none kVisn dcisn pmisn anisn cdisn ctisn), slisn⟩)
    (cisn : PySem.W.codeIn K cdisn "is_name" = true)
    (kisn : PySem.W.keepIn K (.ref fisn) = true)
    (aino : PySem.W.nsIn K mainGlobals "in_order" = some (some (.ref fino)))
    (lino : K.lookup fino = some ⟨ocino, odino, .func (PySem.W.fnOf "in_order" "in_order" (defArgs sInOrder) (defBody sInOrder) (defScope sInOrder) .none kVino dcino pmino anino (.ref cc) ctino), slino⟩)
    (cino : PySem.W.codeIn K (.ref cc) "in_order" = true)
    (kino : PySem.W.keepIn K (.ref fino) = true)
    (aisi : PySem.W.nsIn K mainGlobals "is_integer" = some (some (.ref fisi)))
    (lisi : K.lookup fisi = some ⟨ocisi, odisi, .func (PySem.W.fnOf "is_integer" "is_integer" (defArgs sIsInt) (defBody sIsInt) (defScope sIsInt) .none kVisi dcisi pmisi anisi cdisi ctisi), slisi⟩)
    (cisi : PySem.W.codeIn K cdisi "is_integer" = true)
    (kisi : PySem.W.keepIn K (.ref fisi) = true)
    (aisu : PySem.W.nsIn K mainGlobals "is_number" = some (some (.ref fisu)))
    (lisu : K.lookup fisu = some ⟨ocisu, odisu, .func (PySem.W.fnOf "is_number" "is_number" (defArgs sIsNum) (defBody sIsNum) (defScope sIsNum) .none kVisu dcisu pmisu anisu cdisu ctisu), slisu⟩)
    (cisu : PySem.W.codeIn K cdisu "is_number" = true)
    (kisu : PySem.W.keepIn K (.ref fisu) = true)
    (aasr : PySem.W.nsIn K mainGlobals "as_ratio" = some (some (.ref fasr)))
    (lasr : K.lookup fasr = some ⟨ocasr, odasr, .func (PySem.W.fnOf "as_ratio" "as_ratio" (defArgs sAs) (defBody sAs) (defScope sAs) .none kVasr dcasr pmasr anasr cdasr ctasr), slasr⟩)
    (casr : PySem.W.codeIn K cdasr "as_ratio" = true)
    (kasr : PySem.W.keepIn K (.ref fasr) = true)
    (alon : PySem.W.nsIn K mainGlobals "is_list_of_names" = some (some (.ref flon)))
    (llon : K.lookup flon = some ⟨oclon, odlon, .func (PySem.W.fnOf "is_list_of_names" "is_list_of_names" (defArgs sIsLoN) (defBody sIsLoN) (defScope sIsLoN) .none kVlon dclon pmlon anlon cdlon ctlon), sllon⟩)
    (clon : PySem.W.codeIn K cdlon "is_list_of_names" = true)
    (klon : PySem.W.keepIn K (.ref flon) = true)
    (aist : PySem.W.nsIn K mainGlobals "is_term" = some (some (.ref fist)))
    (list : K.lookup fist = some ⟨ocist, odist, .func (PySem.W.fnOf "is_term" "is_term" (defArgs sIsTerm) (defBody sIsTerm) (defScope sIsTerm) .none kVist dcist pmist anist cdist ctist), slist⟩)
    (cist : PySem.W.codeIn K cdist "is_term" = true)
    (kist : PySem.W.keepIn K (.ref fist) = true)
    (acob : PySem.W.nsIn K mainGlobals "common_bottom" = some (some (.ref fcob)))
    (lcob : K.lookup fcob = some ⟨occob, odcob, .func (PySem.W.fnOf "common_bottom" "common_bottom" (defArgs sComBot) (defBody sComBot) (defScope sComBot) .none kVcob dccob pmcob ancob cdcob ctcob), slcob⟩)
    (ccob : PySem.W.codeIn K cdcob "common_bottom" = true)
    (kcob : PySem.W.keepIn K (.ref fcob) = true)
    (aasq : PySem.W.nsIn K mainGlobals "as_question" = some (some (.ref fasq)))
    (lasq : K.lookup fasq = some ⟨ocasq, odasq, .func (PySem.W.fnOf "as_question" "as_question" (defArgs sAsQ) (defBody sAsQ) (defScope sAsQ) .none kVasq dcasq pmasq anasq cdasq ctasq), slasq⟩)
    (casq : PySem.W.codeIn K cdasq "as_question" = true)
    (kasq : PySem.W.keepIn K (.ref fasq) = true)
    (aqof : PySem.W.nsIn K mainGlobals "question_of" = some (some (.ref fqof)))
    (lqof : K.lookup fqof = some ⟨ocqof, odqof, .func (PySem.W.fnOf "question_of" "question_of" (defArgs sQOf) (defBody sQOf) (defScope sQOf) .none kVqof dcqof pmqof anqof cdqof ctqof), slqof⟩)
    (cqof : PySem.W.codeIn K cdqof "question_of" = true)
    (kqof : PySem.W.keepIn K (.ref fqof) = true)
    (attx : PySem.W.nsIn K mainGlobals "term_text" = some (some (.ref fttx)))
    (lttx : K.lookup fttx = some ⟨octtx, odttx, .func (PySem.W.fnOf "term_text" "term_text" (defArgs sTermTx) (defBody sTermTx) (defScope sTermTx) .none kVttx dcttx pmttx anttx cdttx ctttx), slttx⟩)
    (cttx : PySem.W.codeIn K cdttx "term_text" = true)
    (kttx : PySem.W.keepIn K (.ref fttx) = true)
    (astx : PySem.W.nsIn K mainGlobals "sign_text" = some (some (.ref fstx)))
    (lstx : K.lookup fstx = some ⟨ocstx, odstx, .func (PySem.W.fnOf "sign_text" "sign_text" (defArgs sSignTx) (defBody sSignTx) (defScope sSignTx) .none kVstx dcstx pmstx anstx cdstx ctstx), slstx⟩)
    (cstx : PySem.W.codeIn K cdstx "sign_text" = true)
    (kstx : PySem.W.keepIn K (.ref fstx) = true)
    (arng : PySem.W.nsIn K mainGlobals "_law_rng" = some (some (.ref frng)))
    (lrng : K.lookup frng = some ⟨ocrng, odrng, .func (PySem.W.fnOf "_law_rng" "_law_rng" (defArgs sRng) (defBody sRng) (defScope sRng) .none kVrng dcrng pmrng anrng cdrng ctrng), slrng⟩)
    (crng : PySem.W.codeIn K cdrng "_law_rng" = true)
    (krng : PySem.W.keepIn K (.ref frng) = true)
    (adraw : PySem.W.nsIn K mainGlobals "_law_draw" = some (some (.ref fdraw)))
    (ldraw : K.lookup fdraw = some ⟨ocdraw, oddraw, .func (PySem.W.fnOf "_law_draw" "_law_draw" (defArgs sDraw) (defBody sDraw) (defScope sDraw) .none kVdraw dcdraw pmdraw andraw cddraw ctdraw), sldraw⟩)
    (cdraw : PySem.W.codeIn K cddraw "_law_draw" = true)
    (kdraw : PySem.W.keepIn K (.ref fdraw) = true)
    (achoice : PySem.W.nsIn K mainGlobals "_law_choice" = some (some (.ref fchoice)))
    (lchoice : K.lookup fchoice = some ⟨occhoice, odchoice, .func (PySem.W.fnOf "_law_choice" "_law_choice" (defArgs sChoice) (defBody sChoice) (defScope sChoice) .none kVchoice dcchoice pmchoice anchoice cdchoice ctchoice), slchoice⟩)
    (cchoice : PySem.W.codeIn K cdchoice "_law_choice" = true)
    (kchoice : PySem.W.keepIn K (.ref fchoice) = true)
    (anames : PySem.W.nsIn K mainGlobals "_law_names" = some (some (.ref fnames)))
    (lnames : K.lookup fnames = some ⟨ocnames, odnames, .func (PySem.W.fnOf "_law_names" "_law_names" (defArgs sNames) (defBody sNames) (defScope sNames) .none kVnames dcnames pmnames annames cdnames ctnames), slnames⟩)
    (cnames : PySem.W.codeIn K cdnames "_law_names" = true)
    (knames : PySem.W.keepIn K (.ref fnames) = true)
    (acommon : PySem.W.nsIn K mainGlobals "_law_common" = some (some (.ref fcommon)))
    (lcommon : K.lookup fcommon = some ⟨occommon, odcommon, .func (PySem.W.fnOf "_law_common" "_law_common" (defArgs sCommon) (defBody sCommon) (defScope sCommon) .none kVcommon dccommon pmcommon ancommon cdcommon ctcommon), slcommon⟩)
    (ccommon : PySem.W.codeIn K cdcommon "_law_common" = true)
    (kcommon : PySem.W.keepIn K (.ref fcommon) = true)
    (alterms : PySem.W.nsIn K mainGlobals "_law_terms" = some (some (.ref flterms)))
    (llterms : K.lookup flterms = some ⟨oclterms, odlterms, .func (PySem.W.fnOf "_law_terms" "_law_terms" (defArgs sLTerms) (defBody sLTerms) (defScope sLTerms) .none kVlterms dclterms pmlterms anlterms cdlterms ctlterms), sllterms⟩)
    (clterms : PySem.W.codeIn K cdlterms "_law_terms" = true)
    (klterms : PySem.W.keepIn K (.ref flterms) = true)
    (agf : PySem.W.nsIn K mainGlobals "_law_greatest_first" = some (some (.ref fgf)))
    (lgf : K.lookup fgf = some ⟨ocgf, odgf, .func (PySem.W.fnOf "_law_greatest_first" "_law_greatest_first" (defArgs sGF) (defBody sGF) (defScope sGF) .none kVgf dcgf pmgf angf cdgf ctgf), slgf⟩)
    (cgf : PySem.W.codeIn K cdgf "_law_greatest_first" = true)
    (kgf : PySem.W.keepIn K (.ref fgf) = true)
    (aplain : PySem.W.nsIn K mainGlobals "_law_plain" = some (some (.ref fplain)))
    (lplain : K.lookup fplain = some ⟨ocplain, odplain, .func (PySem.W.fnOf "_law_plain" "_law_plain" (defArgs sPlain) (defBody sPlain) (defScope sPlain) .none kVplain dcplain pmplain anplain cdplain ctplain), slplain⟩)
    (cplain : PySem.W.codeIn K cdplain "_law_plain" = true)
    (kplain : PySem.W.keepIn K (.ref fplain) = true)
    (altext : PySem.W.nsIn K mainGlobals "_law_text" = some (some (.ref fltext)))
    (lltext : K.lookup fltext = some ⟨ocltext, odltext, .func (PySem.W.fnOf "_law_text" "_law_text" (defArgs sLText) (defBody sLText) (defScope sLText) .none kVltext dcltext pmltext anltext cdltext ctltext), slltext⟩)
    (cltext : PySem.W.codeIn K cdltext "_law_text" = true)
    (kltext : PySem.W.keepIn K (.ref fltext) = true)
    (ashown : PySem.W.nsIn K mainGlobals "_law_shown" = some (some (.ref fshown)))
    (lshown : K.lookup fshown = some ⟨ocshown, odshown, .func (PySem.W.fnOf "_law_shown" "_law_shown" (defArgs sShown) (defBody sShown) (defScope sShown) .none kVshown dcshown pmshown anshown cdshown ctshown), slshown⟩)
    (cshown : PySem.W.codeIn K cdshown "_law_shown" = true)
    (kshown : PySem.W.keepIn K (.ref fshown) = true)
    (amade : PySem.W.nsIn K mainGlobals "_law_made" = some (some (.ref fmade)))
    (lmade : K.lookup fmade = some ⟨ocmade, odmade, .func (PySem.W.fnOf "_law_made" "_law_made" (defArgs sMade) (defBody sMade) (defScope sMade) .none kVmade dcmade pmmade anmade cdmade ctmade), slmade⟩)
    (cmade : PySem.W.codeIn K cdmade "_law_made" = true)
    (kmade : PySem.W.keepIn K (.ref fmade) = true)
    (aright : PySem.W.nsIn K mainGlobals "_law_right" = some (some (.ref fright)))
    (lright : K.lookup fright = some ⟨ocright, odright, .func (PySem.W.fnOf "_law_right" "_law_right" (defArgs sRight) (defBody sRight) (defScope sRight) .none kVright dcright pmright anright cdright ctright), slright⟩)
    (cright : PySem.W.codeIn K cdright "_law_right" = true)
    (kright : PySem.W.keepIn K (.ref fright) = true)
    (alaw : PySem.W.nsIn K mainGlobals "law" = some (some (.ref flaw)))
    (llaw : K.lookup flaw = some ⟨oclaw, odlaw, .func (PySem.W.fnOf "law" "law" (defArgs sLaw) (defBody sLaw) (defScope sLaw) .none kVlaw dclaw pmlaw anlaw cdlaw ctlaw), sllaw⟩)
    (claw : PySem.W.codeIn K cdlaw "law" = true)
    (klaw : PySem.W.keepIn K (.ref flaw) = true)
    : ∃ fd : FuncData, (∀ (s : Shared) (v : Value), BindsTo s fd ⟨[v], []⟩ [("_law_script", v)]) ∧ ∀ base : Heap, K.In base → base.Ns mainGlobals mg → LamX.TabB base mg cc TB → FnG P w K mg base 14 fa fd ["_law_script"] (pLaw TB K) := by
  have e := hfa.symm.trans (PySem.W.mg_of X G alaw)
  cases e
  have bn : ∀ x, InS x ["isinstance", "int", "bool", "max", "min", "abs", "len", "str", "repr", "divmod", "range", "all", "list", "tuple", "sorted", "reversed", "enumerate"] → mg x = none := by
    intro x hx
    rcases hx with _ | hx
    · exact PySem.W.mg_none_of X G z_isinstance
    rcases hx with _ | hx
    · exact PySem.W.mg_none_of X G z_int
    rcases hx with _ | hx
    · exact PySem.W.mg_none_of X G z_bool
    rcases hx with _ | hx
    · exact PySem.W.mg_none_of X G z_max
    rcases hx with _ | hx
    · exact PySem.W.mg_none_of X G z_min
    rcases hx with _ | hx
    · exact PySem.W.mg_none_of X G z_abs
    rcases hx with _ | hx
    · exact PySem.W.mg_none_of X G z_len
    rcases hx with _ | hx
    · exact PySem.W.mg_none_of X G z_str
    rcases hx with _ | hx
    · exact PySem.W.mg_none_of X G z_repr
    rcases hx with _ | hx
    · exact PySem.W.mg_none_of X G z_divmod
    rcases hx with _ | hx
    · exact PySem.W.mg_none_of X G z_range
    rcases hx with _ | hx
    · exact PySem.W.mg_none_of X G z_all
    rcases hx with _ | hx
    · exact PySem.W.mg_none_of X G z_list
    rcases hx with _ | hx
    · exact PySem.W.mg_none_of X G z_tuple
    rcases hx with _ | hx
    · exact PySem.W.mg_none_of X G z_sorted
    rcases hx with _ | hx
    · exact PySem.W.mg_none_of X G z_reversed
    rcases hx with _ | hx
    · exact PySem.W.mg_none_of X G z_enumerate
    cases hx
  have gx : ∀ {x : Str} {v : Value}, PySem.W.nsIn K mainGlobals x = some (some v) → mg x = some v := fun q => PySem.W.mg_of X G q
  have cl : Cls K C := ⟨pgC, hdC, poC, saC⟩
  have cq : Cls K Q := ⟨pgQ, hdQ, poQ, saQ⟩
  have T : Txt K mg C Q := ⟨cl, nT, nB, ca, cn, ct, cm, cq, qnT, qnB, qca, qcm, kit_bt (by decide +kernel) rfl uCI, kit_self, kit_own icC tyC rfl uIC, kit_self, nfC, gx aC, gx aQ, gx mgcd, gx mlcm, ⟨_, gx gL⟩, ⟨_, gx gH⟩, ⟨_, gx gN⟩, bn⟩
  have E0 : EmpT K t0 := ⟨_, _, qt0, rfl, rfl⟩
  have Fisn := fun_mk (st := sIsName) lisn cisn kisn
  have bisn := Fisn.binds (ps := ["value"]) fun _ _ _ _ _ _ us hl => match us, hl with | [_], _ => rfl
  have Fino := fun_mk (st := sInOrder) lino cino kino
  have bino := Fino.binds (ps := ["products"]) fun _ _ _ _ _ _ us hl => match us, hl with | [_], _ => rfl
  have Fisi := fun_mk (st := sIsInt) lisi cisi kisi
  have bisi := Fisi.binds (ps := ["value"]) fun _ _ _ _ _ _ us hl => match us, hl with | [_], _ => rfl
  have Fisu := fun_mk (st := sIsNum) lisu cisu kisu
  have bisu := Fisu.binds (ps := ["value"]) fun _ _ _ _ _ _ us hl => match us, hl with | [_], _ => rfl
  have Fasr := fun_mk (st := sAs) lasr casr kasr
  have basr := Fasr.binds (ps := ["value"]) fun _ _ _ _ _ _ us hl => match us, hl with | [_], _ => rfl
  have Flon := fun_mk (st := sIsLoN) llon clon klon
  have blon := Flon.binds (ps := ["value"]) fun _ _ _ _ _ _ us hl => match us, hl with | [_], _ => rfl
  have Fist := fun_mk (st := sIsTerm) list cist kist
  have bist := Fist.binds (ps := ["value"]) fun _ _ _ _ _ _ us hl => match us, hl with | [_], _ => rfl
  have Fcob := fun_mk (st := sComBot) lcob ccob kcob
  have bcob := Fcob.binds (ps := ["numbers"]) fun _ _ _ _ _ _ us hl => match us, hl with | [_], _ => rfl
  have Fasq := fun_mk (st := sAsQ) lasq casq kasq
  have basq := Fasq.binds (ps := ["value"]) fun _ _ _ _ _ _ us hl => match us, hl with | [_], _ => rfl
  have Fqof := fun_mk (st := sQOf) lqof cqof kqof
  have bqof := Fqof.binds (ps := ["tops", "bottom"]) fun _ _ _ _ _ _ us hl => match us, hl with | [_, _], _ => rfl
  have Fttx := fun_mk (st := sTermTx) lttx cttx kttx
  have bttx := Fttx.binds (ps := ["number", "product"]) fun _ _ _ _ _ _ us hl => match us, hl with | [_, _], _ => rfl
  have Fstx := fun_mk (st := sSignTx) lstx cstx kstx
  have bstx := Fstx.binds (ps := ["is_below", "is_first"]) fun _ _ _ _ _ _ us hl => match us, hl with | [_, _], _ => rfl
  have Frng := fun_mk (st := sRng) lrng crng krng
  have brng := Frng.binds (ps := ["_law_script", "_law_k"]) fun _ _ _ _ _ _ us hl => match us, hl with | [_, _], _ => rfl
  have Fdraw := fun_mk (st := sDraw) ldraw cdraw kdraw
  have bdraw := Fdraw.binds (ps := ["_law_rng_here", "_law_many"]) fun _ _ _ _ _ _ us hl => match us, hl with | [_, _], _ => rfl
  have Fchoice := fun_mk (st := sChoice) lchoice cchoice kchoice
  have bchoice := Fchoice.binds (ps := ["_law_rng_here", "_law_some"]) fun _ _ _ _ _ _ us hl => match us, hl with | [_, _], _ => rfl
  have Fnames := fun_mk (st := sNames) lnames cnames knames
  have bnames := Fnames.binds (ps := ["_law_rng_here", "_law_many", "_law_taken"]) fun _ _ _ _ _ _ us hl => match us, hl with | [_, _, _], _ => rfl
  have Fcommon := fun_mk (st := sCommon) lcommon ccommon kcommon
  have bcommon := Fcommon.binds (ps := ["_law_one", "_law_other"]) fun _ _ _ _ _ _ us hl => match us, hl with | [_, _], _ => rfl
  have Flterms := fun_mk (st := sLTerms) llterms clterms klterms
  have blterms := Flterms.binds (ps := ["_law_rng_here", "_law_names_here"]) fun _ _ _ _ _ _ us hl => match us, hl with | [_, _], _ => rfl
  have Fgf := fun_mk (st := sGF) lgf cgf kgf
  have bgf := Fgf.binds (ps := ["_law_terms_here"]) fun _ _ _ _ _ _ us hl => match us, hl with | [_], _ => rfl
  have Fplain := fun_mk (st := sPlain) lplain cplain kplain
  have bplain := Fplain.binds (ps := ["_law_top", "_law_bottom", "_law_product"]) fun _ _ _ _ _ _ us hl => match us, hl with | [_, _, _], _ => rfl
  have Fltext := fun_mk (st := sLText) lltext cltext kltext
  have bltext := Fltext.binds (ps := ["_law_terms_here"]) fun _ _ _ _ _ _ us hl => match us, hl with | [_], _ => rfl
  have Fshown := fun_mk (st := sShown) lshown cshown kshown
  have bshown := Fshown.binds (ps := ["_law_terms_here"]) fun _ _ _ _ _ _ us hl => match us, hl with | [_], _ => rfl
  have Fmade := fun_mk (st := sMade) lmade cmade kmade
  have bmade := Fmade.binds (ps := ["_law_terms_here"]) fun _ _ _ _ _ _ us hl => match us, hl with | [_], _ => rfl
  have Fright := fun_mk (st := sRight) lright cright kright
  have bright := Fright.binds (ps := ["_law_rng_here"]) fun _ _ _ _ _ _ us hl => match us, hl with | [_], _ => rfl
  have Flaw := fun_mk (st := sLaw) llaw claw klaw
  have Feq := fun_mk (st := sEq) leq ceq keq
  have beq := Feq.binds (ps := ["self", "other"]) fun _ _ _ _ _ _ us hl => match us, hl with | [_, _], _ => rfl
  have Fstr := fun_mk (st := sStr) lstr cstr kstr
  have bstr := Fstr.binds (ps := ["self"]) fun _ _ _ _ _ _ us hl => match us, hl with | [_], _ => rfl
  have Frepr := fun_mk (st := sRepr) lrepr crepr krepr
  have brepr := Frepr.binds (ps := ["self"]) fun _ _ _ _ _ _ us hl => match us, hl with | [_], _ => rfl
  have Fterms := fun_mk (st := sTerms) lterms cterms kterms
  have bterms := Fterms.binds (ps := ["self"]) fun _ _ _ _ _ _ us hl => match us, hl with | [_], _ => rfl
  have Fplus := fun_mk (st := sPlus) lplus cplus kplus
  have bplus := Fplus.binds (ps := ["self", "other", "sign"]) fun _ _ _ _ _ _ us hl => match us, hl with | [_, _, _], _ => rfl
  have Fqadd := fun_mk (st := sQAdd) lqadd cqadd kqadd
  have bqadd := Fqadd.binds (ps := ["self", "other"]) fun _ _ _ _ _ _ us hl => match us, hl with | [_, _], _ => rfl
  have Fqsub := fun_mk (st := sQSub) lqsub cqsub kqsub
  have bqsub := Fqsub.binds (ps := ["self", "other"]) fun _ _ _ _ _ _ us hl => match us, hl with | [_, _], _ => rfl
  have Fqneg := fun_mk (st := sQNeg) lqneg cqneg kqneg
  have bqneg := Fqneg.binds (ps := ["self"]) fun _ _ _ _ _ _ us hl => match us, hl with | [_], _ => rfl
  have Fqstr := fun_mk (st := sQStr) lqstr cqstr kqstr
  have bqstr := Fqstr.binds (ps := ["self"]) fun _ _ _ _ _ _ us hl => match us, hl with | [_], _ => rfl
  have Fqrepr := fun_mk (st := sQRepr) lqrepr cqrepr kqrepr
  have bqrepr := Fqrepr.binds (ps := ["self"]) fun _ _ _ _ _ _ us hl => match us, hl with | [_], _ => rfl
  have Fofk := fun_mk (st := sOfKey) lofk cofk kofk
  have bofk := Fofk.binds (ps := ["cls", "key"]) fun _ _ _ _ _ _ us hl => match us, hl with | [_, _], _ => rfl
  have Fcon := fun_mk (st := sConst) lcon ccon kcon
  have bcon := Fcon.binds (ps := ["cls", "number"]) fun _ _ _ _ _ _ us hl => match us, hl with | [_, _], _ => rfl
  have Ftop := fun_mk (st := sTop) ltop ctop ktop
  have btop := Ftop.binds (ps := ["self"]) fun _ _ _ _ _ _ us hl => match us, hl with | [_], _ => rfl
  have Fbottom := fun_mk (st := sBot) lbottom cbottom kbottom
  have bbottom := Fbottom.binds (ps := ["self"]) fun _ _ _ _ _ _ us hl => match us, hl with | [_], _ => rfl
  have Cino : FunC K "in_order" "in_order" sInOrder fino _ cc := ⟨⟨_, _, _, _, _, _, _, _, rfl, lino, cino⟩⟩
  have Finit : FunD K "__init__" "Ratio.__init__" (defArgs sInit) (defBody sInit) (defScope sInit) [.int 1] [] finit _ := ⟨⟨_, _, _, _, _, _, _, _, _, _, rfl, linit, cinit, .inr ⟨by simp, Tinit, _, _, _, rfl, qinit, rfl, .cons ⟨_, rfl⟩ .nil⟩, .inl rfl⟩, kinit⟩
  obtain ⟨ds1, v1, bi1⟩ := Finit.binds1 (ps := ["self", "top", "bottom"]) 2 0 (by simp) rfl fun T kV doc pm an cdv ct us its hu hi => match us, its, hu, hi with | [_, _], [_], _, _ => ⟨_, rfl, rfl⟩
  obtain ⟨ds2, v2, bi2⟩ := Finit.binds1 (ps := ["self", "top", "bottom"]) 3 1 (by simp) rfl fun T kV doc pm an cdv ct us its hu hi => match us, its, hu, hi with | [_, _, _], [_], _, _ => ⟨_, rfl, rfl⟩
  have Fqinit : FunD K "__init__" "Question.__init__" (defArgs sQInit) (defBody sQInit) (defScope sQInit) [.ref t0] [] fqinit _ := ⟨⟨_, _, _, _, _, _, _, _, _, _, rfl, lqinit, cqinit, .inr ⟨by simp, Tqinit, _, _, _, rfl, qqinit, rfl, .cons rfl .nil⟩, .inl rfl⟩, kqinit⟩
  obtain ⟨ds3, v3, bi3⟩ := Fqinit.binds1 (ps := ["self", "terms"]) 1 0 (by simp) rfl fun T kV doc pm an cdv ct us its hu hi => match us, its, hu, hi with | [_], [_], _, _ => ⟨_, rfl, rfl⟩
  obtain ⟨ds4, v4, bi4⟩ := Fqinit.binds1 (ps := ["self", "terms"]) 2 1 (by simp) rfl fun T kV doc pm an cdv ct us its hu hi => match us, its, hu, hi with | [_, _], [_], _, _ => ⟨_, rfl, rfl⟩
  refine ⟨PySem.W.fnOf "law" "law" (defArgs sLaw) (defBody sLaw) (defScope sLaw) .none kVlaw dclaw pmlaw anlaw cdlaw ctlaw, fun s v => .of_eq rfl, fun base _ _ B => ?_⟩
  have GI : GFn P w K mg base "is_integer" 1 ["value"] [] (pIsInt C) := ⟨⟨_, _, [], okIsInt Fisi T, gx aisi, kisi, bisi, .nil⟩⟩
  have oI := okInit (P := P) (w := w) (base := base) Finit T GI
  have M1 : GMk P w K mg base "Ratio" C 2 ["self", "top", "bottom"] [.int 1] (pInit C) := ⟨⟨_, _, ds1, oI, gx aC, ⟨mkC, ainit, iinit, kcC⟩, bi1, v1⟩⟩
  have M2 : GMk P w K mg base "Ratio" C 2 ["self", "top", "bottom"] [] (pInit C) := ⟨⟨_, _, ds2, oI, gx aC, ⟨mkC, ainit, iinit, kcC⟩, bi2, v2⟩⟩
  have GNm : GFn P w K mg base "is_name" 1 ["value"] [] (pIsName K) := ⟨⟨_, _, [], okIsName Fisn T, gx aisn, kisn, bisn, .nil⟩⟩
  have GIO : GFn P w K mg base "in_order" 6 ["products"] [] (pInOrder TB) := ⟨⟨_, _, [], okInOrder Cino T B, gx aino, kino, bino, .nil⟩⟩
  have GNu : GFn P w K mg base "is_number" 2 ["value"] [] (pIsNum C) := ⟨⟨_, _, [], okIsNum Fisu T GI, gx aisu, kisu, bisu, .nil⟩⟩
  have GA : GFn P w K mg base "as_ratio" 4 ["value"] [] (pAs C) := ⟨⟨_, _, [], okAs Fasr T M1, gx aasr, kasr, basr, .nil⟩⟩
  have G1 : GPr P w K mg base C "top" 1 ["self"] (pTop C) := ⟨⟨_, _, _, okTop Ftop T, cl, ⟨atop, gtop, ttop, _, rctop⟩, btop⟩⟩
  have G2 : GPr P w K mg base C "bottom" 1 ["self"] (pBot C) := ⟨⟨_, _, _, okBot Fbottom T, cl, ⟨abottom, gbottom, tbottom, _, rcbottom⟩, bbottom⟩⟩
  have GE : GOp P w K mg base C "__eq__" 2 ["self", "other"] (pEq K C) := ⟨⟨_, _, okEq Feq T, aeq, ieq, beq⟩⟩
  have GS : GOp P w K mg base C "__str__" 1 ["self"] (pStr C) := ⟨⟨_, _, okStr Fstr T, astr, istr, bstr⟩⟩
  have GR : GOp P w K mg base C "__repr__" 1 ["self"] (pRepr C) := ⟨⟨_, _, okRepr Frepr T, arepr, irepr, brepr⟩⟩
  have GL : GFn P w K mg base "is_list_of_names" 2 ["value"] [] pLoN := ⟨⟨_, _, [], okLoN Flon T GNm, gx alon, klon, blon, .nil⟩⟩
  have GT : GFn P w K mg base "is_term" 3 ["value"] [] (pIsTerm C) := ⟨⟨_, _, [], okIsTerm Fist T GNu GL, gx aist, kist, bist, .nil⟩⟩
  have GC : GFn P w K mg base "common_bottom" 3 ["numbers"] [] (pComBot C) := ⟨⟨_, _, [], okComBot Fcob T G2, gx acob, kcob, bcob, .nil⟩⟩
  have GAQ : GFn P w K mg base "as_question" 1 ["value"] [] (pAsQ Q) := ⟨⟨_, _, [], okAsQ Fasq T, gx aasq, kasq, basq, .nil⟩⟩
  have GTx : GFn P w K mg base "term_text" 4 ["number", "product"] [] (pTermTx C) := ⟨⟨_, _, [], okTermTx Fttx T M1 GE GS, gx attx, kttx, bttx, .nil⟩⟩
  have GSx : GFn P w K mg base "sign_text" 1 ["is_below", "is_first"] [] pSignTx := ⟨⟨_, _, [], okSignTx Fstx T, gx astx, kstx, bstx, .nil⟩⟩
  have Q0 : GMk P w K mg base "Question" Q 1 ["self", "terms"] [.ref t0] (pInit0 K Q) := ⟨⟨_, _, ds3, okInit0 Fqinit T, gx aQ, ⟨mkQ, aqinit, iqinit, kcQ⟩, bi3, v3⟩⟩
  have GQ : GFn P w K mg base "question_of" 7 ["tops", "bottom"] [] (pQOf TB Q) := ⟨⟨_, _, [], okQOf Fqof T E0 Q0 GIO, gx aqof, kqof, bqof, .nil⟩⟩
  have Q1 : GMk P w K mg base "Question" Q 8 ["self", "terms"] [] (pQInit TB C Q) := ⟨⟨_, _, ds4, okQInit Fqinit T GT GC GA GQ G1 G2, gx aQ, ⟨mkQ, aqinit, iqinit, kcQ⟩, bi4, v4⟩⟩
  have Ok : GCm P w K mg base Q "of_key" 10 (pOfKey TB Q) := ⟨⟨_, _, _, ⟨rdQ, gaQ⟩, ⟨aofk, ⟨_, rcofk⟩, iofk⟩, ((okOfKey Fofk T GNm Q1).raw bofk .nil).imp fun vs H Q E h => by
    show SpL _ (vs ++ []) H Q E
    rw [List.append_nil]
    exact h⟩⟩
  have Cn : GCm P w K mg base Q "constant" 10 (pConst TB C Q) := ⟨⟨_, _, _, ⟨rdQ, gaQ⟩, ⟨acon, ⟨_, rccon⟩, icon⟩, ((okConst Fcon T GNu Q1).raw bcon .nil).imp fun vs H Q E h => by
    show SpL _ (vs ++ []) H Q E
    rw [List.append_nil]
    exact h⟩⟩
  have Te : GMe P w K mg base Q "terms" 4 ["self"] [] (pTerms C Q) := ⟨⟨_, _, [], okTerms Fterms T M2, cq, ⟨aterms, iterms, kterms⟩, bterms, .nil⟩⟩
  have Pl : GMe P w K mg base Q "_plus" 8 ["self", "other", "sign"] [] (pPlus TB Q) := ⟨⟨_, _, [], okPlus Fplus T GQ, cq, ⟨aplus, iplus, kplus⟩, bplus, .nil⟩⟩
  have Ad : GOp P w K mg base Q "__add__" 9 ["self", "other"] (pPm TB Q 1) := ⟨⟨_, _, okQAdd Fqadd T GAQ Pl, aqadd, iqadd, bqadd⟩⟩
  have Sb : GOp P w K mg base Q "__sub__" 9 ["self", "other"] (pPm TB Q (-1)) := ⟨⟨_, _, okQSub Fqsub T GAQ Pl, aqsub, iqsub, bqsub⟩⟩
  have Ng : GOp P w K mg base Q "__neg__" 8 ["self"] (pQNeg TB Q) := ⟨⟨_, _, okQNeg Fqneg T GQ, aqneg, iqneg, bqneg⟩⟩
  have St : GOp P w K mg base Q "__str__" 5 ["self"] (pQStr Q) := ⟨⟨_, _, okQStr Fqstr T M2 GSx GTx, aqstr, iqstr, bqstr⟩⟩
  have Rp : GOpG P w K mg base Q "__repr__" 6 ["self"] (pQRepr Q) := ⟨⟨_, _, okQRepr Fqrepr T Te GR, aqrepr, iqrepr, bqrepr⟩⟩
  have GD : GFn P w K mg base "_law_draw" 1 ["_law_rng_here", "_law_many"] [] pDraw := ⟨⟨_, _, [], okDraw Fdraw T, gx adraw, kdraw, bdraw, .nil⟩⟩
  have GH : GFn P w K mg base "_law_choice" 2 ["_law_rng_here", "_law_some"] [] pChoice := ⟨⟨_, _, [], okChoice Fchoice T GD, gx achoice, kchoice, bchoice, .nil⟩⟩
  have GNa : GFn P w K mg base "_law_names" 2 ["_law_rng_here", "_law_many", "_law_taken"] [] pNames := ⟨⟨_, _, [], okNames Fnames T GD, gx anames, knames, bnames, .nil⟩⟩
  have GCo : GFn P w K mg base "_law_common" 1 ["_law_one", "_law_other"] [] pCommon := ⟨⟨_, _, [], okCommon Fcommon T, gx acommon, kcommon, bcommon, .nil⟩⟩
  have GLt : GFn P w K mg base "_law_terms" 3 ["_law_rng_here", "_law_names_here"] [] pLTerms := ⟨⟨_, _, [], okLTerms Flterms T GD GH GCo, gx alterms, klterms, blterms, .nil⟩⟩
  have GG : GFn P w K mg base "_law_greatest_first" 1 ["_law_terms_here"] [] pGF := ⟨⟨_, _, [], okGF Fgf T, gx agf, kgf, bgf, .nil⟩⟩
  have GPl : GFn P w K mg base "_law_plain" 1 ["_law_top", "_law_bottom", "_law_product"] [] pPlain := ⟨⟨_, _, [], okPlain Fplain T, gx aplain, kplain, bplain, .nil⟩⟩
  have GTt : GFn P w K mg base "_law_text" 2 ["_law_terms_here"] [] pLText := ⟨⟨_, _, [], okLText Fltext T GG GPl, gx altext, kltext, bltext, .nil⟩⟩
  have GSh : GFg P w K mg base "_law_shown" 2 ["_law_terms_here"] [] pShown := ⟨⟨_, _, [], okShown Fshown T GG, gx ashown, kshown, bshown, .nil⟩⟩
  have GMd : GFn P w K mg base "_law_made" 10 ["_law_terms_here"] [] (pMade TB Q) := ⟨⟨_, _, [], okMade Fmade T M2 Q1, gx amade, kmade, bmade, .nil⟩⟩
  have GRn : GFn P w K mg base "_law_rng" 1 ["_law_script", "_law_k"] [] (pRng K) := ⟨⟨_, _, [], okRng Frng T, gx arng, krng, brng, .nil⟩⟩
  have GRi : GFg P w K mg base "_law_right" 13 ["_law_rng_here"] [] (pRight TB) := ⟨⟨_, _, [], okRight Fright ⟨T, E0, GD, GNa, GLt, GMd, GTt, GSh, St, Rp, Ng, Ad, Sb, Q0, Q1, M2, Ok, Cn, sf⟩, gx aright, kright, bright, .nil⟩⟩
  exact okLaw Flaw T GRn GRi
end K15
set_option Elab.async false
open PySem PySem.W PyProof.Rows
set_option maxRecDepth 100000 in
set_option maxHeartbeats 0 in
theorem PySem.Challenge.cw_notesums_k15_texts_of_questions_holds : PySem.Challenge.rw_notesums_k15_texts_of_questions.Holds := by
  w_on; o_law; k_head; (case hw => w_witness2)
  k_fill
  refine' N3.walk_GT (l := PySem.Challenge.rw_notesums_k15_texts_of_questions) (n := 63) (k := 14) (x := "_law_script") (pre := K15.pLaw 164) (c := _) (tb := 164) rfl (by decide) rfl ⟨rfl, by decide, by decide⟩ (fun w h Y => PySem.W.km_in_of Y) (fun w h Y => PySem.W.km_tabs_of Y 164 (by decide +kernel)) ?hN ?hC ?F (fun w L a ns hl hS hQ => ⟨a, ns, rfl, hS, hl, hQ, fun _ => rfl⟩)
  case F =>
    intro w mg fa h KX G hmg
    refine' K15.all_mk KX G hmg ?aC ?pgC ?hdC ?poC ?saC ?kcC ?aQ ?pgQ ?hdQ ?poQ ?saQ ?kcQ ?nT ?nB ?qnT ?qnB ?ca ?qca ?cn ?ct ?cm ?qcm ?icC ?tyC ?uCI ?uIC ?nfC ?mgcd ?mlcm ?gL ?gH ?gN ?z_isinstance ?z_int ?z_bool ?z_max ?z_min ?z_abs ?z_len ?z_str ?z_repr ?z_divmod ?z_range ?z_all ?z_list ?z_tuple ?z_sorted ?z_reversed ?z_enumerate ?mkC ?mkQ ?ainit ?iinit ?linit ?cinit ?kinit ?qinit ?aqinit ?iqinit ?lqinit ?cqinit ?kqinit ?qqinit ?qt0 ?aeq ?ieq ?leq ?ceq ?keq ?astr ?istr ?lstr ?cstr ?kstr ?arepr ?irepr ?lrepr ?crepr ?krepr ?aterms ?iterms ?lterms ?cterms ?kterms ?aplus ?iplus ?lplus ?cplus ?kplus ?aqadd ?iqadd ?lqadd ?cqadd ?kqadd ?aqsub ?iqsub ?lqsub ?cqsub ?kqsub ?aqneg ?iqneg ?lqneg ?cqneg ?kqneg ?aqstr ?iqstr ?lqstr ?cqstr ?kqstr ?aqrepr ?iqrepr ?lqrepr ?cqrepr ?kqrepr ?atop ?gtop ?ttop ?rctop ?ltop ?ctop ?ktop ?abottom ?gbottom ?tbottom ?rcbottom ?lbottom ?cbottom ?kbottom ?rdQ ?gaQ ?aofk ?rcofk ?iofk ?lofk ?cofk ?kofk ?acon ?rccon ?icon ?lcon ?ccon ?kcon ?sf ?aisn ?lisn ?cisn ?kisn ?aino ?lino ?cino ?kino ?aisi ?lisi ?cisi ?kisi ?aisu ?lisu ?cisu ?kisu ?aasr ?lasr ?casr ?kasr ?alon ?llon ?clon ?klon ?aist ?list ?cist ?kist ?acob ?lcob ?ccob ?kcob ?aasq ?lasq ?casq ?kasq ?aqof ?lqof ?cqof ?kqof ?attx ?lttx ?cttx ?kttx ?astx ?lstx ?cstx ?kstx ?arng ?lrng ?crng ?krng ?adraw ?ldraw ?cdraw ?kdraw ?achoice ?lchoice ?cchoice ?kchoice ?anames ?lnames ?cnames ?knames ?acommon ?lcommon ?ccommon ?kcommon ?alterms ?llterms ?clterms ?klterms ?agf ?lgf ?cgf ?kgf ?aplain ?lplain ?cplain ?kplain ?altext ?lltext ?cltext ?kltext ?ashown ?lshown ?cshown ?kshown ?amade ?lmade ?cmade ?kmade ?aright ?lright ?cright ?kright ?alaw ?llaw ?claw ?klaw
    (case aC => k_is)
    (case pgC => k_is)
    (case hdC => k_is)
    (case poC => k_is)
    (case saC => k_is)
    (case kcC => k_is)
    (case aQ => k_is)
    (case pgQ => k_is)
    (case hdQ => k_is)
    (case poQ => k_is)
    (case saQ => k_is)
    (case kcQ => k_is)
    (case nT => k_is)
    (case nB => k_is)
    (case qnT => k_is)
    (case qnB => k_is)
    (case ca => k_is)
    (case qca => k_is)
    (case cn => k_is)
    (case ct => k_is)
    (case cm => k_is)
    (case qcm => k_is)
    (case icC => k_is)
    (case tyC => k_is)
    (case uCI => k_is)
    (case uIC => k_is)
    (case nfC => k_is)
    (case mgcd => k_is)
    (case mlcm => k_is)
    (case gL => k_is)
    (case gH => k_is)
    (case gN => k_is)
    (case z_isinstance => k_is)
    (case z_int => k_is)
    (case z_bool => k_is)
    (case z_max => k_is)
    (case z_min => k_is)
    (case z_abs => k_is)
    (case z_len => k_is)
    (case z_str => k_is)
    (case z_repr => k_is)
    (case z_divmod => k_is)
    (case z_range => k_is)
    (case z_all => k_is)
    (case z_list => k_is)
    (case z_tuple => k_is)
    (case z_sorted => k_is)
    (case z_reversed => k_is)
    (case z_enumerate => k_is)
    (case mkC => k_is)
    (case mkQ => k_is)
    (case ainit => k_is)
    (case iinit => k_is)
    (case linit => k_is)
    (case cinit => k_is)
    (case kinit => k_is)
    (case qinit => k_is)
    (case aqinit => k_is)
    (case iqinit => k_is)
    (case lqinit => k_is)
    (case cqinit => k_is)
    (case kqinit => k_is)
    (case qqinit => k_is)
    (case qt0 => k_is)
    (case aeq => k_is)
    (case ieq => k_is)
    (case leq => k_is)
    (case ceq => k_is)
    (case keq => k_is)
    (case astr => k_is)
    (case istr => k_is)
    (case lstr => k_is)
    (case cstr => k_is)
    (case kstr => k_is)
    (case arepr => k_is)
    (case irepr => k_is)
    (case lrepr => k_is)
    (case crepr => k_is)
    (case krepr => k_is)
    (case aterms => k_is)
    (case iterms => k_is)
    (case lterms => k_is)
    (case cterms => k_is)
    (case kterms => k_is)
    (case aplus => k_is)
    (case iplus => k_is)
    (case lplus => k_is)
    (case cplus => k_is)
    (case kplus => k_is)
    (case aqadd => k_is)
    (case iqadd => k_is)
    (case lqadd => k_is)
    (case cqadd => k_is)
    (case kqadd => k_is)
    (case aqsub => k_is)
    (case iqsub => k_is)
    (case lqsub => k_is)
    (case cqsub => k_is)
    (case kqsub => k_is)
    (case aqneg => k_is)
    (case iqneg => k_is)
    (case lqneg => k_is)
    (case cqneg => k_is)
    (case kqneg => k_is)
    (case aqstr => k_is)
    (case iqstr => k_is)
    (case lqstr => k_is)
    (case cqstr => k_is)
    (case kqstr => k_is)
    (case aqrepr => k_is)
    (case iqrepr => k_is)
    (case lqrepr => k_is)
    (case cqrepr => k_is)
    (case kqrepr => k_is)
    (case atop => k_is)
    (case gtop => k_is)
    (case ttop => k_is)
    (case rctop => k_is)
    (case ltop => k_is)
    (case ctop => k_is)
    (case ktop => k_is)
    (case abottom => k_is)
    (case gbottom => k_is)
    (case tbottom => k_is)
    (case rcbottom => k_is)
    (case lbottom => k_is)
    (case cbottom => k_is)
    (case kbottom => k_is)
    (case rdQ => k_is)
    (case gaQ => k_is)
    (case aofk => k_is)
    (case rcofk => k_is)
    (case iofk => k_is)
    (case lofk => k_is)
    (case cofk => k_is)
    (case kofk => k_is)
    (case acon => k_is)
    (case rccon => k_is)
    (case icon => k_is)
    (case lcon => k_is)
    (case ccon => k_is)
    (case kcon => k_is)
    (case sf => k_is)
    (case aisn => k_is)
    (case lisn => k_is)
    (case cisn => k_is)
    (case kisn => k_is)
    (case aino => k_is)
    (case lino => k_is)
    (case cino => k_is)
    (case kino => k_is)
    (case aisi => k_is)
    (case lisi => k_is)
    (case cisi => k_is)
    (case kisi => k_is)
    (case aisu => k_is)
    (case lisu => k_is)
    (case cisu => k_is)
    (case kisu => k_is)
    (case aasr => k_is)
    (case lasr => k_is)
    (case casr => k_is)
    (case kasr => k_is)
    (case alon => k_is)
    (case llon => k_is)
    (case clon => k_is)
    (case klon => k_is)
    (case aist => k_is)
    (case list => k_is)
    (case cist => k_is)
    (case kist => k_is)
    (case acob => k_is)
    (case lcob => k_is)
    (case ccob => k_is)
    (case kcob => k_is)
    (case aasq => k_is)
    (case lasq => k_is)
    (case casq => k_is)
    (case kasq => k_is)
    (case aqof => k_is)
    (case lqof => k_is)
    (case cqof => k_is)
    (case kqof => k_is)
    (case attx => k_is)
    (case lttx => k_is)
    (case cttx => k_is)
    (case kttx => k_is)
    (case astx => k_is)
    (case lstx => k_is)
    (case cstx => k_is)
    (case kstx => k_is)
    (case arng => k_is)
    (case lrng => k_is)
    (case crng => k_is)
    (case krng => k_is)
    (case adraw => k_is)
    (case ldraw => k_is)
    (case cdraw => k_is)
    (case kdraw => k_is)
    (case achoice => k_is)
    (case lchoice => k_is)
    (case cchoice => k_is)
    (case kchoice => k_is)
    (case anames => k_is)
    (case lnames => k_is)
    (case cnames => k_is)
    (case knames => k_is)
    (case acommon => k_is)
    (case lcommon => k_is)
    (case ccommon => k_is)
    (case kcommon => k_is)
    (case alterms => k_is)
    (case llterms => k_is)
    (case clterms => k_is)
    (case klterms => k_is)
    (case agf => k_is)
    (case lgf => k_is)
    (case cgf => k_is)
    (case kgf => k_is)
    (case aplain => k_is)
    (case lplain => k_is)
    (case cplain => k_is)
    (case kplain => k_is)
    (case altext => k_is)
    (case lltext => k_is)
    (case cltext => k_is)
    (case kltext => k_is)
    (case ashown => k_is)
    (case lshown => k_is)
    (case cshown => k_is)
    (case kshown => k_is)
    (case amade => k_is)
    (case lmade => k_is)
    (case cmade => k_is)
    (case kmade => k_is)
    (case aright => k_is)
    (case lright => k_is)
    (case cright => k_is)
    (case kright => k_is)
    (case alaw => k_is)
    (case llaw => k_is)
    (case claw => k_is)
    (case klaw => k_is)
  case hN =>
    intro w
    kernel_rfl
  case hC =>
    intro w h X
    exact PySem.W.codeHd_of_K X (by kernel_rfl)
