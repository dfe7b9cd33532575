import PyProof.Rows.All
import Wide.All
import OpenK.AllK
import Wide.FinOn
import HandS.ForMost
import HandS.Exc
import HandS.WordsExc
import HandS.Gcd
import HandS.FStr
import HandS.Property
import HandS.Wide
import HandS.Zip
import HandS.IsInst
import HandS.SlotsOwn
import KE.KOpsOwn
import KE.KCallOwn
import PyProof.InstEq
import HandS.Defaults
import HandS.ClsMeth
import HandS.Star
import HandS.ExcIs
import HandS.ExcOwn
import HandS.ExcBuiltin
import PyProof.ReprNest
import HandS.OwnEq
import HandS.Walk
import HandS.DictComp
import HandS.ListItems
import HandS.WordsDict
import HandS.Finally
import HandS.Conv
import HandS.More
import KE.KStar
import KE.KDictList
import HandS.Style
import HandS.Text
import HandS.MakeKwOnly
import HandS.MakeKw
import PySem.Challenge.RW_notesums_k12_tables_by_dicts
set_option Elab.async false
set_option linter.all false
set_option maxRecDepth 100000
set_option maxHeartbeats 4000000
namespace N3
open PySem PySem.Spec L2

/-! ### what is known of the heap: a list of objects by their addresses -/
abbrev LH := List (Addr × HO)
structure Holds (L : LH) (H : Hp) : Prop where
  nd : (L.map (·.1)).Nodup
  at_ : ∀ a o, (a, o) ∈ L → H a = some o
inductive Mem (a : Addr) (o : HO) : LH → Prop where
  | head {L : LH} : Mem a o ((a, o) :: L)
  | tail {p : Addr × HO} {L : LH} : Mem a o L → Mem a o (p :: L)
theorem Mem.mem {a : Addr} {o : HO} {L : LH} (h : Mem a o L) : (a, o) ∈ L := by
  induction h with
  | head => exact List.mem_cons_self
  | tail _ ih => exact List.mem_cons_of_mem _ ih
theorem Holds.get {L : LH} {H : Hp} {a : Addr} {o : HO} (h : Holds L H) (m : Mem a o L) : H a = some o := h.at_ a o m.mem
/-- the place of a in L: what L is with another object there -/
inductive Hole (a : Addr) (o : HO) : LH → (HO → LH) → Prop where
  | head {L : LH} : Hole a o ((a, o) :: L) (fun o' => (a, o') :: L)
  | tail {p : Addr × HO} {L : LH} {F : HO → LH} : Hole a o L F → Hole a o (p :: L) (fun o' => p :: F o')
theorem Hole.mem {a : Addr} {o : HO} {L : LH} {F : HO → LH} (h : Hole a o L F) : (a, o) ∈ L := by
  induction h with
  | head => exact List.mem_cons_self
  | tail _ ih => exact List.mem_cons_of_mem _ ih
theorem Hole.keys {a : Addr} {o : HO} {L : LH} {F : HO → LH} (h : Hole a o L F) (o' : HO) : (F o').map (·.1) = L.map (·.1) := by
  induction h with
  | head => rfl
  | tail _ ih => exact congrArg (_ :: ·) ih
theorem Hole.mem' {a : Addr} {o : HO} {L : LH} {F : HO → LH} (h : Hole a o L F) (o' : HO) (nd : (L.map (·.1)).Nodup) : ∀ b u, (b, u) ∈ F o' → (b = a ∧ u = o') ∨ (b ≠ a ∧ (b, u) ∈ L) := by
  induction h with
  | head =>
    rename_i L
    intro b u hm
    rw [List.map_cons, List.nodup_cons] at nd
    rcases List.mem_cons.mp hm with e | hm2
    · cases e
      exact .inl ⟨rfl, rfl⟩
    · refine .inr ⟨fun e => nd.1 ?_, List.mem_cons_of_mem _ hm2⟩
      subst e
      exact List.mem_map.mpr ⟨_, hm2, rfl⟩
  | tail hh ih =>
    rename_i p L F
    intro b u hm
    rw [List.map_cons, List.nodup_cons] at nd
    rcases List.mem_cons.mp hm with e | hm
    · refine .inr ⟨fun e' => nd.1 ?_, by rw [e]; exact List.mem_cons_self⟩
      subst e
      rw [e']
      exact List.mem_map.mpr ⟨_, hh.mem, rfl⟩
    · rcases ih nd.2 b u hm with h | ⟨h1, h2⟩
      · exact .inl h
      · exact .inr ⟨h1, List.mem_cons_of_mem _ h2⟩
theorem Holds.new {L : LH} {H : Hp} {p : Addr} {o : HO} (h : Holds L H) (hp : H p = none) : Holds ((p, o) :: L) (upd H p o) := by
  have nm : ∀ b u, (b, u) ∈ L → b ≠ p := fun b u hm e => by
    have := h.at_ b u hm
    rw [e, hp] at this
    cases this
  refine ⟨?_, fun a u hm => ?_⟩
  · rw [List.map_cons, List.nodup_cons]
    refine ⟨fun hm => ?_, h.nd⟩
    obtain ⟨q, hq, e⟩ := List.mem_map.mp hm
    exact nm q.1 q.2 hq e
  · rcases List.mem_cons.mp hm with e | hm
    · cases e
      exact upd_same
    · rw [upd_ne (nm a u hm)]
      exact h.at_ a u hm
theorem Holds.put {L : LH} {H : Hp} {a : Addr} {o o' : HO} {F : HO → LH} (h : Holds L H) (f : Hole a o L F) : Holds (F o') (upd H a o') := by
  refine ⟨by rw [f.keys o']; exact h.nd, fun b u hm => ?_⟩
  rcases f.mem' o' h.nd b u hm with ⟨e1, e2⟩ | ⟨h1, h2⟩
  · subst e1 e2
    exact upd_same
  · rw [upd_ne h1]
    exact h.at_ b u h2
/-- what is forgotten -/
theorem Holds.drop {p : Addr × HO} {L : LH} {H : Hp} (h : Holds (p :: L) H) : Holds L H :=
  ⟨(List.nodup_cons.mp (by rw [← List.map_cons]; exact h.nd)).2, fun a o m => h.at_ a o (List.mem_cons_of_mem _ m)⟩
theorem Holds.drop1 {p q : Addr × HO} {L : LH} {H : Hp} (h : Holds (p :: q :: L) H) : Holds (p :: L) H := by
  have n := h.nd
  rw [List.map_cons, List.map_cons, List.nodup_cons, List.nodup_cons] at n
  refine ⟨?_, fun a o m => h.at_ a o ?_⟩
  · rw [List.map_cons, List.nodup_cons]
    exact ⟨fun z => n.1 (List.mem_cons_of_mem _ z), n.2.2⟩
  · rcases List.mem_cons.mp m with e | m
    · rw [e]
      exact List.mem_cons_self
    · exact List.mem_cons_of_mem _ (List.mem_cons_of_mem _ m)
/-- L' holds wherever L does -/
def Sub (L L' : LH) : Prop := ∀ H, Holds L H → Holds L' H
theorem Sub.refl (L : LH) : Sub L L := fun _ h => h

/-! ### readings that every piece of syntax has -/
def SemE (X : Cx) (e : Expr) : TE := fun σ H Q => ∀ pins s, Inv X pins σ H s → wpAny (model X.prog X.w) X.A (eval e X.env) (EP X pins σ Q) X.xe s
def SemT (X : Cx) (e : Expr) : TT := fun σ H Q => ∀ pins s, Inv X pins σ H s → wpAny (model X.prog X.w) X.A (isTrue e X.env (eval e X.env)) (TP X pins σ Q) X.xe s
def SemW (X : Cx) (e : Expr) : TT := fun σ H Q => ∀ (whole : Sem Value) pins s, Inv X pins σ H s → wpAny (model X.prog X.w) X.A (isTrue e X.env whole) (TP X pins σ Q) X.xe s
def SemA (X : Cx) (es : List Expr) : TA := fun σ H Q => ∀ (pos : Pos) pins s, Inv X pins σ H s → wpAny (model X.prog X.w) X.A (spliced (backTo pos (starEach es X.env))) (AP X pins σ Q) X.xe s
def SemS (X : Cx) (st : Stmt) : TS := fun D σ H => ∀ pins s, Inv X pins σ H s → wpAny (model X.prog X.w) X.A (exec st X.env) (SP X pins D) X.xe s
def SemSs (X : Cx) (st : List Stmt) : TS := fun D σ H => ∀ pins s, Inv X pins σ H s → wpAny (model X.prog X.w) X.A (execs st X.env) (SP X pins D) X.xe s
def SemG (X : Cx) (tg : Expr) : TG := fun v σ H Q => ∀ pins s u, Inv X pins σ H s → RelV v u → wpAny (model X.prog X.w) X.A (assign tg X.env u) (fun _ s' => ∃ σ' H', Inv X pins σ' H' s' ∧ Q σ' H') X.xe s
def SemGs (X : Cx) (ts : List Expr) : TGs := fun vs σ H Q => ∀ pins s us, Inv X pins σ H s → Vals vs us → wpAny (model X.prog X.w) X.A (assignInOrder ((assignEach ts X.env).map (·.2)) us) (fun _ s' => ∃ σ' H', Inv X pins σ' H' s' ∧ Q σ' H') X.xe s
def SemO (X : Cx) (f : Value → Value → Sem Value) : R2 := fun x y H Q => ∀ pins s σ v u, Inv X pins σ H s → RelV x v → RelV y u → wpAny (model X.prog X.w) X.A (f v u) (EP X pins σ Q) X.xe s
def SemU (X : Cx) (f : Value → Sem Value) : V → Hp → VK → Prop := fun x H Q => ∀ pins s σ v, Inv X pins σ H s → RelV x v → wpAny (model X.prog X.w) X.A (f v) (EP X pins σ Q) X.xe s
def SemC (X : Cx) (f : Value) : List V → Hp → VK → Prop := fun xs H Q => ∀ pins s σ us, Inv X pins σ H s → Vals xs us → wpAny (model X.prog X.w) X.A (call f us) (EP X pins σ Q) X.xe s
section
variable {X : Cx} {e : Expr} {es : List Expr} {st : Stmt} {sts : List Stmt}
theorem pe_sem : PE X e (SemE X e) := ⟨fun pins s _ _ _ I h => h pins s I⟩
theorem pt_sem : PT X e (SemT X e) := ⟨fun pins s _ _ _ I h => h pins s I⟩
theorem pw_sem : PW X e (SemW X e) := ⟨fun wh pins s _ _ _ I h => h wh pins s I⟩
theorem pa_sem : PA X es (SemA X es) := ⟨fun pos pins s _ _ _ I h => h pos pins s I⟩
theorem ps_sem : PS X st (SemS X st) := ⟨fun pins s _ _ _ I h => h pins s I⟩
theorem pss_sem : PSs X sts (SemSs X sts) := ⟨fun pins s _ _ _ I h => h pins s I⟩
theorem pg_sem : PG X e (SemG X e) := ⟨fun pins s _ _ _ u _ I r h => h pins s u I r⟩
theorem pgs_sem : PGs X es (SemGs X es) := ⟨fun pins s _ _ _ us _ I r h => h pins s us I r⟩
theorem op_sem {f : Value → Value → Sem Value} : OpR X f (SemO X f) := fun pins s σ _ _ _ v u _ I r1 r2 h => h pins s σ v u I r1 r2
theorem un_sem {f : Value → Sem Value} : UnR X f (SemU X f) := fun pins s σ _ _ v _ I r h => h pins s σ v I r
theorem call_sem {f : Value} : CallR X f (SemC X f) := fun pins s σ _ _ us _ I r h => h pins s σ us I r
variable {σ : St} {H : Hp}
theorem SemE.mono {Q Q' : VK} (h : SemE X e σ H Q) (k : ∀ v H, Q v H → Q' v H) : SemE X e σ H Q' := fun pins s I => thn (h pins s I) fun _ _ ⟨v, H1, I1, r1, q⟩ => ⟨v, H1, I1, r1, k _ _ q⟩
theorem SemT.mono {Q Q' : Bool → Hp → Prop} (h : SemT X e σ H Q) (k : ∀ v H, Q v H → Q' v H) : SemT X e σ H Q' := fun pins s I => thn (h pins s I) fun _ _ ⟨H1, I1, q⟩ => ⟨H1, I1, k _ _ q⟩
theorem SemW.mono {Q Q' : Bool → Hp → Prop} (h : SemW X e σ H Q) (k : ∀ v H, Q v H → Q' v H) : SemW X e σ H Q' := fun wh pins s I => thn (h wh pins s I) fun _ _ ⟨H1, I1, q⟩ => ⟨H1, I1, k _ _ q⟩
theorem SemA.mono {Q Q' : List V → Hp → Prop} (h : SemA X es σ H Q) (k : ∀ v H, Q v H → Q' v H) : SemA X es σ H Q' := fun pos pins s I => thn (h pos pins s I) fun _ _ ⟨v, H1, I1, r1, q⟩ => ⟨v, H1, I1, r1, k _ _ q⟩
theorem SemO.mono {f : Value → Value → Sem Value} {x y : V} {Q Q' : VK} (h : SemO X f x y H Q) (k : ∀ v H, Q v H → Q' v H) : SemO X f x y H Q' := fun pins s σ v u I r1 r2 => thn (h pins s σ v u I r1 r2) fun _ _ ⟨v, H1, I1, r1, q⟩ => ⟨v, H1, I1, r1, k _ _ q⟩
theorem SemG.mono {v : V} {Q Q' : St → Hp → Prop} (h : SemG X e v σ H Q) (k : ∀ v H, Q v H → Q' v H) : SemG X e v σ H Q' := fun pins s u I r => thn (h pins s u I r) fun _ _ ⟨v, H1, I1, q⟩ => ⟨v, H1, I1, k _ _ q⟩
theorem SemGs.mono {v : List V} {Q Q' : St → Hp → Prop} (h : SemGs X es v σ H Q) (k : ∀ v H, Q v H → Q' v H) : SemGs X es v σ H Q' := fun pins s u I r => thn (h pins s u I r) fun _ _ ⟨v, H1, I1, q⟩ => ⟨v, H1, I1, k _ _ q⟩
def Ends.Le (D D' : Ends) : Prop := (∀ σ H, D.nx σ H → D'.nx σ H) ∧ (∀ v H, D.rt v H → D'.rt v H) ∧ (∀ σ H, D.bk σ H → D'.bk σ H) ∧ (∀ σ H, D.ct σ H → D'.ct σ H)
theorem sp_mono {pins : List (Addr × Obj)} {D D' : Ends} (k : Ends.Le D D') : ∀ f s, SP X pins D f s → SP X pins D' f s := by
  intro f s h
  cases f with
  | next => obtain ⟨σ, H, I, q⟩ := h; exact ⟨σ, H, I, k.1 _ _ q⟩
  | brk => obtain ⟨σ, H, I, q⟩ := h; exact ⟨σ, H, I, k.2.2.1 _ _ q⟩
  | cont => obtain ⟨σ, H, I, q⟩ := h; exact ⟨σ, H, I, k.2.2.2 _ _ q⟩
  | ret u => obtain ⟨v, σ, H, I, r, q⟩ := h; exact ⟨v, σ, H, I, r, k.2.1 _ _ q⟩
theorem SemS.mono {D D' : Ends} (h : SemS X st D σ H) (k : Ends.Le D D') : SemS X st D' σ H := fun pins s I => thn (h pins s I) (sp_mono k)
theorem SemSs.mono {D D' : Ends} (h : SemSs X sts D σ H) (k : Ends.Le D D') : SemSs X sts D' σ H := fun pins s I => thn (h pins s I) (sp_mono k)
end

/-! ### the goals -/
def QE (K : V → LH → Prop) : VK := fun v H => ∃ L, Holds L H ∧ K v L
def QT (K : Bool → LH → Prop) : Bool → Hp → Prop := fun b H => ∃ L, Holds L H ∧ K b L
def QA (K : List V → LH → Prop) : List V → Hp → Prop := fun vs H => ∃ L, Holds L H ∧ K vs L
def QS (K : St → LH → Prop) : St → Hp → Prop := fun σ H => ∃ L, Holds L H ∧ K σ L
structure EndsL where
  nx : St → LH → Prop
  rt : V → LH → Prop
  bk : St → LH → Prop := fun _ _ => False
  ct : St → LH → Prop := fun _ _ => False
def EndsL.to (D : EndsL) : Ends := ⟨QS D.nx, QE D.rt, QS D.bk, QS D.ct⟩
def WE (X : Cx) (e : Expr) (σ : St) (L : LH) (K : V → LH → Prop) : Prop := ∀ H, Holds L H → SemE X e σ H (QE K)
def WT (X : Cx) (e : Expr) (σ : St) (L : LH) (K : Bool → LH → Prop) : Prop := ∀ H, Holds L H → SemT X e σ H (QT K)
def WW (X : Cx) (e : Expr) (σ : St) (L : LH) (K : Bool → LH → Prop) : Prop := ∀ H, Holds L H → SemW X e σ H (QT K)
def WA (X : Cx) (es : List Expr) (σ : St) (L : LH) (K : List V → LH → Prop) : Prop := ∀ H, Holds L H → SemA X es σ H (QA K)
def WG (X : Cx) (tg : Expr) (v : V) (σ : St) (L : LH) (K : St → LH → Prop) : Prop := ∀ H, Holds L H → SemG X tg v σ H (QS K)
def WGs (X : Cx) (tgs : List Expr) (vs : List V) (σ : St) (L : LH) (K : St → LH → Prop) : Prop := ∀ H, Holds L H → SemGs X tgs vs σ H (QS K)
def WO (X : Cx) (f : Value → Value → Sem Value) (x y : V) (L : LH) (K : V → LH → Prop) : Prop := ∀ H, Holds L H → SemO X f x y H (QE K)
def WU (X : Cx) (f : Value → Sem Value) (x : V) (L : LH) (K : V → LH → Prop) : Prop := ∀ H, Holds L H → SemU X f x H (QE K)
def WC (X : Cx) (f : Value) (vs : List V) (L : LH) (K : V → LH → Prop) : Prop := ∀ H, Holds L H → SemC X f vs H (QE K)
def WS (X : Cx) (st : Stmt) (σ : St) (L : LH) (D : EndsL) : Prop := ∀ H, Holds L H → SemS X st D.to σ H
def WSs (X : Cx) (sts : List Stmt) (σ : St) (L : LH) (D : EndsL) : Prop := ∀ H, Holds L H → SemSs X sts D.to σ H

section
variable {X : Cx} {e a b : Expr} {es : List Expr} {st : Stmt} {sts : List Stmt} {σ : St} {L : LH} {K : V → LH → Prop} {KT : Bool → LH → Prop} {KA : List V → LH → Prop} {KS : St → LH → Prop} {D : EndsL} {pos : Pos}
theorem we_of {te : TE} (h : PE X e te) (q : ∀ H, Holds L H → te σ H (QE K)) : WE X e σ L K := fun H hL pins s I => h.run pins s σ H _ I (q H hL)
theorem wt_of {te : TT} (h : PT X e te) (q : ∀ H, Holds L H → te σ H (QT KT)) : WT X e σ L KT := fun H hL pins s I => h.run pins s σ H _ I (q H hL)
theorem ww_of {te : TT} (h : PW X e te) (q : ∀ H, Holds L H → te σ H (QT KT)) : WW X e σ L KT := fun H hL wh pins s I => h.run wh pins s σ H _ I (q H hL)
theorem wa_of {te : TA} (h : PA X es te) (q : ∀ H, Holds L H → te σ H (QA KA)) : WA X es σ L KA := fun H hL pos pins s I => h.run pos pins s σ H _ I (q H hL)
theorem wg_of {v : V} {te : TG} (h : PG X e te) (q : ∀ H, Holds L H → te v σ H (QS KS)) : WG X e v σ L KS := fun H hL pins s u I r => h.run pins s σ H v u _ I r (q H hL)
theorem wgs_of {vs : List V} {te : TGs} (h : PGs X es te) (q : ∀ H, Holds L H → te vs σ H (QS KS)) : WGs X es vs σ L KS := fun H hL pins s u I r => h.run pins s σ H vs u _ I r (q H hL)
theorem wo_of {f : Value → Value → Sem Value} {r : R2} {x y : V} (h : OpR X f r) (q : ∀ H, Holds L H → r x y H (QE K)) : WO X f x y L K := fun H hL pins s σ v u I r1 r2 => h pins s σ H x y v u _ I r1 r2 (q H hL)
theorem wu_of {f : Value → Sem Value} {r : V → Hp → VK → Prop} {x : V} (h : UnR X f r) (q : ∀ H, Holds L H → r x H (QE K)) : WU X f x L K := fun H hL pins s σ v I r1 => h pins s σ H x v _ I r1 (q H hL)
theorem wc_of {f : Value} {r : List V → Hp → VK → Prop} {vs : List V} (h : CallR X f r) (q : ∀ H, Holds L H → r vs H (QE K)) : WC X f vs L K := fun H hL pins s σ us I r1 => h pins s σ H vs us _ I r1 (q H hL)
theorem ws_of {t : TS} (h : PS X st t) (q : ∀ H, Holds L H → t D.to σ H) : WS X st σ L D := fun H hL pins s I => h.run pins s σ H _ I (q H hL)
theorem wss_of {t : TS} (h : PSs X sts t) (q : ∀ H, Holds L H → t D.to σ H) : WSs X sts σ L D := fun H hL pins s I => h.run pins s σ H _ I (q H hL)
/-- then -/
theorem e_then {H : Hp} {Q : VK} (h : WE X e σ L K) (hL : Holds L H) (k : ∀ v L' H', Holds L' H' → K v L' → Q v H') : SemE X e σ H Q := (h H hL).mono fun v H' ⟨L', h', q⟩ => k v L' H' h' q
theorem t_then {H : Hp} {Q : Bool → Hp → Prop} (h : WT X e σ L KT) (hL : Holds L H) (k : ∀ v L' H', Holds L' H' → KT v L' → Q v H') : SemT X e σ H Q := (h H hL).mono fun v H' ⟨L', h', q⟩ => k v L' H' h' q
theorem w_then {H : Hp} {Q : Bool → Hp → Prop} (h : WW X e σ L KT) (hL : Holds L H) (k : ∀ v L' H', Holds L' H' → KT v L' → Q v H') : SemW X e σ H Q := (h H hL).mono fun v H' ⟨L', h', q⟩ => k v L' H' h' q
theorem a_then {H : Hp} {Q : List V → Hp → Prop} (h : WA X es σ L KA) (hL : Holds L H) (k : ∀ v L' H', Holds L' H' → KA v L' → Q v H') : SemA X es σ H Q := (h H hL).mono fun v H' ⟨L', h', q⟩ => k v L' H' h' q
theorem g_then {v : V} {H : Hp} {Q : St → Hp → Prop} (h : WG X e v σ L KS) (hL : Holds L H) (k : ∀ v L' H', Holds L' H' → KS v L' → Q v H') : SemG X e v σ H Q := (h H hL).mono fun v H' ⟨L', h', q⟩ => k v L' H' h' q
theorem gs_then {v : List V} {H : Hp} {Q : St → Hp → Prop} (h : WGs X es v σ L KS) (hL : Holds L H) (k : ∀ v L' H', Holds L' H' → KS v L' → Q v H') : SemGs X es v σ H Q := (h H hL).mono fun v H' ⟨L', h', q⟩ => k v L' H' h' q
theorem o_then {f : Value → Value → Sem Value} {x y : V} {H : Hp} {Q : VK} (h : WO X f x y L K) (hL : Holds L H) (k : ∀ v L' H', Holds L' H' → K v L' → Q v H') : SemO X f x y H Q := (h H hL).mono fun v H' ⟨L', h', q⟩ => k v L' H' h' q
/-- forgetting -/
theorem we_sub {L' : LH} (s : Sub L L') (h : WE X e σ L' K) : WE X e σ L K := fun H hL => h H (s H hL)
theorem wss_sub {L' : LH} (s : Sub L L') (h : WSs X sts σ L' D) : WSs X sts σ L D := fun H hL => h H (s H hL)

/-! ### expressions -/
theorem we_int {i : Int} {j : Nat} (k : K (.int i) L) : WE X (.Constant (.int i) j pos) σ L K := we_of pe_int fun _ hL => ⟨L, hL, k⟩
theorem we_bool {i : Bool} {j : Nat} (k : K (.bl i) L) : WE X (.Constant (.bool i) j pos) σ L K := we_of pe_bl fun _ hL => ⟨L, hL, k⟩
theorem we_str {i : Str} {j : Nat} (k : K (.str i) L) : WE X (.Constant (.str i) j pos) σ L K := we_of pe_str fun _ hL => ⟨L, hL, k⟩
theorem we_none {j : Nat} (k : K .non L) : WE X (.Constant .none j pos) σ L K := we_of pe_non fun _ hL => ⟨L, hL, k⟩
theorem we_name (i : Nat) {x : Str} {v : V} (hN : X.N[i]? = some x) (hv : Vis X.env.scope x) (hσ : σ[i]? = some (some v)) (k : K v L) (hd : (x == ("__debug__" : Str)) = false := by decide) (hcd : (x == ("__classdict__" : Str)) = false := by decide) :
    WE X (.Name x pos) σ L K := we_of (pe_var hN hv hd hcd) fun _ hL => ⟨v, hσ, L, hL, k⟩
theorem we_glob {x : Str} {v : V} {u : Value} (hm : X.mg x = some u) (r : RelV v u) (k : K v L) (hg : Gl X x := by rfl) (hd : (x == ("__debug__" : Str)) = false := by decide) : WE X (.Name x pos) σ L K := we_of (pe_glob hg hm r hd) fun _ hL => ⟨L, hL, k⟩
theorem we_bin {op : Operator} (h : WE X a σ L fun x L1 => WE X b σ L1 fun y L2 => WO X (binaryOp op) x y L2 K) : WE X (.BinOp a op b pos) σ L K :=
  we_of (pe_op op_sem pe_sem pe_sem) fun _ hL => e_then h hL fun _ _ _ h1 k1 => e_then k1 h1 fun _ _ H2 h2 k2 => k2 H2 h2
theorem we_un {op : UnaryOp} (h : WE X a σ L fun x L1 => WU X (unaryOp op) x L1 K) : WE X (.UnaryOp op a pos) σ L K :=
  we_of (pe_un un_sem pe_sem) fun _ hL => e_then h hL fun _ _ H1 h1 k1 => k1 H1 h1
theorem we_cmp {op : CmpOp} (hm : behindInMarks op b = false) (h : WE X a σ L fun x L1 => WE X b σ L1 fun y L2 => WO X (compareOp op) x y L2 K) : WE X (.Compare a [op] [b] pos) σ L K :=
  we_of (pe_cmpR op_sem pe_sem pe_sem hm) fun _ hL => e_then h hL fun _ _ _ h1 k1 => e_then k1 h1 fun _ _ H2 h2 k2 => k2 H2 h2
/-- what a bool value leads to -/
def KB (KT : Bool → LH → Prop) (v : V) (L : LH) : Prop := ∃ c, v = .bl c ∧ KT c L
theorem wt_cmp {op : CmpOp} (hm : behindInMarks op b = false) (h : WE X a σ L fun x L1 => WE X b σ L1 fun y L2 => WO X (compareOp op) x y L2 (KB KT)) : WT X (.Compare a [op] [b] pos) σ L KT :=
  wt_of (pt_cmpR op_sem pe_sem pe_sem hm) fun _ hL => e_then h hL fun _ _ _ h1 k1 => e_then k1 h1 fun _ _ _ h2 k2 => o_then k2 h2 fun _ L3 _ h3 ⟨c, ev, k3⟩ => ⟨c, ev, L3, h3, k3⟩
theorem wt_val (h : WE X e σ L (KB KT)) (he : ∀ whole, isTrue e X.env whole = (do let v ← whole; standAt e.pos; holding [v] (truthy v)) := by intro _; rfl) : WT X e σ L KT :=
  wt_of (pt_val pe_sem he) fun _ hL => e_then h hL fun _ L1 _ h1 ⟨c, ev, k⟩ => ⟨c, ev, L1, h1, k⟩
theorem wt_not (h : WT X a σ L fun c L1 => KT (!c) L1) : WT X (.UnaryOp .Not a pos) σ L KT := wt_of (pt_not pt_sem) fun _ hL => t_then h hL fun _ L1 _ h1 k => ⟨L1, h1, k⟩
theorem ww_and1 (h : WT X a σ L KT) : WW X (.BoolOp .And [a] pos) σ L KT := ww_of (pw_and1 pt_sem) fun H hL => h H hL
theorem ww_or1 (h : WT X a σ L KT) : WW X (.BoolOp .Or [a] pos) σ L KT := ww_of (pw_or1 pt_sem) fun H hL => h H hL
theorem ww_and (h : WT X a σ L fun c L1 => (c = true → WW X (.BoolOp .And (b :: es) pos) σ L1 KT) ∧ (c = false → KT false L1)) : WW X (.BoolOp .And (a :: b :: es) pos) σ L KT :=
  ww_of (pw_and pt_sem pw_sem) fun _ hL => t_then h hL fun c L1 H1 h1 k => by
    cases c with
    | true => exact iteT (k.1 rfl H1 h1)
    | false => exact iteF ⟨L1, h1, k.2 rfl⟩
theorem ww_or (h : WT X a σ L fun c L1 => (c = false → WW X (.BoolOp .Or (b :: es) pos) σ L1 KT) ∧ (c = true → KT true L1)) : WW X (.BoolOp .Or (a :: b :: es) pos) σ L KT :=
  ww_of (pw_or pt_sem pw_sem) fun _ hL => t_then h hL fun c L1 H1 h1 k => by
    cases c with
    | true => exact iteT ⟨L1, h1, k.2 rfl⟩
    | false => exact iteF (k.1 rfl H1 h1)
theorem wt_ww (h : WW X e σ L KT) : WT X e σ L KT := fun H hL pins s I => h H hL _ pins s I
theorem we_one {op} (h : WE X a σ L K) : WE X (.BoolOp op [a] pos) σ L K := we_of (pe_one pe_sem) fun H hL => h H hL
theorem we_and (h : WE X a σ L (KB fun c L1 => (c = true → WE X (.BoolOp .And (b :: es) pos) σ L1 K) ∧ (c = false → K (.bl false) L1))) : WE X (.BoolOp .And (a :: b :: es) pos) σ L K :=
  we_of (pe_and pe_sem pe_sem) fun _ hL => e_then h hL fun _ L1 H1 h1 ⟨c, ev, k⟩ => ⟨c, ev, by
    cases c with
    | true => exact iteT (k.1 rfl H1 h1)
    | false => exact iteF ⟨L1, h1, k.2 rfl⟩⟩
theorem we_or (h : WE X a σ L (KB fun c L1 => (c = false → WE X (.BoolOp .Or (b :: es) pos) σ L1 K) ∧ (c = true → K (.bl true) L1))) : WE X (.BoolOp .Or (a :: b :: es) pos) σ L K :=
  we_of (pe_or pe_sem pe_sem) fun _ hL => e_then h hL fun _ L1 H1 h1 ⟨c, ev, k⟩ => ⟨c, ev, by
    cases c with
    | true => exact iteT ⟨L1, h1, k.2 rfl⟩
    | false => exact iteF (k.1 rfl H1 h1)⟩
theorem we_not (h : WE X a σ L (KB fun c L1 => K (.bl (!c)) L1)) : WE X (.UnaryOp .Not a pos) σ L K := we_of (pe_not pe_sem) fun _ hL => e_then h hL fun _ L1 _ h1 ⟨c, ev, k⟩ => ⟨c, ev, L1, h1, k⟩
theorem we_ifExp {c : Expr} (h : WT X c σ L fun t L1 => (t = true → WE X a σ L1 K) ∧ (t = false → WE X b σ L1 K)) : WE X (.IfExp c a b pos) σ L K :=
  we_of (pe_ifExp pt_sem pe_sem pe_sem) fun _ hL => t_then h hL fun t _ H1 h1 k => by
    cases t with
    | true => exact iteT (k.1 rfl H1 h1)
    | false => exact iteF (k.2 rfl H1 h1)
theorem wa_nil (k : KA [] L) : WA X [] σ L KA := wa_of pa_nil fun _ hL => ⟨L, hL, k⟩
theorem wa_cons (h : WE X e σ L fun v L1 => WA X es σ L1 fun vs L2 => KA (v :: vs) L2) (hs : starEach (e :: es) X.env = (false, eval e X.env) :: starEach es X.env := by rfl) : WA X (e :: es) σ L KA :=
  wa_of (pa_cons pe_sem pa_sem hs) fun _ hL => e_then h hL fun _ _ _ h1 k1 => a_then k1 h1 fun _ L2 _ h2 k2 => ⟨L2, h2, k2⟩
theorem we_tup {j} (h : WA X es σ L fun vs L1 => vs.length ≤ sizeLine ∧ ∀ p, K (.ref p) ((p, .tup vs) :: L1)) : WE X (.Tuple es j pos) σ L K :=
  we_of (pe_tup pa_sem) fun _ hL => a_then h hL fun _ L1 _ h1 k => ⟨k.1, fun p hp => ⟨_, h1.new hp, k.2 p⟩⟩
theorem we_lst (h : WA X es σ L fun vs L1 => vs.length ≤ sizeLine ∧ ∀ p, K (.ref p) ((p, .lst vs) :: L1)) : WE X (.List es pos) σ L K :=
  we_of (pe_lst pa_sem) fun _ hL => a_then h hL fun _ L1 _ h1 k => ⟨k.1, fun p hp => ⟨_, h1.new hp, k.2 p⟩⟩
theorem we_fld {f : Str} (h : WE X e σ L fun x L1 => ∃ a C dx fs v, x = .ref a ∧ Mem a (.ins C dx fs) L1 ∧ Cls X.K C ∧ NoAttr X.K C f ∧ fs.lookup f = some v ∧ K v L1) (hb : attributeBase e f X.env (eval e X.env) = eval e X.env := by rfl) :
    WE X (.Attribute e f pos) σ L K := we_of (pe_fld pe_sem hb) fun _ hL => e_then h hL fun _ L1 _ h1 ⟨a, C, dx, fs, v, e1, m, c, n, l, k⟩ => ⟨a, C, dx, fs, v, e1, h1.get m, c, n, l, L1, h1, k⟩

/-! ### statements -/
theorem wss_nil (k : D.nx σ L) : WSs X [] σ L D := wss_of pss_nil fun _ hL => ⟨L, hL, k⟩
theorem to_nx {D : EndsL} {N : St → LH → Prop} : ({ D with nx := N } : EndsL).to = { D.to with nx := QS N } := rfl
theorem wss_cons (h : WS X st σ L { D with nx := fun σ' L' => WSs X sts σ' L' D }) : WSs X (st :: sts) σ L D :=
  wss_of (pss_cons ps_sem pss_sem) fun H hL => (h H hL).mono ⟨fun _ H' ⟨_, h1, k⟩ => k H' h1, fun _ _ q => q, fun _ _ q => q, fun _ _ q => q⟩
theorem ws_expr (h : WE X e σ L fun _ L1 => D.nx σ L1) (hs : swapsWith e none pos.line X.env = pure false := by rfl) : WS X (.Expr e pos) σ L D :=
  ws_of (ps_expr pe_sem hs) fun _ hL => e_then h hL fun _ L1 _ h1 k => ⟨L1, h1, k⟩
theorem ws_ret (h : WE X e σ L D.rt) : WS X (.Return (some e) pos) σ L D := ws_of (ps_ret pe_sem) fun H hL => h H hL
theorem ws_pass (k : D.nx σ L) : WS X (.Pass pos) σ L D := ws_of ps_pass fun _ hL => ⟨L, hL, k⟩
theorem ws_if {c : Expr} {ss ts : List Stmt} (h : WT X c σ L fun t L1 => (t = true → WSs X ss σ L1 D) ∧ (t = false → WSs X ts σ L1 D)) : WS X (.If c ss ts pos) σ L D :=
  ws_of (ps_if pt_sem pss_sem pss_sem) fun _ hL => t_then h hL fun t _ H1 h1 k => by
    cases t with
    | true => exact iteT (k.1 rfl H1 h1)
    | false => exact iteF (k.2 rfl H1 h1)
theorem ws_asg {tg : Expr} (h : WE X e σ L fun v L1 => WG X tg v σ L1 D.nx) (hs : swapsWithSole [tg] e pos.line X.env = pure false := by rfl) (hw : swappedStores [tg] e X.env = pure none := by rfl) (h1 : (assignEach [tg] X.env).map (·.2) = [assign tg X.env] := by rfl) : WS X (.Assign [tg] e pos) σ L D :=
  ws_of (ps_asg pe_sem pg_sem hs hw h1) fun _ hL => e_then h hL fun _ _ H1 h1 k => k H1 h1
theorem ws_set (i : Nat) {x : Str} {pos' : Pos} (h : WE X e σ L fun v L1 => D.nx (σ.set i (some v)) L1) (hN : X.N.Nodup) (hi : X.N[i]? = some x) (hx : Loc X.env.scope x) (hs : swapsWith e (some (.Name x pos')) pos.line X.env = pure false := by rfl)
    (hf : X.fn x = true ∨ X.env.scope.names.lookup x = some .local := by first | exact .inl rfl | exact .inr rfl | assumption) : WS X (.Assign [.Name x pos'] e pos) σ L D :=
  ws_of (ps_set hN hi hx pe_sem hs hf) fun _ hL => e_then h hL fun _ L1 _ h1 k => ⟨L1, h1, k⟩
theorem wg_name (i : Nat) {x : Str} {v : V} (k : KS (σ.set i (some v)) L) (hN : X.N.Nodup) (hi : X.N[i]? = some x) (hx : Loc X.env.scope x) (hf : X.fn x = true ∨ X.env.scope.names.lookup x = some .local := by first | exact .inl rfl | exact .inr rfl | assumption) :
    WG X (.Name x pos) v σ L KS := wg_of (pg_name hN hi hx hf) fun _ hL => ⟨L, hL, k⟩
theorem wgs_nil (k : KS σ L) : WGs X [] [] σ L KS := wgs_of pgs_nil fun _ hL => ⟨rfl, L, hL, k⟩
theorem wgs_cons {v : V} {vs : List V} (h : WG X e v σ L fun σ1 L1 => WGs X es vs σ1 L1 KS) (hs : (assignEach (e :: es) X.env).map (·.2) = assign e X.env :: (assignEach es X.env).map (·.2) := by rfl) : WGs X (e :: es) (v :: vs) σ L KS :=
  wgs_of (pgs_cons pg_sem pgs_sem hs) fun _ hL => ⟨v, vs, rfl, g_then h hL fun _ _ H1 h1 k => k H1 h1⟩
theorem wg_tup {a : Addr} {vs : List V} {j : Nat} (hc : X.calm = true) (m : Mem a (.tup vs) L) (h : WGs X es vs σ L KS) (hl : vs.length = es.length) (hn : (assignEach es X.env).length = es.length := by rfl) (hst : (assignEach es X.env).findIdx? (·.1) = none := by rfl) :
    WG X (.Tuple es j pos) (.ref a) σ L KS := wg_of (pg_tup (n := es.length) hc pgs_sem hn hst) fun H hL => ⟨a, vs, rfl, SqT.of (hL.get m), hl, h H hL⟩
end
end N3

set_option Elab.async false
set_option linter.all false
set_option maxRecDepth 100000
set_option maxHeartbeats 4000000
namespace N3
open PySem PySem.Spec L2
open PyProof.Rows (envOfC)
/-! ### forgetting -/
theorem Sub.of_sublist {L L' : LH} (h : L'.Sublist L) : Sub L L' := fun _ hL => ⟨(h.map _).nodup hL.nd, fun a o m => hL.at_ a o (h.mem m)⟩
theorem Sub.trans {L L' L2 : LH} (a : Sub L L') (b : Sub L' L2) : Sub L L2 := fun H h => b H (a H h)
theorem Mem.app {a : Addr} {o : HO} {L : LH} (h : Mem a o L) : ∀ J : LH, Mem a o (J ++ L)
  | [] => h
  | _ :: J => .tail (Mem.app h J)
theorem Hole.app {a : Addr} {o : HO} {L : LH} {F : HO → LH} (h : Hole a o L F) : ∀ J : LH, Hole a o (J ++ L) (fun o' => J ++ F o')
  | [] => h
  | _ :: J => .tail (Hole.app h J)
/-- a written-part or tracked list, tuple -/
def SqLL (K : PySem.W.Frag) (a : Addr) (xs : List V) (L : LH) : Prop := ∀ H, Holds L H → SqL K H a xs
theorem SqLL.of {K : PySem.W.Frag} {a : Addr} {xs : List V} {L : LH} (m : Mem a (.lst xs) L) : SqLL K a xs L := fun _ h => SqL.of (h.get m)
theorem SqLL.fz {K : PySem.W.Frag} {a : Addr} {xs : List V} {L : LH} {ob : Obj} (m : Mem a (.frz ob (.lst xs)) L) : SqLL K a xs L := fun _ h => .inl (.inr ⟨ob, h.get m⟩)

/-! ### promises -/
/-- a promise by what is known: the arguments, what is known, what is to follow -/
abbrev Pre := List V → LH → (V → LH → Prop) → Prop
def SpL (pre : Pre) : Sp := fun vs H Q _ => ∃ L K, Holds L H ∧ pre vs L K ∧ ∀ v H', QE K v H' → Q v H'
/-- what a body is to reach: the promise's end, some things forgotten -/
def EndOf (K : V → LH → Prop) : EndsL := ⟨fun _ L => ∃ L', Sub L L' ∧ K .non L', fun v L => ∃ L', Sub L L' ∧ K v L', fun _ _ => False, fun _ _ => False⟩
theorem QE.sub {K : V → LH → Prop} {v : V} {H : Hp} (h : QE (fun v L => ∃ L', Sub L L' ∧ K v L') v H) : QE K v H := by
  obtain ⟨L, hL, L', s, k⟩ := h
  exact ⟨L', s H hL, k⟩
section
variable {P : Program} {w : World} {K : PySem.W.Frag} {mg : Str → Option Value} {base : Heap}
theorem fnL {x qual : Str} {st : Stmt} {f : Addr} {fd : FuncData} {N ps : List Str} {k : Nat} {pre : Pre} (F : Fun K x qual st f fd) (S : FnScope N ps (defScope st)) (len : ∀ vs L Kk, pre vs L Kk → vs.length = ps.length)
    (body : ∀ (cdv : Value) (A : Around) (outer : List Env) (s : Shared) (H : Hp) (vs : List V) (E : XK) (L : LH) (Kk : V → LH → Prop), Room k (A.deeper (envOfC qual (defScope st) s.heap.objs.size f cdv)) → pre vs L Kk →
      WSs (cxOf CX0 P w K mg base N qual (defScope st) f cdv A outer s H E).nox (defBody st) (start N vs) L (EndOf Kk)) : FnOk P w K mg base CX0 (k + 1) f fd ps (SpL pre) := by
  refine F.ok S (fun vs H Q E h => ?_) (fun cdv A outer s H vs Q E hr h => ?_)
  · obtain ⟨L, Kk, _, hp, _⟩ := h
    exact len vs L Kk hp
  · obtain ⟨L, Kk, hL, hp, hk⟩ := h
    refine ⟨_, pss_sem, (body cdv A outer s H vs E L Kk hr hp H hL).mono ⟨fun σ H' q => ?_, fun v H' q => hk v H' q.sub, fun _ _ q => ?_, fun _ _ q => ?_⟩⟩
    · obtain ⟨L1, h1, L2, s2, k2⟩ := q
      exact hk _ _ ⟨L2, s2 _ h1, k2⟩
    · obtain ⟨_, _, q⟩ := q
      exact q.elim
    · obtain ⟨_, _, q⟩ := q
      exact q.elim
/-- a def of the module, with what is known of it -/
structure GFn (P : Program) (w : World) (K : PySem.W.Frag) (mg : Str → Option Value) (base : Heap) (x : Str) (k : Nat) (ps : List Str) (dvs : List V) (pre : Pre) : Prop where
  ex : ∃ f fd ds, FnOk P w K mg base CX0 k f fd ps (SpL pre) ∧ mg x = some (.ref f) ∧ PySem.W.keepIn K (.ref f) = true ∧ Binds K fd ps ds ∧ Vals dvs ds
/-- a method of the class at C -/
structure GMe (P : Program) (w : World) (K : PySem.W.Frag) (mg : Str → Option Value) (base : Heap) (C : Addr) (m : Str) (k : Nat) (ps : List Str) (dvs : List V) (pre : Pre) : Prop where
  ex : ∃ f fd ds, FnOk P w K mg base CX0 k f fd ps (SpL pre) ∧ Cls K C ∧ Meth K C m f ∧ Binds K fd ps ds ∧ Vals dvs ds
/-- a property -/
structure GPr (P : Program) (w : World) (K : PySem.W.Frag) (mg : Str → Option Value) (base : Heap) (C : Addr) (m : Str) (k : Nat) (ps : List Str) (pre : Pre) : Prop where
  ex : ∃ p f fd, FnOk P w K mg base CX0 k f fd ps (SpL pre) ∧ Cls K C ∧ PropOf K C m p f ∧ Binds K fd ps []
/-- a class by its name, made -/
structure GMk (P : Program) (w : World) (K : PySem.W.Frag) (mg : Str → Option Value) (base : Heap) (x : Str) (C : Addr) (k : Nat) (ps : List Str) (dvs : List V) (pre : Pre) : Prop where
  ex : ∃ f fd ds, FnOk P w K mg base CX0 k f fd ps (SpL pre) ∧ mg x = some (.ref C) ∧ Mk K C f ∧ Binds K fd ps ds ∧ Vals dvs ds
end
section
variable {X : Cx} {e a b l : Expr} {es : List Expr} {st : Stmt} {sts body : List Stmt} {σ : St} {L : LH} {K : V → LH → Prop} {KT : Bool → LH → Prop} {KA : List V → LH → Prop} {KS : St → LH → Prop} {D : EndsL} {pos apos p : Pos} {x m f : Str} {C : Addr} {k : Nat} {ps : List Str} {dvs : List V} {pre : Pre}
theorem we_call (G : GFn X.prog X.w X.K X.mg X.base x k ps dvs pre) (hr : Room k X.A) (h : WA X (e :: es) σ L fun vs L1 => pre (vs ++ dvs) L1 K) (hg : Gl X x := by rfl) (hdb : (x == ("__debug__" : Str)) = false := by decide)
    (he : starEach (e :: es) X.env = (false, eval e X.env) :: starEach es X.env := by rfl) (hpl : (backTo pos (starEach es X.env)).any (·.1) = false := by rfl) : WE X (.Call (.Name x p) (e :: es) [] pos) σ L K := by
  obtain ⟨f, fd, ds, F, hm, hk, hb, hd⟩ := G.ex
  exact we_of (pe_call (E := E0) F hr hg hm hk hb hd pass0 pa_sem hdb he hpl) fun _ hL => a_then h hL fun vs L1 _ h1 k1 => ⟨L1, K, h1, k1, fun _ _ q => q⟩
theorem we_call0 (G : GFn X.prog X.w X.K X.mg X.base x k ps dvs pre) (hr : Room k X.A) (h : pre dvs L K) (hg : Gl X x := by rfl) (hdb : (x == ("__debug__" : Str)) = false := by decide) : WE X (.Call (.Name x p) [] [] pos) σ L K := by
  obtain ⟨f, fd, ds, F, hm, hk, hb, hd⟩ := G.ex
  exact we_of (pe_call0 (E := E0) F hr hg hm hk hb hd pass0 hdb) fun _ hL => ⟨L, K, hL, h, fun _ _ q => q⟩
/-- o.m(e, ..): the object's own attributes don't hide m -/
theorem we_meth {pl : Sem Bool} (G : GMe X.prog X.w X.K X.mg X.base C m k ps dvs pre) (hr : Room k X.A) (h : WE X a σ L fun x L1 => ∃ o dx fs, x = .ref o ∧ Mem o (.ins C dx fs) L1 ∧ fs.lookup m = none ∧ WA X (e :: es) σ L1 fun vs L2 => pre (.ref o :: (vs ++ dvs)) L2 K)
    (hst : starEach (e :: es) X.env = (false, eval e X.env) :: starEach es X.env := by rfl) (hpl : (backTo pos (starEach es X.env)).any (·.1) = false := by rfl)
    (ht : eval (.Call (.Attribute a m apos) (e :: es) [] pos) X.env = (do
      let ov ← eval a X.env
      standAt apos.atName
      let (f, first) ← holding [ov] (getMethod ov m pl)
      callWith pos f first (backTo pos (starEach (e :: es) X.env)) (backToKw pos (keywordEach [] X.env))) := by rfl) : WE X (.Call (.Attribute a m apos) (e :: es) [] pos) σ L K := by
  obtain ⟨f, fd, ds, F, hc, hm, hb, hd⟩ := G.ex
  exact we_of (pe_meth (E := E0) (pl := pl) pe_sem hc hm F hr hb hd pass0 pa_sem hst hpl ht) fun _ hL => e_then h hL fun x L1 _ h1 ⟨o, dx, fs, ex, mm, hl, k1⟩ => by
    subst ex
    exact ⟨o, dx, fs, rfl, h1.get mm, hl, a_then k1 h1 fun vs L2 _ h2 k2 => ⟨L2, K, h2, k2, fun _ _ q => q⟩⟩
theorem we_meth0 {pl : Sem Bool} (G : GMe X.prog X.w X.K X.mg X.base C m k ps dvs pre) (hr : Room k X.A) (h : WE X a σ L fun x L1 => ∃ o dx fs, x = .ref o ∧ Mem o (.ins C dx fs) L1 ∧ fs.lookup m = none ∧ pre (.ref o :: dvs) L1 K)
    (ht : eval (.Call (.Attribute a m apos) [] [] pos) X.env = (do
      let ov ← eval a X.env
      standAt apos.atName
      let (f, first) ← holding [ov] (getMethod ov m pl)
      callWith pos f first (backTo pos (starEach [] X.env)) (backToKw pos (keywordEach [] X.env))) := by rfl) : WE X (.Call (.Attribute a m apos) [] [] pos) σ L K := by
  obtain ⟨f, fd, ds, F, hc, hm, hb, hd⟩ := G.ex
  exact we_of (pe_meth0 (E := E0) (pl := pl) pe_sem hc hm F hr hb hd pass0 ht) fun _ hL => e_then h hL fun x L1 _ h1 ⟨o, dx, fs, ex, mm, hl, k1⟩ => by
    subst ex
    exact ⟨o, dx, fs, rfl, h1.get mm, hl, L1, K, h1, k1, fun _ _ q => q⟩
theorem we_prop (G : GPr X.prog X.w X.K X.mg X.base C m k ps pre) (hr : Room (k + 1) X.A) (h : WE X e σ L fun x L1 => ∃ o dx fs, x = .ref o ∧ Mem o (.ins C dx fs) L1 ∧ pre [.ref o] L1 K) (hab : attributeBase e m X.env (eval e X.env) = eval e X.env := by rfl) :
    WE X (.Attribute e m pos) σ L K := by
  obtain ⟨p, f, fd, F, hc, hp, hb⟩ := G.ex
  exact we_of (pe_prop (E := E0) (dvs := []) pe_sem hc hp F hr hb .nil (fun _ _ _ _ _ _ _ h => h.elim) hab) fun _ hL => e_then h hL fun x L1 _ h1 ⟨o, dx, fs, ex, mm, k1⟩ => by
    subst ex
    exact ⟨o, dx, fs, rfl, h1.get mm, L1, K, h1, k1, fun _ _ q => q⟩
/-- X(e, ..): a new instance; its __init__ is told with the instance ahead of what is known -/
theorem we_make (G : GMk X.prog X.w X.K X.mg X.base x C k ps dvs pre) (hr : Room (k + 1) X.A)
    (h : WA X (e :: es) σ L fun vs L1 => ∀ o dx, pre (.ref o :: (vs ++ dvs)) ((o, .ins C dx []) :: L1) fun v L2 => v = .non ∧ K (.ref o) L2) (hg : Gl X x := by rfl) (hdb : (x == ("__debug__" : Str)) = false := by decide)
    (he : starEach (e :: es) X.env = (false, eval e X.env) :: starEach es X.env := by rfl) (hpl : (backTo pos (starEach es X.env)).any (·.1) = false := by rfl) : WE X (.Call (.Name x p) (e :: es) [] pos) σ L K := by
  obtain ⟨f, fd, ds, F, hm, M, hb, hd⟩ := G.ex
  exact we_of (pe_make (E := E0) M F hr hg hm hb hd pass0 pa_sem hdb he hpl) fun _ hL => a_then h hL fun vs L1 H1 h1 k1 o dx ho hdx ne => by
    have hh : Holds ((o, HO.ins C dx []) :: L1) (upd (upd H1 dx (.own o)) o (.ins C dx [])) := by
      have z := h1.new (o := .own o) hdx
      have z2 := z.new (p := o) (o := .ins C dx []) (by rw [upd_ne ne.symm]; exact ho)
      exact z2.drop1
    refine ⟨_, fun v L2 => v = .non ∧ K (.ref o) L2, hh, k1 o dx, fun v H' q => ?_⟩
    obtain ⟨L2, h2, ev, q⟩ := q
    exact ⟨ev, L2, h2, q⟩
/-- built-ins by their names -/
theorem we_callB {id : String} (hm : X.mg x = none) (hv : bootBuiltins x = some (.builtin id)) (h : WA X (e :: es) σ L fun vs L1 => WC X (.builtin id) vs L1 K) (hg : Gl X x := by rfl) (hn : x ≠ "__name__" := by decide) (hdb : (x == ("__debug__" : Str)) = false := by decide)
    (he : starEach (e :: es) X.env = (false, eval e X.env) :: starEach es X.env := by rfl) (hpl : (backTo pos (starEach es X.env)).any (·.1) = false := by rfl) : WE X (.Call (.Name x p) (e :: es) [] pos) σ L K :=
  we_of (pe_callB call_sem hg hm hv pa_sem hn hdb he hpl) fun _ hL => a_then h hL fun _ _ H1 h1 k1 => k1 H1 h1
theorem we_callTy {T : String} (hm : X.mg x = none) (hv : bootBuiltins x = some (.type T)) (h : WA X (e :: es) σ L fun vs L1 => WC X (.type T) vs L1 K) (hg : Gl X x := by rfl) (hn : x ≠ "__name__" := by decide) (hdb : (x == ("__debug__" : Str)) = false := by decide)
    (he : starEach (e :: es) X.env = (false, eval e X.env) :: starEach es X.env := by rfl) (hpl : (backTo pos (starEach es X.env)).any (·.1) = false := by rfl) : WE X (.Call (.Name x p) (e :: es) [] pos) σ L K :=
  we_of (pe_callTy call_sem hg hm hv pa_sem hn hdb he hpl) fun _ hL => a_then h hL fun _ _ H1 h1 k1 => k1 H1 h1
theorem we_bltn {v : V} {u : Value} (hm : X.mg x = none) (hv : bootBuiltins x = some u) (r : RelV v u) (k : K v L) (hg : Gl X x := by rfl) (hn : x ≠ "__name__" := by decide) (hdb : (x == ("__debug__" : Str)) = false := by decide) : WE X (.Name x pos) σ L K :=
  we_of (pe_bltn hg hm hv r hn hdb) fun _ hL => ⟨L, hL, k⟩
/-- a module's name for a built-in function -/
theorem we_callFn {id : String} (hm : X.mg x = some (.builtin id)) (h : WA X (e :: es) σ L fun vs L1 => WC X (.builtin id) vs L1 K) (hg : Gl X x := by rfl) (hdb : (x == ("__debug__" : Str)) = false := by decide)
    (he : starEach (e :: es) X.env = (false, eval e X.env) :: starEach es X.env := by rfl) (hpl : (backTo pos (starEach es X.env)).any (·.1) = false := by rfl) : WE X (.Call (.Name x p) (e :: es) [] pos) σ L K :=
  we_of (pe_callBfun call_sem hg hm pa_sem hdb he hpl) fun _ hL => a_then h hL fun _ _ H1 h1 k1 => k1 H1 h1

/-! ### operations on values -/
theorem wo_I0 {g : Int → Int → V} {fo : Value → Value → Sem Value} {i j : Int} (ho : OpR X fo (rI0 g)) (k : K (g i j) L) : WO X fo (.int i) (.int j) L K := wo_of ho fun _ hL => ⟨i, j, rfl, rfl, L, hL, k⟩
theorem wo_I {g : Int → Int → V} {Cc : Int → Int → Prop} {fo : Value → Value → Sem Value} {i j : Int} (ho : OpR X fo (rI Cc g)) (hc : Cc i j) (k : K (g i j) L) : WO X fo (.int i) (.int j) L K := wo_of ho fun _ hL => ⟨i, j, rfl, rfl, hc, L, hL, k⟩
theorem wo_add {i j : Int} (k : K (.int (i + j)) L) : WO X (binaryOp .Add) (.int i) (.int j) L K := wo_I0 op_add k
theorem wo_sub {i j : Int} (k : K (.int (i - j)) L) : WO X (binaryOp .Sub) (.int i) (.int j) L K := wo_I0 op_sub k
theorem wo_lt {i j : Int} (k : K (.bl (decide (i < j))) L) : WO X (compareOp .Lt) (.int i) (.int j) L K := wo_I0 op_lt k
theorem wo_le {i j : Int} (k : K (.bl (decide (i ≤ j))) L) : WO X (compareOp .LtE) (.int i) (.int j) L K := wo_I0 op_le k
theorem wo_gt {i j : Int} (k : K (.bl (decide (j < i))) L) : WO X (compareOp .Gt) (.int i) (.int j) L K := wo_I0 op_gt k
theorem wo_ge {i j : Int} (k : K (.bl (decide (j ≤ i))) L) : WO X (compareOp .GtE) (.int i) (.int j) L K := wo_I0 op_ge k
theorem wo_mod {i j : Int} (hj : 0 < j) (k : K (.int (i % j)) L) : WO X (binaryOp .Mod) (.int i) (.int j) L K := wo_I op_mod hj k
theorem wo_pow {i j : Int} (hc : CPow i j) (k : K (.int (i ^ j.toNat)) L) : WO X (binaryOp .Pow) (.int i) (.int j) L K := wo_I op_pow hc k
theorem wo_mul {i j : Int} (hc : CMul i j) (k : K (.int (i * j)) L) : WO X (binaryOp .Mult) (.int i) (.int j) L K := wo_I op_mul hc k
theorem wo_fdiv {i j : Int} (hc : CDiv i j) (k : K (.int (i / j)) L) : WO X (binaryOp .FloorDiv) (.int i) (.int j) L K := wo_I op_fdiv hc k
theorem wo_cat {i j : Str} (hl : i.length + j.length ≤ sizeLine) (k : K (.str (i ++ j)) L) : WO X (binaryOp .Add) (.str i) (.str j) L K := wo_of op_add_str fun _ hL => ⟨i, j, rfl, rfl, hl, L, hL, k⟩
theorem wo_eq {v u : V} (hs : scal v u = true) (k : K (.bl (decide (v = u))) L) : WO X (compareOp .Eq) v u L K := wo_of op_eq fun _ hL => ⟨hs, L, hL, k⟩
theorem wo_ne {v u : V} (hs : scal v u = true) (k : K (.bl (!decide (v = u))) L) : WO X (compareOp .NotEq) v u L K := wo_of op_ne fun _ hL => ⟨hs, L, hL, k⟩
theorem wu_neg {i : Int} (k : K (.int (-i)) L) : WU X (unaryOp .USub) (.int i) L K := wu_of un_neg fun _ hL => ⟨i, rfl, L, hL, k⟩
theorem wc_abs {i : Int} (k : K (.int (if i < 0 then -i else i)) L) : WC X (.builtin "abs") [.int i] L K := wc_of call_abs fun _ hL => ⟨i, rfl, L, hL, k⟩
theorem wc_max {i j : Int} (hc : X.calm = true) (k : K (.int (if j > i then j else i)) L) : WC X (.builtin "max") [.int i, .int j] L K := wc_of (call_max2 hc) fun _ hL => ⟨i, j, rfl, L, hL, k⟩
theorem wc_min {i j : Int} (hc : X.calm = true) (k : K (.int (if j < i then j else i)) L) : WC X (.builtin "min") [.int i, .int j] L K := wc_of (call_min2 hc) fun _ hL => ⟨i, j, rfl, L, hL, k⟩
theorem wc_int {i : Int} (k : K (.int i) L) : WC X (.type "int") [.int i] L K := wc_of call_int1 fun _ hL => .inl ⟨i, rfl, L, hL, k⟩
theorem wc_intB {i : Bool} (k : K (.int (if i then 1 else 0)) L) : WC X (.type "int") [.bl i] L K := wc_of call_int1 fun _ hL => .inr ⟨i, rfl, L, hL, k⟩
theorem wc_strI {i : Int} (hi : i.natAbs.log2 < 1920) (k : K (.str (toString i)) L) : WC X (.type "str") [.int i] L K := wc_of call_str_int fun _ hL => ⟨i, rfl, hi, L, hL, k⟩
theorem wc_gcd {i j : Int} (k : K (.int ((Nat.gcd i.natAbs j.natAbs : Nat) : Int)) L) : WC X (.builtin "math.gcd") [.int i, .int j] L K := wc_of cr_gcd fun _ hL => ⟨i, j, rfl, L, hL, k⟩
theorem wc_divmod {i j : Int} (hc : CDiv i j) (k : ∀ p, K (.ref p) ((p, .tup [.int (i / j), .int (i % j)]) :: L)) : WC X (.builtin "divmod") [.int i, .int j] L K := wc_of call_divmod fun _ hL => ⟨i, j, rfl, hc, fun p hp => ⟨_, hL.new hp, k p⟩⟩
theorem wc_len {q : Addr} {xs : List V} (h : SqLL X.K q xs L) (k : K (.int (xs.length : Int)) L) : WC X (.builtin "len") [.ref q] L K := wc_of call_len_seq fun H hL => ⟨q, xs, rfl, .inl (h H hL), L, hL, k⟩
/-- what type a value has, as isinstance asks -/
def TyL (K : PySem.W.Frag) (v : V) (t : Value) (L : LH) : Prop := ∀ H, Holds L H → TyX K H v t
theorem wc_isi {v c : V} {t u : Value} {r : Bool} (hc : ClsV c u) (ht : TyL X.K v t L) (hk : PySem.W.kitOne X.K t u = some r) (k : K (.bl r) L) : WC X (.builtin "isinstance") [v, c] L K :=
  wc_of call_isi fun H hL => ⟨v, c, t, u, r, rfl, hc, ht H hL, hk, L, hL, k⟩
end
end N3

set_option Elab.async false
set_option linter.all false
set_option maxRecDepth 100000
set_option maxHeartbeats 4000000
namespace PySem.W
open PySem PySem.Calls PyProof.Rows Builtin
section
variable {prog : Program} {w : World} {A : Around} {E : Value → Shared → Prop} {s : Shared} {K : Frag} {x C f : Addr} {ox : Obj} {od : Option Obj} {b tb : Value}
theorem n3_ifBoundB {M : Model} {name : Str} {id : String} {args : List Value} {Q : Option Value → Shared → Prop} (X : K.In s.heap) (I : InstAt s.heap x ox C od) (hs : findIn K (.ref C) name = some (some (.builtin id)))
    (hb : ∀ self, bindSpecial (.builtin id) self = pure (.builtin id, [self])) (h : wpAny M A (call (.builtin id) (.ref x :: args)) (fun v => Q (some v)) E s) : wpAny M A (callSpecialIfBound? (.ref x) name args) Q E s := by
  simp only [callSpecialIfBound?, bindSpecialIfBound?]
  refine wpAny_holding (wpAny_bind (wpAny_bind (wpAny_bind (I.type.here ((looks_findIn X hs).here ?_)))))
  refine wpAny_bind (wpAny_askSetting (wpAny_ite ?_))
  have fin : wpAny M A (call (.builtin id) ([.ref x] ++ args) >>= fun v => pure (some v)) Q E s := wpAny_bind (wpAny_mono h (fun v s' h' => wpAny_pure h') fun _ _ h' => h')
  split
  · exact wpAny_bind ((Looks.of_pure (hb _)).here (wpAny_pure (by exact fin)))
  · exact wpAny_tryCatch (wpAny_bind ((Looks.of_pure (hb _)).here (wpAny_pure (by exact fin))))
theorem n3_objNe (hu : A.units < cLine) (X : K.In s.heap) (I : InstAt s.heap x ox C od) (hs : findIn K (.ref C) "__eq__" = some (some (.ref f))) (hf : isFn K (.ref f) = true) {Q : Fin → Shared → Prop}
    (h : wpAny (model prog w) A (call (.ref f) [.ref x, b]) (fun v s' => ∃ r, v = .bool r ∧ Q (.done (.ret (.bool (!r)))) s') E s) : wpAny (model prog w) A (Builtin.«object.__ne__» ⟨[.ref x, b], []⟩) Q E s := by
  unfold Builtin.«object.__ne__»
  repeat (first
    | with_reducible refine wpAny_cRoomFor hu ?_
    | (refine wpAny_bind (m := callSpecialIfBound? (.ref x) (Str.ofString "__eq__") [b])
        (ifBound_K X I hs hf (wpAny_mono h (fun r s' hr => by
          obtain ⟨b, rfl, hq⟩ := hr
          repeat (first | exact hq | exact wpAny_pure hq | exact wpAny_truthy_bool hq | (refine wpAny_bind (m := truthy (.bool _)) (wpAny_truthy_bool ?_)) | wp_step)) fun _ _ e => e)))
    | wp_step)
theorem n3_tryNe (hu : A.units + 1 < cLine) (X : K.In s.heap) (I : InstAt s.heap x ox C od) (hne : findIn K (.ref C) "__ne__" = some (some (.builtin "object.__ne__"))) (hm : mroIn K C (.type "object") = some true)
    (hs : findIn K (.ref C) "__eq__" = some (some (.ref f))) (hf : isFn K (.ref f) = true) {Q : Option Value → Shared → Prop}
    (h : wpAny (model prog w) A.in1 (call (.ref f) [.ref x, b]) (fun v s' => ∃ r, v = .bool r ∧ Q (some (.bool (!r))) s') E s) : wpAny (model prog w) A (tryCompare (.ref x) "__ne__" b) Q E s := by
  simp only [tryCompare]
  refine wpAny_bind (n3_ifBoundB X I hne PySem.F.slot_object_ne.bind (wpAny_call (codeAny_call_builtin PySem.F.slot_object_ne.plain F.cmpEntry_ne
    (check_slot (i := "object.__ne__") (owner := "object") (n := "__ne__") (by decide +kernel) (by decide +kernel) (I.type.andThen (looks_mroIn X hm)) (F.cmpArgs_ne _ _)
      (n3_objNe (A := A.in1) hu X I hs hf (wpAny_mono h (fun v s' hv => ?_) fun _ _ e => e))))))
  obtain ⟨b, rfl, hq⟩ := hv
  first | exact ⟨b, rfl, wpAny_pure hq⟩ | exact ⟨b, rfl, wpAny_pure (wpAny_pure hq)⟩ | exact ⟨b, rfl, hq⟩
theorem n3_cmpNe {Q : Value → Shared → Prop} (hu : A.units + 1 < cLine) (X : K.In s.heap) (I : InstAt s.heap x ox C od) (hb : Looks (model prog w) s.heap (typeOf b) tb) (hn : notFirst K C tb = true)
    (hne : findIn K (.ref C) "__ne__" = some (some (.builtin "object.__ne__"))) (hm : mroIn K C (.type "object") = some true)
    (hs : findIn K (.ref C) "__eq__" = some (some (.ref f))) (hf : isFn K (.ref f) = true)
    (h : wpAny (model prog w) A.in1 (call (.ref f) [.ref x, b]) (fun v s' => ∃ r, v = .bool r ∧ Q (.bool (!r)) s') E s) : wpAny (model prog w) A (richCompare .NotEq (.ref x) b) Q E s := by
  have one : wpAny (model prog w) A (tryCompare (.ref x) (cmpInfo .NotEq).2.1 b) (fun r s' => ∃ v, r = some v ∧ Q v s') E s :=
    n3_tryNe hu X I hne hm hs hf (wpAny_mono h (fun v s' hv => by
      obtain ⟨r, e, q⟩ := hv
      exact ⟨r, e, _, rfl, q⟩) fun _ _ e => e)
  unfold richCompare
  simp only [oneThing_ref]
  refine wpAny_holding (wpAny_bind (wpAny_cRoomFor (Nat.lt_of_succ_lt hu) ?_))
  refine wpAny_bind (I.type.here (wpAny_bind (hb.here ?_)))
  split
  · rename_i q
    have e : subIn K tb (.ref C) = some false := by
      rcases Bool.or_eq_true_iff.mp hn with e | e
      · rw [beq_iff_eq.mp e] at q; simp at q
      · exact beq_iff_eq.mp e
    refine wpAny_bind ((looks_subIn X e).here ?_)
    simp only [Bool.false_eq_true, if_false]
    refine wpAny_bind (wpAny_mono one (fun r s' z => ?_) fun _ _ e => e)
    obtain ⟨v, rfl, hq⟩ := z
    exact wpAny_pure hq
  · refine wpAny_bind (wpAny_pure ?_)
    simp only [Bool.false_eq_true, if_false]
    refine wpAny_bind (wpAny_mono one (fun r s' z => ?_) fun _ _ e => e)
    obtain ⟨v, rfl, hq⟩ := z
    exact wpAny_pure hq
end
end PySem.W
namespace N3
open PySem PySem.Spec L2
/-- an own operator of the class at C -/
structure GOp (P : Program) (w : World) (K : PySem.W.Frag) (mg : Str → Option Value) (base : Heap) (C : Addr) (x : Str) (k : Nat) (ps : List Str) (pre : Pre) : Prop where
  ex : ∃ f fd, FnOk P w K mg base CX0 k f fd ps (SpL pre) ∧ PySem.W.findIn K (.ref C) x = some (some (.ref f)) ∧ PySem.W.isFn K (.ref f) = true ∧ Binds K fd ps []
/-- the type of the other operand -/
inductive Rhs (L : LH) : V → Value → Prop where
  | int (i : Int) : Rhs L (.int i) (.type "int")
  | str (i : Str) : Rhs L (.str i) (.type "str")
  | tup {p : Addr} {xs : List V} (m : Mem p (.tup xs) L) : Rhs L (.ref p) (.type "tuple")
  | ins {p C dx : Addr} {fs : List (Str × V)} (m : Mem p (.ins C dx fs) L) : Rhs L (.ref p) (.ref C)
  | dK {p : Addr} {kvs : List (Key × V)} (m : Mem p (.dK kvs) L) : Rhs L (.ref p) (.type "dict")
section
variable {X : Cx} {σ : St} {L : LH} {K : V → LH → Prop} {C o p dx dy : Addr} {fs gs : List (Str × V)} {k : Nat} {ps : List Str} {pre : Pre}
theorem rhs_looks {pins : List (Addr × Obj)} {H : Hp} {s : Shared} {v : V} {u t : Value} (hL : Holds L H) (I : Inv X pins σ H s) (h : Rhs L v t) (r : RelV v u) : PySem.W.Looks (model X.prog X.w) s.heap (typeOf u) t := by
  cases h with
  | int i => obtain ⟨tk, e⟩ := (show ∃ tk, u = Value.int i tk from r); cases e; exact PySem.W.Looks.of_pure rfl
  | str i => obtain ⟨tk, e⟩ := (show ∃ tk, u = Value.str i tk from r); cases e; exact PySem.W.Looks.of_pure rfl
  | tup m =>
    cases r
    obtain ⟨_, its, _, ob, ho, hc, _⟩ := I.hok _ _ (hL.get m)
    have h2 : PySem.W.Looks (model X.prog X.w) s.heap (typeOf (.ref _)) ob.cls := fun A Q E s' k q => wpAny_typeOf_ref (k _ _ ho) q
    rw [hc] at h2
    exact h2
  | ins m =>
    cases r
    obtain ⟨mB, J, _⟩ := ins_get I.hok (hL.get m)
    obtain ⟨od, J, _⟩ := J.look
    exact J.type
  | dK m =>
    cases r
    obtain ⟨_, _, vs, _, ob, es, ep, ho, hc, _⟩ := I.hok _ _ (hL.get m)
    have h2 : PySem.W.Looks (model X.prog X.w) s.heap (typeOf (.ref _)) ob.cls := fun A Q E s' k q => wpAny_typeOf_ref (k _ _ ho) q
    rw [hc.1] at h2
    exact h2
/-- the call of an own operator's def -/
theorem run_op {pins : List (Addr × Obj)} {H : Hp} {s : Shared} {x : Str} {us : List Value} {vs : List V} {L : LH} {K : V → LH → Prop} (G : GOp X.prog X.w X.K X.mg X.base C x k ps pre) {A : Around} (hr : Room k A) (he : A.frames = X.A.frames)
    (hL : Holds L H) (I : Inv X pins σ H s) (r : Vals vs us) (h : pre vs L K) : ∃ f, PySem.W.findIn X.K (.ref C) x = some (some (.ref f)) ∧ PySem.W.isFn X.K (.ref f) = true ∧ wpAny (model X.prog X.w) A (call (.ref f) us) (EP X pins σ (QE K)) X.xe s := by
  obtain ⟨f, fd, F, hs, hf, hb⟩ := G.ex
  refine ⟨f, hs, hf, ?_⟩
  have hsp : SpL pre vs H (QE K) E0 := ⟨L, K, hL, h, fun _ _ q => q⟩
  have e0 : Env0 X.prog X.w X.K X.mg X.base A X.stack s H := by
    have e := I.env0
    exact ⟨by rw [he]; exact e.frames, e.mod, e.bs, e.bsz, e.funs, e.frf, e.hok, e.bare⟩
  have hl := F.len _ _ _ _ hsp
  refine wpAny_call (codeAny_mono (F.run A X.stack s H ⟨us, []⟩ us vs _ E0 hr e0 (by
    have := hb s us I.kIn (by rw [List.append_nil, ← r.length]; exact hl)
    simpa using this) r hsp) fun r s' hq => ?_)
  cases r with
  | error e => exact (hq : False).elim
  | ok fl =>
    cases fl with
    | ret w => exact I.after hq
    | next => exact False.elim hq
    | brk => exact False.elim hq
    | cont => exact False.elim hq
/-- o op o', both of the class -/
theorem wo_own {op : Operator} (G : GOp X.prog X.w X.K X.mg X.base C (PySem.dunder op.info.2) k ps pre) (hc : PySem.W.selfFirst X.K C = true) (hr : Room k X.A) (m : Mem o (.ins C dx fs) L) (m2 : Mem p (.ins C dy gs) L) (h : pre [.ref o, .ref p] L K) :
    WO X (binaryOp op) (.ref o) (.ref p) L K := by
  intro H hL pins s σ v u I r1 r2
  cases r1
  cases r2
  obtain ⟨mA, J, _⟩ := ins_get I.hok (hL.get m)
  obtain ⟨mB, J', _⟩ := ins_get I.hok (hL.get m2)
  obtain ⟨od, J, _⟩ := J.look
  obtain ⟨od', J', _⟩ := J'.look
  obtain ⟨mm, hF⟩ := I.fr
  obtain ⟨f, hs, hf, hrun⟩ := run_op (us := [.ref o, .ref p]) (vs := [.ref o, .ref p]) G hr rfl hL I (.cons rfl (.cons rfl .nil)) h
  refine PySem.W.binop_K hF I.ok.mod.kin J J'.type hc hs hf (wpAny_mono hrun (fun w s' z => ?_) fun _ _ x => x)
  obtain ⟨z', H', I', rz, qz⟩ := z
  exact SlX.cmpback rz ⟨z', H', I', rz, qz⟩
/-- what a class lacks in reflected operators -/
structure NoRefl (K : PySem.W.Frag) (C : Addr) (T : String) (nm : String) : Prop where
  sf : PySem.W.selfFirst K C = true
  nr : PySem.W.findIn K (.ref C) (dunderR nm) = some none
  f1 : ∃ fo, PySem.W.findIn K (.type T) (PySem.dunder nm) = some fo
  f2 : ∃ ro, PySem.W.findIn K (.type T) (dunderR nm) = some ro
  sub : PySem.W.subIn K (.type T) (.ref C) = some false
/-- o op an int -/
theorem wo_ownI {op : Operator} {i : Int} (G : GOp X.prog X.w X.K X.mg X.base C (PySem.dunder op.info.2) k ps pre) (hc : NoRefl X.K C "int" op.info.2) (hr : Room k X.A) (m : Mem o (.ins C dx fs) L) (h : pre [.ref o, .int i] L K) :
    WO X (binaryOp op) (.ref o) (.int i) L K := by
  intro H hL pins s σ v u I r1 r2
  cases r1
  obtain ⟨t, e⟩ := (show ∃ t, u = Value.int i t from r2)
  cases e
  obtain ⟨mA, J, _⟩ := ins_get I.hok (hL.get m)
  obtain ⟨od, J, _⟩ := J.look
  obtain ⟨mm, hF⟩ := I.fr
  obtain ⟨f, hs, hf, hrun⟩ := run_op (us := [.ref o, .int i t]) (vs := [.ref o, .int i]) G hr rfl hL I (.cons rfl (.cons ⟨t, rfl⟩ .nil)) h
  obtain ⟨sf, nr, ⟨fo, f1⟩, ⟨ro, f2⟩, sb⟩ := hc
  refine PySem.W.ksp_binT (T := "int") hF I.ok.mod.kin J (by rfl) sf hs hf nr (.inl rfl) f1 f2 sb (wpAny_mono hrun (fun w s' z => ?_) fun _ _ x => x)
  obtain ⟨z', H', I', rz, qz⟩ := z
  exact SlX.cmpback rz ⟨z', H', I', rz, qz⟩
/-- -o -/
theorem wu_own (G : GOp X.prog X.w X.K X.mg X.base C "__neg__" k ps pre) (hr : Room k X.A) (m : Mem o (.ins C dx fs) L) (h : pre [.ref o] L K) : WU X (unaryOp .USub) (.ref o) L K := by
  intro H hL pins s σ v I r1
  cases r1
  obtain ⟨mA, J, _⟩ := ins_get I.hok (hL.get m)
  obtain ⟨od, J, _⟩ := J.look
  obtain ⟨mm, hF⟩ := I.fr
  obtain ⟨f, hs, hf, hrun⟩ := run_op (us := [.ref o]) (vs := [.ref o]) G hr rfl hL I (.cons rfl .nil) h
  exact PySem.W.ksp_neg hF I.ok.mod.kin J hs hf hrun
/-- o == v, by the own __eq__ -/
theorem wo_ownEq {v : V} {t : Value} (G : GOp X.prog X.w X.K X.mg X.base C "__eq__" k ps pre) (hr : Room k X.A) (m : Mem o (.ins C dx fs) L) (ht : Rhs L v t) (hn : PySem.W.notFirst X.K C t = true) (h : pre [.ref o, v] L K) :
    WO X (compareOp .Eq) (.ref o) v L K := by
  intro H hL pins s σ v1 u I r1 r2
  cases r1
  obtain ⟨mA, J, _⟩ := ins_get I.hok (hL.get m)
  obtain ⟨od, J, _⟩ := J.look
  obtain ⟨mm, hF⟩ := I.fr
  obtain ⟨f, hs, hf, hrun⟩ := run_op (us := [.ref o, u]) (vs := [.ref o, v]) G hr rfl hL I (.cons rfl (.cons r2 .nil)) h
  show wpAny _ _ (richCompare .Eq (.ref o) u) _ _ _
  refine PySem.W.cmp_K (op := .Eq) hr.units0 hF I.ok.mod.kin J (rhs_looks hL I ht r2) hn hs hf (wpAny_mono hrun (fun w s' z => ?_) fun _ _ x => x)
  obtain ⟨z', H', I', rz, qz⟩ := z
  exact SlX.cmpback rz ⟨z', H', I', rz, qz⟩
/-- o != v, by the own __eq__ -/
theorem wo_ownNe {v : V} {t : Value} (G : GOp X.prog X.w X.K X.mg X.base C "__eq__" k ps pre) (hr : Room (k + 1) X.A) (m : Mem o (.ins C dx fs) L) (ht : Rhs L v t) (hn : PySem.W.notFirst X.K C t = true)
    (hne : PySem.W.findIn X.K (.ref C) "__ne__" = some (some (.builtin "object.__ne__"))) (hm : PySem.W.mroIn X.K C (.type "object") = some true) (h : pre [.ref o, v] L (KB fun b L1 => K (.bl (!b)) L1)) :
    WO X (compareOp .NotEq) (.ref o) v L K := by
  intro H hL pins s σ v1 u I r1 r2
  cases r1
  obtain ⟨mA, J, _⟩ := ins_get I.hok (hL.get m)
  obtain ⟨od, J, _⟩ := J.look
  obtain ⟨f, hs, hf, hrun⟩ := run_op (A := X.A.in1) (us := [.ref o, u]) (vs := [.ref o, v]) G hr.in1 rfl hL I (.cons rfl (.cons r2 .nil)) h
  show wpAny _ _ (richCompare .NotEq (.ref o) u) _ _ _
  refine PySem.W.n3_cmpNe (by have := hr.units; omega) I.kIn J (rhs_looks hL I ht r2) hn hne hm hs hf (wpAny_mono hrun (fun w s' z => ?_) fun _ _ x => x)
  obtain ⟨z', H', I', rz, L2, h2, b, ez, qz⟩ := z
  subst ez
  cases rz
  exact ⟨b, rfl, .bl (!b), H', I', rfl, L2, h2, qz⟩
/-- repr(o), str(o) -/
def KStr (K : V → LH → Prop) (v : V) (L : LH) : Prop := ∃ y, v = .str y ∧ K (.str y) L
theorem wc_ownRepr (G : GOp X.prog X.w X.K X.mg X.base C "__repr__" k ps pre) (hr : Room (k + 1) X.A) (m : Mem o (.ins C dx fs) L) (h : pre [.ref o] L (KStr K)) : WC X (.builtin "repr") [.ref o] L K := by
  intro H hL pins s σ us I r1
  cases r1 with
  | cons r rr =>
    cases rr
    cases r
    obtain ⟨mA, J, _⟩ := ins_get I.hok (hL.get m)
    obtain ⟨od, J, _⟩ := J.look
    obtain ⟨mm, hF⟩ := I.fr
    obtain ⟨f, hs, hf, hrun⟩ := run_op (A := X.A.in1) (us := [.ref o]) (vs := [.ref o]) G hr.in1 rfl hL I (.cons rfl .nil) h
    refine PySem.W.repr_K hr.in1.units0 hF I.ok.mod.kin J hs hf (wpAny_mono hrun (fun w s' z => ?_) fun _ _ x => x)
    obtain ⟨z', H', I', rz, L2, h2, y, ez, qz⟩ := z
    subst ez
    obtain ⟨t, rfl⟩ := rz
    exact ⟨.str y, H', I', ⟨t, rfl⟩, L2, h2, qz⟩
theorem wc_ownStr (G : GOp X.prog X.w X.K X.mg X.base C "__str__" k ps pre) (hr : Room (k + 2) X.A) (m : Mem o (.ins C dx fs) L) (h : pre [.ref o] L (KStr K)) : WC X (.type "str") [.ref o] L K := by
  intro H hL pins s σ us I r1
  cases r1 with
  | cons r rr =>
    cases rr
    cases r
    obtain ⟨mA, J, _⟩ := ins_get I.hok (hL.get m)
    obtain ⟨od, J, _⟩ := J.look
    obtain ⟨f, hs, hf, hrun⟩ := run_op (A := X.A.in1.in1) (us := [.ref o]) (vs := [.ref o]) G hr.in1.in1 rfl hL I (.cons rfl .nil) h
    refine PySem.W.kso_call hr.in1.in1.units0 I.kIn J hs hf (wpAny_mono hrun (fun w s' z => ?_) fun _ _ x => x)
    obtain ⟨z', H', I', rz, L2, h2, y, ez, qz⟩ := z
    subst ez
    obtain ⟨t, rfl⟩ := rz
    exact ⟨.str y, H', I', ⟨t, rfl⟩, L2, h2, qz⟩
end
end N3

set_option Elab.async false
set_option linter.all false
set_option maxRecDepth 100000
set_option maxHeartbeats 4000000
namespace N3
open PySem PySem.Spec L2 PySem.W PySem.Calls
open PyProof.Rows hiding St
/-- a promise that holds where no container is being shown (so that repr of a list can't meet itself) -/
structure FnG (P : Program) (w : World) (K : PySem.W.Frag) (mg : Str → Option Value) (base : Heap) (k : Nat) (f : Addr) (fd : FuncData) (ps : List Str) (pre : Pre) : Prop where
  len : ∀ vs L Kk, pre vs L Kk → vs.length = ps.length
  run : ∀ (A : Around) (outer : List Env) (s : Shared) (H : Hp) (args : Args) (us : List Value) (vs : List V) (L : LH) (Kk : V → LH → Prop), Room k A → A.guards = some [] → Env0 P w K mg base A outer s H → BindsTo s fd args (ps.zip us) → Vals vs us → Holds L H →
    pre vs L Kk → codeAny (model P w) A (.call (.ref f) args) (CR CX0 outer P w H s (QE Kk) E0) s
section
variable {P : Program} {w : World} {K : PySem.W.Frag} {mg : Str → Option Value} {base : Heap}
theorem FnG.of {k : Nat} {f : Addr} {fd : FuncData} {ps : List Str} {pre : Pre} (F : FnOk P w K mg base CX0 k f fd ps (SpL pre)) (len : ∀ vs L Kk, pre vs L Kk → vs.length = ps.length) : FnG P w K mg base k f fd ps pre :=
  ⟨len, fun A outer s H args us vs L Kk hr _ e0 hb r hL h => F.run A outer s H args us vs (QE Kk) E0 hr e0 hb r ⟨L, Kk, hL, h, fun _ _ q => q⟩⟩
theorem fnG {x qual : Str} {st : Stmt} {f : Addr} {fd : FuncData} {N ps : List Str} {k : Nat} {pre : Pre} (F : Fun K x qual st f fd) (S : FnScope N ps (defScope st)) (len : ∀ vs L Kk, pre vs L Kk → vs.length = ps.length)
    (body : ∀ (cdv : Value) (A : Around) (outer : List Env) (s : Shared) (H : Hp) (vs : List V) (E : XK) (L : LH) (Kk : V → LH → Prop), Room k (A.deeper (envOfC qual (defScope st) s.heap.objs.size f cdv)) → A.guards = some [] → pre vs L Kk →
      WSs (cxOf CX0 P w K mg base N qual (defScope st) f cdv A outer s H E).nox (defBody st) (start N vs) L (EndOf Kk)) : FnG P w K mg base (k + 1) f fd ps pre := by
  refine ⟨len, fun A outer s H args us vs L Kk hr hg e0 hb r hL hp => ?_⟩
  obtain ⟨oc, od, kV, doc, pm, an, cdv, ct, osl, rfl, lk, hcd⟩ := F.ex
  have hvl := len vs L Kk hp
  have kept : ∀ b o, base.get? b = some o → s.heap.get? b = some o := fun b o e => (e0.bs b o e).1
  have inK : K.In s.heap := e0.mod.kin.keeps kept
  have kinds : ∀ y ∈ ps.zip us, (defScope st).names.lookup y.1 = some .local ∨ ((defScope st).names.lookup y.1 = some .cell ∧ ((cellsFrom (s.heap.objs.size + 1) (defScope st).names []).lookup y.1).isSome = true) := by
    rintro ⟨n, v⟩ hy
    rcases S.par n (List.of_mem_zip hy).1 with q | q
    · exact .inl q
    · exact .inr ⟨q, PySem.W.cellsFrom_some _ _ _ (.inl q)⟩
  refine codeAny_call_function hr.depth (inK _ _ lk) rfl S.co S.gen rfl (PySem.W.codeRec_of inK hcd) (hb _ _ _ _ (wpAny_newFunctionEnv_cells S.kind kinds fun env he s1 x => ?_))
  subst he
  refine ⟨(e0.mod.nolimit.keeps kept).keeps x.toInCall.keep, codeAny_func ?_⟩
  have I := inv_start (CX := CX0) (E := E0) S hr.hd e0 hvl r x
  have q := (body cdv A outer s H vs E0 L Kk (hr.deeper _) hg hp H hL).mono (D' := ⟨fun _ H' => QE Kk .non H', QE Kk, fun _ _ => False, fun _ _ => False⟩) ⟨fun _ _ z => QE.sub z, fun _ _ z => QE.sub z, fun _ _ ⟨_, _, z⟩ => z.elim, fun _ _ ⟨_, _, z⟩ => z.elim⟩
  refine wpAny_mono (q [] s1 (I.wish _)) (fun fl s' hs => ?_) fun _ _ z => z.elim
  have done : ∀ {σ' : L2.St} {H' : Hp} {v : V} {u : Value}, Inv (cxOf CX0 P w K mg base N qual (defScope st) f cdv A outer s H E0).nox [] σ' H' s' → RelV v u → QE Kk v H' → CE outer P w H s (QE Kk) u s' :=
    fun {_ H' v _} J rv z => ⟨v, H', J.os, J.bare, J.base, J.hok, rv, z⟩
  cases fl with
  | ret u => obtain ⟨v, σ', H', J, rv, z⟩ := hs; exact done J rv z
  | next => obtain ⟨σ', H', J, z⟩ := hs; exact done (v := V.non) (u := Value.none) J rfl z
  | brk => obtain ⟨_, _, _, z⟩ := hs; exact z.elim
  | cont => obtain ⟨_, _, _, z⟩ := hs; exact z.elim
/-- a def of the module, where nothing is being shown -/
structure GFg (P : Program) (w : World) (K : PySem.W.Frag) (mg : Str → Option Value) (base : Heap) (x : Str) (k : Nat) (ps : List Str) (dvs : List V) (pre : Pre) : Prop where
  ex : ∃ f fd ds, FnG P w K mg base k f fd ps pre ∧ mg x = some (.ref f) ∧ PySem.W.keepIn K (.ref f) = true ∧ Binds K fd ps ds ∧ Vals dvs ds
end
section
variable {X : Cx} {e : Expr} {es : List Expr} {σ : L2.St} {L : LH} {K : V → LH → Prop} {pos p : Pos} {x : Str} {k : Nat} {ps : List Str} {dvs : List V} {pre : Pre}
theorem we_callG (G : GFg X.prog X.w X.K X.mg X.base x k ps dvs pre) (hr : Room k X.A) (hgd : X.A.guards = some []) (h : WA X (e :: es) σ L fun vs L1 => pre (vs ++ dvs) L1 K) (hg : Gl X x := by rfl) (hdb : (x == ("__debug__" : Str)) = false := by decide)
    (he : starEach (e :: es) X.env = (false, eval e X.env) :: starEach es X.env := by rfl) (hpl : (backTo pos (starEach es X.env)).any (·.1) = false := by rfl) : WE X (.Call (.Name x p) (e :: es) [] pos) σ L K := by
  obtain ⟨f, fd, ds, F, hm, hk, hb, hd⟩ := G.ex
  intro H hL pins s I
  refine wpAny_Call_Name_kw (ld_glob I hg hm ?_ hdb)
  refine PySem.W.callWith_K (h₀ := X.base) I.ok.mod.kin hk (thn (h H hL pos pins s I) fun us s1 ⟨vs, H1, I1, r, L1, h1, q⟩ => ⟨I1.kIn, ?_⟩) he hpl
  have r2 : Vals (vs ++ dvs) (us ++ ds) := r.append hd
  have hl : (us ++ ds).length = ps.length := by rw [← r2.length]; exact F.len _ _ _ q
  refine wpAny_call (codeAny_mono (F.run X.A X.stack s1 H1 ⟨us, []⟩ (us ++ ds) (vs ++ dvs) L1 K hr hgd I1.env0 (hb s1 us I1.kIn hl) r2 h1 q) fun r s' hq => ?_)
  cases r with
  | error e => exact (hq : False).elim
  | ok fl =>
    cases fl with
    | ret u => exact I1.after hq
    | next => exact False.elim hq
    | brk => exact False.elim hq
    | cont => exact False.elim hq
/-- repr of data -/
def DpL (K : PySem.W.Frag) (v : V) (d : PyData) (L : LH) : Prop := ∀ H, Holds L H → Dp K H v d
theorem noDict_of : ∀ {K : PySem.W.Frag} {H : Hp} (d : PyData) {v : V}, Dp K H v d → d.hasDict = false
  | _, _, .none, _, _ => rfl
  | _, _, .bool _, _, _ => rfl
  | _, _, .int _, _, _ => rfl
  | _, _, .str _, _, _ => rfl
  | K, H, .list ds, v, h => by
    cases h with
    | lst _ hd => exact noDictAll ds hd
  | K, H, .tuple ds, v, h => by
    cases h with
    | tup _ hd => exact noDictAll ds hd
  | _, _, .dict _, _, h => nomatch h
where noDictAll : ∀ {K : PySem.W.Frag} {H : Hp} (ds : List PyData) {vs : List V}, DpAll K H vs ds → PyData.hasDictAll ds = false
  | _, _, [], _, _ => rfl
  | K, H, d :: ds, _, .cons h hs => by
    show (d.hasDict || PyData.hasDictAll ds) = false
    rw [noDict_of d h, noDictAll ds hs]
    rfl
theorem wc_reprD {v : V} {d : PyData} (hgd : X.A.guards = some []) (hu : X.A.units + (d.depth + 1) < cLine) (hd : DpL X.K v d L) (hs : d.showable = true) (hz : d.shown.length ≤ sizeLine) (k : K (.str d.shown) L) : WC X (.builtin "repr") [v] L K := by
  intro H hL pins s σ us I r1
  cases r1 with
  | cons r rr =>
    cases rr
    have h := hd H hL
    have fin : ∀ (s' : Shared) (tk : Tok), Inv X pins σ H s' → EP X pins σ (QE K) (.str d.shown tk) s' := fun s' tk J => ⟨.str d.shown, H, J, ⟨tk, rfl⟩, L, hL, k⟩
    obtain ⟨as, rd⟩ := Dp.reads I d v _ h r
    have nd := noDict_of d h
    cases h with
    | non => cases r; exact PySem.P.repr_of_none (fin _ _ (I.tok _))
    | bl b => cases r; exact PySem.P.repr_of_bool (by have := fin _ s.toks (I.tok (s.toks + 1)); rw [PyData.shown_bool] at this; exact this)
    | int i => obtain ⟨t, rfl⟩ := r; exact PySem.P.repr_of_int (by simpa [PyData.showable] using hs) (by have := fin _ s.toks (I.tok (s.toks + 1)); rw [PyData.shown_int] at this; exact this)
    | str x => obtain ⟨t, rfl⟩ := r; exact PySem.P.repr_of_str (by have := fin _ s.toks (I.tok (s.toks + 1)); rw [PyData.shown_str] at this; exact this) (by rw [PyData.shown_str] at hz; exact hz)
    | lst _ _ => cases r; exact repr_of_reads' rd hs (fun z => by rw [nd] at z; cases z) hgd hu (fun _ _ z => z) (fun h' u tk kp => fin _ _ (I.kept kp)) hz
    | tup _ _ => cases r; exact repr_of_reads' rd hs (fun z => by rw [nd] at z; cases z) hgd hu (fun _ _ z => z) (fun h' u tk kp => fin _ _ (I.kept kp)) hz
end
end N3

set_option Elab.async false
set_option linter.all false
set_option maxRecDepth 100000
set_option maxHeartbeats 4000000
namespace N3
open PySem PySem.Spec L2
section
variable {X : Cx} {e a b l tg iter : Expr} {es : List Expr} {st : Stmt} {sts body : List Stmt} {σ : L2.St} {L : LH} {K : V → LH → Prop} {KT : Bool → LH → Prop} {KA : List V → LH → Prop} {KS : L2.St → LH → Prop} {D : EndsL} {pos apos p : Pos} {x m f : Str}
def SqTL (K : PySem.W.Frag) (a : Addr) (xs : List V) (L : LH) : Prop := ∀ H, Holds L H → SqT K H a xs
theorem SqTL.of {K : PySem.W.Frag} {a : Addr} {xs : List V} {L : LH} (m : Mem a (.tup xs) L) : SqTL K a xs L := fun _ h => SqT.of (h.get m)
/-! ### items -/
theorem we_ixL (h : WE X a σ L fun x L1 => WE X b σ L1 fun y L2 => ∃ q xs i v, x = .ref q ∧ y = .int i ∧ SqLL X.K q xs L2 ∧ atI xs i = some v ∧ K v L2) (hs : PlainIx b := by intro _ _; rfl) : WE X (.Subscript a b pos) σ L K :=
  we_of (pe_ix ix_list pe_sem pe_sem hs) fun _ hL => e_then h hL fun _ _ _ h1 k1 => e_then k1 h1 fun _ L2 H2 h2 ⟨q, xs, i, v, ex, ey, sq, ha, k⟩ => ⟨q, xs, i, v, ex, ey, sq H2 h2, ha, L2, h2, k⟩
theorem we_ixT (h : WE X a σ L fun x L1 => WE X b σ L1 fun y L2 => ∃ q xs i v, x = .ref q ∧ y = .int i ∧ SqTL X.K q xs L2 ∧ atI xs i = some v ∧ K v L2) (hs : PlainIx b := by intro _ _; rfl) : WE X (.Subscript a b pos) σ L K :=
  we_of (pe_ix ix_tup pe_sem pe_sem hs) fun _ hL => e_then h hL fun _ _ _ h1 k1 => e_then k1 h1 fun _ L2 H2 h2 ⟨q, xs, i, v, ex, ey, sq, ha, k⟩ => ⟨q, xs, i, v, ex, ey, sq H2 h2, ha, L2, h2, k⟩
/-- o[i] = v of a list -/
theorem wg_setL {v : V} (h : WE X a σ L fun x L1 => WE X b σ L1 fun y L2 => ∃ q xs k j F, x = .ref q ∧ y = .int k ∧ Hole q (.lst xs) L2 F ∧ ixN xs.length k = some j ∧ KS σ (F (.lst (xs.set j v))))
    (ha : ∀ v, assign (.Subscript a b pos) X.env v = (do
      let ov ← holding [v] (eval a X.env)
      let iv ← holding [v, ov] (eval b X.env)
      standAt pos
      holding [v, ov, iv] (setItem ov iv v)
      release [v, ov, iv] []) := by intro _; rfl) : WG X (.Subscript a b pos) v σ L KS :=
  wg_of (pg_sub pe_sem pe_sem set_list ha) fun _ hL => e_then h hL fun _ _ _ h1 k1 => e_then k1 h1 fun _ L2 H2 h2 ⟨q, xs, k, j, F, ex, ey, hf, hj, kk⟩ =>
    ⟨q, xs, k, j, ex, ey, h2.at_ _ _ hf.mem, hj, _, h2.put hf, kk⟩
/-! ### lists -/
theorem wo_catL {p q : Addr} {xs ys : List V} (m : Mem p (.lst xs) L) (m2 : Mem q (.lst ys) L) (hl : xs.length + ys.length ≤ sizeLine) (k : ∀ r, K (.ref r) ((r, .lst (xs ++ ys)) :: L)) : WO X (binaryOp .Add) (.ref p) (.ref q) L K :=
  wo_of op_cat fun _ hL => ⟨p, q, xs, ys, rfl, rfl, hL.get m, hL.get m2, hl, fun r hr => ⟨_, hL.new hr, k r⟩⟩
theorem wc_all {q : Addr} {bs : List Bool} (hc : X.calm = true) (h : SqLL X.K q (bs.map V.bl) L) (k : K (.bl (bs.all id)) L) : WC X (.builtin "all") [.ref q] L K := wc_of (cr_all hc) fun H hL => ⟨q, bs, rfl, h H hL, L, hL, k⟩
theorem wo_eqD {v u : V} {d d' : PyData} (hu : X.A.units + 64 < cLine) (h1 : DpL X.K v d L) (h2 : DpL X.K u d' L) (s1 : SeqAt.shaped d = true) (s2 : SeqAt.shaped d' = true) (k : K (.bl (PyData.eqv d d')) L) : WO X (compareOp .Eq) v u L K :=
  wo_of (op_eqD hu) fun H hL => ⟨d, d', h1 H hL, h2 H hL, s1, s2, L, hL, k⟩
theorem wo_neD {v u : V} {d d' : PyData} (hu : X.A.units + 64 < cLine) (h1 : DpL X.K v d L) (h2 : DpL X.K u d' L) (s1 : SeqAt.shaped d = true) (s2 : SeqAt.shaped d' = true) (k : K (.bl (!PyData.eqv d d')) L) : WO X (compareOp .NotEq) v u L K :=
  wo_of (op_neD hu) fun H hL => ⟨d, d', h1 H hL, h2 H hL, s1, s2, L, hL, k⟩
/-! ### texts with braces -/
/-- the parts of an f-string, one behind the other -/
inductive WJ (X : Cx) (σ : L2.St) : List Expr → Str → LH → (Str → LH → Prop) → Prop where
  | nil {acc : Str} {L : LH} {Kj : Str → LH → Prop} (k : Kj acc L) : WJ X σ [] acc L Kj
  | cons {e : Expr} {es : List Expr} {acc : Str} {L : LH} {Kj : Str → LH → Prop} (y : Str) (L1 : LH) (h : WE X e σ L fun v L' => v = .str y ∧ L' = L1) (hl : (acc ++ y).length ≤ sizeLine) (r : WJ X σ es (acc ++ y) L1 Kj) : WJ X σ (e :: es) acc L Kj
theorem wj_pj {es : List Expr} {acc : Str} {Kj : Str → LH → Prop} (h : WJ X σ es acc L Kj) : PJ X es (es.map (SemE X)) ∧ ∀ H, Holds L H → tJs (es.map (SemE X)) acc σ H (fun y H' => ∃ L', Holds L' H' ∧ Kj y L') := by
  induction h with
  | nil k => exact ⟨.nil, fun H hL => ⟨_, hL, k⟩⟩
  | cons y L1 h hl _ ih => exact ⟨.cons pe_sem ih.1, fun H hL => e_then h hL fun v L' H' h' ⟨ev, el⟩ => by
      subst ev el
      exact ⟨y, rfl, hl, ih.2 H' h'⟩⟩
theorem we_joined {v1 v2 : Expr} (h : WJ X σ (v1 :: v2 :: es) Str.empty L fun y L' => K (.str y) L') : WE X (.JoinedStr (v1 :: v2 :: es) pos) σ L K :=
  we_of (pe_joined (wj_pj h).1) fun H hL => (wj_pj h).2 H hL
theorem we_fmtI (h : WE X e σ L fun v L1 => ∃ i : Int, v = .int i ∧ i.natAbs.log2 < 1920 ∧ K (.str (toString i)) L1) : WE X (.FormattedValue e (-1) none pos) σ L K :=
  we_of (pe_fmt pe_sem) fun _ hL => e_then h hL fun _ L1 _ h1 ⟨i, ev, hi, k⟩ => .inr ⟨i, ev, hi, L1, h1, k⟩
/-! ### loops -/
/-- where the loop's word stands: things may be forgotten on the way -/
def LoopNx (I : Nat → L2.St → LH → Prop) (i : Nat) : L2.St → LH → Prop := fun σ L => ∃ L', Sub L L' ∧ I i σ L'
theorem LoopNx.qs {I : Nat → L2.St → LH → Prop} {i : Nat} {σ : L2.St} {H : Hp} (h : QS (LoopNx I i) σ H) : QS (I i) σ H := by
  obtain ⟨L, hL, L', s, k⟩ := h
  exact ⟨L', s H hL, k⟩
def loopEnds (D : EndsL) (I : Nat → L2.St → LH → Prop) (i : Nat) : EndsL := ⟨LoopNx I i, D.rt, D.nx, LoopNx I i⟩
theorem loop_le {D : EndsL} {I : Nat → L2.St → LH → Prop} {i : Nat} : Ends.Le (loopEnds D I i).to { D.to with nx := QS (I i), ct := QS (I i), bk := D.to.nx } :=
  ⟨fun _ _ q => LoopNx.qs q, fun _ _ q => q, fun _ _ q => q, fun _ _ q => LoopNx.qs q⟩
theorem ws_forL (hc : X.calm = true) (hp : PassesOwn (model X.prog X.w) X.A X.env X.xe)
    (h : WE X l σ L fun x L1 => ∃ q xs, x = .ref q ∧ SqLL X.K q xs L1 ∧ ∃ I : Nat → L2.St → LH → Prop, I 0 σ L1 ∧ (∀ i σ' L', I i σ' L' → SqLL X.K q xs L') ∧
      (∀ i y σ' L', xs[i]? = some y → I i σ' L' → WG X tg y σ' L' fun σ2 L2 => WSs X body σ2 L2 (loopEnds D I (i + 1))) ∧ (∀ σ' L', I xs.length σ' L' → D.nx σ' L'))
    (hs : ∀ x, foldedSetIterable l X.env x = pure x := by intro _; rfl) : WS X (.For tg l body [] pos) σ L D :=
  ws_of (ps_for hp hc (pi_list pe_sem) pg_sem pss_sem hs) fun _ hL => e_then h hL fun _ L1 H1 h1 ⟨q, xs, ex, sq, I, i0, st, turn, fin⟩ =>
    ⟨q, ex, ⟨xs, sq H1 h1⟩, for_list (K := X.K) (a := q) (xs := xs) (fun i => QS (I i)) ⟨L1, h1, i0⟩ (fun i σ' H' _ ⟨L', h', k⟩ => st i σ' L' k H' h')
      (fun i y σ' H' hy ⟨L', h', k⟩ => g_then (turn i y σ' L' hy k) h' fun σ2 L2 H2 h2 k2 => (k2 H2 h2).mono loop_le) (fun σ' H' ⟨L', h', k⟩ => ⟨L', h', fin σ' L' k⟩)⟩
theorem ws_forT (hc : X.calm = true) (hp : PassesOwn (model X.prog X.w) X.A X.env X.xe)
    (h : WE X l σ L fun x L1 => ∃ q xs, x = .ref q ∧ SqTL X.K q xs L1 ∧ ∃ I : Nat → L2.St → LH → Prop, I 0 σ L1 ∧ (∀ i σ' L', I i σ' L' → SqTL X.K q xs L') ∧
      (∀ i y σ' L', xs[i]? = some y → I i σ' L' → WG X tg y σ' L' fun σ2 L2 => WSs X body σ2 L2 (loopEnds D I (i + 1))) ∧ (∀ σ' L', I xs.length σ' L' → D.nx σ' L'))
    (hs : ∀ x, foldedSetIterable l X.env x = pure x := by intro _; rfl) : WS X (.For tg l body [] pos) σ L D :=
  ws_of (ps_for hp hc (pi_tup pe_sem) pg_sem pss_sem hs) fun _ hL => e_then h hL fun _ L1 H1 h1 ⟨q, xs, ex, sq, I, i0, st, turn, fin⟩ =>
    ⟨q, ex, ⟨xs, sq H1 h1⟩, for_tup (K := X.K) (a := q) (xs := xs) (fun i => QS (I i)) ⟨L1, h1, i0⟩ (fun i σ' H' _ ⟨L', h', k⟩ => st i σ' L' k H' h')
      (fun i y σ' H' hy ⟨L', h', k⟩ => g_then (turn i y σ' L' hy k) h' fun σ2 L2 H2 h2 k2 => (k2 H2 h2).mono loop_le) (fun σ' H' ⟨L', h', k⟩ => ⟨L', h', fin σ' L' k⟩)⟩
theorem ws_forR (hc : X.calm = true) (hp : PassesOwn (model X.prog X.w) X.A X.env X.xe) (hm : X.mg "range" = none)
    (h : WA X [a] σ L fun vs L1 => ∃ j : Int, vs = [.int j] ∧ -(2 ^ 62) ≤ j ∧ j < 2 ^ 62 ∧ ∃ I : Nat → L2.St → LH → Prop, I 0 σ L1 ∧
      (∀ i σ' L', i < j.toNat → I i σ' L' → WG X tg (.int (0 + (i : Int))) σ' L' fun σ2 L2 => WSs X body σ2 L2 (loopEnds D I (i + 1))) ∧ (∀ σ' L', I j.toNat σ' L' → D.nx σ' L'))
    (hg : Gl X "range" := by rfl) (hst : starEach [a] X.env = [(false, eval a X.env)] := by rfl)
    (hs : ∀ x, foldedSetIterable (.Call (.Name "range" p) [a] [] apos) X.env x = pure x := by intro _; rfl) : WS X (.For tg (.Call (.Name "range" p) [a] [] apos) body [] pos) σ L D :=
  ws_of (ps_for hp hc (pi_range1 hg hm pa_sem hst) pg_sem pss_sem hs) fun _ hL => a_then h hL fun _ L1 H1 h1 ⟨j, ev, j0, j1, I, i0, turn, fin⟩ =>
    ⟨j, ev, j0, j1, for_range (lo := 0) (n := j.toNat) (fun i => QS (I i)) ⟨L1, h1, i0⟩
      (fun i σ' H' hi ⟨L', h', k⟩ => g_then (turn i σ' L' hi k) h' fun σ2 L2 H2 h2 k2 => (k2 H2 h2).mono loop_le) (fun σ' H' ⟨L', h', k⟩ => ⟨L', h', fin σ' L' k⟩)⟩
theorem ws_forZ {t : List Expr} {kk : Nat} {tpos : Pos} (hc : X.calm = true) (hp : PassesOwn (model X.prog X.w) X.A X.env X.xe) (hm : X.mg "zip" = none)
    (h : WA X [a, b] σ L fun vs L1 => ∃ q r xs ys, vs = [.ref q, .ref r] ∧ SqLL X.K q xs L1 ∧ SqLL X.K r ys L1 ∧ xs.length = ys.length ∧ ∃ I : Nat → L2.St → LH → Prop, I 0 σ L1 ∧ (∀ i σ' L', I i σ' L' → SqLL X.K q xs L' ∧ SqLL X.K r ys L') ∧
      (∀ i y z T σ' L', xs[i]? = some y → ys[i]? = some z → I i σ' L' → WG X (.Tuple t kk tpos) (.ref T) σ' ((T, .tup [y, z]) :: L') fun σ2 L2 => WSs X body σ2 L2 (loopEnds D I (i + 1))) ∧ (∀ σ' L', I xs.length σ' L' → D.nx σ' L'))
    (hg : Gl X "zip" := by rfl) (hst : starEach [a, b] X.env = (false, eval a X.env) :: starEach [b] X.env := by rfl) (hpl : (backTo apos (starEach [b] X.env)).any (·.1) = false := by rfl)
    (hs : ∀ x, foldedSetIterable (.Call (.Name "zip" p) [a, b] [] apos) X.env x = pure x := by intro _; rfl) : WS X (.For (.Tuple t kk tpos) (.Call (.Name "zip" p) [a, b] [] apos) body [] pos) σ L D :=
  ws_of (ps_for hp hc (pi_zip hg hm pa_sem hst hpl) pg_sem pss_sem hs) fun _ hL => a_then h hL fun _ L1 H1 h1 ⟨q, r, xs, ys, ev, s1, s2, hl, I, i0, st, turn, fin⟩ =>
    ⟨q, r, xs, ys, ev, s1 H1 h1, s2 H1 h1, RZ.for_zipL (K := X.K) hl (fun i => QS (I i)) ⟨L1, h1, i0⟩ (fun i σ' H' ⟨L', h', k⟩ => ⟨(st i σ' L' k).1 H' h', (st i σ' L' k).2 H' h'⟩)
      (fun i y z T σ' H' hy hz ⟨L', h', k⟩ hT => g_then (turn i y z T σ' L' hy hz k) (h'.new hT) fun σ2 L2 H2 h2 k2 => (k2 H2 h2).mono loop_le) (fun σ' H' ⟨L', h', k⟩ => ⟨L', h', fin σ' L' k⟩)⟩
/-- while: a word and a number that falls -/
theorem ws_while {c : Expr} (hp : PassesOwn (model X.prog X.w) X.A X.env X.xe) (I : Nat → L2.St → LH → Prop) {n : Nat} (h0 : I n σ L)
    (h : ∀ n σ' L', I n σ' L' → WT X c σ' L' fun t L1 => (t = true → WSs X body σ' L1 ⟨fun σ2 L2 => ∃ m, m < n ∧ LoopNx I m σ2 L2, D.rt, D.nx, fun σ2 L2 => ∃ m, m < n ∧ LoopNx I m σ2 L2⟩) ∧ (t = false → D.nx σ' L1)) :
    WS X (.While c body [] pos) σ L D :=
  ws_of (ps_while hp pt_sem pss_sem) fun H hL => ⟨fun n σ' H' => QS (I n) σ' H', ⟨n, L, hL, h0⟩, fun n σ' H' ⟨L', h', k⟩ => t_then (h n σ' L' k) h' fun t L1 H1 h1 kk => by
    cases t with
    | true => exact iteT ⟨fun σ2 H2 => ∃ m, m < n ∧ QS (I m) σ2 H2, fun _ _ q => q, (kk.1 rfl H1 h1).mono ⟨fun _ _ ⟨L2, h2, m, hm, q⟩ => ⟨m, hm, LoopNx.qs ⟨L2, h2, q⟩⟩, fun _ _ q => q, fun _ _ q => q, fun _ _ ⟨L2, h2, m, hm, q⟩ => ⟨m, hm, LoopNx.qs ⟨L2, h2, q⟩⟩⟩⟩
    | false => exact iteF ⟨L1, h1, kk.2 rfl⟩⟩
end
end N3

set_option Elab.async false
set_option linter.all false
set_option maxRecDepth 100000
set_option maxHeartbeats 4000000
namespace N3
open PySem PySem.Spec L2
section
variable {X : Cx} {e a b l tg elt : Expr} {es : List Expr} {σ : L2.St} {L : LH} {K : V → LH → Prop} {D : EndsL} {pos apos p : Pos} {x : Str} {scope : Scope} {own : List (Str × Nat)}
/-- the inner of a comprehension: in whatever block it runs -/
def SemEB (X : Cx) (scope : Scope) (e : Expr) : TE := fun σ H Q => ∀ (s : Shared) (H' : Hp) (C : Addr) (cl : List (Str × Addr)) (fp : List Addr), SemE (X.blk s H' scope (compEnvC scope cl C X.env) fp) e σ H Q
def SemGB (X : Cx) (scope : Scope) (e : Expr) : TG := fun v σ H Q => ∀ (s : Shared) (H' : Hp) (C : Addr) (cl : List (Str × Addr)) (fp : List Addr), SemG (X.blk s H' scope (compEnvC scope cl C X.env) fp) e v σ H Q
/-- one item's turn -/
def Turn1 (X : Cx) (scope : Scope) (own : List (Str × Nat)) (tg elt : Expr) (σ : L2.St) (D : Addr) (y : V) (L' : LH) (Nx : LH → Prop) : Prop :=
  ∀ (s : Shared) (H' : Hp) (C : Addr) (cl : List (Str × Addr)) (fp : List Addr), WG (X.blk s H' scope (compEnvC scope cl C X.env) fp) tg y (wipe σ (own.map (·.2))) L' fun σ2 L2 =>
    wipe σ2 (own.map (·.2)) = wipe σ (own.map (·.2)) ∧ ∀ (s : Shared) (H' : Hp) (C : Addr) (cl : List (Str × Addr)) (fp : List Addr), WE (X.blk s H' scope (compEnvC scope cl C X.env) fp) elt σ2 L2 fun z L3 =>
      ∃ acc F, Hole D (.lst acc) L3 F ∧ acc.length < sizeLine ∧ ∃ L4, Sub (F (.lst (acc ++ [z]))) L4 ∧ Nx L4
def QL (N : LH → Prop) : Hp → Prop := fun H => ∃ L, Holds L H ∧ N L
theorem turn1 {D : Addr} {y : V} {L' : LH} {Nx : LH → Prop} {H : Hp} (h : Turn1 X scope own tg elt σ D y L' Nx) (hL : Holds L' H) :
    SemGB X scope tg y (wipe σ (own.map (·.2))) H fun σ2 H2 => wipe σ2 (own.map (·.2)) = wipe σ (own.map (·.2)) ∧ tYes σ2 H2 fun b H3 =>
      if b = true then SemEB X scope elt σ2 H3 fun z H4 => ∃ acc, H4 D = some (.lst acc) ∧ acc.length < sizeLine ∧ QL Nx (upd H4 D (.lst (acc ++ [z]))) else QL Nx H3 := by
  intro s H' C cl fp
  refine g_then (h s H' C cl fp) hL fun σ2 L2 H2 h2 ⟨hw, k2⟩ => ⟨hw, ?_⟩
  show if true = true then SemEB X scope elt σ2 H2 (fun z H4 => ∃ acc, H4 D = some (.lst acc) ∧ acc.length < sizeLine ∧ QL Nx (upd H4 D (.lst (acc ++ [z])))) else QL Nx H2
  rw [if_pos rfl]
  intro s H' C cl fp
  refine e_then (k2 s H' C cl fp) h2 fun z L3 H3 h3 ⟨acc, F, hf, hl, L4, sb, nx⟩ => ?_
  exact ⟨acc, h3.at_ _ _ hf.mem, hl, L4, sb _ (h3.put hf), nx⟩
def LcL (X : Cx) (scope : Scope) (own : List (Str × Nat)) (tg elt : Expr) (σ : L2.St) (K : V → LH → Prop) (x : V) (L1 : LH) : Prop :=
  ∃ q xs, x = .ref q ∧ SqLL X.K q xs L1 ∧ ∀ D, ∃ I : Nat → LH → Prop, I 0 ((D, .lst []) :: L1) ∧ (∀ i L', I i L' → SqLL X.K q xs L') ∧ (∀ i y L', xs[i]? = some y → I i L' → Turn1 X scope own tg elt σ D y L' (I (i + 1))) ∧ (∀ L', I xs.length L' → K (.ref D) L')
theorem lcL (h : WE X l σ L (LcL X scope own tg elt σ K)) : ∀ H, Holds L H → tLc (iList X.K (SemE X l)) (SemGB X scope tg) tYes (SemEB X scope elt) (own.map (·.2)) σ H (QE K) := fun _ hL =>
  e_then h hL fun _ L1 H1 h1 ⟨q, xs, ex, sq, g⟩ => ⟨q, ex, ⟨xs, sq H1 h1⟩, fun D hD => by
    obtain ⟨I, i0, st, turn, fin⟩ := g D
    exact lc_list (K := X.K) (a := q) (xs := xs) (fun i => QL (I i)) ⟨_, h1.new hD, i0⟩ (fun i H' _ ⟨L', h', k⟩ => st i L' k H' h') (fun i y H' hy ⟨L', h', k⟩ => turn1 (turn i y L' hy k) h') (fun H' ⟨L', h', k⟩ => ⟨L', h', fin L' k⟩)⟩
def LcR (X : Cx) (scope : Scope) (own : List (Str × Nat)) (tg elt : Expr) (σ : L2.St) (K : V → LH → Prop) (vs : List V) (L1 : LH) : Prop :=
  ∃ j : Int, vs = [.int j] ∧ -(2 ^ 62) ≤ j ∧ j < 2 ^ 62 ∧ ∀ D, ∃ I : Nat → LH → Prop, I 0 ((D, .lst []) :: L1) ∧ (∀ i L', i < j.toNat → I i L' → Turn1 X scope own tg elt σ D (.int (0 + (i : Int))) L' (I (i + 1))) ∧ (∀ L', I j.toNat L' → K (.ref D) L')
theorem lcR (h : WA X [a] σ L (LcR X scope own tg elt σ K)) : ∀ H, Holds L H → tLc (iRng1 (SemA X [a])) (SemGB X scope tg) tYes (SemEB X scope elt) (own.map (·.2)) σ H (QE K) := fun _ hL =>
  a_then h hL fun _ L1 H1 h1 ⟨j, ev, j0, j1, g⟩ => ⟨j, ev, j0, j1, fun D hD => by
    obtain ⟨I, i0, turn, fin⟩ := g D
    exact lc_range (lo := 0) (n := j.toNat) (fun i => QL (I i)) ⟨_, h1.new hD, i0⟩ (fun i H' hi ⟨L', h', k⟩ => turn1 (turn i L' hi k) h') (fun H' ⟨L', h', k⟩ => ⟨L', h', fin L' k⟩)⟩
theorem peB {s : Shared} {H' : Hp} {C : Addr} {cl : List (Str × Addr)} {fp : List Addr} : PE (X.blk s H' scope (compEnvC scope cl C X.env) fp) e (SemEB X scope e) := ⟨fun pins s1 _ _ _ I h => h s H' C cl fp pins s1 I⟩
theorem pgB {s : Shared} {H' : Hp} {C : Addr} {cl : List (Str × Addr)} {fp : List Addr} : PG (X.blk s H' scope (compEnvC scope cl C X.env) fp) e (SemGB X scope e) := ⟨fun pins s1 _ _ _ u _ I r h => h s H' C cl fp pins s1 u I r⟩
theorem we_lcL (own : List (Str × Nat)) (hc : X.calm = true) (hN : X.N.Nodup) (ok : BlkOk X.N X.env.scope scope own) (h : WE X l σ L (LcL X scope own tg elt σ K)) (hs : ∀ x, foldedSetIterable l X.env x = pure x := by intro _; rfl) :
    WE X (.ListComp elt [⟨tg, l, [], 0⟩] scope pos) σ L K := we_of (pe_lc hc hN (pi_list pe_sem) ok (fun _ _ _ _ _ => pgB) (fun _ _ _ _ _ => pts_nil) (fun _ _ _ _ _ => peB) hs) (lcL h)
theorem we_lcR (own : List (Str × Nat)) (hc : X.calm = true) (hN : X.N.Nodup) (ok : BlkOk X.N X.env.scope scope own) (hm : X.mg "range" = none) (h : WA X [a] σ L (LcR X scope own tg elt σ K)) (hg : Gl X "range" := by rfl)
    (hst : starEach [a] X.env = [(false, eval a X.env)] := by rfl) (hs : ∀ x, foldedSetIterable (.Call (.Name "range" p) [a] [] apos) X.env x = pure x := by intro _; rfl) :
    WE X (.ListComp elt [⟨tg, .Call (.Name "range" p) [a] [] apos, [], 0⟩] scope pos) σ L K := we_of (pe_lc hc hN (pi_range1 hg hm pa_sem hst) ok (fun _ _ _ _ _ => pgB) (fun _ _ _ _ _ => pts_nil) (fun _ _ _ _ _ => peB) hs) (lcR h)
/-- y = [..] -/
theorem ws_setLcL (own : List (Str × Nat)) (i : Nat) {y : Str} {py : Pos} {cpos : Pos} (hc : X.calm = true) (hN : X.N.Nodup) (hy : X.N[i]? = some y) (hyl : X.env.scope.names.lookup y = some .local) (ok : BlkOk X.N X.env.scope scope own)
    (hsw : swapsWith (.ListComp elt [⟨tg, l, [], 0⟩] scope cpos) (some (.Name y py)) pos.line X.env = pure true) (h : WE X l σ L (LcL X scope own tg elt σ fun v L' => D.nx (σ.set i (some v)) L')) (hs : ∀ x, foldedSetIterable l X.env x = pure x := by intro _; rfl) :
    WS X (.Assign [.Name y py] (.ListComp elt [⟨tg, l, [], 0⟩] scope cpos) pos) σ L D :=
  ws_of (ps_setLc hc hN hy hyl hsw (pi_list pe_sem) ok (fun _ _ _ _ _ => pgB) (fun _ _ _ _ _ => pts_nil) (fun _ _ _ _ _ => peB) hs) (lcL h)
theorem ws_setLcR (own : List (Str × Nat)) (i : Nat) {y : Str} {py : Pos} {cpos : Pos} (hc : X.calm = true) (hN : X.N.Nodup) (hy : X.N[i]? = some y) (hyl : X.env.scope.names.lookup y = some .local) (ok : BlkOk X.N X.env.scope scope own)
    (hsw : swapsWith (.ListComp elt [⟨tg, .Call (.Name "range" p) [a] [] apos, [], 0⟩] scope cpos) (some (.Name y py)) pos.line X.env = pure true) (hm : X.mg "range" = none) (h : WA X [a] σ L (LcR X scope own tg elt σ fun v L' => D.nx (σ.set i (some v)) L')) (hg : Gl X "range" := by rfl)
    (hst : starEach [a] X.env = [(false, eval a X.env)] := by rfl) (hs : ∀ x, foldedSetIterable (.Call (.Name "range" p) [a] [] apos) X.env x = pure x := by intro _; rfl) :
    WS X (.Assign [.Name y py] (.ListComp elt [⟨tg, .Call (.Name "range" p) [a] [] apos, [], 0⟩] scope cpos) pos) σ L D :=
  ws_of (ps_setLc hc hN hy hyl hsw (pi_range1 hg hm pa_sem hst) ok (fun _ _ _ _ _ => pgB) (fun _ _ _ _ _ => pts_nil) (fun _ _ _ _ _ => peB) hs) (lcR h)
end
end N3

set_option Elab.async false
set_option linter.all false
set_option maxRecDepth 100000
set_option maxHeartbeats 4000000
namespace N3
open PySem PySem.Spec L2 PySem.W PySem.Calls
open PyProof.Rows hiding St
/-- what is known at the law's entry: the script alone -/
def ScriptOf (K : PySem.W.Frag) (a : Addr) (ns : List Int) (L : LH) : Prop := (L = [] ∧ ∀ H, SqL K H a (ns.map V.int)) ∨ ∃ ob, L = [(a, .frz ob (.lst (ns.map V.int)))]
theorem law_callG {P : Program} {w : World} {K : PySem.W.Frag} {mg mb : Str → Option Value} {k : Nat} {fa a : Addr} {fd : FuncData} {x : Str} {pre : Pre} {s₁ : Shared} {vs : List Value} {ns : List Int}
    (KX : K.In s₁.heap) (hns : s₁.heap.Ns mainGlobals mg) (hb : s₁.heap.Ns builtinsNs mb) (hbb : ∀ x : Str, x ≠ "__name__" → mb x = bootBuiltins x) (hlim : s₁.heap.NoLimit) (hg : s₁.gens = #[])
    (ha : s₁.heap.get? a = some { cls := .type "list", data := .seq vs.toArray }) (hi : IntsAre vs ns) (hl : ns.length ≤ sizeLine) (hr : Room k callerA)
    (F : ∀ base : Heap, K.In base → base.Ns mainGlobals mg → FnG P w K mg base k fa fd [x] pre) (hbind : ∀ (s : Shared) (u : Value), BindsTo s fd ⟨[u], []⟩ [(x, u)])
    (hsp : ∀ L, ScriptOf K a ns L → pre [.ref a] L fun v _ => v = .bl true) :
    codeAny (model P w) callerA (.call (.ref fa) ⟨[.ref a], []⟩) (fun r s' => r = .ok (.ret (.bool true)) ∧ OldK s₁.heap s'.heap ∧ s'.os = s₁.os ∧ AllBare s'.gens) s₁ := by
  have rv := vals_ints hi
  -- H tracks at most the script, which never changes; L is that
  have main : ∀ (H : Hp) (L : LH), Holds L H → ScriptOf K a ns L → (∀ b, H b ≠ none → b = a ∧ K.lookup a = none ∧ ∃ o xs, H b = some (.frz o (.lst xs))) → HOk P w H s₁.heap →
      codeAny (model P w) callerA (.call (.ref fa) ⟨[.ref a], []⟩) (fun r s' => r = .ok (.ret (.bool true)) ∧ OldK s₁.heap s'.heap ∧ s'.os = s₁.os ∧ AllBare s'.gens) s₁ := by
    intro H L hL hS only ok
    have free : ∀ b, b ≠ a → H b = none := fun b n => by
      cases q : H b with
      | none => rfl
      | some u => exact absurd (only b (by rw [q]; exact fun z => by cases z)).1 n
    have hid : ∀ {b : Addr} {o : Obj}, b ≠ a → s₁.heap.get? b = some o → (hidT s₁.heap H).get? b = some o := fun n e => hidT_get e (free _ n)
    have dictNe : ∀ {b : Addr} {o : Obj} {es : Array DictEntry} {ep : Nat}, s₁.heap.get? b = some o → o.data = .dict es ep → b ≠ a := fun {b o es ep} e d z => by
      subst z
      rw [ha] at e
      cases e
      cases d
    have nsOf : ∀ {b : Addr} {m : Str → Option Value}, s₁.heap.Ns b m → (hidT s₁.heap H).Ns b m := fun ⟨o, es, ep, e, d, r⟩ => ⟨o, es, ep, hid (dictNe e d) e, d, r⟩
    have inK : K.In (hidT s₁.heap H) := fun b o e => by
      cases q : H b with
      | none => exact hidT_get (KX b o e) q
      | some u =>
        obtain ⟨e1, e2, _⟩ := only b (by rw [q]; exact fun z => by cases z)
        subst e1
        rw [e2] at e
        cases e
    have md : Mod K mg (hidT s₁.heap H) := ⟨inK, nsOf hns, ⟨mb, nsOf hb, hbb⟩, by
      obtain ⟨mc, h1, h2⟩ := hlim
      exact ⟨mc, nsOf h1, h2⟩⟩
    have e0 : Env0 P w K mg (hidT s₁.heap H) callerA [] s₁ H := ⟨rfl, md, fun b o e => of_hidT e, Nat.le_of_eq (hidT_size _ _), trivial, fun b z => (List.not_mem_nil z).elim, ok, .of_eq hg⟩
    have run := (F _ inK (nsOf hns)).run callerA [] s₁ H ⟨[.ref a], []⟩ [.ref a] [.ref a] L _ hr rfl e0 (hbind s₁ (.ref a)) (.cons rfl .nil) hL (hsp L hS)
    refine codeAny_mono run fun r s' h => ?_
    cases r with
    | error e => exact (h : False).elim
    | ok fl =>
      cases fl with
      | next => exact False.elim h
      | brk => exact False.elim h
      | cont => exact False.elim h
      | ret u =>
        obtain ⟨v, H', os, bare, un, ok', r', _, _, e⟩ := h
        subst e
        cases r'
        refine ⟨rfl, OldK.of_keep fun b o e => ?_, os, bare⟩
        cases q : H b with
        | none => exact un.keep b o e q (fun z => (List.not_mem_nil z).elim) (fun z => (List.not_mem_nil z).elim)
        | some u =>
          obtain ⟨_, _, ob, xs, z⟩ := only b (by rw [q]; exact fun z => by cases z)
          obtain ⟨e1, _⟩ := ok b _ z
          obtain ⟨e2, _⟩ := ok' b _ (un.frzs b ob _ z)
          rw [e1] at e
          cases e
          exact e2
  cases hk : K.lookup a with
  | some o =>
    have e := KX a o hk
    rw [ha] at e
    cases e
    have hs : ∀ H, SqL K H a (ns.map V.int) := fun H => .inr ⟨_, vs.toArray, _, hk, rfl, rfl, rfl, by rw [List.size_toArray, hi.length]; exact hl, by simpa using rv⟩
    exact main (fun _ => none) [] ⟨List.nodup_nil, fun _ _ z => (List.not_mem_nil z).elim⟩ (.inl ⟨rfl, hs⟩) (fun b z => absurd rfl z) fun b u z => by cases (show (none : Option HO) = some u from z)
  | none =>
    let ob : Obj := { cls := .type "list", data := .seq vs.toArray }
    have at_a : ∀ (H : Hp), H = (fun b => if b = a then some (.frz ob (.lst (ns.map V.int))) else none) → H a = some (.frz ob (.lst (ns.map V.int))) := fun H e => by rw [e]; exact if_pos rfl
    refine main (fun b => if b = a then some (.frz ob (.lst (ns.map V.int))) else none) [(a, .frz ob (.lst (ns.map V.int)))] ⟨List.nodup_cons.mpr ⟨List.not_mem_nil, List.nodup_nil⟩, fun b o m => ?_⟩ (.inr ⟨ob, rfl⟩) (fun b z => ?_) fun b u z => ?_
    · cases m with
      | head => exact if_pos rfl
      | tail _ m => exact (List.not_mem_nil m).elim
    · by_cases n : b = a
      · exact ⟨n, hk, ob, _, if_pos n⟩
      · exact absurd (if_neg n) z
    · by_cases n : b = a
      · subst n
        have z2 := (if_pos rfl).symm.trans z
        cases z2
        exact ⟨ha, by rw [List.length_map]; exact hl, vs, _, rv, ha⟩
      · have z2 := (if_neg n).symm.trans z
        cases z2
theorem walk_G {l : PySem.W.OpenLaw} {n k : Nat} {q : Program} {loose : List Str} {XP : (Str → Option Value) → Heap → Prop} {YP : World → Heap → Prop} {d : DefRec} {K : Params → PySem.W.Frag} {pre : PySem.W.Frag → Pre} {x : Str}
    (hn : l.most = some n) (hn2 : n ≤ sizeLine) (hdf : d.params.defaults = []) (hr : Room k callerA) (hY : ∀ (w : World) (h : Heap), YP w h → (K w.params).In h)
    (F : ∀ (w : World) (mg : Str → Option Value) (fa : Addr) (h : Heap), (K w.params).In h → h.Ns mainGlobals mg → mg d.name = some (.ref fa) →
      ∃ fd : FuncData, (∀ (s : Shared) (u : Value), BindsTo s fd ⟨[u], []⟩ [(x, u)]) ∧ ∀ base : Heap, (K w.params).In base → base.Ns mainGlobals mg → FnG l.prog w (K w.params) mg base k fa fd [x] (pre (K w.params)))
    (hsp : ∀ (w : World) (L : LH) (a : Addr) (ns : List Int), ns.length ≤ n → ScriptOf (K w.params) a ns L → pre (K w.params) [.ref a] L fun v _ => v = .bl true) :
    PySem.W.WalkO q loose XP YP l.row.toRowW d [] (fun f vs => PySem.call f vs) := by
  refine Att.attach_call hn hdf fun w s₀ s₁ mg mb fa o pm cd doc a vs ns G Y ho hd hcd hmg hobj hints hlen hg => ?_
  obtain ⟨fd, hb, hF⟩ := F w mg fa _ (hY w _ Y) G.T.g hmg
  exact law_callG (hY w _ Y) G.T.g G.T.b G.T.builtins G.T.nolimit hg hobj hints (Nat.le_trans hlen hn2) hr hF hb fun L hS => hsp w L a ns hlen hS
end N3

set_option Elab.async false
set_option linter.all false
set_option maxRecDepth 100000
set_option maxHeartbeats 4000000
namespace N3
open PySem PySem.Spec L2
open PyProof.Rows (envOfC)
/-! ### what is asked of a body's names, once -/
inductive At (x : Str) : List Str → Nat → Prop where
  | head {l : List Str} : At x (x :: l) 0
  | tail {y : Str} {l : List Str} {i : Nat} : At x l i → At x (y :: l) (i + 1)
inductive InS (x : Str) : List Str → Prop where
  | head {l : List Str} : InS x (x :: l)
  | tail {y : Str} {l : List Str} : InS x l → InS x (y :: l)
theorem At.get {x : Str} {l : List Str} {i : Nat} (h : At x l i) : l[i]? = some x := by
  induction h with
  | head => rfl
  | tail _ ih => rw [List.getElem?_cons_succ]; exact ih
theorem At.mem {x : Str} {l : List Str} {i : Nat} (h : At x l i) : x ∈ l := List.mem_of_getElem? h.get
def visB (sc : Scope) (x : Str) : Bool := (match sc.names.lookup x with | some .local => true | some .cell => true | some .free => true | _ => false) && !(x == "__debug__") && !(x == "__classdict__")
def locB (sc : Scope) (x : Str) : Bool := match sc.names.lookup x with | some .local => true | _ => false
def gloB (sc : Scope) (x : Str) : Bool := (match sc.names.lookup x with | some .globalImplicit => true | _ => false) && decide (x ≠ "__name__") && !(x == "__debug__")
def scopeB (N : List Str) (sc : Scope) (Vn Ln Gn : List Str) : Bool := decide N.Nodup && Vn.all (visB sc) && Ln.all (locB sc) && Gn.all (gloB sc)
structure XOk (N : List Str) (sc : Scope) (Vn Ln Gn : List Str) (X : Cx) : Prop where
  hN : X.N = N
  hsc : X.env.scope = sc
  ok : scopeB N sc Vn Ln Gn = true
  calm : X.calm = true
  pas : PassesOwn (model X.prog X.w) X.A X.env X.xe
section
variable {N Vn Ln Gn : List Str} {sc : Scope} {X : Cx} {x : Str} {i j : Nat}
theorem XOk.all (h : XOk N sc Vn Ln Gn X) : N.Nodup ∧ (∀ x ∈ Vn, visB sc x = true) ∧ (∀ x ∈ Ln, locB sc x = true) ∧ ∀ x ∈ Gn, gloB sc x = true := by
  have o := h.ok
  unfold scopeB at o
  simp only [Bool.and_eq_true, decide_eq_true_eq, List.all_eq_true] at o
  obtain ⟨⟨⟨a, b⟩, c⟩, d⟩ := o
  exact ⟨a, b, c, d⟩
theorem XOk.nd (h : XOk N sc Vn Ln Gn X) : X.N.Nodup := by rw [h.hN]; exact h.all.1
theorem XOk.ix (h : XOk N sc Vn Ln Gn X) (a : At x N i) : X.N[i]? = some x := by rw [h.hN]; exact a.get
theorem XOk.vis (h : XOk N sc Vn Ln Gn X) (a : At x Vn j) : Vis X.env.scope x ∧ (x == ("__debug__" : Str)) = false ∧ (x == ("__classdict__" : Str)) = false := by
  have v := h.all.2.1 x a.mem
  rw [h.hsc]
  unfold visB at v
  simp only [Bool.and_eq_true, Bool.not_eq_true'] at v
  obtain ⟨⟨v, d1⟩, d2⟩ := v
  refine ⟨?_, d1, d2⟩
  unfold Vis
  split at v
  · rename_i e; exact .inl e
  · rename_i e; exact .inr (.inl e)
  · rename_i e; exact .inr (.inr e)
  · cases v
theorem XOk.loc (h : XOk N sc Vn Ln Gn X) (a : At x Ln j) : X.env.scope.names.lookup x = some .local := by
  have v := h.all.2.2.1 x a.mem
  rw [h.hsc]
  unfold locB at v
  split at v
  · rename_i e; exact e
  · cases v
theorem XOk.glo (h : XOk N sc Vn Ln Gn X) (a : At x Gn j) : Gl X x ∧ x ≠ "__name__" ∧ (x == ("__debug__" : Str)) = false := by
  have v := h.all.2.2.2 x a.mem
  unfold gloB at v
  simp only [Bool.and_eq_true, Bool.not_eq_true', decide_eq_true_eq] at v
  obtain ⟨⟨v, d1⟩, d2⟩ := v
  refine ⟨?_, d1, d2⟩
  show X.env.scope.names.lookup x = some .globalImplicit
  rw [h.hsc]
  split at v
  · rename_i e; exact e
  · cases v
theorem XOk.blk {scope : Scope} {Vb Lb Gb : List Str} (h : XOk N sc Vn Ln Gn X) (hb : scopeB N (relS scope sc) Vb Lb Gb = true) (s : Shared) (H : Hp) (C : Addr) (cl : List (Str × Addr)) (fp : List Addr) :
    XOk N (relS scope sc) Vb Lb Gb (X.blk s H scope (compEnvC scope cl C X.env) fp) := ⟨h.hN, by rw [← h.hsc]; rfl, hb, h.calm, PassesOwn.never⟩
end
section
variable {P : Program} {w : World} {K : PySem.W.Frag} {mg : Str → Option Value} {base : Heap}
theorem fnX {x qual : Str} {st : Stmt} {f : Addr} {fd : FuncData} {N ps Gn : List Str} {k : Nat} {pre : Pre} (F : Fun K x qual st f fd) (S : FnScope N ps (defScope st)) (ok : scopeB N (defScope st) N N Gn = true) (len : ∀ vs L Kk, pre vs L Kk → vs.length = ps.length)
    (body : ∀ (X : Cx), X.prog = P → X.w = w → X.K = K → X.mg = mg → X.base = base → XOk N (defScope st) N N Gn X → Room k X.A → ∀ vs L Kk, pre vs L Kk → WSs X (defBody st) (start N vs) L (EndOf Kk)) : FnOk P w K mg base CX0 (k + 1) f fd ps (SpL pre) :=
  fnL F S len fun cdv A outer s H vs E L Kk hr hp => body _ rfl rfl rfl rfl rfl ⟨rfl, rfl, ok, rfl, PassesOwn.never⟩ hr vs L Kk hp
theorem fnXG {x qual : Str} {st : Stmt} {f : Addr} {fd : FuncData} {N ps Gn : List Str} {k : Nat} {pre : Pre} (F : Fun K x qual st f fd) (S : FnScope N ps (defScope st)) (ok : scopeB N (defScope st) N N Gn = true) (len : ∀ vs L Kk, pre vs L Kk → vs.length = ps.length)
    (body : ∀ (X : Cx), X.prog = P → X.w = w → X.K = K → X.mg = mg → X.base = base → XOk N (defScope st) N N Gn X → Room k X.A → X.A.guards = some [] → ∀ vs L Kk, pre vs L Kk → WSs X (defBody st) (start N vs) L (EndOf Kk)) : FnG P w K mg base (k + 1) f fd ps pre :=
  fnG F S len fun cdv A outer s H vs E L Kk hr hg hp => body _ rfl rfl rfl rfl rfl ⟨rfl, rfl, ok, rfl, PassesOwn.never⟩ hr hg vs L Kk hp
end
/-! ### the rules, over XOk -/
section
variable {N Vn Ln Gn : List Str} {sc : Scope} {X : Cx} {i j : Nat} {e a b l tg elt : Expr} {es : List Expr} {sts body : List Stmt} {σ : L2.St} {L : LH} {K : V → LH → Prop} {KS : L2.St → LH → Prop} {D : EndsL} {pos apos p : Pos} {x m f : Str} {C : Addr} {k : Nat} {ps : List Str} {dvs : List V} {pre : Pre}
theorem x_name {v : V} (h : XOk N sc Vn Ln Gn X) (a : At x N i) (c : At x Vn j) (hσ : σ[i]? = some (some v)) (k : K v L) : WE X (.Name x pos) σ L K := we_name i (h.ix a) (h.vis c).1 hσ k (h.vis c).2.1 (h.vis c).2.2
theorem x_glob {v : V} {u : Value} (h : XOk N sc Vn Ln Gn X) (a : At x Gn i) (hm : X.mg x = some u) (r : RelV v u) (k : K v L) : WE X (.Name x pos) σ L K := we_glob hm r k (h.glo a).1 (h.glo a).2.2
theorem x_bltn {v : V} {u : Value} (h : XOk N sc Vn Ln Gn X) (a : At x Gn i) (hm : X.mg x = none) (hv : bootBuiltins x = some u) (r : RelV v u) (k : K v L) : WE X (.Name x pos) σ L K := we_bltn hm hv r k (h.glo a).1 (h.glo a).2.1 (h.glo a).2.2
theorem x_set {pos' : Pos} (h : XOk N sc Vn Ln Gn X) (a : At x N i) (c : At x Ln j) (q : WE X e σ L fun v L1 => D.nx (σ.set i (some v)) L1) (hs : swapsWith e (some (.Name x pos')) pos.line X.env = pure false := by rfl) : WS X (.Assign [.Name x pos'] e pos) σ L D :=
  ws_set i q h.nd (h.ix a) (.inl (h.loc c)) hs (.inr (h.loc c))
theorem x_tgt {v : V} (h : XOk N sc Vn Ln Gn X) (a : At x N i) (c : At x Ln j) (k : KS (σ.set i (some v)) L) : WG X (.Name x pos) v σ L KS := wg_name i k h.nd (h.ix a) (.inl (h.loc c)) (.inr (h.loc c))
theorem x_tup {q : Addr} {vs : List V} {kk : Nat} (h : XOk N sc Vn Ln Gn X) (m : Mem q (.tup vs) L) (g : WGs X es vs σ L KS) (hl : vs.length = es.length := by rfl) (hn : (assignEach es X.env).length = es.length := by rfl) (hst : (assignEach es X.env).findIdx? (·.1) = none := by rfl) :
    WG X (.Tuple es kk pos) (.ref q) σ L KS := wg_tup h.calm m g hl hn hst
theorem x_call (h : XOk N sc Vn Ln Gn X) (g : At x Gn i) (G : GFn X.prog X.w X.K X.mg X.base x k ps dvs pre) (hr : Room k X.A) (q : WA X (e :: es) σ L fun vs L1 => pre (vs ++ dvs) L1 K)
    (he : starEach (e :: es) X.env = (false, eval e X.env) :: starEach es X.env := by rfl) (hpl : (backTo pos (starEach es X.env)).any (·.1) = false := by rfl) : WE X (.Call (.Name x p) (e :: es) [] pos) σ L K := we_call G hr q (h.glo g).1 (h.glo g).2.2 he hpl
theorem x_callG (h : XOk N sc Vn Ln Gn X) (g : At x Gn i) (G : GFg X.prog X.w X.K X.mg X.base x k ps dvs pre) (hr : Room k X.A) (hgd : X.A.guards = some []) (q : WA X (e :: es) σ L fun vs L1 => pre (vs ++ dvs) L1 K)
    (he : starEach (e :: es) X.env = (false, eval e X.env) :: starEach es X.env := by rfl) (hpl : (backTo pos (starEach es X.env)).any (·.1) = false := by rfl) : WE X (.Call (.Name x p) (e :: es) [] pos) σ L K := we_callG G hr hgd q (h.glo g).1 (h.glo g).2.2 he hpl
theorem x_make (h : XOk N sc Vn Ln Gn X) (g : At x Gn i) (G : GMk X.prog X.w X.K X.mg X.base x C k ps dvs pre) (hr : Room (k + 1) X.A) (q : WA X (e :: es) σ L fun vs L1 => ∀ o dx, pre (.ref o :: (vs ++ dvs)) ((o, .ins C dx []) :: L1) fun v L2 => v = .non ∧ K (.ref o) L2)
    (he : starEach (e :: es) X.env = (false, eval e X.env) :: starEach es X.env := by rfl) (hpl : (backTo pos (starEach es X.env)).any (·.1) = false := by rfl) : WE X (.Call (.Name x p) (e :: es) [] pos) σ L K := we_make G hr q (h.glo g).1 (h.glo g).2.2 he hpl
theorem x_callB {id : String} (h : XOk N sc Vn Ln Gn X) (g : At x Gn i) (hm : X.mg x = none) (hv : bootBuiltins x = some (.builtin id)) (q : WA X (e :: es) σ L fun vs L1 => WC X (.builtin id) vs L1 K)
    (he : starEach (e :: es) X.env = (false, eval e X.env) :: starEach es X.env := by rfl) (hpl : (backTo pos (starEach es X.env)).any (·.1) = false := by rfl) : WE X (.Call (.Name x p) (e :: es) [] pos) σ L K := we_callB hm hv q (h.glo g).1 (h.glo g).2.1 (h.glo g).2.2 he hpl
theorem x_callTy {T : String} (h : XOk N sc Vn Ln Gn X) (g : At x Gn i) (hm : X.mg x = none) (hv : bootBuiltins x = some (.type T)) (q : WA X (e :: es) σ L fun vs L1 => WC X (.type T) vs L1 K)
    (he : starEach (e :: es) X.env = (false, eval e X.env) :: starEach es X.env := by rfl) (hpl : (backTo pos (starEach es X.env)).any (·.1) = false := by rfl) : WE X (.Call (.Name x p) (e :: es) [] pos) σ L K := we_callTy hm hv q (h.glo g).1 (h.glo g).2.1 (h.glo g).2.2 he hpl
theorem x_callFn {id : String} (h : XOk N sc Vn Ln Gn X) (g : At x Gn i) (hm : X.mg x = some (.builtin id)) (q : WA X (e :: es) σ L fun vs L1 => WC X (.builtin id) vs L1 K)
    (he : starEach (e :: es) X.env = (false, eval e X.env) :: starEach es X.env := by rfl) (hpl : (backTo pos (starEach es X.env)).any (·.1) = false := by rfl) : WE X (.Call (.Name x p) (e :: es) [] pos) σ L K := we_callFn hm q (h.glo g).1 (h.glo g).2.2 he hpl
theorem x_setF {f : Str} {pos' : Pos} (h : WE X b σ L fun y L1 => WE X a σ L1 fun z L2 => ∃ o C dx fs F, z = .ref o ∧ Hole o (.ins C dx fs) L2 F ∧ Cls X.K C ∧ NoAttr X.K C f ∧ fs.length < 1000 ∧ D.nx σ (F (.ins C dx (putF f y fs))))
    (hs : swapsWith b (some (.Attribute a f pos')) pos.line X.env = pure false := by rfl) : WS X (.Assign [.Attribute a f pos'] b pos) σ L D :=
  ws_of (ps_fld pe_sem pe_sem hs) fun _ hL => e_then h hL fun _ _ _ h1 k1 => e_then k1 h1 fun _ _ _ h2 ⟨o, C, dx, fs, F, ez, hf, c, n, hl, k⟩ => ⟨o, C, dx, fs, ez, h2.at_ _ _ hf.mem, c, n, hl, _, h2.put hf, k⟩
end
end N3
namespace N3
open PySem PySem.Spec L2
section
variable {P : Program} {w : World} {K : PySem.W.Frag} {mg : Str → Option Value} {base : Heap}
/-- a def with defaults -/
theorem fnXD {x qual : Str} {st : Stmt} {f : Addr} {fd : FuncData} {N ps Gn : List Str} {k : Nat} {pre : Pre} {dvs : List V} (F : FunD K x qual (defArgs st) (defBody st) (defScope st) dvs [] f fd) (S : FnScope N ps (defScope st)) (ok : scopeB N (defScope st) N N Gn = true)
    (len : ∀ vs L Kk, pre vs L Kk → vs.length = ps.length)
    (body : ∀ (X : Cx), X.prog = P → X.w = w → X.K = K → X.mg = mg → X.base = base → XOk N (defScope st) N N Gn X → Room k X.A → ∀ vs L Kk, pre vs L Kk → WSs X (defBody st) (start N vs) L (EndOf Kk)) : FnOk P w K mg base CX0 (k + 1) f fd ps (SpL pre) := by
  refine F.ok S (fun vs H Q E h => ?_) (fun cdv A outer s H vs Q E hr h => ?_)
  · obtain ⟨L, Kk, _, hp, _⟩ := h
    exact len vs L Kk hp
  · obtain ⟨L, Kk, hL, hp, hk⟩ := h
    have b := body (cxOf CX0 P w K mg base N qual (defScope st) f cdv A outer s H E).nox rfl rfl rfl rfl rfl ⟨rfl, rfl, ok, rfl, PassesOwn.never⟩ hr vs L Kk hp
    refine ⟨_, PSs.nox pss_sem, (b H hL).mono ⟨fun σ H' q => ?_, fun v H' q => hk v H' q.sub, fun _ _ q => ?_, fun _ _ q => ?_⟩⟩
    · obtain ⟨L1, h1, L2, s2, k2⟩ := q
      exact hk _ _ ⟨L2, s2 _ h1, k2⟩
    · obtain ⟨_, _, q⟩ := q
      exact q.elim
    · obtain ⟨_, _, q⟩ := q
      exact q.elim
end
/-! ### steps, by the syntax -/
theorem ret_sub {v : V} {L L' : LH} {K : V → LH → Prop} (k : K v L') (s : Sub L L') : (EndOf K).rt v L := ⟨L', s, k⟩
theorem nx_sub {σ : L2.St} {L L' : LH} {K : V → LH → Prop} (k : K .non L') (s : Sub L L') : (EndOf K).nx σ L := ⟨L', s, k⟩
end N3

set_option Elab.async false
set_option linter.all false
set_option maxRecDepth 100000
set_option maxHeartbeats 4000000
namespace N3
open PySem PySem.Spec L2 ClX StX
section
variable {P : Program} {w : World} {K : PySem.W.Frag} {mg : Str → Option Value} {base : Heap}
/-- def f(a, .., *v) -/
def preStar (n : Nat) (pre : Pre) : Pre := fun vs L Kk => ∃ ws rest, vs = ws ++ rest ∧ ws.length = n ∧ rest.length ≤ sizeLine ∧ ∀ p, pre (ws ++ [.ref p]) ((p, .tup rest) :: L) Kk
theorem fnStar {x qual pv : Str} {st : Stmt} {f : Addr} {fd : FuncData} {N ps Gn : List Str} {k : Nat} {pre : Pre} (F : Fun K x qual st f fd) (S : FnScope N (ps ++ [pv]) (defScope st)) (ok : scopeB N (defScope st) N N Gn = true)
    (hb : ∀ (kV doc pm : Value) (an : Option Addr) (cdv ct : Value) (us rest : List Value), us.length = ps.length → bindArgs (PySem.W.fnOf x qual (defArgs st) (defBody st) (defScope st) .none kV doc pm an cdv ct) ⟨us ++ rest, []⟩ = (newTuple rest >>= fun t => pure (ps.zip us ++ [(pv, t)])))
    (body : ∀ (X : Cx), X.prog = P → X.w = w → X.K = K → X.mg = mg → X.base = base → XOk N (defScope st) N N Gn X → Room k X.A → ∀ vs L Kk, pre vs L Kk → WSs X (defBody st) (start N vs) L (EndOf Kk)) :
    FnR P w K mg base CX0 (k + 1) f (SpL (preStar ps.length pre)) := by
  obtain ⟨oc, od, kV, doc, pm, an, cdv, ct, osl, rfl, lk, hcd⟩ := F.ex
  refine (fn_star (sp := SpL pre) lk hcd S cxUp_none (hb kV doc pm an cdv ct) (fun A outer s H vs Q E hr h => ?_)).imp fun vs H Q E h => ?_
  · obtain ⟨L, Kk, hL, hp, hk⟩ := h
    have b := body (cxOf CX0 P w K mg base N qual (defScope st) f cdv A outer s H E).nox rfl rfl rfl rfl rfl ⟨rfl, rfl, ok, rfl, PassesOwn.never⟩ hr vs L Kk hp
    refine ⟨_, PSs.nox pss_sem, (b H hL).mono ⟨fun σ H' q => ?_, fun v H' q => hk v H' q.sub, fun _ _ q => ?_, fun _ _ q => ?_⟩⟩
    · obtain ⟨L1, h1, L2, s2, k2⟩ := q
      exact hk _ _ ⟨L2, s2 _ h1, k2⟩
    · obtain ⟨_, _, q⟩ := q
      exact q.elim
    · obtain ⟨_, _, q⟩ := q
      exact q.elim
  · obtain ⟨L, Kk, hL, ⟨ws, rest, ev, hl, hz, hp⟩, hk⟩ := h
    exact ⟨ws, rest, ev, hl, hz, fun p hp' => ⟨_, Kk, hL.new hp', hp p, hk⟩⟩
/-- a classmethod of the class at C, called off the class -/
structure GCm (P : Program) (w : World) (K : PySem.W.Frag) (mg : Str → Option Value) (base : Heap) (C : Addr) (m : Str) (k : Nat) (pre : Pre) : Prop where
  ex : ∃ mc p g, CRead K C mc ∧ CMet K C mc m p g ∧ FnR P w K mg base CX0 k g (SpL pre)
end
section
variable {N Vn Ln Gn : List Str} {sc : Scope} {X : Cx} {i j : Nat} {e a b : Expr} {es : List Expr} {σ : L2.St} {L : LH} {K : V → LH → Prop} {pos apos p : Pos} {x m : Str} {C : Addr} {k : Nat} {ps : List Str} {dvs : List V} {pre : Pre}
theorem we_cmeth {pl : Sem Bool} (G : GCm X.prog X.w X.K X.mg X.base C m k pre) (hr : Room k X.A) (h : WE X a σ L fun x L1 => x = .ref C ∧ WA X (e :: es) σ L1 fun vs L2 => pre (.ref C :: vs) L2 K)
    (hst : starEach (e :: es) X.env = (false, eval e X.env) :: starEach es X.env := by rfl) (hpl : (backTo pos (starEach es X.env)).any (·.1) = false := by rfl)
    (ht : eval (.Call (.Attribute a m apos) (e :: es) [] pos) X.env = (do
      let ov ← eval a X.env
      standAt apos.atName
      let (f, first) ← holding [ov] (getMethod ov m pl)
      callWith pos f first (backTo pos (starEach (e :: es) X.env)) (backToKw pos (keywordEach [] X.env))) := by rfl) : WE X (.Call (.Attribute a m apos) (e :: es) [] pos) σ L K := by
  obtain ⟨mc, p, g, r, c, F⟩ := G.ex
  exact we_of (pe_cmeth (E := E0) (pl := pl) pe_sem r c F hr pass0 pa_sem hst hpl ht) fun _ hL => e_then h hL fun _ _ _ h1 ⟨ex, k1⟩ => ⟨ex, a_then k1 h1 fun vs L2 _ h2 k2 => ⟨L2, K, h2, k2, fun _ _ q => q⟩⟩
theorem we_cmeth0 {pl : Sem Bool} (G : GCm X.prog X.w X.K X.mg X.base C m k pre) (hr : Room k X.A) (h : WE X a σ L fun x L1 => x = .ref C ∧ pre [.ref C] L1 K)
    (ht : eval (.Call (.Attribute a m apos) [] [] pos) X.env = (do
      let ov ← eval a X.env
      standAt apos.atName
      let (f, first) ← holding [ov] (getMethod ov m pl)
      callWith pos f first (backTo pos (starEach [] X.env)) (backToKw pos (keywordEach [] X.env))) := by rfl) : WE X (.Call (.Attribute a m apos) [] [] pos) σ L K := by
  obtain ⟨mc, p, g, r, c, F⟩ := G.ex
  intro H hL pins s I
  refine PySem.W.methodCall_KW (pl := pl) (thn (h H hL pins s I) fun u s1 ⟨x, H1, I1, rx, L1, h1, ex, q⟩ => ?_) ht
  subst ex
  cases rx
  refine getmethcm_ok I1 r c fun s2 I2 => ?_
  refine PySem.W.callWith_M0 (first := []) ⟨pin_at I2, I2.kIn⟩ c.fi ?_
  exact run_cm (vs := []) (us := []) F hr pass0 I2 .nil ⟨L1, K, h1, q, fun _ _ z => z⟩
/-- x(e, ..), x a local name that holds a class -/
theorem x_makeL {cn : Str} (h : XOk N sc Vn Ln Gn X) (g : At x N i) (c : At x Vn j) (hσ : σ[i]? = some (some (.ref C))) (G : GMk X.prog X.w X.K X.mg X.base cn C k ps dvs pre) (hr : Room (k + 1) X.A)
    (q : WA X (e :: es) σ L fun vs L1 => ∀ o dx, pre (.ref o :: (vs ++ dvs)) ((o, .ins C dx []) :: L1) fun v L2 => v = .non ∧ K (.ref o) L2)
    (he : starEach (e :: es) X.env = (false, eval e X.env) :: starEach es X.env := by rfl) (hpl : (backTo pos (starEach es X.env)).any (·.1) = false := by rfl) : WE X (.Call (.Name x p) (e :: es) [] pos) σ L K := by
  obtain ⟨f, fd, ds, F, hm, M, hb, hd⟩ := G.ex
  intro H hL pins s I
  refine wpAny_Call_Name_kw (thn ((pe_var (pos := p) (h.ix g) (h.vis c).1 (h.vis c).2.1 (h.vis c).2.2).run pins s σ H (fun v H1 => v = .ref C ∧ H1 = H) I ⟨.ref C, hσ, rfl, rfl⟩) fun u s1 ⟨v, H1, I1, r1, q1⟩ => ?_)
  obtain ⟨rfl, rfl⟩ := q1
  cases r1
  refine PySem.W.callWith_K (h₀ := X.base) I.ok.mod.kin M.kp (thn (q _ hL pos pins s1 I1) fun us s2 ⟨vs, H2, I2, r, L1, h1, k1⟩ => ⟨I2.kIn, ?_⟩) he hpl
  refine run_make (E := E0) M F hr hb hd pass0 I2 r fun o dx ho hdx ne => ?_
  have z2 := (h1.new (o := .own o) hdx).new (p := o) (o := .ins C dx []) (by rw [upd_ne ne.symm]; exact ho)
  exact ⟨_, fun v L2 => v = .non ∧ K (.ref o) L2, z2.drop1, k1 o dx, fun v H' ⟨L2, h2, ev, qq⟩ => ⟨ev, L2, h2, qq⟩⟩
end
end N3

set_option Elab.async false
set_option linter.all false
set_option maxRecDepth 100000
set_option maxHeartbeats 4000000
namespace N3
open PySem PySem.Spec L2
theorem Hole.self {a : Addr} {o : HO} {L : LH} {F : HO → LH} (h : Hole a o L F) : F o = L := by
  induction h with
  | head => rfl
  | tail _ ih => exact congrArg (_ :: ·) ih
theorem Hole.again {a : Addr} {o : HO} {L : LH} {F : HO → LH} (h : Hole a o L F) (o' : HO) : Hole a o' (F o') F := by
  induction h with
  | head => exact .head
  | tail _ ih => exact .tail ih
section
variable {N Vn Ln Gn : List Str} {sc : Scope} {X : Cx} {i j i' j' : Nat} {a b : Expr} {σ : L2.St} {L : LH} {D : EndsL} {pos : Pos} {x y : Str}
/-- x, y = a, b -/
theorem x_par {px py pt : Pos} {kt k2 : Nat} {pt2 : Pos} (h : XOk N sc Vn Ln Gn X) (a1 : At x N i) (c1 : At x Ln i') (a2 : At y N j) (c2 : At y Ln j') (hij : i ≠ j)
    (q : WE X a σ L fun v L1 => WE X b σ L1 fun w L2 => D.nx ((σ.set i (some v)).set j (some w)) L2)
    (hw : ∀ env : Env, env.scope = sc → swappedStores [.Tuple [.Name x px, .Name y py] kt pt] (.Tuple [a, b] k2 pt2) env = pure (some [x, y]) := by intro env e; cases env with | mk => dsimp only at e; subst e; rfl)
    (e1 : starEach [a, b] X.env = (false, eval a X.env) :: starEach [b] X.env := by rfl) (e2 : starEach [b] X.env = (false, eval b X.env) :: starEach [] X.env := by rfl)
    (hs : swapsWithSole [.Tuple [.Name x px, .Name y py] kt pt] (.Tuple [a, b] k2 pt2) pos.line X.env = pure false := by rfl) : WS X (.Assign [.Tuple [.Name x px, .Name y py] kt pt] (.Tuple [a, b] k2 pt2) pos) σ L D :=
  ws_of (ps_par h.calm h.nd (h.ix a1) (h.ix a2) hij (h.loc c1) (h.loc c2) (pa_cons pe_sem (pa_cons pe_sem pa_nil e2) e1) (hw X.env h.hsc) hs) fun _ hL => e_then q hL fun v _ _ h1 k1 => e_then k1 h1 fun w L2 _ h2 k2 => ⟨v, w, rfl, L2, h2, k2⟩
end
end N3

set_option Elab.async false
set_option linter.all false
set_option maxRecDepth 100000
set_option maxHeartbeats 4000000
namespace L2
open PySem PySem.Spec PyProof.Rows
/-- X() of an own class without own __init__ -/
theorem n3_pmk_own0 {X : Cx} {C : Addr} {bmB : List Value} {B newId initId : String} {x : Str} {p pos : Pos} (F : ExcBaseFacts B newId initId bmB) (q : PySem.W.excIn X.K C bmB newId = true) (gC : X.mg x = some (.ref C)) (kC : PySem.W.keepIn X.K (.ref C) = true) (r : Raises X (.ref C)) (hg : Gl X x)
    (hdb : (x == ("__debug__" : Str)) = false) : PMk X (.Call (.Name x p) [] [] pos) (fun _ H Q => Q (.ref C) none H) := by
  intro pins s σ H Q I h
  refine wpAny_Call_Name_kw (ld_glob I hg gC ?_ hdb)
  refine PySem.W.callWith_K0 I.kIn kC ?_
  obtain ⟨bm, N, nm, qn, bs, hdct, sn, sub, ab, col, dd, k0, k1, k2, k3, k5, mN, hC, hN, hni, T⟩ := exc_obj I.kIn q
  refine wpAny_call_exc_subT F T hC hN hni (fun h' e hm => ?_) (Nat.zero_le _)
  exact mk_of I hm r h (I.hok.gone hm.new)
end L2
namespace N3
open PySem PySem.Spec L2
open PyProof.Rows (envOfC)
/-- a promise with what it may let out: the class, and what is known then -/
abbrev PreX := List V → LH → (V → LH → Prop) → (Value → Option Addr → LH → Prop) → Prop
def SpXL (pre : PreX) : Sp := fun vs H Q E => ∃ L K KX, Holds L H ∧ pre vs L K KX ∧ (∀ v H', QE K v H' → Q v H') ∧ ∀ cls d L' H', Holds L' H' → KX cls d L' → E cls d H'
/-- what is let out, as a wish -/
def OutW (KX : Value → Option Addr → LH → Prop) : WX := fun cls d _ H => ∃ L, Holds L H ∧ KX cls d L
section
variable {P : Program} {w : World} {K : PySem.W.Frag} {mg : Str → Option Value} {base : Heap}
theorem fnXE {x qual : Str} {st : Stmt} {f : Addr} {fd : FuncData} {N ps Gn : List Str} {k : Nat} {pre : PreX} (F : Fun K x qual st f fd) (S : FnScope N ps (defScope st)) (ok : scopeB N (defScope st) N N Gn = true) (len : ∀ vs L Kk KX, pre vs L Kk KX → vs.length = ps.length)
    (body : ∀ (X : Cx), X.prog = P → X.w = w → X.K = K → X.mg = mg → X.base = base → XOk N (defScope st) N N Gn X → Room k X.A → ∀ vs L Kk KX, Takes X (OutW KX) → pre vs L Kk KX → WSs X (defBody st) (start N vs) L (EndOf Kk)) :
    FnOk P w K mg base (L2.CX P w) (k + 1) f fd ps (SpXL pre) := by
  refine F.okX S (fun vs H Q E h => ?_) (fun cdv A outer s H vs Q E hr h => ?_)
  · obtain ⟨L, Kk, KX, _, hp, _⟩ := h
    exact len vs L Kk KX hp
  · obtain ⟨L, Kk, KX, hL, hp, hk, hx⟩ := h
    have tk : Takes (cxOf (L2.CX P w) P w K mg base N qual (defScope st) f cdv A outer s H E) (OutW KX) := (takes_of (E := E) rfl rfl rfl rfl).imp fun c d _ H' ⟨L', h', q⟩ => hx c d L' H' h' q
    refine ⟨_, pss_sem, ((body (cxOf (L2.CX P w) P w K mg base N qual (defScope st) f cdv A outer s H E) rfl rfl rfl rfl rfl ⟨rfl, rfl, ok, rfl, passes_of rfl⟩ hr vs L Kk KX tk hp) H hL).mono ⟨fun σ H' q => ?_, fun v H' q => hk v H' q.sub, fun _ _ q => ?_, fun _ _ q => ?_⟩⟩
    · obtain ⟨L1, h1, L2, s2, k2⟩ := q
      exact hk _ _ ⟨L2, s2 _ h1, k2⟩
    · obtain ⟨_, _, q⟩ := q
      exact q.elim
    · obtain ⟨_, _, q⟩ := q
      exact q.elim
/-- a method that may let something out -/
structure GMX (P : Program) (w : World) (K : PySem.W.Frag) (mg : Str → Option Value) (base : Heap) (C : Addr) (m : Str) (k : Nat) (ps : List Str) (pre : PreX) : Prop where
  ex : ∃ f fd, FnOk P w K mg base (L2.CX P w) k f fd ps (SpXL pre) ∧ Cls K C ∧ Meth K C m f ∧ Binds K fd ps []
/-- what a try asks of its place -/
structure Tries (X : Cx) : Prop where
  st : X.stack = X.env :: X.outer
  fr : X.env.frame = some X.env.locals
theorem fnXGT {x qual : Str} {st : Stmt} {f : Addr} {fd : FuncData} {N ps Gn : List Str} {k : Nat} {pre : Pre} (F : Fun K x qual st f fd) (S : FnScope N ps (defScope st)) (ok : scopeB N (defScope st) N N Gn = true) (len : ∀ vs L Kk, pre vs L Kk → vs.length = ps.length)
    (body : ∀ (X : Cx), X.prog = P → X.w = w → X.K = K → X.mg = mg → X.base = base → XOk N (defScope st) N N Gn X → Room k X.A → X.A.guards = some [] → Tries X → ∀ vs L Kk, pre vs L Kk → WSs X (defBody st) (start N vs) L (EndOf Kk)) : FnG P w K mg base (k + 1) f fd ps pre :=
  fnG F S len fun cdv A outer s H vs E L Kk hr hg hp => body _ rfl rfl rfl rfl rfl ⟨rfl, rfl, ok, rfl, PassesOwn.never⟩ hr hg ⟨rfl, rfl⟩ vs L Kk hp
end
section
variable {X : Cx} {e a b : Expr} {es : List Expr} {st : Stmt} {sts body : List Stmt} {σ : L2.St} {L : LH} {K : V → LH → Prop} {KT : Bool → LH → Prop} {D : EndsL} {pos apos p np pos' : Pos} {x m n : Str} {C : Addr} {k i : Nat} {ps : List Str} {pre : PreX} {W : WX}
/-- o.m(e, ..), what it lets out told -/
theorem we_methX {pl : Sem Bool} {KX : Value → Option Addr → LH → Prop} (tk : Takes X W) (G : GMX X.prog X.w X.K X.mg X.base C m k ps pre) (hr : Room k X.A) (hx : ∀ cls d L' H', Holds L' H' → KX cls d L' → W cls d σ H')
    (h : WE X a σ L fun x L1 => ∃ o dx fs, x = .ref o ∧ Mem o (.ins C dx fs) L1 ∧ fs.lookup m = none ∧ WA X (e :: es) σ L1 fun vs L2 => pre (.ref o :: vs) L2 K KX)
    (hst : starEach (e :: es) X.env = (false, eval e X.env) :: starEach es X.env := by rfl) (hpl : (backTo pos (starEach es X.env)).any (·.1) = false := by rfl)
    (ht : eval (.Call (.Attribute a m apos) (e :: es) [] pos) X.env = (do
      let ov ← eval a X.env
      standAt apos.atName
      let (f, first) ← holding [ov] (getMethod ov m pl)
      callWith pos f first (backTo pos (starEach (e :: es) X.env)) (backToKw pos (keywordEach [] X.env))) := by rfl) : WE X (.Call (.Attribute a m apos) (e :: es) [] pos) σ L K := by
  obtain ⟨f, fd, F, hc, hm, hb⟩ := G.ex
  intro H hL pins s I
  refine PySem.W.methodCall_KW (pl := pl) (thn (h H hL pins s I) fun u s1 ⟨x, H1, I1, rx, L1, h1, o, dx, fs, ex, mm, hl, q⟩ => ?_) ht
  subst ex
  obtain rfl : u = Value.ref o := rx
  refine getmeth_ok I1 (h1.get mm) hc hm hl ?_
  refine PySem.W.callWith_K (first := [.ref o]) (h₀ := X.base) I.ok.mod.kin hm.kp (thn (q H1 h1 pos pins s1 I1) fun us s2 ⟨vs, H2, I2, r, L2', h2, q2⟩ => ⟨I2.kIn, ?_⟩) hst hpl
  exact run_fnS (us := .ref o :: us) (vs := .ref o :: vs) F hr hb (passAt tk σ) I2 (.cons rfl r) ⟨L2', K, _, h2, q2, fun _ _ z => z, fun cls d L' H' h' z => hx cls d L' H' h' z⟩
theorem takes_never {X : Cx} : Takes X (fun _ _ _ _ => False) := fun _ _ ⟨_, _, _, _, _, _, _, _, _, _, _, _, _, _, _, _, z⟩ => z.elim
/-- raise X(), X an own class -/
theorem ws_raise0 {B newId initId : String} {bmB : List Value} {KX : Value → Option Addr → LH → Prop} (hc : X.calm = true) (tk : Takes X (OutW KX)) (F : ExcBaseFacts B newId initId bmB) (q : PySem.W.excIn X.K C bmB newId = true) (gC : X.mg x = some (.ref C)) (kC : PySem.W.keepIn X.K (.ref C) = true) (r : Raises X (.ref C))
    (hg : Gl X x) (hdb : (x == ("__debug__" : Str)) = false) (k : KX (.ref C) none L) : WS X (.Raise (some (.Call (.Name x p) [] [] pos)) none pos') σ L D :=
  ws_of (ps_raise hc tk (n3_pmk_own0 F q gC kC r hg hdb)) fun _ hL => ⟨L, hL, k⟩
/-- what the clause 'except x as n' wishes, as it is met -/
def WAs (X : Cx) (c : Value) (i : Nat) (suite : List Stmt) (D : EndsL) (Wout : WX) : WX := wAs X.K c i (fun a cls d D' σ' H' => ∀ oe pn, Zc cls d oe → (∃ vs, oe.data = .fields vs) → SemSs (X.suite a ((a, oe) :: pn)) suite D' σ' H') Wout D.to
def unset (D : EndsL) (i : Nat) : EndsL := ⟨fun σ L => D.nx (σ.set i none) L, D.rt, fun σ L => D.bk (σ.set i none) L, fun σ L => D.ct (σ.set i none) L⟩
theorem wAs_ok {c : Value} {suite : List Stmt} {Wout : WX} {cls : Value} {d : Option Addr} {H : Hp} (hL : Holds L H) (hb : PySem.W.exmOne X.K cls c = some true)
    (h : ∀ a oe pn, Zc cls d oe → (∃ vs, oe.data = .fields vs) → WSs (X.suite a ((a, oe) :: pn)) suite (σ.set i (some (.ref a))) L (unset D i)) : WAs X c i suite D Wout cls d σ H :=
  ⟨true, hb, fun _ a _ oe pn hz hf => (h a oe pn hz hf H hL).mono ⟨fun _ _ q => q, fun _ _ q => q, fun _ _ q => q, fun _ _ q => q⟩, fun z => Bool.noConfusion z⟩
/-- try: body, except x as n: suite -/
theorem ws_tryAs {c : Value} {b₀ : Stmt} {suite : List Stmt} {Wout : WX} (T : Tries X) (hN : X.N.Nodup) (hi : X.N[i]? = some n) (hln : X.env.kindOf n = some .local) (hc : Names X x c) (tk : Takes X Wout)
    (hb : ∀ (pn : List (Addr × Obj)) (xe : Value → Shared → Prop), Takes (X.tr pn xe) (WAs X c i (b₀ :: suite) D Wout) → PassesOwn (model X.prog X.w) X.A X.env xe → WSs (X.tr pn xe) body σ L D) :
    WS X (.Try body [.ExceptHandler (some (.Name x np)) (some n) (b₀ :: suite) pos'] [] [] pos) σ L D :=
  ws_of (ps_try_as (tb := fun W D' σ' H' => ∀ (pn : List (Addr × Obj)) (xe : Value → Shared → Prop), Takes (X.tr pn xe) W → PassesOwn (model X.prog X.w) X.A X.env xe → SemSs (X.tr pn xe) body D' σ' H')
      (ts := fun a cls d D' σ' H' => ∀ oe pn, Zc cls d oe → (∃ vs, oe.data = .fields vs) → SemSs (X.suite a ((a, oe) :: pn)) (b₀ :: suite) D' σ' H') T.st T.fr hN hi hln hc tk
      (fun W pn xe t p => ⟨fun pins s σ' H' D' I h => h pn xe t p pins s I⟩) fun a oe cls d pn hz hf => ⟨fun pins s σ' H' D' I h => h oe pn hz hf pins s I⟩)
    fun H hL pn xe t p => hb pn xe t p H hL
end
end N3

set_option Elab.async false
set_option linter.all false
set_option maxRecDepth 100000
set_option maxHeartbeats 4000000
namespace PySem.W
open PySem PySem.Calls PyProof.Rows
section
variable {prog : Program} {w : World} {A : Around} {E : Value → Shared → Prop} {s : Shared} {K : Frag} {x C f : Addr} {ox : Obj} {od : Option Obj} {b : Nat}
/-- an item's own __repr__, below a list's -/
theorem n3_under {Q : Str → Shared → Prop} (hb : b ≤ sizeLine) (hu : A.units < cLine) (X : K.In s.heap) (I : InstAt s.heap x ox C od) (hs : findIn K (.ref C) "__repr__" = some (some (.ref f))) (hf : isFn K (.ref f) = true)
    (h : wpAny (model prog w) A (call (.ref f) [.ref x]) (fun v s' => ∃ y u, v = .str y u ∧ Q y s') E s) : wpAny (model prog w) A (pyReprUnder b (.ref x)) Q E s := by
  refine wpAny_pyReprUnder_ref hb ?_
  unfold pyReprObjUnder pyReprObjBy
  refine wpAny_bind (wpAny_cRoomFor hu ?_)
  refine wpAny_bind (wpAny_bind (I.type.here ((looks_findIn X hs).here ?_)))
  show wpAny _ _ (if (some (Value.ref f)).isNone = true then _ else _) _ _ _
  rw [if_neg (by simp)]
  have inner : wpAny (model prog w) A (callSpecialIfBoundBy? (fun g first => match reprUnder? g, first with | some twin, [self] => call twin [self, rawInt b] | _, _ => call g (first ++ [])) (.ref x) "__repr__")
      (fun r s' => ∃ y u, r = some (.str y u) ∧ Q y s') E s := by
    simp only [callSpecialIfBoundBy?, bindSpecialIfBound?]
    refine wpAny_holding (wpAny_bind (wpAny_bind (wpAny_bind (I.type.here ((looks_findIn X hs).here ?_)))))
    refine wpAny_bind (wpAny_askSetting (wpAny_ite ?_))
    have fin : wpAny (model prog w) A (call (.ref f) [.ref x] >>= fun v => pure (some v)) (fun r s' => ∃ y u, r = some (.str y u) ∧ Q y s') E s := wpAny_bind (wpAny_mono h (fun v s' ⟨y, u, e, q⟩ => wpAny_pure ⟨y, u, by rw [e], q⟩) fun _ _ h' => h')
    split
    · exact wpAny_bind ((bind_fn X _ (beq_iff_eq.mp hf)).here (wpAny_pure (by exact fin)))
    · exact wpAny_tryCatch (wpAny_bind ((bind_fn X _ (beq_iff_eq.mp hf)).here (wpAny_pure (by exact fin))))
  refine wpAny_bind (wpAny_mono inner (fun r s' hr => ?_) fun _ _ y => y)
  obtain ⟨y, u, rfl, q⟩ := hr
  exact wpAny_bind (wpAny_isInstance (T := "str") (b := true) rfl isSubtype_str_str (wpAny_pure ⟨y, u, rfl, q⟩))
end
end PySem.W
namespace N3
open PySem PySem.Spec L2
theorem room_loop {k : Nat} {A : Around} (r : Room (k + 1) A) (args : Args) : Room k (A.under (.builtin "list.__repr__.loop" args)) := by
  have d : (A.under (.builtin "list.__repr__.loop" args)).depth = A.depth + 1 := by first | rfl | simp [Around.under, Code.weight, Code.isCreation, Code.isGuard, Code.isCaller, Code.frames, Code.isFrame, guardIds]
  have u := units_under_list_loop A args
  refine ⟨r.hd, ?_, ?_⟩
  · have := r.dp
    rw [d]
    omega
  · have := r.un
    rw [u]
    omega
theorem strs_of : ∀ {l : List Str} {its : List Value}, Vals (l.map V.str) its → ∃ done : List (Str × Tok), its = strValues done ∧ done.map (·.1) = l
  | [], _, .nil => ⟨[], rfl, rfl⟩
  | x :: l, _, .cons r t => by
    obtain ⟨tk, rfl⟩ := r
    obtain ⟨done, e1, e2⟩ := strs_of t
    exact ⟨(x, tk) :: done, by rw [e1]; rfl, by rw [List.map_cons, e2]⟩
/-- where the loop of a list's repr stands -/
def LoopR (X : Cx) (pins : List (Addr × Obj)) (σ : L2.St) (L : LH) (P : Addr) (ts : List Str) (i : Nat) (s : Shared) : Prop := ∃ H, Inv X pins σ H s ∧ Holds ((P, .lst ((ts.take i).map V.str)) :: L) H
/-- the items: instances with an own __repr__ -/
def Shows (X : Cx) (C : Addr) (pre : Pre) (L : LH) (xs : List V) (ts : List Str) : Prop :=
  xs.length = ts.length ∧ ∀ (i : Nat) (x : V), xs[i]? = some x → ∃ o dx fs t, x = .ref o ∧ Mem o (.ins C dx fs) L ∧ ts[i]? = some t ∧ ∀ p, pre [.ref o] (p :: L) fun v L1 => v = .str t ∧ L1 = p :: L
theorem repr_loop {X : Cx} {pins : List (Addr × Obj)} {σ : L2.St} {L : LH} {a P C : Addr} {xs : List V} {ts : List Str} {k : Nat} {ps : List Str} {pre : Pre} {A : Around} {R : Result → Shared → Prop}
    (G : GOp X.prog X.w X.K X.mg X.base C "__repr__" k ps pre) (hr : Room (k + 1) A) (hA : A.frames = X.A.frames) (m : Mem a (.lst xs) L) (sh : Shows X C pre L xs ts) (hsz : (listText ts).length ≤ sizeLine)
    (hRe : ∀ e s', X.xe e s' → R (.error e) s') (fin : ∀ s' u, LoopR X pins σ L P ts ts.length s' → R (.ok (.ret (.str (listText ts) u))) s') :
    ∀ (n i : Nat) (s : Shared), ts.length - i = n → i ≤ ts.length → LoopR X pins σ L P ts i s →
      codeAny (model X.prog X.w) A (.builtin "list.__repr__.loop" ⟨[.ref a, rawInt i, .ref P, rawInt ((piled (ts.take i) : Nat) : Int)], []⟩) R s := by
  have hp3 := piled_le_listText ts
  have hsz2 : ∀ t ∈ ts, t.length ≤ sizeLine := fun t ht => Nat.le_trans (listText_mem_le ht) hsz
  have hsz1 : ts.length ≤ sizeLine := by
    have h1 := (textFrom_len ts 0 "[").1
    rw [if_neg (Nat.lt_irrefl 0)] at h1
    have hX : (listText ts).length = (textFrom 0 "[" ts).length + 1 := by
      show (textFrom 0 "[" ts ++ "]").length = _
      rw [strLen_append]; rfl
    omega
  intro n
  induction n with
  | zero =>
    intro i s hn hi ⟨H, I, hL⟩
    have hin : i = ts.length := by omega
    subst hin
    obtain ⟨za, its, na, ra, ea⟩ := I.hok a _ (hL.get (.tail m))
    obtain ⟨zP, itp, np, rp, eP⟩ := I.hok P _ (hL.get .head)
    obtain ⟨done, e1, e2⟩ := strs_of rp
    refine codeAny_builtin F.entry_list_repr_loop ?_
    show wpAny _ _ (Builtin.«list.__repr__.loop» ⟨[.ref a, .int ts.length 0, .ref P, .int ((piled (ts.take ts.length) : Nat) : Int) 0], []⟩) _ _ s
    rw [repr_loop_tree]
    refine wpAny_bind (wpAny_listItems ea rfl ?_)
    have hnone : its.toArray[((ts.length : Nat) : Int).toNat]? = none := by
      have := ra.length
      have := sh.1
      simp
      omega
    simp only [hnone]
    unfold reprEnd
    refine wpAny_bind (wpAny_listItems eP rfl ?_)
    have e3 : itp.toArray.toList = strValues done := by rw [← e1]
    rw [e3, repr_fold]
    refine wpAny_bind (wpAny_pure ?_)
    have hall : done.map (·.1) = ts := by rw [e2, List.take_length]
    rw [hall]
    refine wpAny_bind (wpAny_mkStr (wpAny_pure ?_) hsz)
    exact fin _ _ ⟨H, I.tok _, hL⟩
  | succ n ih =>
    intro i s hn hi ⟨H, I, hL⟩
    have hlt : i < ts.length := by omega
    have hlx : i < xs.length := by rw [sh.1]; exact hlt
    obtain ⟨o, dx, fs, t, ex, mo, ht, hp⟩ := sh.2 i _ (List.getElem?_eq_getElem hlx)
    obtain ⟨za, its, na, ra, ea⟩ := I.hok a _ (hL.get (.tail m))
    have hp1 := piled_take_succ ht
    have hp2 := piled_take_le ts (i + 1)
    obtain ⟨u, hu, ru⟩ := ra.get (List.getElem?_eq_getElem hlx)
    rw [ex] at ru
    cases ru
    refine codeAny_builtin F.entry_list_repr_loop ?_
    show wpAny _ _ (Builtin.«list.__repr__.loop» ⟨[.ref a, .int i 0, .ref P, .int ((piled (ts.take i) : Nat) : Int) 0], []⟩) _ _ s
    rw [repr_loop_tree]
    refine wpAny_bind (wpAny_listItems ea rfl ?_)
    have hsome : its.toArray[(i : Int).toNat]? = some (.ref o) := by simpa using hu
    simp only [hsome]
    rw [Int.toNat_natCast]
    obtain ⟨mA, J, _⟩ := ins_get I.hok (hL.get (.tail mo))
    obtain ⟨od, J, _⟩ := J.look
    have rm := room_loop hr ⟨[.ref a, rawInt i, .ref P, rawInt ((piled (ts.take i) : Nat) : Int)], []⟩
    obtain ⟨f, hs, hf, hrun⟩ := run_op (A := A.under (.builtin "list.__repr__.loop" ⟨[.ref a, rawInt i, .ref P, rawInt ((piled (ts.take i) : Nat) : Int)], []⟩)) (us := [.ref o]) (vs := [.ref o]) G rm hA hL I (.cons rfl .nil) (hp _)
    refine wpAny_bind (wpAny_holding (PySem.W.n3_under (by have := hsz2 t (List.mem_of_getElem? ht); omega) rm.units0 I.kIn J hs hf (wpAny_mono hrun (fun v s1 hv => ?_) fun e s1 he => hRe e s1 he)))
    obtain ⟨z, H1, I1, rz, L1, h1, ez, eL⟩ := hv
    subst ez eL
    obtain ⟨tk1, rfl⟩ := rz
    refine ⟨t, tk1, rfl, ?_⟩
    refine wpAny_bind (wpAny_mkStr ?_ (hsz2 t (List.mem_of_getElem? ht)))
    refine wpAny_bind ?_
    show wpAny _ _ (updateSeq P _) _ _ _
    obtain ⟨zP, itp, np, rp, eP⟩ := I1.hok P _ (h1.get .head)
    have lp := rp.length
    rw [List.length_map, List.length_take] at lp
    refine wpAny_updateSeq (o := { cls := .type "list", data := .seq itp.toArray np }) eP rfl (wpAny_pure ⟨F.quiet_list_repr_loop _, ?_⟩) (by rw [List.size_toArray]; omega)
    have e1 : ((i : Int) + 1) = ((i + 1 : Nat) : Int) := by omega
    rw [e1]
    have e2 : piled (ts.take i) + (t.length + 2) = piled (ts.take (i + 1)) := by omega
    rw [e2]
    have hts : (ts.take (i + 1)).map V.str = (ts.take i).map V.str ++ [V.str t] := by
      rw [List.take_add_one, ht, List.map_append]
      rfl
    refine ih (i + 1) _ (by omega) hlt ⟨upd H1 P (.lst ((ts.take (i + 1)).map V.str)), ?_, h1.put .head⟩
    refine I1.write (e := P) (by rw [h1.get .head]; trivial) (.inl rfl) (fun b u hb e => (Heap.get?_update_other _ _ (fun h => hb h.symm)).trans e) ⟨_, Heap.get?_update_self _ eP rfl⟩ ?_
    have hv : Vals ((ts.take (i + 1)).map V.str) (itp ++ [Value.str t s1.toks]) := by
      rw [hts]
      exact rp.append (.cons ⟨_, rfl⟩ .nil)
    have hq : ∃ c, (s1.heap.update P (Obj.mapSeq fun x => x.push (Value.str t s1.toks))).get? P = some { cls := .type "list", data := .seq (itp ++ [Value.str t s1.toks]).toArray c } := by
      rw [Heap.get?_update_self (o := { cls := .type "list", data := .seq itp.toArray np }) _ eP rfl]
      exact ⟨_, by simp only [Obj.mapSeq, List.push_toArray]; rfl⟩
    obtain ⟨c, hq⟩ := hq
    exact ⟨by rw [List.length_map, List.length_take]; omega, _, c, hv, hq⟩
/-- repr(q), q a list of instances with an own __repr__ -/
theorem wc_reprL {X : Cx} {L : LH} {a C : Addr} {xs : List V} {ts : List Str} {k : Nat} {ps : List Str} {pre : Pre} {Kk : V → LH → Prop}
    (G : GOp X.prog X.w X.K X.mg X.base C "__repr__" k ps pre) (hr : Room (k + 2) X.A) (hgd : X.A.guards = some []) (m : Mem a (.lst xs) L) (hne : 0 < ts.length) (sh : Shows X C pre L xs ts) (hsz : (listText ts).length ≤ sizeLine)
    (kk : Kk (.str (listText ts)) L) : WC X (.builtin "repr") [.ref a] L Kk := by
  intro H hL pins s σ us I r1
  cases r1 with
  | cons r rr =>
    cases rr
    cases r
    obtain ⟨za, its, na, ra, ea⟩ := I.hok a _ (hL.get m)
    have hlen := ra.length
    have hsh := sh.1
    cases its with
    | nil =>
      have h0 : xs.length = 0 := hlen
      omega
    | cons y l =>
      refine call_repr_slot (by have := hr.units; omega) ⟨_, ea, rfl⟩ PySem.F.slot_list_repr.toG ?_
      refine wpAny_call (codeAny_call_builtin PySem.F.slot_list_repr.plain PySem.F.entry_list_repr (PySem.F.slot_list_repr.check _ _ _ _ _ _ _ _ ⟨_, ea, rfl⟩ (PySem.F.args_list_repr_1 _) ?_))
      refine wpAny_list_repr_head (b := 0) (A := X.A.in1.in1) (g := []) hgd (fun v rest kw hm => (List.not_mem_nil hm).elim) ea rfl ?_
      refine wpAny_bind (m := newList []) (wpAny_newObj_type ?_)
      refine wpAny_pure ⟨PySem.F.quiet_list_repr_loop _, ?_⟩
      have hn : H s.heap.objs.size = none := I.hok.fresh (Nat.le_refl _)
      refine repr_loop (k := k) (σ := σ) (pins := pins) G hr.in1 rfl m sh hsz (fun e s' he => he) ?fin ts.length 0 _ (by omega) (Nat.zero_le _) ⟨upd H s.heap.objs.size (.lst []), ?inv, hL.new hn⟩
      case inv => exact I.laid (o := .lst []) (fun b o e => Heap.get?_push_of_some _ e) (Nat.le_refl _) ⟨Nat.zero_le _, [], _, .nil, Heap.get?_push_size _ rfl⟩
      case fin =>
        rintro s' u ⟨H', I', hL'⟩
        exact ⟨_, u, rfl, .str (listText ts), H', I', ⟨u, rfl⟩, L, hL'.drop, kk⟩
end N3

set_option Elab.async false
set_option linter.all false
set_option maxRecDepth 100000
set_option maxHeartbeats 4000000
namespace N3
open PySem PySem.SeqAt PySem.Spec PySem.Calls PyProof.Rows Builtin L2
open AutoSeq1 (wpAny_loadPart')
open MeetsSeq MeetsSeq2 MeetsSeq3 SeqRoads2
section
variable {X : Cx} {L : LH} {C l b : Addr} {k : Nat} {ps : List Str} {pre : Pre}
/-- two instances that the own == finds equal -/
def SameI (C : Addr) (pre : Pre) (L : LH) (x y : V) : Prop := ∃ o p dx dy fs gs, x = .ref o ∧ y = .ref p ∧ Mem o (.ins C dx fs) L ∧ Mem p (.ins C dy gs) L ∧ pre [.ref o, .ref p] L fun v L1 => v = .bl true ∧ L1 = L
def StandL (X : Cx) (pins : List (Addr × Obj)) (σ : L2.St) (L : LH) (s : Shared) : Prop := ∃ H, L2.Inv X pins σ H s ∧ Holds L H
theorem same_turn {pins : List (Addr × Obj)} {σ : L2.St} {A : Around} {s : Shared} {x y : V} {u v : Value} (G : GOp X.prog X.w X.K X.mg X.base C "__eq__" k ps pre) (hr : Room k A) (hA : A.frames = X.A.frames) (h : SameI C pre L x y) (rx : RelV x u) (ry : RelV y v)
    (I : StandL X pins σ L s) : wpAny (model X.prog X.w) A (eqBool u v) (fun r s' => r = true ∧ StandL X pins σ L s') X.xe s := by
  obtain ⟨o, p, dx, dy, fs, gs, rfl, rfl, mo, mp, hp⟩ := h
  cases rx
  cases ry
  by_cases ho : o = p
  · subst ho
    exact SeqAt.EqAt.same (A := A) (s := s) (.ref o) X.prog X.w X.xe _ ⟨rfl, I⟩
  · refine GQ.eqBool_refG ho ?_
    obtain ⟨H, I, hL⟩ := I
    obtain ⟨_, J, _⟩ := ins_get I.hok (hL.get mo)
    obtain ⟨_, J', _⟩ := ins_get I.hok (hL.get mp)
    obtain ⟨_, J, _⟩ := J.look
    obtain ⟨_, J', _⟩ := J'.look
    obtain ⟨m, hF⟩ := I.fr
    obtain ⟨f, hs, hf, hrun⟩ := run_op (us := [.ref o, .ref p]) (vs := [.ref o, .ref p]) G hr hA hL I (.cons rfl (.cons rfl .nil)) hp
    refine PySem.W.cmp_K (op := .Eq) (tb := .ref C) hr.units0 hF I.ok.mod.kin J J'.type (by simp [PySem.W.notFirst]) hs hf (wpAny_mono hrun (fun w s' z => ?_) fun _ _ x => x)
    obtain ⟨z', H', I', rz, L', h', ez, eL⟩ := z
    subst ez eL
    cases rz
    exact ⟨true, rfl, rfl, H', I', h'⟩
theorem ne_loop {pins : List (Addr × Obj)} {σ : L2.St} {xs ys : List V} {A : Around} {R : Result → Shared → Prop} (G : GOp X.prog X.w X.K X.mg X.base C "__eq__" k ps pre) (hr : Room (k + 1) A) (hA : A.frames = X.A.frames)
    (ml : Mem l (.lst xs) L) (mb : Mem b (.lst ys) L) (hn : xs.length = ys.length) (hs : ∀ (i : Nat) (x y : V), xs[i]? = some x → ys[i]? = some y → SameI C pre L x y) (he : ∀ e s', X.xe e s' → R (.error e) s')
    (fin : ∀ s, StandL X pins σ L s → R (.ok (.ret (.bool false))) s) : ∀ (n i : Nat) (s : Shared), xs.length - i = n → i ≤ xs.length → StandL X pins σ L s →
      wpAny (model X.prog X.w) A.in1 (Builtin.«list.__eq__.loop» ⟨[.ref l, .ref b, rawInt i, rawInt 3], []⟩) (GQ.FinOf X.prog X.w A R) (fun e s' => R (.error e) s') s := by
  intro n
  induction n with
  | zero =>
    intro i s hk hi h
    obtain ⟨H, I, hL⟩ := id h
    obtain ⟨_, its, c1, r1, e1⟩ := I.hok l _ (hL.get ml)
    obtain ⟨_, its2, c2, r2, e2⟩ := I.hok b _ (hL.get mb)
    have n1 := r1.length
    have n2 := r2.length
    have done := fin s h
    obtain ⟨hp, g, d, tk, os⟩ := s
    wp_walk using wpAny_loadPart' e1, wpAny_loadPart' e2
    have i1 : its.toArray[((i : Nat) : Int).toNat]? = none := by simp; omega
    have i2 : its2.toArray[((i : Nat) : Int).toNat]? = none := by simp; omega
    rw [i1, i2]
    wp_walk using wpAny_loadPart' e1, wpAny_loadPart' e2
    show R (.ok (.ret (.bool (its.toArray.size != its2.toArray.size)))) _
    rw [show (its.toArray.size != its2.toArray.size) = false by simp; omega]
    exact done
  | succ n ih =>
    intro i s hk hi h
    obtain ⟨H, I, hL⟩ := id h
    obtain ⟨_, its, c1, r1, e1⟩ := I.hok l _ (hL.get ml)
    obtain ⟨_, its2, c2, r2, e2⟩ := I.hok b _ (hL.get mb)
    have g1 := List.getElem?_eq_getElem (l := xs) (i := i) (by omega)
    have g2 := List.getElem?_eq_getElem (l := ys) (i := i) (by omega)
    obtain ⟨u, hu, ru⟩ := r1.get g1
    obtain ⟨v, hv, rv⟩ := r2.get g2
    have turn := same_turn G hr.in1 hA (hs i _ _ g1 g2) ru rv h
    obtain ⟨hp, g, d, tk, os⟩ := s
    wp_walk using wpAny_loadPart' e1, wpAny_loadPart' e2
    have i1 : its.toArray[((i : Nat) : Int).toNat]? = some u := by simpa using hu
    have i2 : its2.toArray[((i : Nat) : Int).toNat]? = some v := by simpa using hv
    have hc : ((i : Int) + 1) = ((i + 1 : Nat) : Int) := by omega
    rw [i1, i2]
    refine wpAny_bind (wpAny_mono turn (fun r s2 h2 => ?_) fun _ _ x => he _ _ x)
    obtain ⟨rfl, h2⟩ := h2
    have again := ih (i + 1) s2 (by omega) (by omega) h2
    obtain ⟨hp2, g2, d2, tk2, os2⟩ := s2
    wp_walk
    rw [hc]
    exact ⟨plainId_quiet plain_eq_loop _, codeAny_builtin entry_eq_loop (by
      rw [Around.under_plainId plain_eq_loop _]
      exact again)⟩
/-- l != b, item by item equal -/
theorem wo_neLG {xs ys : List V} {Kk : V → LH → Prop} (G : GOp X.prog X.w X.K X.mg X.base C "__eq__" k ps pre) (hr : Room (k + 1) X.A) (ml : Mem l (.lst xs) L) (mb : Mem b (.lst ys) L) (hn : xs.length = ys.length)
    (hs : ∀ (i : Nat) (x y : V), xs[i]? = some x → ys[i]? = some y → SameI C pre L x y) (kk : Kk (.bl false) L) : WO X (compareOp .NotEq) (.ref l) (.ref b) L Kk := by
  intro H hL pins s σ v u I r1 r2
  cases r1
  cases r2
  obtain ⟨_, its, c1, q1, e1⟩ := I.hok l _ (hL.get ml)
  obtain ⟨_, its2, c2, q2, e2⟩ := I.hok b _ (hL.get mb)
  have n1 := q1.length
  have n2 := q2.length
  show wpAny _ _ (richCompare .NotEq (.ref l) (.ref b)) _ _ _
  refine wpAny_richCompare_same_room (op := .NotEq) ⟨_, e1, rfl⟩ ⟨_, e2, rfl⟩ F.slot_list_ne (GQ.call_here F.slot_list_ne ⟨_, e1, rfl⟩ F.entry_list_ne (F.args_list_ne_2 _ _) ?_) hr.units0
  have again := ne_loop (σ := σ) (pins := pins) (A := X.A) (R := wants (fun v s' => v ≠ .notImplemented ∧ EP X pins σ (QE Kk) v s') X.xe) G hr rfl ml mb hn hs (fun e s' h => h) (fun s' ⟨H', I', h'⟩ => ⟨(fun x => nomatch x), .bl false, H', I', rfl, L, h', kk⟩) _ 0 s rfl (Nat.zero_le _) ⟨H, I, hL⟩
  obtain ⟨hp, g, d, tk, os⟩ := s
  have f3 := AutoSeq1.sub_list_list
  have hne : (its.toArray.size != its2.toArray.size) = false := by simp; omega
  wp_walk using wpAny_loadPart' e1, wpAny_loadPart' e2
  rw [hne]
  wp_walk
  exact ⟨plainId_quiet plain_eq_loop _, codeAny_builtin entry_eq_loop (by
    rw [Around.under_plainId plain_eq_loop _]
    exact again)⟩
end
end N3

set_option Elab.async false
set_option linter.all false
set_option maxRecDepth 100000
set_option maxHeartbeats 4000000
namespace N3
open PySem PySem.Spec L2
open PyProof.Rows (envOfC)
/-! ### [.. for a, b in zip(x, y)] -/
section
variable {X : Cx} {e a b l elt : Expr} {es t : List Expr} {σ : L2.St} {L : LH} {K : V → LH → Prop} {D : EndsL} {pos apos p tpos : Pos} {x : Str} {scope : Scope} {own : List (Str × Nat)} {kk : Nat}
def LcZ (X : Cx) (scope : Scope) (own : List (Str × Nat)) (tg elt : Expr) (σ : L2.St) (K : V → LH → Prop) (vs : List V) (L1 : LH) : Prop :=
  ∃ q r xs ys, vs = [.ref q, .ref r] ∧ SqLL X.K q xs L1 ∧ SqLL X.K r ys L1 ∧ xs.length = ys.length ∧ ∀ D, ∃ I : Nat → LH → Prop, I 0 ((D, .lst []) :: L1) ∧ (∀ i L', I i L' → SqLL X.K q xs L' ∧ SqLL X.K r ys L') ∧
    (∀ i y z T L', xs[i]? = some y → ys[i]? = some z → I i L' → Turn1 X scope own tg elt σ D (.ref T) ((T, .tup [y, z]) :: L') (I (i + 1))) ∧ (∀ L', I xs.length L' → K (.ref D) L')
theorem lcZ {tg : Expr} (h : WA X [a, b] σ L (LcZ X scope own tg elt σ K)) : ∀ H, Holds L H → tLc (iZip X.K (SemA X [a, b])) (SemGB X scope tg) tYes (SemEB X scope elt) (own.map (·.2)) σ H (QE K) := fun _ hL =>
  a_then h hL fun _ L1 H1 h1 ⟨q, r, xs, ys, ev, s1, s2, hl, g⟩ => ⟨q, r, xs, ys, ev, s1 H1 h1, s2 H1 h1, fun D hD => by
    obtain ⟨I, i0, st, turn, fin⟩ := g D
    have wz := walk_zip (K := X.K) (a := q) (b := r) (xs := xs) (ys := ys) (n := xs.length) (by omega)
    refine lc_it wz (fun i => QL (I i)) ⟨_, h1.new hD, i0⟩ (fun i H _ ⟨L', h', k⟩ => ⟨(st i L' k).1 H h', (st i L' k).2 H h'⟩) (fun i v H H' hi ⟨L', h', k⟩ ⟨T, y, z, e1, e2, e3, f1, f2⟩ => ?_) (fun H ⟨L', h', k⟩ => ⟨L', h', fin L' k⟩)
    subst e1 e3
    exact turn1 (turn i y z T L' f1 f2 k) (h'.new e2)⟩
theorem we_lcZ (own : List (Str × Nat)) (hc : X.calm = true) (hN : X.N.Nodup) (ok : BlkOk X.N X.env.scope scope own) (hm : X.mg "zip" = none) (h : WA X [a, b] σ L (LcZ X scope own (.Tuple t kk tpos) elt σ K)) (hg : Gl X "zip")
    (hst : starEach [a, b] X.env = (false, eval a X.env) :: starEach [b] X.env := by rfl) (hpl : (backTo apos (starEach [b] X.env)).any (·.1) = false := by rfl)
    (hs : ∀ x, foldedSetIterable (.Call (.Name "zip" p) [a, b] [] apos) X.env x = pure x := by intro _; rfl) : WE X (.ListComp elt [⟨.Tuple t kk tpos, .Call (.Name "zip" p) [a, b] [] apos, [], 0⟩] scope pos) σ L K :=
  we_of (pe_lc hc hN (pi_zip hg hm pa_sem hst hpl) ok (fun _ _ _ _ _ => pgB) (fun _ _ _ _ _ => pts_nil) (fun _ _ _ _ _ => peB) hs) (lcZ h)
end
section
variable {P : Program} {w : World} {K : PySem.W.Frag} {mg : Str → Option Value} {base : Heap}
/-- as fnXG, for a def with cells, and with the names of its comprehensions among N -/
theorem fnXGC {x qual : Str} {st : Stmt} {f : Addr} {fd : FuncData} {N ps Vn Ln Gn : List Str} {k : Nat} {pre : Pre} (F : Fun K x qual st f fd) (S : FnScope N ps (defScope st)) (ok : scopeB N (defScope st) Vn Ln Gn = true) (len : ∀ vs L Kk, pre vs L Kk → vs.length = ps.length)
    (body : ∀ (X : Cx), X.prog = P → X.w = w → X.K = K → X.mg = mg → X.base = base → XOk N (defScope st) Vn Ln Gn X → Room k X.A → X.A.guards = some [] → ∀ vs L Kk, pre vs L Kk → WSs X (defBody st) (start N vs) L (EndOf Kk)) : FnG P w K mg base (k + 1) f fd ps pre :=
  fnG F S len fun cdv A outer s H vs E L Kk hr hg hp => body _ rfl rfl rfl rfl rfl ⟨rfl, rfl, ok, rfl, PassesOwn.never⟩ hr hg vs L Kk hp
end
end N3

set_option Elab.async false
set_option linter.all false
set_option maxRecDepth 100000
set_option maxHeartbeats 4000000
namespace N3
open PySem PySem.Spec L2
/-! ### comprehensions, over XOk -/
section
variable {N Vn Ln Gn : List Str} {sc : Scope} {X : Cx} {i j g : Nat} {a b l tg elt : Expr} {t : List Expr} {σ : L2.St} {L : LH} {K : V → LH → Prop} {D : EndsL} {pos apos p tpos : Pos} {x y : Str} {scope : Scope} {own : List (Str × Nat)} {py cpos : Pos} {kk : Nat}
theorem x_setLcR (own : List (Str × Nat)) (h : XOk N sc Vn Ln Gn X) (ay : At y N i) (cy : At y Ln j) (ag : At "range" Gn g) (hm : X.mg "range" = none) (ok : blkC N sc scope own = true) (hk : sc.kind = .function)
    (ha : (scope.names.any fun (n, k) => n == y && (k == .local || k == .cell)) = false) (hl : (py.line == cpos.line) = true) (q : WA X [a] σ L (LcR X scope own tg elt σ fun v L' => D.nx (σ.set i (some v)) L'))
    (hst : starEach [a] X.env = [(false, eval a X.env)] := by rfl) (hs : ∀ x, foldedSetIterable (.Call (.Name "range" p) [a] [] apos) X.env x = pure x := by intro _; rfl) :
    WS X (.Assign [.Name y py] (.ListComp elt [⟨tg, .Call (.Name "range" p) [a] [] apos, [], 0⟩] scope cpos) pos) σ L D :=
  ws_setLcR own i h.calm h.nd (h.ix ay) (h.loc cy) (blkOk_by (by rw [h.hN, h.hsc]; exact ok)) (sw_true (by rw [h.hsc]; exact hk) (h.loc cy) hl ha) hm q (h.glo ag).1 hst hs
theorem x_setLcL (own : List (Str × Nat)) (h : XOk N sc Vn Ln Gn X) (ay : At y N i) (cy : At y Ln j) (ok : blkC N sc scope own = true) (hk : sc.kind = .function)
    (ha : (scope.names.any fun (n, k) => n == y && (k == .local || k == .cell)) = false) (hl : (py.line == cpos.line) = true) (q : WE X l σ L (LcL X scope own tg elt σ fun v L' => D.nx (σ.set i (some v)) L'))
    (hs : ∀ x, foldedSetIterable l X.env x = pure x := by intro _; rfl) :
    WS X (.Assign [.Name y py] (.ListComp elt [⟨tg, l, [], 0⟩] scope cpos) pos) σ L D :=
  ws_setLcL own i h.calm h.nd (h.ix ay) (h.loc cy) (blkOk_by (by rw [h.hN, h.hsc]; exact ok)) (sw_true (by rw [h.hsc]; exact hk) (h.loc cy) hl ha) q hs
theorem x_lcR (own : List (Str × Nat)) (h : XOk N sc Vn Ln Gn X) (ag : At "range" Gn g) (hm : X.mg "range" = none) (ok : blkC N sc scope own = true) (q : WA X [a] σ L (LcR X scope own tg elt σ K))
    (hst : starEach [a] X.env = [(false, eval a X.env)] := by rfl) (hs : ∀ x, foldedSetIterable (.Call (.Name "range" p) [a] [] apos) X.env x = pure x := by intro _; rfl) :
    WE X (.ListComp elt [⟨tg, .Call (.Name "range" p) [a] [] apos, [], 0⟩] scope pos) σ L K :=
  we_lcR own h.calm h.nd (blkOk_by (by rw [h.hN, h.hsc]; exact ok)) hm q (h.glo ag).1 hst hs
theorem x_lcL (own : List (Str × Nat)) (h : XOk N sc Vn Ln Gn X) (ok : blkC N sc scope own = true) (q : WE X l σ L (LcL X scope own tg elt σ K)) (hs : ∀ x, foldedSetIterable l X.env x = pure x := by intro _; rfl) :
    WE X (.ListComp elt [⟨tg, l, [], 0⟩] scope pos) σ L K := we_lcL own h.calm h.nd (blkOk_by (by rw [h.hN, h.hsc]; exact ok)) q hs
theorem x_lcZ (own : List (Str × Nat)) (h : XOk N sc Vn Ln Gn X) (ag : At "zip" Gn g) (hm : X.mg "zip" = none) (ok : blkC N sc scope own = true) (q : WA X [a, b] σ L (LcZ X scope own (.Tuple t kk tpos) elt σ K))
    (hst : starEach [a, b] X.env = (false, eval a X.env) :: starEach [b] X.env := by rfl) (hpl : (backTo apos (starEach [b] X.env)).any (·.1) = false := by rfl)
    (hs : ∀ x, foldedSetIterable (.Call (.Name "zip" p) [a, b] [] apos) X.env x = pure x := by intro _; rfl) : WE X (.ListComp elt [⟨.Tuple t kk tpos, .Call (.Name "zip" p) [a, b] [] apos, [], 0⟩] scope pos) σ L K :=
  we_lcZ own h.calm h.nd (blkOk_by (by rw [h.hN, h.hsc]; exact ok)) hm q (h.glo ag).1 hst hpl hs
end
end N3

set_option Elab.async false
set_option linter.all false
set_option maxRecDepth 100000
set_option maxHeartbeats 4000000
namespace N3
open PySem PySem.Spec L2
/-! ### what is walked, by what is known -/
/-- n turns while GL holds; turn i hands v on, what is known becomes L' -/
structure SrcL (J : It) (n : Nat) (GL : LH → Prop) (YL : Nat → LH → V → LH → Prop) : Prop where
  ex : ∃ G Y, Walk J n G Y ∧ (∀ L H, GL L → Holds L H → G H) ∧ ∀ i L H v H', GL L → Holds L H → Y i H v H' → ∃ L', Holds L' H' ∧ YL i L v L'
abbrev SK := Nat → (LH → Prop) → (Nat → LH → V → LH → Prop) → LH → Prop
def WI (X : Cx) (tg iter : Expr) (σ : L2.St) (L : LH) (S : SK) : Prop :=
  ∃ wi : TI, PI X tg iter wi ∧ ∀ H, Holds L H → ∀ R : It → Hp → Prop, (∀ J L1 H1 n GL YL, Holds L1 H1 → SrcL J n GL YL → S n GL YL L1 → R J H1) → wi σ H R
def YLat (xs : List V) : Nat → LH → V → LH → Prop := fun i L v L' => L' = L ∧ xs[i]? = some v
def YLfn (f : Nat → V) : Nat → LH → V → LH → Prop := fun i L v L' => L' = L ∧ v = f i
def YLpair (xs ys : Nat → Option V) : Nat → LH → V → LH → Prop := fun i L v L' => ∃ T x y, v = .ref T ∧ L' = (T, .tup [x, y]) :: L ∧ xs i = some x ∧ ys i = some y
section
variable {X : Cx} {tg e a b : Expr} {es : List Expr} {σ : L2.St} {L : LH} {S : SK} {p pos apos cpos tpos : Pos} {elts : List Expr} {kk : Nat}
theorem src_pair {J : It} {n : Nat} {G : Hp → Prop} {GL : LH → Prop} {xs ys : Nat → Option V} (w : Walk J n G (YPair xs ys)) (g : ∀ L H, GL L → Holds L H → G H) : SrcL J n GL (YLpair xs ys) :=
  ⟨G, _, w, g, fun i L H v H' _ hL ⟨T, x, y, e1, e2, e3, e4, e5⟩ => ⟨_, by rw [e3]; exact hL.new e2, T, x, y, e1, rfl, e4, e5⟩⟩
theorem wi_list (h : WE X e σ L fun x L1 => ∃ q xs, x = .ref q ∧ SqLL X.K q xs L1 ∧ S xs.length (SqLL X.K q xs) (YLat xs) L1) : WI X tg e σ L S :=
  ⟨_, pi_list pe_sem, fun _ hL R k => e_then h hL fun _ L1 H1 h1 ⟨q, xs, ex, sq, s⟩ => ⟨q, ex, ⟨xs, sq H1 h1⟩, k _ L1 H1 _ _ _ h1 (⟨_, _, walk_list, fun L H g hL => g H hL, fun i L H v H' _ hL y => ⟨L, by rw [y.1]; exact hL, rfl, y.2⟩⟩) s⟩⟩
theorem wi_tup (h : WE X e σ L fun x L1 => ∃ q xs, x = .ref q ∧ SqTL X.K q xs L1 ∧ S xs.length (SqTL X.K q xs) (YLat xs) L1) : WI X tg e σ L S :=
  ⟨_, pi_tup pe_sem, fun _ hL R k => e_then h hL fun _ L1 H1 h1 ⟨q, xs, ex, sq, s⟩ => ⟨q, ex, ⟨xs, sq H1 h1⟩, k _ L1 H1 _ _ _ h1 (⟨_, _, walk_tup, fun L H g hL => g H hL, fun i L H v H' _ hL y => ⟨L, by rw [y.1]; exact hL, rfl, y.2⟩⟩) s⟩⟩
theorem wi_range (hg : Gl X "range") (hm : X.mg "range" = none) (h : WA X [a] σ L fun vs L1 => ∃ j : Int, vs = [.int j] ∧ -(2 ^ 62) ≤ j ∧ j < 2 ^ 62 ∧ S j.toNat (fun _ => True) (YLfn fun i => .int (0 + (i : Int))) L1)
    (hst : starEach [a] X.env = [(false, eval a X.env)] := by rfl) : WI X tg (.Call (.Name "range" p) [a] [] apos) σ L S :=
  ⟨_, pi_range1 hg hm pa_sem hst, fun _ hL R k => a_then h hL fun _ L1 H1 h1 ⟨j, ev, j0, j1, s⟩ => ⟨j, ev, j0, j1, k _ L1 H1 _ _ _ h1 (⟨_, _, walk_range, fun _ _ _ _ => True.intro, fun i L H v H' _ hL y => ⟨L, by rw [y.1]; exact hL, rfl, y.2⟩⟩) s⟩⟩
theorem wi_zip (hg : Gl X "zip") (hm : X.mg "zip" = none) (h : WA X [a, b] σ L fun vs L1 => ∃ q r xs ys, vs = [.ref q, .ref r] ∧ SqLL X.K q xs L1 ∧ SqLL X.K r ys L1 ∧ S (min xs.length ys.length) (fun L => SqLL X.K q xs L ∧ SqLL X.K r ys L) (YLpair (fun i => xs[i]?) (fun i => ys[i]?)) L1)
    (hst : starEach [a, b] X.env = (false, eval a X.env) :: starEach [b] X.env := by rfl) (hpl : (backTo apos (starEach [b] X.env)).any (·.1) = false := by rfl) : WI X (.Tuple elts kk tpos) (.Call (.Name "zip" p) [a, b] [] apos) σ L S :=
  ⟨_, pi_zip hg hm pa_sem hst hpl, fun _ hL R k => a_then h hL fun _ L1 H1 h1 ⟨q, r, xs, ys, ev, s1, s2, s⟩ => ⟨q, r, xs, ys, ev, s1 H1 h1, s2 H1 h1, k _ L1 H1 _ _ _ h1 (src_pair (walk_zip rfl) fun L H g hL => ⟨g.1 H hL, g.2 H hL⟩) s⟩⟩
theorem wi_enum (hg : Gl X "enumerate") (hm : X.mg "enumerate" = none) (h : WA X [e] σ L fun vs L1 => ∃ q xs, vs = [.ref q] ∧ SqLL X.K q xs L1 ∧ S xs.length (SqLL X.K q xs) (YLpair (fun i => some (.int (i : Nat))) (fun i => xs[i]?)) L1)
    (hst : starEach [e] X.env = [(false, eval e X.env)] := by rfl) : WI X (.Tuple elts kk tpos) (.Call (.Name "enumerate" p) [e] [] apos) σ L S :=
  ⟨_, pi_enum hg hm pa_sem hst, fun _ hL R k => a_then h hL fun _ L1 H1 h1 ⟨q, xs, ev, s1, s⟩ => ⟨q, xs, ev, s1 H1 h1, k _ L1 H1 _ _ _ h1 (src_pair walk_enum fun L H g hL => g H hL) s⟩⟩
theorem wi_str (h : WE X e σ L fun x L1 => ∃ z, x = .str z ∧ S z.cps.size (fun _ => True) (fun i L v L' => L' = L ∧ ∃ c, z.cps[i]? = some c ∧ v = .str ⟨#[c]⟩) L1) : WI X tg e σ L S :=
  ⟨_, pi_str pe_sem, fun _ hL R k => e_then h hL fun _ L1 H1 h1 ⟨z, ex, s⟩ => ⟨z, ex, k _ L1 H1 _ _ _ h1 (⟨_, _, walk_str, fun _ _ _ _ => True.intro, fun i L H v H' _ hL y => ⟨L, by rw [y.1]; exact hL, rfl, y.2⟩⟩) s⟩⟩
/-- a locked dict -/
theorem wi_keys (h : WE X e σ L fun x L1 => ∃ d o kvs, x = .ref d ∧ Mem d (.frz o (.dK kvs)) L1 ∧ S kvs.length (Mem d (.frz o (.dK kvs))) (fun i L v L' => L' = L ∧ ∃ k u, kvs[i]? = some (k, u) ∧ v = kV k) L1) : WI X tg e σ L S :=
  ⟨_, pi_keys pe_sem, fun _ hL R k => e_then h hL fun _ L1 H1 h1 ⟨d, o, kvs, ex, m, s⟩ => ⟨d, o, ex, .inl ⟨kvs, h1.get m, k _ L1 H1 _ _ _ h1 (⟨_, _, walk_keys, fun L H g hL => hL.get g, fun i L H v H' _ hL y => ⟨L, by rw [y.1]; exact hL, rfl, y.2⟩⟩) s⟩⟩⟩
theorem wi_items (h : WE X e σ L fun x L1 => ∃ d o kvs, x = .ref d ∧ Mem d (.frz o (.dK kvs)) L1 ∧ S kvs.length (Mem d (.frz o (.dK kvs))) (YLpair (fun i => kvs[i]?.map fun kv => kV kv.1) (fun i => kvs[i]?.map Prod.snd)) L1)
    (hbase : attributeBase e "items" X.env (eval e X.env) = eval e X.env := by rfl) (hline : (apos.endLine == cpos.line) = true := by rfl) : WI X (.Tuple elts kk tpos) (.Call (.Attribute e "items" apos) [] [] cpos) σ L S :=
  ⟨_, pi_items pe_sem hbase hline, fun _ hL R k => e_then h hL fun _ L1 H1 h1 ⟨d, o, kvs, ex, m, s⟩ => ⟨d, o, kvs, ex, h1.get m, k _ L1 H1 _ _ _ h1 (src_pair walk_items fun L H g hL => hL.get g) s⟩⟩
theorem wi_values (h : WE X e σ L fun x L1 => ∃ d o kvs, x = .ref d ∧ Mem d (.frz o (.dK kvs)) L1 ∧ S kvs.length (Mem d (.frz o (.dK kvs))) (fun i L v L' => L' = L ∧ ∃ k, kvs[i]? = some (k, v)) L1)
    (hbase : attributeBase e "values" X.env (eval e X.env) = eval e X.env := by rfl) (hline : (apos.endLine == cpos.line) = true := by rfl) : WI X tg (.Call (.Attribute e "values" apos) [] [] cpos) σ L S :=
  ⟨_, pi_values pe_sem hbase hline, fun _ hL R k => e_then h hL fun _ L1 H1 h1 ⟨d, o, kvs, ex, m, s⟩ => ⟨d, o, kvs, ex, h1.get m, k _ L1 H1 _ _ _ h1 (⟨_, _, walk_values, fun L H g hL => hL.get g, fun i L H v H' _ hL y => ⟨L, by rw [y.1]; exact hL, rfl, y.2⟩⟩) s⟩⟩
end
/-! ### for, comprehensions over it -/
section
variable {X : Cx} {iter tg elt c kx vx : Expr} {body : List Stmt} {ifs : List Expr} {σ : L2.St} {L : LH} {K : V → LH → Prop} {D : EndsL} {pos : Pos} {scope : Scope} {own : List (Str × Nat)}
def ForS (X : Cx) (tg : Expr) (body : List Stmt) (σ : L2.St) (D : EndsL) : SK := fun n GL YL L1 => ∃ I : Nat → L2.St → LH → Prop, I 0 σ L1 ∧ (∀ i σ' L', i ≤ n → I i σ' L' → GL L') ∧
  (∀ i v σ' L' L'', i < n → I i σ' L' → YL i L' v L'' → WG X tg v σ' L'' fun σ2 L2 => WSs X body σ2 L2 (loopEnds D I (i + 1))) ∧ (∀ σ' L', I n σ' L' → D.nx σ' L')
theorem ws_forW (hc : X.calm = true) (hp : PassesOwn (model X.prog X.w) X.A X.env X.xe) (h : WI X tg iter σ L (ForS X tg body σ D)) (hs : ∀ x, foldedSetIterable iter X.env x = pure x := by intro _; rfl) : WS X (.For tg iter body [] pos) σ L D := by
  obtain ⟨wi, hi, h⟩ := h
  refine ws_of (ps_for hp hc hi pg_sem pss_sem hs) fun H hL => h H hL _ fun J L1 H1 n GL YL h1 ⟨G, Y, w, g, y⟩ ⟨I, i0, st, turn, fin⟩ => ?_
  exact for_it w (fun i => QS (I i)) ⟨L1, h1, i0⟩ (fun i σ' H' hi ⟨L', h', k⟩ => g L' H' (st i σ' L' hi k) h') (fun i v σ' H' H'' hi ⟨L', h', k⟩ yy => by
      obtain ⟨L'', h'', y'⟩ := y i L' H' v H'' (st i σ' L' (Nat.le_of_lt hi) k) h' yy
      exact g_then (turn i v σ' L' L'' hi k y') h'' fun σ2 L2 H2 h2 k2 => (k2 H2 h2).mono loop_le) fun σ' H' ⟨L', h', k⟩ => ⟨L', h', fin σ' L' k⟩
def SemTB (X : Cx) (scope : Scope) (e : Expr) : TT := fun σ H Q => ∀ (s : Shared) (H' : Hp) (C : Addr) (cl : List (Str × Addr)) (fp : List Addr), SemT (X.blk s H' scope (compEnvC scope cl C X.env) fp) e σ H Q
theorem ptB {e : Expr} {s : Shared} {H' : Hp} {C : Addr} {cl : List (Str × Addr)} {fp : List Addr} : PT (X.blk s H' scope (compEnvC scope cl C X.env) fp) e (SemTB X scope e) := ⟨fun pins s1 _ _ _ I h => h s H' C cl fp pins s1 I⟩
/-- a list comprehension -/
def LcS (X : Cx) (scope : Scope) (own : List (Str × Nat)) (tg elt : Expr) (σ : L2.St) (K : V → LH → Prop) : SK := fun n GL YL L1 => ∀ D, ∃ I : Nat → LH → Prop, I 0 ((D, .lst []) :: L1) ∧ (∀ i L', i ≤ n → I i L' → GL L') ∧
  (∀ i v L' L'', i < n → I i L' → YL i L' v L'' → Turn1 X scope own tg elt σ D v L'' (I (i + 1))) ∧ (∀ L', I n L' → K (.ref D) L')
theorem lcW {wi : TI} (h : ∀ H, Holds L H → ∀ R : It → Hp → Prop, (∀ J L1 H1 n GL YL, Holds L1 H1 → SrcL J n GL YL → LcS X scope own tg elt σ K n GL YL L1 → R J H1) → wi σ H R) : ∀ H, Holds L H → tLc wi (SemGB X scope tg) tYes (SemEB X scope elt) (own.map (·.2)) σ H (QE K) := fun H hL =>
  h H hL _ fun J L1 H1 n GL YL h1 ⟨G, Y, w, g, y⟩ q D hD => by
    obtain ⟨I, i0, st, turn, fin⟩ := q D
    exact lc_it w (fun i => QL (I i)) ⟨_, h1.new hD, i0⟩ (fun i H' hi ⟨L', h', k⟩ => g L' H' (st i L' hi k) h') (fun i v H' H'' hi ⟨L', h', k⟩ yy => by
      obtain ⟨L'', h'', y'⟩ := y i L' H' v H'' (st i L' (Nat.le_of_lt hi) k) h' yy
      exact turn1 (turn i v L' L'' hi k y') h'') (fun H' ⟨L', h', k⟩ => ⟨L', h', fin L' k⟩)
/-- a turn with a test -/
def TurnI (X : Cx) (scope : Scope) (own : List (Str × Nat)) (tg c elt : Expr) (σ : L2.St) (D : Addr) (v : V) (L' : LH) (Nx : LH → Prop) : Prop :=
  ∀ (s : Shared) (H' : Hp) (C : Addr) (cl : List (Str × Addr)) (fp : List Addr), WG (X.blk s H' scope (compEnvC scope cl C X.env) fp) tg v (wipe σ (own.map (·.2))) L' fun σ2 L2 =>
    wipe σ2 (own.map (·.2)) = wipe σ (own.map (·.2)) ∧ ∀ (s : Shared) (H' : Hp) (C : Addr) (cl : List (Str × Addr)) (fp : List Addr), WT (X.blk s H' scope (compEnvC scope cl C X.env) fp) c σ2 L2 fun b L3 =>
      (b = true → ∀ (s : Shared) (H' : Hp) (C : Addr) (cl : List (Str × Addr)) (fp : List Addr), WE (X.blk s H' scope (compEnvC scope cl C X.env) fp) elt σ2 L3 fun z L4 =>
        ∃ acc F, Hole D (.lst acc) L4 F ∧ acc.length < sizeLine ∧ ∃ L5, Sub (F (.lst (acc ++ [z]))) L5 ∧ Nx L5) ∧ (b = false → ∃ L5, Sub L3 L5 ∧ Nx L5)
theorem turnI {D : Addr} {v : V} {L' : LH} {Nx : LH → Prop} {H : Hp} (h : TurnI X scope own tg c elt σ D v L' Nx) (hL : Holds L' H) :
    SemGB X scope tg v (wipe σ (own.map (·.2))) H fun σ2 H2 => wipe σ2 (own.map (·.2)) = wipe σ (own.map (·.2)) ∧ SemTB X scope c σ2 H2 fun b H3 =>
      if b = true then SemEB X scope elt σ2 H3 fun z H4 => ∃ acc, H4 D = some (.lst acc) ∧ acc.length < sizeLine ∧ QL Nx (upd H4 D (.lst (acc ++ [z]))) else QL Nx H3 := by
  intro s H' C cl fp
  refine g_then (h s H' C cl fp) hL fun σ2 L2 H2 h2 ⟨hw, k2⟩ => ⟨hw, ?_⟩
  intro s H' C cl fp
  refine t_then (k2 s H' C cl fp) h2 fun b L3 H3 h3 ⟨k3, k4⟩ => ?_
  cases b with
  | true =>
    show if true = true then SemEB X scope elt σ2 H3 (fun z H4 => ∃ acc, H4 D = some (.lst acc) ∧ acc.length < sizeLine ∧ QL Nx (upd H4 D (.lst (acc ++ [z])))) else QL Nx H3
    rw [if_pos rfl]
    intro s H' C cl fp
    refine e_then (k3 rfl s H' C cl fp) h3 fun z L4 H4 h4 ⟨acc, F, hf, hl, L5, sb, nx⟩ => ?_
    exact ⟨acc, h4.at_ _ _ hf.mem, hl, L5, sb _ (h4.put hf), nx⟩
  | false =>
    show if false = true then SemEB X scope elt σ2 H3 (fun z H4 => ∃ acc, H4 D = some (.lst acc) ∧ acc.length < sizeLine ∧ QL Nx (upd H4 D (.lst (acc ++ [z])))) else QL Nx H3
    rw [if_neg (by decide)]
    obtain ⟨L5, sb, nx⟩ := k4 rfl
    exact ⟨L5, sb _ h3, nx⟩
def LcIS (X : Cx) (scope : Scope) (own : List (Str × Nat)) (tg c elt : Expr) (σ : L2.St) (K : V → LH → Prop) : SK := fun n GL YL L1 => ∀ D, ∃ I : Nat → LH → Prop, I 0 ((D, .lst []) :: L1) ∧ (∀ i L', i ≤ n → I i L' → GL L') ∧
  (∀ i v L' L'', i < n → I i L' → YL i L' v L'' → TurnI X scope own tg c elt σ D v L'' (I (i + 1))) ∧ (∀ L', I n L' → K (.ref D) L')
theorem lcIW {wi : TI} (h : ∀ H, Holds L H → ∀ R : It → Hp → Prop, (∀ J L1 H1 n GL YL, Holds L1 H1 → SrcL J n GL YL → LcIS X scope own tg c elt σ K n GL YL L1 → R J H1) → wi σ H R) : ∀ H, Holds L H → tLc wi (SemGB X scope tg) (SemTB X scope c) (SemEB X scope elt) (own.map (·.2)) σ H (QE K) := fun H hL =>
  h H hL _ fun J L1 H1 n GL YL h1 ⟨G, Y, w, g, y⟩ q D hD => by
    obtain ⟨I, i0, st, turn, fin⟩ := q D
    exact lc_it w (fun i => QL (I i)) ⟨_, h1.new hD, i0⟩ (fun i H' hi ⟨L', h', k⟩ => g L' H' (st i L' hi k) h') (fun i v H' H'' hi ⟨L', h', k⟩ yy => by
      obtain ⟨L'', h'', y'⟩ := y i L' H' v H'' (st i L' (Nat.le_of_lt hi) k) h' yy
      exact turnI (turn i v L' L'' hi k y') h'') (fun H' ⟨L', h', k⟩ => ⟨L', h', fin L' k⟩)
/-- a turn of a dict comprehension, with a test (c) -/
def TurnD (X : Cx) (scope : Scope) (own : List (Str × Nat)) (tg kx vx : Expr) (σ : L2.St) (D : Addr) (v : V) (L' : LH) (Nx : LH → Prop) : Prop :=
  ∀ (s : Shared) (H' : Hp) (C : Addr) (cl : List (Str × Addr)) (fp : List Addr), WG (X.blk s H' scope (compEnvC scope cl C X.env) fp) tg v (wipe σ (own.map (·.2))) L' fun σ2 L2 =>
    wipe σ2 (own.map (·.2)) = wipe σ (own.map (·.2)) ∧ ∀ (s : Shared) (H' : Hp) (C : Addr) (cl : List (Str × Addr)) (fp : List Addr), WE (X.blk s H' scope (compEnvC scope cl C X.env) fp) kx σ2 L2 fun y L3 =>
      ∀ (s : Shared) (H' : Hp) (C : Addr) (cl : List (Str × Addr)) (fp : List Addr), WE (X.blk s H' scope (compEnvC scope cl C X.env) fp) vx σ2 L3 fun z L4 =>
        ∃ kvs k F, y = kV k ∧ Hole D (.dK kvs) L4 F ∧ kvs.length < sizeLine ∧ ∃ L5, Sub (F (.dK (putK kvs k z))) L5 ∧ Nx L5
theorem turnD {D : Addr} {v : V} {L' : LH} {Nx : LH → Prop} {H : Hp} (h : TurnD X scope own tg kx vx σ D v L' Nx) (hL : Holds L' H) :
    SemGB X scope tg v (wipe σ (own.map (·.2))) H fun σ2 H2 => wipe σ2 (own.map (·.2)) = wipe σ (own.map (·.2)) ∧ tYes σ2 H2 fun b H3 =>
      if b = true then SemEB X scope kx σ2 H3 fun y H4 => SemEB X scope vx σ2 H4 fun z H5 => ∃ kvs k, y = kV k ∧ H5 D = some (.dK kvs) ∧ kvs.length < sizeLine ∧ QL Nx (upd H5 D (.dK (putK kvs k z))) else QL Nx H3 := by
  intro s H' C cl fp
  refine g_then (h s H' C cl fp) hL fun σ2 L2 H2 h2 ⟨hw, k2⟩ => ⟨hw, ?_⟩
  show if true = true then SemEB X scope kx σ2 H2 (fun y H4 => SemEB X scope vx σ2 H4 fun z H5 => ∃ kvs k, y = kV k ∧ H5 D = some (.dK kvs) ∧ kvs.length < sizeLine ∧ QL Nx (upd H5 D (.dK (putK kvs k z)))) else QL Nx H2
  rw [if_pos rfl]
  intro s H' C cl fp
  refine e_then (k2 s H' C cl fp) h2 fun y L3 H3 h3 k3 => ?_
  intro s H' C cl fp
  refine e_then (k3 s H' C cl fp) h3 fun z L4 H4 h4 ⟨kvs, k, F, ey, hf, hl, L5, sb, nx⟩ => ?_
  exact ⟨kvs, k, ey, h4.at_ _ _ hf.mem, hl, L5, sb _ (h4.put hf), nx⟩
def TurnDI (X : Cx) (scope : Scope) (own : List (Str × Nat)) (tg c kx vx : Expr) (σ : L2.St) (D : Addr) (v : V) (L' : LH) (Nx : LH → Prop) : Prop :=
  ∀ (s : Shared) (H' : Hp) (C : Addr) (cl : List (Str × Addr)) (fp : List Addr), WG (X.blk s H' scope (compEnvC scope cl C X.env) fp) tg v (wipe σ (own.map (·.2))) L' fun σ2 L2 =>
    wipe σ2 (own.map (·.2)) = wipe σ (own.map (·.2)) ∧ ∀ (s : Shared) (H' : Hp) (C : Addr) (cl : List (Str × Addr)) (fp : List Addr), WT (X.blk s H' scope (compEnvC scope cl C X.env) fp) c σ2 L2 fun b Lb =>
      (b = true → ∀ (s : Shared) (H' : Hp) (C : Addr) (cl : List (Str × Addr)) (fp : List Addr), WE (X.blk s H' scope (compEnvC scope cl C X.env) fp) kx σ2 Lb fun y L3 =>
      ∀ (s : Shared) (H' : Hp) (C : Addr) (cl : List (Str × Addr)) (fp : List Addr), WE (X.blk s H' scope (compEnvC scope cl C X.env) fp) vx σ2 L3 fun z L4 =>
        ∃ kvs k F, y = kV k ∧ Hole D (.dK kvs) L4 F ∧ kvs.length < sizeLine ∧ ∃ L5, Sub (F (.dK (putK kvs k z))) L5 ∧ Nx L5) ∧ (b = false → ∃ L5, Sub Lb L5 ∧ Nx L5)
theorem turnDI {D : Addr} {v : V} {L' : LH} {Nx : LH → Prop} {H : Hp} (h : TurnDI X scope own tg c kx vx σ D v L' Nx) (hL : Holds L' H) :
    SemGB X scope tg v (wipe σ (own.map (·.2))) H fun σ2 H2 => wipe σ2 (own.map (·.2)) = wipe σ (own.map (·.2)) ∧ SemTB X scope c σ2 H2 fun b H3 =>
      if b = true then SemEB X scope kx σ2 H3 fun y H4 => SemEB X scope vx σ2 H4 fun z H5 => ∃ kvs k, y = kV k ∧ H5 D = some (.dK kvs) ∧ kvs.length < sizeLine ∧ QL Nx (upd H5 D (.dK (putK kvs k z))) else QL Nx H3 := by
  intro s H' C cl fp
  refine g_then (h s H' C cl fp) hL fun σ2 L2 H2 h2 ⟨hw, k2⟩ => ⟨hw, ?_⟩
  intro s H' C cl fp
  refine t_then (k2 s H' C cl fp) h2 fun b Lb Hb hb ⟨kt, kf⟩ => ?_
  cases b with
  | true =>
    show if true = true then SemEB X scope kx σ2 Hb (fun y H4 => SemEB X scope vx σ2 H4 fun z H5 => ∃ kvs k, y = kV k ∧ H5 D = some (.dK kvs) ∧ kvs.length < sizeLine ∧ QL Nx (upd H5 D (.dK (putK kvs k z)))) else QL Nx Hb
    rw [if_pos rfl]
    intro s H' C cl fp
    refine e_then (kt rfl s H' C cl fp) hb fun y L3 H3 h3 k3 => ?_
    intro s H' C cl fp
    refine e_then (k3 s H' C cl fp) h3 fun z L4 H4 h4 ⟨kvs, k, F, ey, hf, hl, L5, sb, nx⟩ => ?_
    exact ⟨kvs, k, ey, h4.at_ _ _ hf.mem, hl, L5, sb _ (h4.put hf), nx⟩
  | false =>
    show if false = true then SemEB X scope kx σ2 Hb (fun y H4 => SemEB X scope vx σ2 H4 fun z H5 => ∃ kvs k, y = kV k ∧ H5 D = some (.dK kvs) ∧ kvs.length < sizeLine ∧ QL Nx (upd H5 D (.dK (putK kvs k z)))) else QL Nx Hb
    rw [if_neg (by decide)]
    obtain ⟨L5, sb, nx⟩ := kf rfl
    exact ⟨L5, sb _ hb, nx⟩
/-- over any source -/
theorem dc_it {J : It} {n : Nat} {G : Hp → Prop} {Y : Nat → Hp → V → Hp → Prop} (w : Walk J n G Y) {g : TG} {tt : TT} {tk tv : TE} {vs : List Nat} {σ : L2.St} {H1 : Hp} {D : Addr} {Qd : Hp → Prop} (Pv : Nat → Hp → Prop) (h0 : Pv 0 (upd H1 D (.dK []))) (hG : ∀ i H, i ≤ n → Pv i H → G H)
    (hs : ∀ i x H H', i < n → Pv i H → Y i H x H' → g x (wipe σ vs) H' fun σ2 H2 => wipe σ2 vs = wipe σ vs ∧ tt σ2 H2 fun b H3 =>
      if b = true then tk σ2 H3 fun y H4 => tv σ2 H4 fun z H5 => ∃ kvs k, y = kV k ∧ H5 D = some (.dK kvs) ∧ kvs.length < sizeLine ∧ Pv (i + 1) (upd H5 D (.dK (putK kvs k z))) else Pv (i + 1) H3) (hd : ∀ H, Pv n H → Qd H) :
    ∃ W : Nat → Nat → Hp → Prop, (∃ m, W 0 m (upd H1 D (.dK []))) ∧ ∀ i m H, W i m H →
      (J.stop i H ∧ Qd H) ∨ (J.go i H ∧ ∃ Nx : Hp → Prop, (∀ H', Nx H' → ∃ m', m' < m ∧ W (i + 1) m' H') ∧ ∀ x H', J.yld i H x H' → g x (wipe σ vs) H' fun σ2 H2 => wipe σ2 vs = wipe σ vs ∧ tt σ2 H2 fun b H3 =>
        if b = true then tk σ2 H3 fun y H4 => tv σ2 H4 fun z H5 => ∃ kvs k, y = kV k ∧ H5 D = some (.dK kvs) ∧ kvs.length < sizeLine ∧ Nx (upd H5 D (.dK (putK kvs k z))) else Nx H3) := by
  refine ⟨fun i m H => m = n - i ∧ i ≤ n ∧ Pv i H, ⟨n, by simp, Nat.zero_le _, h0⟩, ?_⟩
  rintro i m H ⟨rfl, hi, p⟩
  have q := hG i H hi p
  by_cases hlt : i < n
  · exact .inr ⟨w.goes i H hlt q, Pv (i + 1), fun H' p' => ⟨n - (i + 1), by omega, rfl, hlt, p'⟩, fun x H' y => hs i x H H' hlt p (w.yields i H x H' hlt q y)⟩
  · have e : i = n := by omega
    subst e
    exact .inl ⟨w.stops H q, hd H p⟩
def DcS (X : Cx) (scope : Scope) (own : List (Str × Nat)) (tg kx vx : Expr) (σ : L2.St) (K : V → LH → Prop) : SK := fun n GL YL L1 => ∀ D, ∃ I : Nat → LH → Prop, I 0 ((D, .dK []) :: L1) ∧ (∀ i L', i ≤ n → I i L' → GL L') ∧
  (∀ i v L' L'', i < n → I i L' → YL i L' v L'' → TurnD X scope own tg kx vx σ D v L'' (I (i + 1))) ∧ (∀ L', I n L' → K (.ref D) L')
def DcIS (X : Cx) (scope : Scope) (own : List (Str × Nat)) (tg c kx vx : Expr) (σ : L2.St) (K : V → LH → Prop) : SK := fun n GL YL L1 => ∀ D, ∃ I : Nat → LH → Prop, I 0 ((D, .dK []) :: L1) ∧ (∀ i L', i ≤ n → I i L' → GL L') ∧
  (∀ i v L' L'', i < n → I i L' → YL i L' v L'' → TurnDI X scope own tg c kx vx σ D v L'' (I (i + 1))) ∧ (∀ L', I n L' → K (.ref D) L')
theorem dcW {wi : TI} (h : ∀ H, Holds L H → ∀ R : It → Hp → Prop, (∀ J L1 H1 n GL YL, Holds L1 H1 → SrcL J n GL YL → DcS X scope own tg kx vx σ K n GL YL L1 → R J H1) → wi σ H R) : ∀ H, Holds L H → tDc wi (SemGB X scope tg) tYes (SemEB X scope kx) (SemEB X scope vx) (own.map (·.2)) σ H (QE K) := fun H hL =>
  h H hL _ fun J L1 H1 n GL YL h1 ⟨G, Y, w, g, y⟩ q D hD => by
    obtain ⟨I, i0, st, turn, fin⟩ := q D
    exact dc_it w (fun i => QL (I i)) ⟨_, h1.new hD, i0⟩ (fun i H' hi ⟨L', h', k⟩ => g L' H' (st i L' hi k) h') (fun i v H' H'' hi ⟨L', h', k⟩ yy => by
      obtain ⟨L'', h'', y'⟩ := y i L' H' v H'' (st i L' (Nat.le_of_lt hi) k) h' yy
      exact turnD (turn i v L' L'' hi k y') h'') (fun H' ⟨L', h', k⟩ => ⟨L', h', fin L' k⟩)
theorem dcIW {wi : TI} (h : ∀ H, Holds L H → ∀ R : It → Hp → Prop, (∀ J L1 H1 n GL YL, Holds L1 H1 → SrcL J n GL YL → DcIS X scope own tg c kx vx σ K n GL YL L1 → R J H1) → wi σ H R) : ∀ H, Holds L H → tDc wi (SemGB X scope tg) (SemTB X scope c) (SemEB X scope kx) (SemEB X scope vx) (own.map (·.2)) σ H (QE K) := fun H hL =>
  h H hL _ fun J L1 H1 n GL YL h1 ⟨G, Y, w, g, y⟩ q D hD => by
    obtain ⟨I, i0, st, turn, fin⟩ := q D
    exact dc_it w (fun i => QL (I i)) ⟨_, h1.new hD, i0⟩ (fun i H' hi ⟨L', h', k⟩ => g L' H' (st i L' hi k) h') (fun i v H' H'' hi ⟨L', h', k⟩ yy => by
      obtain ⟨L'', h'', y'⟩ := y i L' H' v H'' (st i L' (Nat.le_of_lt hi) k) h' yy
      exact turnDI (turn i v L' L'' hi k y') h'') (fun H' ⟨L', h', k⟩ => ⟨L', h', fin L' k⟩)
end
/-! ### over XOk -/
section
variable {N Vn Ln Gn : List Str} {sc : Scope} {X : Cx} {i j : Nat} {tg elt iter c kx vx : Expr} {σ : L2.St} {L : LH} {K : V → LH → Prop} {D : EndsL} {pos cpos py : Pos} {y : Str} {scope : Scope}
theorem x_lc (own : List (Str × Nat)) (h : XOk N sc Vn Ln Gn X) (ok : blkC N sc scope own = true) (q : WI X tg iter σ L (LcS X scope own tg elt σ K)) (hs : ∀ x, foldedSetIterable iter X.env x = pure x := by intro _; rfl) :
    WE X (.ListComp elt [⟨tg, iter, [], 0⟩] scope pos) σ L K := by
  obtain ⟨wi, hi, q⟩ := q
  exact we_of (pe_lc h.calm h.nd hi (blkOk_by (by rw [h.hN, h.hsc]; exact ok)) (fun _ _ _ _ _ => pgB) (fun _ _ _ _ _ => pts_nil) (fun _ _ _ _ _ => peB) hs) (lcW q)
theorem x_lcI (own : List (Str × Nat)) (h : XOk N sc Vn Ln Gn X) (ok : blkC N sc scope own = true) (q : WI X tg iter σ L (LcIS X scope own tg c elt σ K)) (hs : ∀ x, foldedSetIterable iter X.env x = pure x := by intro _; rfl) :
    WE X (.ListComp elt [⟨tg, iter, [c], 0⟩] scope pos) σ L K := by
  obtain ⟨wi, hi, q⟩ := q
  exact we_of (pe_lc h.calm h.nd hi (blkOk_by (by rw [h.hN, h.hsc]; exact ok)) (fun _ _ _ _ _ => pgB) (fun _ _ _ _ _ => pts_one ptB) (fun _ _ _ _ _ => peB) hs) (lcIW q)
theorem x_setLc (own : List (Str × Nat)) (h : XOk N sc Vn Ln Gn X) (ay : At y N i) (cy : At y Ln j) (ok : blkC N sc scope own = true) (hk : sc.kind = .function)
    (ha : (scope.names.any fun (n, k) => n == y && (k == .local || k == .cell)) = false) (hl : (py.line == cpos.line) = true) (q : WI X tg iter σ L (LcS X scope own tg elt σ fun v L' => D.nx (σ.set i (some v)) L'))
    (hs : ∀ x, foldedSetIterable iter X.env x = pure x := by intro _; rfl) : WS X (.Assign [.Name y py] (.ListComp elt [⟨tg, iter, [], 0⟩] scope cpos) pos) σ L D := by
  obtain ⟨wi, hi, q⟩ := q
  exact ws_of (ps_setLc h.calm h.nd (h.ix ay) (h.loc cy) (sw_true (by rw [h.hsc]; exact hk) (h.loc cy) hl ha) hi (blkOk_by (by rw [h.hN, h.hsc]; exact ok)) (fun _ _ _ _ _ => pgB) (fun _ _ _ _ _ => pts_nil) (fun _ _ _ _ _ => peB) hs) (lcW q)
theorem x_setLcI (own : List (Str × Nat)) (h : XOk N sc Vn Ln Gn X) (ay : At y N i) (cy : At y Ln j) (ok : blkC N sc scope own = true) (hk : sc.kind = .function)
    (ha : (scope.names.any fun (n, k) => n == y && (k == .local || k == .cell)) = false) (hl : (py.line == cpos.line) = true) (q : WI X tg iter σ L (LcIS X scope own tg c elt σ fun v L' => D.nx (σ.set i (some v)) L'))
    (hs : ∀ x, foldedSetIterable iter X.env x = pure x := by intro _; rfl) : WS X (.Assign [.Name y py] (.ListComp elt [⟨tg, iter, [c], 0⟩] scope cpos) pos) σ L D := by
  obtain ⟨wi, hi, q⟩ := q
  exact ws_of (ps_setLc h.calm h.nd (h.ix ay) (h.loc cy) (sw_true (by rw [h.hsc]; exact hk) (h.loc cy) hl ha) hi (blkOk_by (by rw [h.hN, h.hsc]; exact ok)) (fun _ _ _ _ _ => pgB) (fun _ _ _ _ _ => pts_one ptB) (fun _ _ _ _ _ => peB) hs) (lcIW q)
theorem x_dc (own : List (Str × Nat)) (h : XOk N sc Vn Ln Gn X) (ok : blkC N sc scope own = true) (q : WI X tg iter σ L (DcS X scope own tg kx vx σ K)) (hs : ∀ x, foldedSetIterable iter X.env x = pure x := by intro _; rfl) :
    WE X (.DictComp kx vx [⟨tg, iter, [], 0⟩] scope pos) σ L K := by
  obtain ⟨wi, hi, q⟩ := q
  exact we_of (pe_dc h.calm h.nd hi (blkOk_by (by rw [h.hN, h.hsc]; exact ok)) (fun _ _ _ _ _ => pgB) (fun _ _ _ _ _ => pts_nil) (fun _ _ _ _ _ => peB) (fun _ _ _ _ _ => peB) hs) (dcW q)
theorem x_dcI (own : List (Str × Nat)) (h : XOk N sc Vn Ln Gn X) (ok : blkC N sc scope own = true) (q : WI X tg iter σ L (DcIS X scope own tg c kx vx σ K)) (hs : ∀ x, foldedSetIterable iter X.env x = pure x := by intro _; rfl) :
    WE X (.DictComp kx vx [⟨tg, iter, [c], 0⟩] scope pos) σ L K := by
  obtain ⟨wi, hi, q⟩ := q
  exact we_of (pe_dc h.calm h.nd hi (blkOk_by (by rw [h.hN, h.hsc]; exact ok)) (fun _ _ _ _ _ => pgB) (fun _ _ _ _ _ => pts_one ptB) (fun _ _ _ _ _ => peB) (fun _ _ _ _ _ => peB) hs) (dcIW q)
end
/-! ### a thing is locked while a statement, an expression runs -/
section
variable {X : Cx} {e : Expr} {st : Stmt} {σ : L2.St} {L : LH} {K : V → LH → Prop} {D : EndsL} {d : Addr} {u : HO} {F : HO → LH}
theorem we_lock (hf : Hole d u L F) (mu : Mut (some u)) (h : ∀ od, WE X e σ (F (.frz od u)) fun v L' => ∃ F', Hole d (.frz od u) L' F' ∧ K v (F' u)) : WE X e σ L K :=
  we_of (pe_lock pe_sem) fun H hL => ⟨d, u, hL.at_ _ _ hf.mem, mu, fun od => e_then (h od) (hL.put hf) fun v L' H' h' ⟨F', hf', k⟩ => ⟨h'.at_ _ _ hf'.mem, F' u, h'.put hf', k⟩⟩
def LockK (d : Addr) (od : Obj) (u : HO) (K : L2.St → LH → Prop) : L2.St → LH → Prop := fun σ L' => ∃ F', Hole d (.frz od u) L' F' ∧ K σ (F' u)
def LockV (d : Addr) (od : Obj) (u : HO) (K : V → LH → Prop) : V → LH → Prop := fun v L' => ∃ F', Hole d (.frz od u) L' F' ∧ K v (F' u)
theorem ws_lock (hf : Hole d u L F) (mu : Mut (some u)) (h : ∀ od, WS X st σ (F (.frz od u)) ⟨LockK d od u D.nx, LockV d od u D.rt, LockK d od u D.bk, LockK d od u D.ct⟩) : WS X st σ L D := by
  refine ws_of (ps_lock ps_sem) fun H hL => ⟨d, u, hL.at_ _ _ hf.mem, mu, fun od => ((h od) _ (hL.put hf)).mono ⟨?_, ?_, ?_, ?_⟩⟩
  · rintro σ' H' ⟨L', h', F', hf', k⟩
    exact ⟨h'.at_ _ _ hf'.mem, F' u, h'.put hf', k⟩
  · rintro v H' ⟨L', h', F', hf', k⟩
    exact ⟨h'.at_ _ _ hf'.mem, F' u, h'.put hf', k⟩
  · rintro σ' H' ⟨L', h', F', hf', k⟩
    exact ⟨h'.at_ _ _ hf'.mem, F' u, h'.put hf', k⟩
  · rintro σ' H' ⟨L', h', F', hf', k⟩
    exact ⟨h'.at_ _ _ hf'.mem, F' u, h'.put hf', k⟩
end
end N3

set_option Elab.async false
set_option linter.all false
set_option maxRecDepth 100000
set_option maxHeartbeats 4000000
namespace N3
open PySem PySem.Spec L2
open PyProof.Rows (sortedS)
/-! ### dicts whose keys are ints and texts -/
def RdL (a : Addr) (u : HO) (L : LH) : Prop := ∀ H, Holds L H → Rd H a u
theorem RdL.of {a : Addr} {u : HO} {L : LH} (m : Mem a u L) : RdL a u L := fun _ h => .inl (h.get m)
theorem RdL.fz {a : Addr} {o : Obj} {u : HO} {L : LH} (m : Mem a (.frz o u) L) : RdL a u L := fun _ h => .inr ⟨o, h.get m⟩
def DGL (a : Addr) (y : V) (r : Option V) (L : LH) : Prop := ∀ H, Holds L H → DGet H a y r
theorem DGL.k {a : Addr} {kvs : List (Key × V)} {L : LH} (k : Key) (h : RdL a (.dK kvs) L) : DGL a (kV k) (valV kvs k) L := fun H hL => .inl ⟨kvs, k, h H hL, rfl, rfl⟩
theorem DGL.s {a : Addr} {kvs : List (Key × V)} {L : LH} {x : Str} {r : Option V} (h : RdL a (.dK kvs) L) (e : valV kvs (.inr x) = r) : DGL a (.str x) r L := by
  subst e
  exact DGL.k (.inr x) h
section
variable {X : Cx} {e o i c f : Expr} {es : List Expr} {σ : L2.St} {L : LH} {K : V → LH → Prop} {KT : Bool → LH → Prop} {D : EndsL} {pos pos' apos cpos p : Pos}
theorem we_dget (hu : X.A.units + 1 < cLine) (h : WE X o σ L fun x L1 => WE X i σ L1 fun y L2 => ∃ a v, x = .ref a ∧ DGL a y (some v) L2 ∧ K v L2) (hs : NoSl i := by intro _ _; rfl) : WE X (.Subscript o i pos) σ L K :=
  we_of (pe_dget hu pe_sem pe_sem hs) fun _ hL => e_then h hL fun _ _ _ h1 k1 => e_then k1 h1 fun _ L2 H2 h2 ⟨a, v, ex, g, k⟩ => ⟨a, v, ex, g H2 h2, L2, h2, k⟩
theorem we_din (hu : X.A.units + 1 < cLine) (hm : behindInMarks .In o = false) (h : WE X i σ L fun y L1 => WE X o σ L1 fun x L2 => ∃ a r, x = .ref a ∧ DGL a y r L2 ∧ K (.bl r.isSome) L2) : WE X (.Compare i [.In] [o] pos) σ L K :=
  we_of (pe_cmp (pc_din hu pe_sem pe_sem) hm) fun _ hL => e_then h hL fun _ _ _ h1 k1 => e_then k1 h1 fun _ L2 H2 h2 ⟨a, r, ex, g, k⟩ => ⟨a, r, ex, g H2 h2, L2, h2, k⟩
theorem we_dnotin (hu : X.A.units + 1 < cLine) (hm : behindInMarks .NotIn o = false) (h : WE X i σ L fun y L1 => WE X o σ L1 fun x L2 => ∃ a r, x = .ref a ∧ DGL a y r L2 ∧ K (.bl (!r.isSome)) L2) : WE X (.Compare i [.NotIn] [o] pos) σ L K :=
  we_of (pe_cmp (pc_dnotin hu pe_sem pe_sem) hm) fun _ hL => e_then h hL fun _ _ _ h1 k1 => e_then k1 h1 fun _ L2 H2 h2 ⟨a, r, ex, g, k⟩ => ⟨a, r, ex, g H2 h2, L2, h2, k⟩
/-- any comparison as a test, by its value -/
theorem wt_cmpV {op : CmpOp} (h : WE X (.Compare e [op] [o] pos) σ L (KB KT)) (he : ∀ whole, isTrue (.Compare e [op] [o] pos) X.env whole = (do let v ← whole; standAt pos; holding [v] (truthy v)) := by intro _; rfl) : WT X (.Compare e [op] [o] pos) σ L KT := wt_val h he
theorem ws_dput (hu : X.A.units + 1 < cLine) (h : WE X e σ L fun v L1 => WE X o σ L1 fun x L2 => WE X i σ L2 fun y L3 => ∃ a kvs k F, x = .ref a ∧ y = kV k ∧ Hole a (.dK kvs) L3 F ∧ kvs.length < sizeLine ∧ D.nx σ (F (.dK (putK kvs k v))))
    (hs : swapsWith e (some (.Subscript o i pos')) pos.line X.env = pure false := by rfl) : WS X (.Assign [.Subscript o i pos'] e pos) σ L D :=
  ws_of (ps_dput hu pe_sem pe_sem pe_sem hs) fun _ hL => e_then h hL fun _ _ _ h1 k1 => e_then k1 h1 fun _ _ _ h2 k2 => e_then k2 h2 fun _ L3 H3 h3 ⟨a, kvs, k, F, ex, ey, hf, hl, q⟩ => by
    subst ey
    exact ⟨a, _, ex, .k (h3.at_ _ _ hf.mem) hl, _, h3.put hf, q⟩
theorem we_dget2 (hu : X.A.units + 1 < cLine) (h : WE X o σ L fun x L1 => ∃ a kvs, x = .ref a ∧ RdL a (.dK kvs) L1 ∧ WE X e σ L1 fun y L2 => WE X f σ L2 fun z L3 => ∃ r, DGL a y r L3 ∧ K (r.getD z) L3) (m : M2 X o "get" apos e f cpos := by exact ⟨rfl, rfl, rfl, rfl⟩) :
    WE X (.Call (.Attribute o "get" apos) [e, f] [] cpos) σ L K :=
  we_of (pe_dget2 hu pe_sem pe_sem pe_sem m) fun _ hL => e_then h hL fun _ L1 H1 h1 ⟨a, kvs, ex, rd, k1⟩ => ⟨a, ex, .inl ⟨kvs, rd H1 h1⟩, e_then k1 h1 fun _ _ _ h2 k2 => e_then k2 h2 fun _ L3 H3 h3 ⟨r, g, k⟩ => ⟨r, g H3 h3, L3, h3, k⟩⟩
theorem we_dnew (k : ∀ p, K (.ref p) ((p, .dK []) :: L)) : WE X (.Dict [] [] pos) σ L K := we_of pe_dnewK fun _ hL p hp => ⟨_, hL.new hp, k p⟩
theorem wc_lenD {a : Addr} {kvs : List (Key × V)} (m : Mem a (.dK kvs) L) (k : K (.int (kvs.length : Int)) L) : WC X (.builtin "len") [.ref a] L K := wc_of call_lenD fun _ hL => ⟨a, kvs, rfl, hL.get m, L, hL, k⟩
theorem wc_listD {a : Addr} {kvs : List (Key × V)} (hc : X.calm = true) (m : RdL a (.dK kvs) L) (k : ∀ p, K (.ref p) ((p, .lst (kvs.map fun kv => kV kv.1)) :: L)) : WC X (.type "list") [.ref a] L K :=
  wc_of (call_listD hc) fun H hL => ⟨a, kvs, rfl, m H hL, fun p hp => ⟨_, hL.new hp, k p⟩⟩
theorem wc_dictD {a : Addr} {kvs : List (Key × V)} (m : RdL a (.dK kvs) L) (k : ∀ p, K (.ref p) ((p, .dK kvs) :: L)) : WC X (.type "dict") [.ref a] L K :=
  wc_of call_dictD fun H hL => ⟨a, kvs, rfl, m H hL, fun p hp => ⟨_, hL.new hp, k p⟩⟩
theorem wc_sortedD {a : Addr} {kvs : List (Key × V)} {ks : List Str} (hc : X.calm = true) (m : RdL a (.dK kvs) L) (e : kvs.map (·.1) = ks.map Sum.inr) (hl : ks.length < 64) (k : ∀ ys p, ys.Perm ks → sortedS ys = true → K (.ref p) ((p, .lst (ys.map V.str)) :: L)) : WC X (.builtin "sorted") [.ref a] L K :=
  wc_of (call_sortedD hc) fun H hL => ⟨a, kvs, ks, rfl, m H hL, e, hl, fun ys p h1 h2 hp => ⟨_, hL.new hp, k ys p h1 h2⟩⟩
/-- dict(l), l a list of pairs -/
theorem wc_dictP {a : Addr} {ps : List Addr} {kvs : List (Key × V)} (hc : X.calm = true) (h : SqLL X.K a (ps.map V.ref) L) (hp : ∀ H, Holds L H → Paired (fun p kv => SqT X.K H p [kV kv.1, kv.2]) ps kvs) (k : ∀ p, K (.ref p) ((p, .dK (mergeK [] kvs)) :: L)) : WC X (.type "dict") [.ref a] L K :=
  wc_of (call_dictP hc) fun H hL => ⟨a, ps, kvs, rfl, h H hL, hp H hL, fun p hp => ⟨_, hL.new hp, k p⟩⟩
theorem we_dclear (h : WE X o σ L fun x L1 => ∃ a kvs F, x = .ref a ∧ Hole a (.dK kvs) L1 F ∧ K .non (F (.dK []))) (hb : attributeBase o "clear" X.env (eval o X.env) = eval o X.env := by rfl) (hline : (apos.endLine == cpos.line) = true := by rfl) :
    WE X (.Call (.Attribute o "clear" apos) [] [] cpos) σ L K :=
  we_of (pe_dclear pe_sem hb hline) fun _ hL => e_then h hL fun _ L1 H1 h1 ⟨a, kvs, F, ex, hf, k⟩ => by
    subst ex
    have hd := h1.at_ _ _ hf.mem
    exact ⟨.inr (.inr (.inl ⟨rfl, .inl ⟨_, hd⟩⟩)), a, kvs, rfl, rfl, hd, _, h1.put hf, k⟩
end
end N3

set_option Elab.async false
set_option linter.all false
set_option maxRecDepth 100000
set_option maxHeartbeats 4000000
namespace PySem.W
open PySem PySem.Calls PyProof.Rows
section
variable {prog : Program} {w : World} {A : Around} {E : Value → Shared → Prop} {s : Shared} {T : String} {r d : Addr} {n : Nat} {P : Nat → Value → Prop} {OK : Heap → Prop}
theorem n4_collect {Q : List Value → Shared → Prop} (K : KdlSrc prog w T r d n P OK) (hh : A.handled = none) (hok : OK s.heap) (hn : n ≤ sizeLine)
    (hQ : ∀ h' tk acc, (∀ b o, s.heap.get? b = some o → h'.get? b = some o) → ItemsOf P acc n → Q acc.toList { s with heap := h', toks := tk }) : wpAny (model prog w) A (collect (.ref r)) Q E s := by
  have hlt := K.there _ hok
  unfold collect
  refine wpAny_bind (wpAny_runValue (codeAny_builtin PySem.F.entry_proto_collect ?_))
  rw [Around.under_plainId PySem.F.plain_proto_collect _]
  show wpAny _ A.in1 (newList [] >>= fun l => again (.builtin "list.__iadd__" ⟨[l, .ref r], []⟩)) _ _ s
  refine wpAny_bind (wpAny_newObj_type ?_)
  refine wpAny_pure ⟨plainId_quiet PySem.F.plain_list_iadd _, codeAny_builtin PySem.F.entry_list_iadd ?_⟩
  rw [Around.under_plainId PySem.F.plain_list_iadd _]
  show wpAny _ A.in1 (Builtin.List.listExtendWith (.ref s.heap.objs.size) (.ref r) (.ref s.heap.objs.size)) _ _ _
  have hS : (s.heap.push { cls := .type "list", data := .seq ([] : List Value).toArray }).get? s.heap.objs.size = some { cls := .type "list", data := .seq #[] 0 } := Heap.get?_push_size _ rfl
  let R : Result → Shared → Prop := fun r s' => r = .ok (.ret (.ref s.heap.objs.size)) ∧ ∃ acc c, s'.heap.get? s.heap.objs.size = some { cls := .type "list", dict := none, data := .seq acc c, slots := #[] } ∧ Q acc.toList s'
  have fin' : ∀ s', R (.ok (.ret (.ref s.heap.objs.size))) s' → wpAny (model prog w) A (match Value.ref s.heap.objs.size with
      | Value.ref a => do
        match (← load a).data with
          | Data.seq xs _ => pure xs.toList
          | _ => unsupported "internal:collect"
      | _ => unsupported "internal:collect") Q E s' := by
    rintro s' ⟨_, acc, c, hS', q⟩
    show wpAny _ A (load s.heap.objs.size >>= _) _ _ _
    exact wpAny_bind (wpAny_load hS' (wpAny_pure q))
  refine wpAny_mono (kdl_extend (R := R) (s := { s with heap := s.heap.push { cls := .type "list", data := .seq ([] : List Value).toArray } }) K hh (K.keep _ _ hok fun b _ o e => Heap.get?_push_of_some _ e) s.heap.objs.size (Nat.ne_of_gt hlt.1) (Nat.ne_of_gt hlt.2) (.ref s.heap.objs.size) 0 hS (fun h' tk acc c hk hS' hacc => ?_) hn) (fun fin s' h => ?_) (fun e s' h => ?_)
  · exact ⟨rfl, acc, c, hS', hQ h' tk acc (fun b o e => hk b o (Nat.ne_of_lt (Heap.lt_size e)) (Heap.get?_push_of_some _ e)) hacc⟩
  · cases fin with
    | done f =>
      have h0 := h
      obtain ⟨e, _⟩ := h
      cases e
      exact fin' _ h0
    | again c' => exact ⟨h.1, codeAny_mono h.2 fun r s'' hr => by
        have h0 := hr
        obtain ⟨e, _⟩ := hr
        subst e
        exact fin' _ h0⟩
  · exact absurd h.1 (by simp)
end
end PySem.W
namespace N3
open PySem PySem.Spec L2
section
variable {X : Cx} {e : Expr} {es : List Expr} {σ : L2.St} {L : LH} {KA : List V → LH → Prop} {p : Pos}
/-- *d among the items of a display -/
theorem wa_starD (hc : X.calm = true) (h : WE X e σ L fun x L1 => ∃ a kvs, x = .ref a ∧ RdL a (.dK kvs) L1 ∧ WA X es σ L1 fun vs L2 => KA ((kvs.map fun kv => kV kv.1) ++ vs) L2)
    (he : starEach (.Starred e p :: es) X.env = (true, eval e X.env) :: starEach es X.env := by rfl) : WA X (.Starred e p :: es) σ L KA := by
  intro H hL pos pins s I
  refine PySem.W.items_star (thn (h H hL pins s I) fun u s1 ⟨x, H1, I1, rx, L1, h1, a, kvs, ex, rd, k⟩ => ?_) he
  subst ex
  obtain rfl : u = Value.ref a := rx
  obtain ⟨z, lo, vs, rel, dd⟩ := dk_rd I1.hok (rd H1 h1)
  obtain ⟨ep, hat⟩ := dd.dictAt
  have ek : (kvs.map fun kv => kV kv.1) = vs.map fun p => kV p.1 := by
    have e := congrArg (List.map kV) rel.keys
    rw [List.map_map, List.map_map] at e
    exact e
  unfold PySem.W.StarOf PySem.notIterableAtAll
  refine wpAny_bind (wpAny_specialOf dd.typeIs PySem.F.slot_dict_iter.lookup (wpAny_pure ⟨rfl, ?_⟩))
  refine PySem.W.n4_collect (PySem.W.kdl_dict (knd := mixKind X.prog X.w) (kvs := vs) (ep := ep) lo) (I1.ok.hd hc) hat (by rw [← rel.length]; exact z) fun h' tk acc hk hacc => ?_
  have hv : Vals (vs.map fun p => kV p.1) acc.toList := keys_at (by rw [Array.length_toList]; exact hacc.1) fun j v e => hacc.2 j v (by rw [← Array.getElem?_toList]; exact e)
  have I2 : Inv X pins σ H1 { s1 with heap := h', toks := tk } := I1.kept hk
  refine thn (k H1 h1 pos pins _ I2) fun us s3 ⟨ws, H3, I3, r3, L3, h3, kk⟩ => ?_
  exact ⟨_, H3, I3, (by rw [ek]; exact hv.append r3), L3, h3, kk⟩
end
end N3

set_option Elab.async false
set_option linter.all false
set_option maxRecDepth 100000
set_option maxHeartbeats 4000000
namespace N3
open PySem PySem.Spec L2
/-! ### == of dicts with flat values -/
def sameB (ls ks : List (Key × V)) : Bool := ks.all fun p => match valV ls p.1 with | some u => eqV p.2 u | none => false
def eqD (ks ls : List (Key × V)) : Bool := ks.length == ls.length && sameB ls ks
theorem hits_dec {A : Around} {s : Shared} {ls : List (Key × V)} {vb : List (Key × Value)} (rb : KV ls vb) (fl : ∀ p ∈ ls, flatV p.2 = true) {ks : List (Key × V)} {va : List (Key × Value)} (ra : KV ks va) :
    (∀ p ∈ ks, flatV p.2 = true) → PySem.W.KeqHits A s vb va (sameB ls ks) := by
  unfold KV at ra
  induction ra with
  | nil => intro _; exact .nil
  | @cons p q ps qs h t ih =>
    intro hp
    obtain ⟨h1, h2⟩ := h
    obtain ⟨k, v⟩ := q
    have h1' : p.1 = k := h1
    have rr : RelO (valV ls p.1) (valueAt vb p.1) := rb.val p.1
    have ih' := ih fun p' hm => hp p' (List.mem_cons_of_mem _ hm)
    cases e : valV ls p.1 with
    | none =>
      rw [e] at rr
      have hn : valueAt vb k = none := by rw [← h1']; exact rr.none_of
      have e2 : sameB ls (p :: ps) = false := by unfold sameB; rw [List.all_cons, e]; rfl
      rw [e2]
      exact .miss hn
    | some u =>
      rw [e] at rr
      obtain ⟨y, hy, ry⟩ := rr.some_of
      rw [h1'] at hy
      have fu : flatV u = true := by
        unfold valV at e
        obtain ⟨z, hz, e⟩ := Option.map_eq_some_iff.mp e
        rw [← e]
        exact fl z (List.mem_of_find?_eq_some hz)
      have e2 : sameB ls (p :: ps) = (eqV p.2 u && sameB ls ps) := by unfold sameB; rw [List.all_cons, e]
      rw [e2]
      exact .hit hy (eqAt_V h2 ry (hp p List.mem_cons_self) fu) ih'
section
variable {X : Cx} {e o i c f g : Expr} {es : List Expr} {σ : L2.St} {L : LH} {K : V → LH → Prop} {KT : Bool → LH → Prop} {D : EndsL} {pos pos' apos cpos p : Pos} {a b : Addr} {ks ls : List (Key × V)}
theorem wo_eqDK (hu : X.A.units < cLine) (ma : Mem a (.dK ks) L) (mb : Mem b (.dK ls) L) (fk : ∀ p ∈ ks, flatV p.2 = true) (fl : ∀ p ∈ ls, flatV p.2 = true) (k : K (.bl (eqD ks ls)) L) : WO X (compareOp .Eq) (.ref a) (.ref b) L K := by
  intro H hL pins s σ v u I rx ry
  obtain rfl : v = Value.ref a := rx
  obtain rfl : u = Value.ref b := ry
  obtain ⟨_, ya, va, ra, da⟩ := dk_of I.hok (hL.get ma)
  obtain ⟨_, yb, vb, rb, db⟩ := dk_of I.hok (hL.get mb)
  have hl : (va.length == vb.length) = (ks.length == ls.length) := by rw [← ra.length, ← rb.length]
  refine PySem.W.keq_eq (knd := mixKind X.prog X.w) (r := sameB ls ks) ya yb da db hu (fun _ => hits_dec rb fl ra fk) ?_
  rw [hl]
  exact ⟨.bl (eqD ks ls), H, I, rfl, L, hL, k⟩
theorem wo_neDK (hu : X.A.units < cLine) (ma : Mem a (.dK ks) L) (mb : Mem b (.dK ls) L) (fk : ∀ p ∈ ks, flatV p.2 = true) (fl : ∀ p ∈ ls, flatV p.2 = true) (k : K (.bl (!eqD ks ls)) L) : WO X (compareOp .NotEq) (.ref a) (.ref b) L K := by
  intro H hL pins s σ v u I rx ry
  obtain rfl : v = Value.ref a := rx
  obtain rfl : u = Value.ref b := ry
  obtain ⟨_, ya, va, ra, da⟩ := dk_of I.hok (hL.get ma)
  obtain ⟨_, yb, vb, rb, db⟩ := dk_of I.hok (hL.get mb)
  have hl : (va.length == vb.length) = (ks.length == ls.length) := by rw [← ra.length, ← rb.length]
  refine PySem.W.keq_ne (knd := mixKind X.prog X.w) (r := sameB ls ks) ya yb da db hu (fun _ => hits_dec rb fl ra fk) ?_
  rw [hl]
  exact ⟨.bl (!eqD ks ls), H, I, rfl, L, hL, k⟩
/-! ### own len, own in -/
variable {C o1 dx : Addr} {fs : List (Str × V)} {k : Nat} {ps : List Str} {pre : Pre}
theorem wc_ownLen (G : GOp X.prog X.w X.K X.mg X.base C "__len__" k ps pre) (hr : Room (k + 1) X.A) (m : Mem o1 (.ins C dx fs) L) (h : pre [.ref o1] L fun v L1 => ∃ n : Int, v = .int n ∧ 0 ≤ n ∧ n < 2 ^ 63 ∧ K (.int n) L1) : WC X (.builtin "len") [.ref o1] L K := by
  intro H hL pins s σ us I r1
  cases r1 with
  | cons r rr =>
    cases rr
    cases r
    obtain ⟨mA, J, _⟩ := ins_get I.hok (hL.get m)
    obtain ⟨od, J, _⟩ := J.look
    obtain ⟨mm, hF⟩ := I.fr
    obtain ⟨f, hs, hf, hrun⟩ := run_op (A := X.A.in1) (us := [.ref o1]) (vs := [.ref o1]) G hr.in1 rfl hL I (.cons rfl .nil) h
    refine PySem.W.len_K hF I.ok.mod.kin J hs hf (wpAny_mono hrun (fun w s' z => ?_) fun _ _ x => x)
    obtain ⟨z', H', I', rz, L2, h2, n, ez, n0, n1, qz⟩ := z
    subst ez
    obtain ⟨t, rfl⟩ := rz
    exact ⟨⟨n0, n1⟩, .int n, H', I'.tok _, ⟨_, rfl⟩, L2, h2, qz⟩
theorem wo_ownIn {v : V} (G : GOp X.prog X.w X.K X.mg X.base C "__contains__" k ps pre) (hr : Room k X.A) (m : Mem o1 (.ins C dx fs) L) (h : pre [.ref o1, v] L (KB fun b L1 => K (.bl b) L1)) : WO X (compareOp .In) v (.ref o1) L K := by
  intro H hL pins s σ v1 u I r1 r2
  obtain rfl : u = Value.ref o1 := r2
  obtain ⟨mA, J, _⟩ := ins_get I.hok (hL.get m)
  obtain ⟨od, J, _⟩ := J.look
  obtain ⟨mm, hF⟩ := I.fr
  obtain ⟨f, hs, hf, hrun⟩ := run_op (A := X.A) (us := [.ref o1, v1]) (vs := [.ref o1, v]) G hr rfl hL I (.cons rfl (.cons r1 .nil)) h
  refine PySem.W.in_K hF I.ok.mod.kin J hs hf (wpAny_mono hrun (fun w s' z => ?_) fun _ _ x => x)
  obtain ⟨z', H', I', rz, L2, h2, b, ez, qz⟩ := z
  subst ez
  cases rz
  exact wpAny_truthy_bool ⟨.bl b, H', I', rfl, L2, h2, qz⟩
/-! ### texts, lists -/
theorem we_ixS (h : WE X e σ L fun x L1 => WE X i σ L1 fun y L2 => ∃ z j c, x = .str z ∧ y = .int j ∧ z.length ≤ sizeLine ∧ atI z.cps.toList j = some c ∧ K (.str ⟨#[c]⟩) L2) (hs : PlainIx i := by intro _ _; rfl) : WE X (.Subscript e i pos) σ L K :=
  we_of (pe_ix ix_str pe_sem pe_sem hs) fun _ hL => e_then h hL fun _ _ _ h1 k1 => e_then k1 h1 fun _ L2 H2 h2 ⟨z, j, c, ex, ey, hz, ha, k⟩ => ⟨z, j, c, ex, ey, hz, ha, L2, h2, k⟩
theorem wc_lenS {z : Str} (hz : z.length ≤ sizeLine) (k : K (.int (z.length : Int)) L) : WC X (.builtin "len") [.str z] L K := wc_of call_len_str fun _ hL => ⟨z, rfl, hz, L, hL, k⟩
theorem wo_inSign {c : Nat} {z : Str} (k : K (.bl (decide (c ∈ z.cps.toList))) L) : WO X (compareOp .In) (.str ⟨#[c]⟩) (.str z) L K := wo_of op_in_sign fun _ hL => ⟨c, z, rfl, rfl, L, hL, k⟩
theorem wo_inL {v : V} {q : Addr} {xs : List V} (h : SqLL X.K q xs L) (fx : flatV v = true) (fs : xs.all flatV = true) (k : K (.bl (inV v xs)) L) : WO X (compareOp .In) v (.ref q) L K := wo_of op_in_seq fun H hL => ⟨q, xs, rfl, .inl (h H hL), fx, fs, L, hL, k⟩
theorem wo_notInL {v : V} {q : Addr} {xs : List V} (h : SqLL X.K q xs L) (fx : flatV v = true) (fs : xs.all flatV = true) (k : K (.bl (!inV v xs)) L) : WO X (compareOp .NotIn) v (.ref q) L K := wo_of op_notIn_seq fun H hL => ⟨q, xs, rfl, .inl (h H hL), fx, fs, L, hL, k⟩
theorem wc_listOf {q : Addr} {xs : List V} (h : SqLL X.K q xs L) (k : ∀ p, K (.ref p) ((p, .lst xs) :: L)) : WC X (.type "list") [.ref q] L K := wc_of call_list_of fun H hL => ⟨q, xs, rfl, .inl (h H hL), fun p hp => ⟨_, hL.new hp, k p⟩⟩
theorem we_join (h : WE X o σ L fun x L1 => ∃ z, x = .str z ∧ WE X e σ L1 fun y L2 => ∃ q ys, y = .ref q ∧ SqLL X.K q (List.map V.str ys) L2 ∧ (ys.map (·.length)).sum + ys.length * z.length ≤ 16777216 ∧ K (.str (Txt.join z ys)) L2)
    (hs : starEach [e] X.env = [(false, eval e X.env)] := by rfl) (hbase : attributeBase o "join" X.env (eval o X.env) = eval o X.env := by rfl) (hline : (apos.endLine == cpos.line) = true := by rfl) : WE X (.Call (.Attribute o "join" apos) [e] [] cpos) σ L K := by
  refine we_of (pe_join pe_sem pe_sem hs hbase hline) fun _ hL => e_then h hL fun x L1 H1 h1 ⟨z, ex, k1⟩ => ?_
  subst ex
  exact ⟨⟨z, rfl⟩, e_then k1 h1 fun y L2 H2 h2 ⟨q, ys, ey, sq, hl, k⟩ => by
    subst ey
    exact ⟨z, q, ys, rfl, rfl, .inl (sq H2 h2), hl, L2, h2, k⟩⟩
theorem we_append (h : WE X o σ L fun x L1 => ∃ q xs, x = .ref q ∧ SqLL X.K q xs L1 ∧ WE X e σ L1 fun y L2 => ∃ ys F, Hole q (.lst ys) L2 F ∧ ys.length < sizeLine ∧ K .non (F (.lst (ys ++ [y]))))
    (hs : starEach [e] X.env = (false, eval e X.env) :: starEach [] X.env := by rfl) (hbase : attributeBase o "append" X.env (eval o X.env) = eval o X.env := by rfl) (hf : ((backTo cpos (starEach [e] X.env)).all (fun x => !x.1) && (backToKw cpos (keywordEach [] X.env)).all (fun x => x.1.isSome) && decide (([e] : List Expr).length + ([] : List Keyword).length + (if ([] : List Keyword).isEmpty then 0 else 1) < 30)) = true := by rfl) (hline : (apos.endLine == cpos.line) = true := by rfl) : WE X (.Call (.Attribute o "append" apos) [e] [] cpos) σ L K :=
  we_of (pe_bm PySem.F.plainAttrs_list PySem.F.slot_list_append PySem.F.type_list_append mt_append pe_sem (pa_cons pe_sem pa_nil hs) hbase hf hline hs rfl) fun _ hL => e_then h hL fun x L1 H1 h1 ⟨q, xs, ex, sq, k1⟩ => by
    subst ex
    exact ⟨.inl ⟨rfl, xs, sq H1 h1⟩, e_then k1 h1 fun y L2 H2 h2 ⟨ys, F, hf, hl, k⟩ => ⟨q, ys, y, rfl, rfl, h2.at_ _ _ hf.mem, hl, _, h2.put hf, k⟩⟩
/-- l.pop(i) -/
theorem we_popAt (h : WE X o σ L fun x L1 => ∃ q xs, x = .ref q ∧ SqLL X.K q xs L1 ∧ WE X e σ L1 fun y L2 => ∃ ys i k v F, y = .int i ∧ Hole q (.lst ys) L2 F ∧ -(2 ^ 63) ≤ i ∧ i < 2 ^ 63 ∧ seqIndex? i ys.length = some k ∧ ys[k]? = some v ∧ K v (F (.lst (ys.eraseIdx k))))
    (hs : starEach [e] X.env = (false, eval e X.env) :: starEach [] X.env := by rfl) (hbase : attributeBase o "pop" X.env (eval o X.env) = eval o X.env := by rfl) (hf : ((backTo cpos (starEach [e] X.env)).all (fun x => !x.1) && (backToKw cpos (keywordEach [] X.env)).all (fun x => x.1.isSome) && decide (([e] : List Expr).length + ([] : List Keyword).length + (if ([] : List Keyword).isEmpty then 0 else 1) < 30)) = true := by rfl) (hline : (apos.endLine == cpos.line) = true := by rfl) : WE X (.Call (.Attribute o "pop" apos) [e] [] cpos) σ L K :=
  we_of (pe_bm PySem.F.plainAttrs_list PySem.F.slot_list_pop PySem.F.type_list_pop mt_popAt pe_sem (pa_cons pe_sem pa_nil hs) hbase hf hline hs rfl) fun _ hL => e_then h hL fun x L1 H1 h1 ⟨q, xs, ex, sq, k1⟩ => by
    subst ex
    exact ⟨.inl ⟨rfl, xs, sq H1 h1⟩, e_then k1 h1 fun y L2 H2 h2 ⟨ys, i, k, v, F, ey, hf, i0, i1, hk, hv, kk⟩ => by
      subst ey
      exact ⟨q, ys, i, k, v, rfl, rfl, h2.at_ _ _ hf.mem, i0, i1, hk, hv, _, h2.put hf, kk⟩⟩
theorem we_revL {k1 : Nat} {p1 p2 p3 : Pos} (h : WE X e σ L fun x L1 => ∃ q xs, x = .ref q ∧ SqLL X.K q xs L1 ∧ ∀ p, K (.ref p) ((p, .lst xs.reverse) :: L1)) : WE X (.Subscript e (.Slice none none (some (.UnaryOp .USub (.Constant (.int 1) k1 p1) p2)) p3) pos) σ L K :=
  we_of (pe_revL pe_sem) fun _ hL => e_then h hL fun _ L1 H1 h1 ⟨q, xs, ex, sq, k⟩ => ⟨q, xs, ex, sq H1 h1, fun p hp => ⟨_, h1.new hp, k p⟩⟩
/-- a <= b <= c of ints -/
theorem we_chain {op op' : CmpOp} {r r' : R2} (ho : OpR X (compareOp op) r) (ho' : OpR X (compareOp op') r') (h : WE X e σ L fun x L1 => WE X f σ L1 fun y L2 => ∀ H2, Holds L2 H2 → r x y H2 fun z H3 => ∃ L3, Holds L3 H3 ∧ ∃ t, z = .bl t ∧ (t = true → WE X g σ L3 fun w L4 => ∀ H4, Holds L4 H4 → r' y w H4 (QE K)) ∧ (t = false → K (.bl false) L3))
    (hm : lastMarks [op, op'] [f, g] = false := by with_unfolding_all rfl) (mono : ∀ x y H Q Q', r x y H Q → (∀ v H, Q v H → Q' v H) → r x y H Q') : WE X (.Compare e [op, op'] [f, g] pos) σ L K :=
  we_of (pe_chain ho ho' pe_sem pe_sem pe_sem hm) fun _ hL => e_then h hL fun _ _ _ h1 k1 => e_then k1 h1 fun _ L2 H2 h2 k2 => mono _ _ _ _ _ (k2 H2 h2) fun z H3 ⟨L3, h3, t, ez, kt, kf⟩ => ⟨t, ez, by
    cases t with
    | true => exact iteT (e_then (kt rfl) h3 fun _ _ H4 h4 k4 => k4 H4 h4)
    | false => exact iteF ⟨L3, h3, kf rfl⟩⟩
end
end N3

set_option Elab.async false
set_option linter.all false
set_option maxRecDepth 100000
set_option maxHeartbeats 4000000
namespace N3
open PySem PySem.Spec L2 PySem.W PySem.Calls
open PyProof.Rows hiding St
/-! ### data, dicts among them, shown -/
/-- a plain value -/
def ScB : V → Option PyData
  | .non => some .none
  | .bl b => some (.bool b)
  | .int i => some (.int i)
  | .str x => some (.str x)
  | _ => none
theorem sc_reads {h : Heap} {v : V} {d : PyData} {u : Value} (e : ScB v = some d) (r : RelV v u) : Reads h u d [] := by
  cases v with
  | non => cases e; cases r; exact .none
  | bl b => cases e; cases r; exact .bool b
  | int i => cases e; obtain ⟨t, rfl⟩ := r; exact .int i t
  | str x => cases e; obtain ⟨t, rfl⟩ := r; exact .str x t
  | _ => cases e
theorem sc_readsAll {h : Heap} : ∀ {vs : List V} {ds : List PyData} {us : List Value}, Paired (fun v d => ScB v = some d) vs ds → Vals vs us → ReadsAll h us ds []
  | _, _, _, .nil, .nil => .nil
  | _, _, _, .cons e t, .cons r rr => .cons (bs := []) (as := []) (sc_reads e r) (sc_readsAll t rr)
def keyD : Key → PyData
  | .inl i => .int i
  | .inr x => .str x
theorem sc_key (k : Key) : ScB (kV k) = some (keyD k) := by cases k <;> rfl
/-- the data of a dict of plain values -/
def dictD (kvs : List (Key × V)) : Option (List (PyData × PyData)) := kvs.mapM fun p => (ScB p.2).map fun d => (keyD p.1, d)
inductive DictIs : List (Key × V) → List (PyData × PyData) → Prop where
  | nil : DictIs [] []
  | cons {k : Key} {v : V} {d : PyData} {kvs : List (Key × V)} {ds : List (PyData × PyData)} : ScB v = some d → DictIs kvs ds → DictIs ((k, v) :: kvs) ((keyD k, d) :: ds)
theorem DictIs.keys {kvs : List (Key × V)} {ds : List (PyData × PyData)} (h : DictIs kvs ds) : Paired (fun v d => ScB v = some d) (kvs.map fun p => kV p.1) (ds.map (·.1)) := by
  induction h with
  | nil => exact .nil
  | cons _ _ ih => exact .cons (sc_key _) ih
theorem DictIs.vals {kvs : List (Key × V)} {ds : List (PyData × PyData)} (h : DictIs kvs ds) : Paired (fun v d => ScB v = some d) (kvs.map (·.2)) (ds.map (·.2)) := by
  induction h with
  | nil => exact .nil
  | cons e _ ih => exact .cons e ih
theorem pairs_keys {prog : Program} {w : World} {es : List DictEntry} {vs : List (Key × Value)} (h : Pairs (mixKind prog w) es vs) : Vals (vs.map fun p => kV p.1) (es.map (·.key)) := by
  refine keys_at (by rw [List.length_map]; exact h.length) fun j v e => ?_
  rw [List.getElem?_map] at e
  obtain ⟨en, he, e⟩ := Option.map_eq_some_iff.mp e
  subst e
  obtain ⟨p, hp⟩ : ∃ p, vs[j]? = some p := by
    have hl := h.length
    have : j < es.length := by
      rcases Nat.lt_or_ge j es.length with q | q
      · exact q
      · rw [List.getElem?_eq_none q] at he; cases he
    exact ⟨vs[j], List.getElem?_eq_getElem (by omega)⟩
  obtain ⟨q1, q2⟩ := h.get? (k := p.1) (v := p.2) he hp
  exact ⟨p.1, p.2, hp, q1⟩
theorem pairs_vals {prog : Program} {w : World} {es : List DictEntry} {vs : List (Key × Value)} (h : Pairs (mixKind prog w) es vs) : es.map (·.val) = vs.map (·.2) := by
  induction h with
  | nil => rfl
  | cons _ e _ ih => rw [List.map_cons, List.map_cons, e, ih]
theorem kv_vals {kvs : List (Key × V)} {vs : List (Key × Value)} (r : KV kvs vs) : Vals (kvs.map (·.2)) (vs.map (·.2)) := by
  unfold KV at r
  induction r with
  | nil => exact .nil
  | cons h _ ih => exact .cons h.2 ih
section
variable {X : Cx} {pins : List (Addr × Obj)} {σ : L2.St} {H : Hp} {s : Shared}
theorem dict_reads {a : Addr} {kvs : List (Key × V)} {ds : List (PyData × PyData)} (I : Inv X pins σ H s) (rd : Rd H a (.dK kvs)) (h : DictIs kvs ds) : Reads s.heap (.ref a) (.dict ds) [a] ∧ a ≠ sysModules := by
  obtain ⟨z, lo, vs, rel, o, es, ep, ho, hx, hd, _, hp, _⟩ := dk_rd I.hok rd
  have ek : (kvs.map fun kv => kV kv.1) = vs.map fun p => kV p.1 := by
    have e := congrArg (List.map kV) rel.keys
    rw [List.map_map, List.map_map] at e
    exact e
  have hk : Vals (kvs.map fun kv => kV kv.1) (es.toList.map (·.key)) := by rw [ek]; exact pairs_keys hp
  have hv : Vals (kvs.map (·.2)) (es.toList.map (·.val)) := by rw [pairs_vals hp]; exact kv_vals rel
  refine ⟨?_, fun e => by rw [e] at lo; simp at lo⟩
  have := Reads.dict (h := s.heap) (as := []) (bs := []) ho hx.1 hd (sc_readsAll h.keys hk) (sc_readsAll h.vals hv)
  exact this
end
/-- a value and its data: plain, tuples and lists of what has no dict, dicts of plain values, tuples of these -/
inductive Dq (K : PySem.W.Frag) (L : LH) : V → PyData → Prop where
  | flat {v : V} {d : PyData} : DpL K v d L → Dq K L v d
  | dict {a : Addr} {kvs : List (Key × V)} {ds : List (PyData × PyData)} : RdL a (.dK kvs) L → DictIs kvs ds → Dq K L (.ref a) (.dict ds)
section
variable {X : Cx} {e : Expr} {σ : L2.St} {L : LH} {K : V → LH → Prop} {pos apos cpos p : Pos}
theorem wc_reprDict {a : Addr} {kvs : List (Key × V)} {ds : List (PyData × PyData)} (hgd : X.A.guards = some []) (hu : X.A.units + ((PyData.dict ds).depth + 1) < cLine) (rd : RdL a (.dK kvs) L) (h : DictIs kvs ds) (hs : (PyData.dict ds).showable = true) (hz : (PyData.dict ds).shown.length ≤ sizeLine)
    (k : K (.str (PyData.dict ds).shown) L) : WC X (.builtin "repr") [.ref a] L K := by
  intro H hL pins s σ us I r1
  cases r1 with
  | cons r rr =>
    cases rr
    cases r
    obtain ⟨rr, ns⟩ := dict_reads I (rd H hL) h
    exact repr_of_reads' rr hs (fun _ hm => ns (List.mem_singleton.mp hm).symm) hgd hu (fun _ _ z => z) (fun h' u tk kp => ⟨.str _, H, I.kept kp, ⟨u, rfl⟩, L, hL, k⟩) hz
/-- {d!r} -/
theorem we_fmtRDict (hgd : X.A.guards = some []) (h : WE X e σ L fun v L1 => ∃ a kvs ds, v = .ref a ∧ RdL a (.dK kvs) L1 ∧ DictIs kvs ds ∧ X.A.units + (PyData.dict ds).depth < cLine ∧ (PyData.dict ds).showable = true ∧ (PyData.dict ds).shown.length ≤ sizeLine ∧ K (.str (PyData.dict ds).shown) L1) :
    WE X (.FormattedValue e 114 none pos) σ L K := by
  intro H hL pins s I
  refine wpAny_FormattedValue_repr (thn (h H hL pins s I) fun v s1 ⟨x, H1, I1, r1, L1, h1, a, kvs, ds, ex, rd, hd, hu, hs, hz, k⟩ => ?_)
  subst ex
  obtain rfl : v = Value.ref a := r1
  obtain ⟨rr, ns⟩ := dict_reads I1 (rd H1 h1) hd
  refine pyReprObj_of_reads rr hs (fun _ hm => ns (List.mem_singleton.mp hm).symm) hgd hu (fun _ _ z => z) (fun h' u tk kp => ?_) hz
  have I2 : Inv X pins σ H1 { s1 with heap := h', toks := tk } := I1.kept kp
  exact wpAny_formatField_str ⟨.str _, H1, I2, ⟨u, rfl⟩, L1, h1, k⟩ ⟨.str _, H1, I2.tok _, ⟨_, rfl⟩, L1, h1, k⟩ hz
/-! ### list(d.items()) -/
def tupsOf (ts : List Addr) (kvs : List (Key × V)) : LH := List.zipWith (fun t q => (t, HO.tup [kV q.1, q.2])) ts kvs
theorem tups_holds {L : LH} {H H' : Hp} (hL : Holds L H) (keep : ∀ b o, H b = some o → H' b = some o) : ∀ {ts : List Addr} {ks : List (Key × V)}, (∀ t ∈ ts, H t = none) → ts.Nodup → Paired (fun (t : Addr) (q : Key × V) => H' t = some (.tup [kV q.1, q.2])) ts ks →
    Holds (tupsOf ts ks ++ L) H' ∧ ∀ x ∈ (tupsOf ts ks ++ L).map (·.1), x ∈ ts ∨ x ∈ L.map (·.1)
  | [], [], _, _, _ => ⟨⟨hL.nd, fun a o m => keep a o (hL.at_ a o m)⟩, fun x hx => .inr hx⟩
  | t :: ts, q :: ks, hn, nd, .cons e r => by
    obtain ⟨n1, n2⟩ := List.nodup_cons.mp nd
    obtain ⟨ih, im⟩ := tups_holds hL keep (fun t ht => hn t (List.mem_cons_of_mem _ ht)) n2 r
    have e2 : tupsOf (t :: ts) (q :: ks) ++ L = (t, HO.tup [kV q.1, q.2]) :: (tupsOf ts ks ++ L) := rfl
    rw [e2]
    refine ⟨⟨?_, fun a o m => ?_⟩, fun x hx => ?_⟩
    · rw [List.map_cons, List.nodup_cons]
      refine ⟨fun hm => ?_, ih.nd⟩
      rcases im _ hm with h | h
      · exact n1 h
      · obtain ⟨p, hp, ep⟩ := List.mem_map.mp h
        have h1 := hL.at_ p.1 p.2 hp
        have h2 := hn t List.mem_cons_self
        have ep' : p.1 = t := ep
        rw [ep', h2] at h1
        cases h1
    · rcases List.mem_cons.mp m with z | z
      · cases z; exact e
      · exact ih.at_ a o z
    · rw [List.map_cons] at hx
      rcases List.mem_cons.mp hx with z | z
      · rw [z]; exact .inl List.mem_cons_self
      · rcases im x z with h | h
        · exact .inl (List.mem_cons_of_mem _ h)
        · exact .inr h
theorem nodup_of_paired {H' : Hp} : ∀ {ts : List Addr} {ks : List (Key × V)}, (ks.map (·.1)).Nodup → Paired (fun (t : Addr) (q : Key × V) => H' t = some (.tup [kV q.1, q.2])) ts ks → ts.Nodup
  | [], [], _, _ => List.nodup_nil
  | t :: ts, q :: ks, nd, .cons e r => by
    rw [List.map_cons, List.nodup_cons] at nd
    refine List.nodup_cons.mpr ⟨fun hm => ?_, nodup_of_paired nd.2 r⟩
    obtain ⟨j, y, e1, e2, e3⟩ := LiI.paired_ix r hm
    rw [e] at e3
    have e4 := HO.tup.inj (Option.some.inj e3)
    have e5 : kV q.1 = kV y.1 := (List.cons.inj e4).1
    have e6 : q.1 = y.1 := by
      have h1 := q.1; have h2 := y.1
      cases hq : q.1 <;> cases hy : y.1 <;> rw [hq, hy] at e5 <;> first | (cases e5; rfl) | cases e5
    exact nd.1 (List.mem_map.mpr ⟨y, List.mem_of_getElem? e2, e6.symm⟩)
theorem we_listItems (hc : X.calm = true) (hg : Gl X "list") (hm : X.mg "list" = none) (hv : bootBuiltins "list" = some (.type "list"))
    (h : WE X e σ L fun x L1 => ∃ d kvs, x = .ref d ∧ Mem d (.dK kvs) L1 ∧ (kvs.map (·.1)).Nodup ∧ ∀ p ts, ts.length = kvs.length → K (.ref p) ((p, .lst (ts.map V.ref)) :: (tupsOf ts kvs ++ L1)))
    (hbase : attributeBase e "items" X.env (eval e X.env) = eval e X.env := by rfl) (hline : (apos.endLine == cpos.line) = true := by rfl)
    (hs : starEach [.Call (.Attribute e "items" apos) [] [] cpos] X.env = (false, eval (.Call (.Attribute e "items" apos) [] [] cpos) X.env) :: starEach [] X.env := by rfl) :
    WE X (.Call (.Name "list" p) [.Call (.Attribute e "items" apos) [] [] cpos] [] pos) σ L K :=
  we_of (LiI.pe_listItems hc pe_sem hg hm hv hbase hline hs) fun _ hL => e_then h hL fun x L1 H1 h1 ⟨d, kvs, ex, m, nd, k⟩ => ⟨d, kvs, ex, h1.get m, fun H' p ts keep np nt pn hp hpd => by
    have tn := nodup_of_paired nd hpd
    obtain ⟨ho, hm⟩ := tups_holds h1 keep nt tn hpd
    have hlen : ts.length = kvs.length := Paired.length hpd
    refine ⟨_, ⟨?_, fun a o mm => ?_⟩, k p ts hlen⟩
    · rw [List.map_cons, List.nodup_cons]
      refine ⟨fun hx => ?_, ho.nd⟩
      rcases hm _ hx with z | z
      · exact pn z
      · obtain ⟨q, hq, eq⟩ := List.mem_map.mp z
        have z1 := h1.at_ q.1 q.2 hq
        have eq' : q.1 = p := eq
        rw [eq', np] at z1
        cases z1
    · rcases List.mem_cons.mp mm with z | z
      · cases z; exact hp
      · exact ho.at_ a o z⟩
/-! ### an instance by a call without arguments, by a keyword -/
variable {N Vn Ln Gn : List Str} {sc : Scope} {i : Nat} {C : Addr} {k : Nat} {ps : List Str} {dvs : List V} {pre : Pre} {x : Str}
theorem x_make0 (h : XOk N sc Vn Ln Gn X) (g : At x Gn i) (G : GMk X.prog X.w X.K X.mg X.base x C k ps dvs pre) (hr : Room (k + 1) X.A) (q : ∀ o dx, pre (.ref o :: dvs) ((o, .ins C dx []) :: L) fun v L2 => v = .non ∧ K (.ref o) L2) : WE X (.Call (.Name x p) [] [] pos) σ L K := by
  obtain ⟨f, fd, ds, F, hm, M, hb, hd⟩ := G.ex
  refine we_of (pe_make0 (E := E0) M F hr (h.glo g).1 hm hb hd pass0 (h.glo g).2.2) fun H1 h1 => fun o dx ho hdx ne => ?_
  have z2 := (h1.new (o := .own o) hdx).new (p := o) (o := .ins C dx []) (by rw [upd_ne ne.symm]; exact ho)
  exact ⟨_, fun v L2 => v = .non ∧ K (.ref o) L2, z2.drop1, q o dx, fun v H' ⟨L2, h2, ev, qq⟩ => ⟨ev, L2, h2, qq⟩⟩
/-- a class by its name, made by one keyword; gV puts the instance and the value among the parameters -/
structure GMkK (P : Program) (w : World) (K : PySem.W.Frag) (mg : Str → Option Value) (base : Heap) (x : Str) (C : Addr) (k : Nat) (ps ks : List Str) (gV : List V → List V → List V) (pre : Pre) : Prop where
  ex : ∃ f fd g, FnOk P w K mg base CX0 k f fd ps (SpL pre) ∧ mg x = some (.ref C) ∧ Mk K C f ∧ KBn K fd ps 1 ks g gV
/-- the values of keywords, one after another -/
def SemK (X : Cx) (kws : List Keyword) : TA := fun σ H Q => ∀ (pos : Pos) pins s, Inv X pins σ H s → wpAny (model X.prog X.w) X.A (evalAll ((backToKw pos (keywordEach kws X.env)).map (·.2))) (AP X pins σ Q) X.xe s
def WK (X : Cx) (kws : List Keyword) (σ : L2.St) (L : LH) (KA : List V → LH → Prop) : Prop := ∀ H, Holds L H → SemK X kws σ H (QA KA)
theorem pk_sem {kws : List Keyword} : PK X kws (SemK X kws) := ⟨fun pos pins s _ _ _ I h => h pos pins s I⟩
theorem wk_of {kws : List Keyword} {t : TA} {KA : List V → LH → Prop} (h : PK X kws t) (q : ∀ H, Holds L H → t σ H (QA KA)) : WK X kws σ L KA := fun H hL pos pins s I => h.run pos pins s σ H _ I (q H hL)
theorem k_then {kws : List Keyword} {KA : List V → LH → Prop} {H : Hp} {Q : List V → Hp → Prop} (h : WK X kws σ L KA) (hL : Holds L H) (k : ∀ v L' H', Holds L' H' → KA v L' → Q v H') : SemK X kws σ H Q := fun pos pins s I => thn (h H hL pos pins s I) fun _ _ ⟨v, H1, I1, r1, L', h', q⟩ => ⟨v, H1, I1, r1, k v L' H1 h' q⟩
theorem wk_nil {KA : List V → LH → Prop} (k : KA [] L) : WK X [] σ L KA := wk_of pk_nil fun _ hL => ⟨L, hL, k⟩
theorem wk_cons {nm : Option Str} {kpos : Pos} {kws : List Keyword} {KA : List V → LH → Prop} (h : WE X e σ L fun v L1 => WK X kws σ L1 fun vs L2 => KA (v :: vs) L2) : WK X (⟨nm, e, kpos⟩ :: kws) σ L KA :=
  wk_of (pk_cons pe_sem pk_sem) fun _ hL => e_then h hL fun _ _ _ h1 k1 => k_then k1 h1 fun _ L2 _ h2 k2 => ⟨L2, h2, k2⟩
theorem x_makeK0 {kws : List Keyword} {ks : List Str} {gV : List V → List V → List V} (h : XOk N sc Vn Ln Gn X) (g : At x Gn i) (G : GMkK X.prog X.w X.K X.mg X.base x C k ps ks gV pre) (hr : Room (k + 1) X.A)
    (q : WK X kws σ L fun zs L1 => zs.length = ks.length ∧ ∀ o dx, pre (gV [.ref o] zs) ((o, .ins C dx []) :: L1) fun v L2 => v = .non ∧ K (.ref o) L2)
    (hall : (backToKw pos (keywordEach kws X.env)).all (·.1.isSome) = true := by rfl) (hks : (backToKw pos (keywordEach kws X.env)).filterMap (·.1) = ks := by rfl)
    (hpl : ((backTo pos (starEach [] X.env)).any (·.1) || (backToKw pos (keywordEach kws X.env)).any (·.1.isNone)) = false := by rfl) : WE X (.Call (.Name x p) [] kws pos) σ L K := by
  obtain ⟨f, fd, gg, F, hm, M, hb⟩ := G.ex
  refine we_of (pe_makeK0 (E := E0) M F hr (h.glo g).1 hm hb pass0 pk_sem hall hks (h.glo g).2.2 hpl) fun H0 h0 => ?_
  exact k_then q h0 fun zs L1 H1 h1 ⟨hl, q1⟩ => ⟨rfl, hl, fun o dx ho hdx ne => by
    have z2 := (h1.new (o := .own o) hdx).new (p := o) (o := .ins C dx []) (by rw [upd_ne ne.symm]; exact ho)
    exact ⟨_, fun v L2 => v = .non ∧ K (.ref o) L2, z2.drop1, q1 o dx, fun v H' ⟨L2, h2, ev, qq⟩ => ⟨ev, L2, h2, qq⟩⟩⟩
end
end N3

set_option Elab.async false
set_option linter.all false
set_option maxRecDepth 100000
set_option maxHeartbeats 4000000
/-! dicts from texts to ints, and their one sorted form without 0: plain mathematics -/
namespace N3
open PySem PySem.Spec L2
open PyProof.Rows (sortedS risingS)
/-! ### the order of texts -/
theorem ltCps_irrefl : ∀ a : List Nat, ltCps a a = false
  | [] => rfl
  | a :: r => by simp [ltCps, ltCps_irrefl r]
theorem ltCps_trans : ∀ {a b c : List Nat}, ltCps a b = true → ltCps b c = true → ltCps a c = true
  | [], [], _, h, _ => by simp [ltCps] at h
  | [], _ :: _, [], _, h => by simp [ltCps] at h
  | [], _ :: _, _ :: _, _, _ => rfl
  | _ :: _, [], _, h, _ => by simp [ltCps] at h
  | _ :: _, _ :: _, [], _, h => by simp [ltCps] at h
  | x :: a, y :: b, z :: c, h, g => by
    simp only [ltCps, Bool.or_eq_true, Bool.and_eq_true, decide_eq_true_eq, beq_iff_eq] at h g ⊢
    rcases h with h | ⟨h, h'⟩ <;> rcases g with g | ⟨g, g'⟩
    · left; omega
    · left; omega
    · left; omega
    · right; exact ⟨h.trans g, ltCps_trans h' g'⟩
theorem ltCps_tri : ∀ a b : List Nat, ltCps a b = true ∨ a = b ∨ ltCps b a = true
  | [], [] => .inr (.inl rfl)
  | [], _ :: _ => .inl rfl
  | _ :: _, [] => .inr (.inr rfl)
  | x :: a, y :: b => by
    simp only [ltCps, Bool.or_eq_true, Bool.and_eq_true, decide_eq_true_eq, beq_iff_eq, List.cons.injEq]
    rcases Nat.lt_trichotomy x y with h | h | h
    · exact .inl (.inl h)
    · subst h
      rcases ltCps_tri a b with h | h | h
      · exact .inl (.inr ⟨rfl, h⟩)
      · exact .inr (.inl ⟨rfl, h⟩)
      · exact .inr (.inr (.inr ⟨rfl, h⟩))
    · exact .inr (.inr (.inl h))
def ltS (x y : Str) : Prop := ltCps x.cps.toList y.cps.toList = true
theorem str_ext {x y : Str} (h : x.cps.toList = y.cps.toList) : x = y := by
  cases x; cases y; congr 1; exact Array.toList_inj.mp h
theorem ltS_irrefl (x : Str) : ¬ ltS x x := by unfold ltS; rw [ltCps_irrefl]; decide
theorem ltS_trans {x y z : Str} (a : ltS x y) (b : ltS y z) : ltS x z := ltCps_trans a b
theorem ltS_tri (x y : Str) : ltS x y ∨ x = y ∨ ltS y x := by
  rcases ltCps_tri x.cps.toList y.cps.toList with h | h | h
  · exact .inl h
  · exact .inr (.inl (str_ext h))
  · exact .inr (.inr h)
theorem asc_of_rising : ∀ (l : List Str) (p : Str), risingS p l = true → (p :: l).Nodup → (p :: l).Pairwise ltS
  | [], p, _, _ => List.pairwise_singleton _ _
  | x :: r, p, h, nd => by
    simp only [risingS, Bool.and_eq_true, Bool.not_eq_true'] at h
    have n1 := List.nodup_cons.mp nd
    have ih := asc_of_rising r x h.2 n1.2
    have px : ltS p x := by
      rcases ltS_tri p x with q | q | q
      · exact q
      · exact absurd (by rw [q]; exact List.mem_cons_self) n1.1
      · unfold ltS at q; rw [h.1] at q; cases q
    refine List.pairwise_cons.mpr ⟨fun y hy => ?_, ih⟩
    rcases List.mem_cons.mp hy with e | hy
    · rw [e]; exact px
    · exact ltS_trans px ((List.pairwise_cons.mp ih).1 y hy)
theorem asc_of_sorted {l : List Str} (h : sortedS l = true) (nd : l.Nodup) : l.Pairwise ltS := by
  cases l with
  | nil => exact .nil
  | cons x r => exact asc_of_rising r x h nd
/-! ### looking up -/
abbrev SI := List (Str × Int)
def lookO (m : SI) (k : Str) : Option Int := (m.find? fun p => decide (p.1 = k)).map (·.2)
def look (m : SI) (k : Str) : Int := (lookO m k).getD 0
def put (m : SI) (k : Str) (v : Int) : SI := if (m.any fun p => decide (p.1 = k)) = true then m.map (fun p => if p.1 = k then (p.1, v) else p) else m ++ [(k, v)]
def tk (m : SI) : List (Key × V) := m.map fun p => (Sum.inr p.1, V.int p.2)
theorem lookO_nil (k : Str) : lookO [] k = none := rfl
theorem lookO_cons (p : Str × Int) (m : SI) (k : Str) : lookO (p :: m) k = if p.1 = k then some p.2 else lookO m k := by
  unfold lookO
  rw [List.find?_cons]
  by_cases h : p.1 = k <;> simp [h]
theorem look_cons (p : Str × Int) (m : SI) (k : Str) : look (p :: m) k = if p.1 = k then p.2 else look m k := by
  unfold look
  rw [lookO_cons]
  split <;> rfl
theorem lookO_none {m : SI} {k : Str} : lookO m k = none ↔ k ∉ m.map (·.1) := by
  induction m with
  | nil => simp [lookO_nil]
  | cons p m ih =>
    rw [lookO_cons, List.map_cons, List.mem_cons, not_or]
    by_cases h : p.1 = k
    · rw [if_pos h]; simp [h]
    · rw [if_neg h, ih]
      exact ⟨fun z => ⟨fun e => h e.symm, z⟩, fun z => z.2⟩
theorem lookO_isSome {m : SI} {k : Str} : (lookO m k).isSome = decide (k ∈ m.map (·.1)) := by
  cases h : lookO m k with
  | none => rw [decide_eq_false (lookO_none.mp h)]; rfl
  | some v =>
    have : k ∈ m.map (·.1) := by
      apply Classical.byContradiction
      intro n
      rw [lookO_none.mpr n] at h
      cases h
    rw [decide_eq_true this]; rfl
theorem look_out {m : SI} {k : Str} (h : k ∉ m.map (·.1)) : look m k = 0 := by unfold look; rw [lookO_none.mpr h]; rfl
theorem lookO_mem {m : SI} (nd : (m.map (·.1)).Nodup) : ∀ {p : Str × Int}, p ∈ m → lookO m p.1 = some p.2 := by
  induction m with
  | nil => intro p h; cases h
  | cons q m ih =>
    intro p h
    rw [List.map_cons, List.nodup_cons] at nd
    rw [lookO_cons]
    rcases List.mem_cons.mp h with e | h
    · rw [e, if_pos rfl]
    · rw [if_neg, ih nd.2 h]
      intro e
      exact nd.1 (by rw [e]; exact List.mem_map.mpr ⟨p, h, rfl⟩)
theorem lookO_get {m : SI} {k : Str} {v : Int} (h : lookO m k = some v) : (k, v) ∈ m := by
  unfold lookO at h
  obtain ⟨p, hp, e⟩ := Option.map_eq_some_iff.mp h
  have e1 : p.1 = k := by have := List.find?_some hp; simpa using this
  have := List.mem_of_find?_eq_some hp
  rw [← e1, ← e]
  exact this
theorem any_key (m : SI) (k : Str) : (m.any fun p => decide (p.1 = k)) = decide (k ∈ m.map (·.1)) := by
  induction m with
  | nil => rfl
  | cons p m ih =>
    rw [List.any_cons, ih, List.map_cons]
    by_cases h : p.1 = k
    · simp [h]
    · have h' : ¬ k = p.1 := fun e => h e.symm
      simp [h, h']
theorem lookO_put (m : SI) (k : Str) (v : Int) (j : Str) : lookO (put m k v) j = if j = k then some v else lookO m j := by
  unfold put
  rw [any_key]
  by_cases h : k ∈ m.map (·.1)
  · rw [if_pos (decide_eq_true h)]
    induction m with
    | nil => cases h
    | cons p m ih =>
      rw [List.map_cons, lookO_cons]
      by_cases hp : p.1 = k
      · rw [if_pos hp]
        by_cases hj : j = k
        · rw [if_pos hj]; simp [hp, hj]
        · rw [if_neg hj]
          have hj2 : ¬ p.1 = j := fun e => hj (e ▸ hp)
          rw [if_neg hj2, lookO_cons, if_neg hj2]
          by_cases hm : k ∈ m.map (·.1)
          · rw [ih hm, if_neg hj]
          · have e : m.map (fun p => if p.1 = k then (p.1, v) else p) = m := by
              conv => rhs; rw [← List.map_id m]
              refine List.map_congr_left fun q hq => ?_
              rw [if_neg]; rfl
              intro e
              exact hm (by rw [← e]; exact List.mem_map.mpr ⟨q, hq, rfl⟩)
            rw [e]
      · rw [if_neg hp]
        have hm : k ∈ m.map (·.1) := by
          rcases List.mem_cons.mp h with e | hm
          · exact absurd e.symm hp
          · exact hm
        by_cases hj : p.1 = j
        · rw [if_pos hj, lookO_cons, if_pos hj, if_neg]
          intro e; exact hp (hj.trans e)
        · rw [if_neg hj, lookO_cons, if_neg hj, ih hm]
  · rw [if_neg (by simp [h])]
    induction m with
    | nil =>
      rw [List.nil_append, lookO_cons]
      by_cases hj : j = k
      · rw [if_pos hj, if_pos hj.symm]
      · rw [if_neg hj, if_neg (fun z => hj z.symm)]
    | cons p m ih =>
      rw [List.map_cons, List.mem_cons, not_or] at h
      rw [List.cons_append, lookO_cons, lookO_cons, ih h.2]
      by_cases hp : p.1 = j
      · rw [if_pos hp, if_pos hp, if_neg]
        intro e; exact h.1 (e.symm.trans hp.symm)
      · rw [if_neg hp, if_neg hp]
theorem look_put (m : SI) (k : Str) (v : Int) (j : Str) : look (put m k v) j = if j = k then v else look m j := by
  unfold look
  rw [lookO_put]
  split <;> rfl
theorem keys_put (m : SI) (k : Str) (v : Int) : (put m k v).map (·.1) = if k ∈ m.map (·.1) then m.map (·.1) else m.map (·.1) ++ [k] := by
  unfold put
  rw [any_key]
  by_cases h : k ∈ m.map (·.1)
  · rw [if_pos (decide_eq_true h), if_pos h, List.map_map]
    refine List.map_congr_left fun q _ => ?_
    simp only [Function.comp]
    split <;> rfl
  · rw [if_neg (by simp [h]), if_neg h, List.map_append]
    rfl
theorem nodup_put {m : SI} (nd : (m.map (·.1)).Nodup) (k : Str) (v : Int) : ((put m k v).map (·.1)).Nodup := by
  rw [keys_put]
  split
  · exact nd
  · rename_i h
    rw [List.nodup_append]
    refine ⟨nd, List.nodup_cons.mpr ⟨List.not_mem_nil, List.nodup_nil⟩, fun a ha b hb e => h ?_⟩
    rw [List.mem_singleton] at hb
    rw [← hb, ← e]
    exact ha
theorem mem_put {m : SI} {k j : Str} {v : Int} : j ∈ (put m k v).map (·.1) ↔ j ∈ m.map (·.1) ∨ j = k := by
  rw [keys_put]
  split
  · rename_i h
    exact ⟨.inl, fun z => z.elim id fun e => by rw [e]; exact h⟩
  · simp
theorem put_len (m : SI) (k : Str) (v : Int) : (put m k v).length ≤ m.length + 1 := by
  unfold put
  split <;> simp
theorem put_new {m : SI} {k : Str} (v : Int) (h : k ∉ m.map (·.1)) : put m k v = m ++ [(k, v)] := by
  unfold put
  rw [any_key, if_neg (by simp [h])]
/-! as dicts of the model -/
theorem valV_tk (m : SI) (k : Str) : valV (tk m) (.inr k) = (lookO m k).map V.int := by
  induction m with
  | nil => rfl
  | cons p m ih =>
    have e : tk (p :: m) = (Sum.inr p.1, V.int p.2) :: tk m := rfl
    rw [e, lookO_cons]
    by_cases h : p.1 = k
    · rw [if_pos h, valV_pos (by rw [h])]; rfl
    · rw [if_neg h, valV_neg (fun z => h (Sum.inr.inj z)), ih]
theorem putK_tk (m : SI) (k : Str) (v : Int) : putK (tk m) (.inr k) (.int v) = tk (put m k v) := by
  have ea : ((tk m).any fun kv => decide (kv.1 = Sum.inr k)) = (m.any fun p => decide (p.1 = k)) := by
    unfold tk
    rw [List.any_map]
    congr 1
    funext p
    simp only [Function.comp, Sum.inr.injEq]
  unfold putK put
  rw [ea]
  split
  · unfold tk
    rw [List.map_map, List.map_map]
    refine List.map_congr_left fun p _ => ?_
    simp only [Function.comp, Sum.inr.injEq]
    split <;> rfl
  · unfold tk
    rw [List.map_append]
    rfl
theorem tk_len (m : SI) : (tk m).length = m.length := List.length_map ..
theorem tk_keys (m : SI) : (tk m).map (·.1) = (m.map (·.1)).map Sum.inr := by unfold tk; rw [List.map_map, List.map_map]; rfl
theorem tk_kv (m : SI) : ((tk m).map fun kv => kV kv.1) = (m.map (·.1)).map V.str := by unfold tk; rw [List.map_map, List.map_map]; rfl
theorem tk_nodup {m : SI} (nd : (m.map (·.1)).Nodup) : ((tk m).map (·.1)).Nodup := by
  rw [tk_keys]
  exact List.nodup_map_iff_of_inj nd
where
  List.nodup_map_iff_of_inj {l : List Str} (h : l.Nodup) : (l.map (Sum.inr : Str → Key)).Nodup := by
    unfold List.Nodup at *
    rw [List.pairwise_map]
    exact h.imp fun a b => a (Sum.inr.inj b)
theorem tk_flat (m : SI) : ∀ p ∈ tk m, flatV p.2 = true := by
  intro p hp
  obtain ⟨q, _, rfl⟩ := List.mem_map.mp hp
  rfl
/-! ### the one form -/
structure Can (r : SI) : Prop where
  asc : (r.map (·.1)).Pairwise ltS
  nz : ∀ p ∈ r, p.2 ≠ 0
theorem Can.nil : Can [] := ⟨.nil, fun _ h => (List.not_mem_nil h).elim⟩
theorem Can.nd {r : SI} (h : Can r) : (r.map (·.1)).Nodup := by
  unfold List.Nodup
  refine h.asc.imp ?_
  intro a b l e
  rw [← e] at l
  exact ltS_irrefl a l
theorem Can.tail {p : Str × Int} {r : SI} (h : Can (p :: r)) : Can r := ⟨(List.pairwise_cons.mp h.asc).2, fun q hq => h.nz q (List.mem_cons_of_mem _ hq)⟩
theorem Can.low {p : Str × Int} {r : SI} (h : Can (p :: r)) {k : Str} (hk : k = p.1 ∨ ltS k p.1) : k ∉ r.map (·.1) := fun hm => by
  have := (List.pairwise_cons.mp h.asc).1 k hm
  rcases hk with e | e
  · rw [e] at this; exact ltS_irrefl _ this
  · exact ltS_irrefl _ (ltS_trans e this)
theorem Can.ext : ∀ {r r' : SI}, Can r → Can r' → (∀ k, look r k = look r' k) → r = r'
  | [], [], _, _, _ => rfl
  | [], p :: r', _, h', e => by
    have := e p.1
    rw [look_cons, if_pos rfl] at this
    exact absurd this.symm (h'.nz p List.mem_cons_self)
  | p :: r, [], h, _, e => by
    have := e p.1
    rw [look_cons, if_pos rfl] at this
    exact absurd this (h.nz p List.mem_cons_self)
  | p :: r, p' :: r', h, h', e => by
    have out : ∀ {q q' : Str × Int} {t t' : SI}, Can (q :: t) → Can (q' :: t') → (∀ k, look (q :: t) k = look (q' :: t') k) → ¬ ltS q.1 q'.1 := fun {q q' t t'} hq hq' ee l => by
      have z := ee q.1
      rw [look_cons, if_pos rfl, look_cons, if_neg (fun y => ltS_irrefl _ (y ▸ l)), look_out (hq'.low (.inr l))] at z
      exact hq.nz q List.mem_cons_self z
    have ek : p.1 = p'.1 := by
      rcases ltS_tri p.1 p'.1 with q | q | q
      · exact absurd q (out h h' e)
      · exact q
      · exact absurd q (out h' h fun k => (e k).symm)
    have ev : p.2 = p'.2 := by
      have := e p.1
      rw [look_cons, if_pos rfl, look_cons, if_pos ek.symm] at this
      exact this
    have et : r = r' := Can.ext h.tail h'.tail fun k => by
      by_cases hk : p.1 = k
      · rw [look_out (h.low (.inl hk.symm)), look_out (h'.low (.inl (hk.symm.trans ek)))]
      · have := e k
        rw [look_cons, if_neg hk, look_cons, if_neg (ek ▸ hk)] at this
        exact this
    rw [et]
    congr 1
    exact Prod.ext ek ev
def insK (p : Str × Int) : SI → SI
  | [] => [p]
  | q :: r => if ltCps p.1.cps.toList q.1.cps.toList = true then p :: q :: r else q :: insK p r
def norm (m : SI) : SI := (m.filter fun p => decide (p.2 ≠ 0)).foldr insK []
theorem insK_keys (p : Str × Int) : ∀ (r : SI) (k : Str), k ∈ (insK p r).map (·.1) ↔ k = p.1 ∨ k ∈ r.map (·.1)
  | [], k => by simp [insK]
  | q :: r, k => by
    unfold insK
    split
    · simp
    · simp only [List.map_cons, List.mem_cons, insK_keys p r k]
      constructor <;> (intro h; rcases h with h | h | h <;> simp [h])
theorem insK_mem (p : Str × Int) : ∀ (r : SI) (q : Str × Int), q ∈ insK p r → q = p ∨ q ∈ r
  | [], q, h => by simp [insK] at h; exact .inl h
  | a :: r, q, h => by
    unfold insK at h
    split at h
    · rcases List.mem_cons.mp h with h | h
      · exact .inl h
      · exact .inr h
    · rcases List.mem_cons.mp h with h | h
      · exact .inr (by rw [h]; exact List.mem_cons_self)
      · rcases insK_mem p r q h with h | h
        · exact .inl h
        · exact .inr (List.mem_cons_of_mem _ h)
theorem insK_can {p : Str × Int} : ∀ {r : SI}, Can r → p.2 ≠ 0 → p.1 ∉ r.map (·.1) → Can (insK p r)
  | [], _, hp, _ => ⟨List.pairwise_singleton _ _, fun q hq => by rw [List.mem_singleton.mp hq]; exact hp⟩
  | q :: r, h, hp, hn => by
    unfold insK
    rw [List.map_cons, List.mem_cons, not_or] at hn
    split
    · rename_i hl
      refine ⟨?_, fun z hz => ?_⟩
      · rw [List.map_cons]
        refine List.pairwise_cons.mpr ⟨fun k hk => ?_, h.asc⟩
        rcases List.mem_cons.mp hk with e | hk
        · rw [e]; exact hl
        · exact ltS_trans hl ((List.pairwise_cons.mp h.asc).1 k hk)
      · rcases List.mem_cons.mp hz with e | hz
        · rw [e]; exact hp
        · exact h.nz z hz
    · rename_i hl
      have ih := insK_can (p := p) h.tail hp hn.2
      have hqp : ltS q.1 p.1 := by
        rcases ltS_tri p.1 q.1 with z | z | z
        · exact absurd z hl
        · exact absurd z hn.1
        · exact z
      refine ⟨?_, fun z hz => ?_⟩
      · rw [List.map_cons]
        refine List.pairwise_cons.mpr ⟨fun k hk => ?_, ih.asc⟩
        rcases (insK_keys p r k).mp hk with e | hk
        · rw [e]; exact hqp
        · exact (List.pairwise_cons.mp h.asc).1 k hk
      · rcases List.mem_cons.mp hz with e | hz
        · rw [e]; exact h.nz q List.mem_cons_self
        · exact ih.nz z hz
theorem insK_look {p : Str × Int} : ∀ {r : SI}, p.1 ∉ r.map (·.1) → ∀ k, look (insK p r) k = if p.1 = k then p.2 else look r k
  | [], _, k => by unfold insK; rw [look_cons]
  | q :: r, hn, k => by
    unfold insK
    rw [List.map_cons, List.mem_cons, not_or] at hn
    split
    · rw [look_cons]
    · rw [look_cons, look_cons, insK_look hn.2]
      by_cases h1 : q.1 = k
      · rw [if_pos h1, if_pos h1, if_neg]
        intro e; exact hn.1 (e.trans h1.symm)
      · rw [if_neg h1, if_neg h1]
theorem norm_spec : ∀ (m : SI), (m.map (·.1)).Nodup → Can (norm m) ∧ (∀ k, look (norm m) k = look m k) ∧ ∀ k, k ∈ (norm m).map (·.1) → k ∈ m.map (·.1)
  | [], _ => ⟨.nil, fun _ => rfl, fun _ h => h⟩
  | p :: m, nd => by
    rw [List.map_cons, List.nodup_cons] at nd
    obtain ⟨c, l, s⟩ := norm_spec m nd.2
    have hn : p.1 ∉ (norm m).map (·.1) := fun h => nd.1 (s _ h)
    unfold norm
    by_cases h : p.2 ≠ 0
    · rw [List.filter_cons_of_pos (by simpa using h), List.foldr_cons]
      refine ⟨insK_can c h hn, fun k => ?_, fun k hk => ?_⟩
      · rw [show List.foldr insK [] (m.filter fun p => decide (p.2 ≠ 0)) = norm m from rfl, insK_look hn, look_cons, l]
      · rcases (insK_keys p _ k).mp hk with e | hk
        · rw [e]; exact List.mem_cons_self
        · exact List.mem_cons_of_mem _ (s k hk)
    · rw [List.filter_cons_of_neg (by simpa using h)]
      refine ⟨c, fun k => ?_, fun k hk => List.mem_cons_of_mem _ (s k hk)⟩
      have h0 : p.2 = 0 := Classical.byContradiction h
      rw [show List.foldr insK [] (m.filter fun p => decide (p.2 ≠ 0)) = norm m from rfl, l, look_cons]
      by_cases e : p.1 = k
      · rw [if_pos e, h0, look_out (by rw [← e]; exact nd.1)]
      · rw [if_neg e]
theorem norm_can {m : SI} (nd : (m.map (·.1)).Nodup) : Can (norm m) := (norm_spec m nd).1
theorem norm_look {m : SI} (nd : (m.map (·.1)).Nodup) (k : Str) : look (norm m) k = look m k := (norm_spec m nd).2.1 k
theorem norm_keys {m : SI} (nd : (m.map (·.1)).Nodup) {k : Str} (h : k ∈ (norm m).map (·.1)) : k ∈ m.map (·.1) := (norm_spec m nd).2.2 k h
theorem norm_eq {m r : SI} (nd : (m.map (·.1)).Nodup) (c : Can r) (h : ∀ k, look r k = look m k) : norm m = r := (norm_can nd).ext c fun k => by rw [norm_look nd, h]
theorem norm_id {r : SI} (c : Can r) : norm r = r := norm_eq c.nd c fun _ => rfl
theorem norm_congr {m m' : SI} (nd : (m.map (·.1)).Nodup) (nd' : (m'.map (·.1)).Nodup) (h : ∀ k, look m k = look m' k) : norm m = norm m' := norm_eq nd (norm_can nd') fun k => by rw [norm_look nd', h]
theorem can_mem {r : SI} (c : Can r) {k : Str} : k ∈ r.map (·.1) ↔ look r k ≠ 0 := by
  constructor
  · intro h
    obtain ⟨p, hp, e⟩ := List.mem_map.mp h
    unfold look
    have e' : p.1 = k := e
    rw [← e', lookO_mem c.nd hp]
    exact c.nz p hp
  · intro h
    apply Classical.byContradiction
    intro n
    exact h (look_out n)
theorem insK_len (p : Str × Int) : ∀ r : SI, (insK p r).length = r.length + 1
  | [] => rfl
  | q :: r => by unfold insK; split <;> simp [insK_len p r]
theorem norm_len (m : SI) : (norm m).length ≤ m.length := by
  unfold norm
  have h1 : ∀ l : SI, (l.foldr insK []).length = l.length := by
    intro l
    induction l with
    | nil => rfl
    | cons p l ih => rw [List.foldr_cons, insK_len, ih, List.length_cons]
  rw [h1]
  exact List.length_filter_le _ _
/-- what a sorted walk over the keys makes -/
theorem pick_can {m : SI} {ys : List Str} (asc : ys.Pairwise ltS) : Can ((ys.filter fun k => decide (look m k ≠ 0)).map fun k => (k, look m k)) := by
  refine ⟨?_, fun p hp => ?_⟩
  · rw [List.map_map]
    rw [show ((fun x : Str × Int => x.1) ∘ fun k => (k, look m k)) = id from rfl, List.map_id]
    exact asc.filter _
  · obtain ⟨k, hk, rfl⟩ := List.mem_map.mp hp
    exact of_decide_eq_true (List.mem_filter.mp hk).2
theorem pick_look {m : SI} : ∀ (ys : List Str), ys.Nodup → ∀ k, look ((ys.filter fun k => decide (look m k ≠ 0)).map fun k => (k, look m k)) k = if k ∈ ys then look m k else 0
  | [], _, k => rfl
  | y :: ys, nd, k => by
    obtain ⟨n1, n2⟩ := List.nodup_cons.mp nd
    have ih := pick_look (m := m) ys n2 k
    by_cases h : look m y ≠ 0
    · rw [List.filter_cons_of_pos (by simpa using h), List.map_cons, look_cons]
      by_cases e : y = k
      · rw [if_pos e, e, if_pos List.mem_cons_self]
      · rw [if_neg e, ih]
        have e' : ¬ k = y := fun z => e z.symm
        simp [e']
    · rw [List.filter_cons_of_neg (by simpa using h), ih]
      have h0 : look m y = 0 := Classical.byContradiction h
      by_cases e : k = y
      · rw [e, h0]; simp
      · simp [e]
theorem pick_norm {m : SI} {ys : List Str} (nd : (m.map (·.1)).Nodup) (p : ys.Perm (m.map (·.1))) (s : sortedS ys = true) : (ys.filter fun k => decide (look m k ≠ 0)).map (fun k => (k, look m k)) = norm m := by
  have n1 : ys.Nodup := p.symm.nodup nd
  refine (norm_eq nd (pick_can (asc_of_sorted s n1)) fun k => ?_).symm
  rw [pick_look ys n1]
  by_cases h : k ∈ ys
  · rw [if_pos h]
  · rw [if_neg h, look_out (fun z => h (p.mem_iff.mpr z))]
theorem asc_sublist : ∀ {l l' : List Str}, l.Pairwise ltS → l'.Pairwise ltS → (∀ x ∈ l, x ∈ l') → l.Sublist l'
  | [], l', _, _, _ => List.nil_sublist l'
  | x :: s, [], _, _, h => (List.not_mem_nil (h x List.mem_cons_self)).elim
  | x :: s, y :: t, a, a', h => by
    have p1 := List.pairwise_cons.mp a
    have p2 := List.pairwise_cons.mp a'
    by_cases e : x = y
    · subst e
      refine .cons₂ _ (asc_sublist p1.2 p2.2 fun z hz => ?_)
      rcases List.mem_cons.mp (h z (List.mem_cons_of_mem _ hz)) with q | q
      · have := p1.1 z hz
        rw [q] at this
        exact absurd this (ltS_irrefl _)
      · exact q
    · have hx : x ∈ t := (List.mem_cons.mp (h x List.mem_cons_self)).resolve_left e
      refine .cons _ (asc_sublist a p2.2 fun z hz => ?_)
      rcases List.mem_cons.mp (h z hz) with q | q
      · have yx := p2.1 x hx
        rcases List.mem_cons.mp hz with w | w
        · rw [w]; exact hx
        · have xz := p1.1 z w
          rw [q] at xz
          exact absurd (ltS_trans xz yx) (ltS_irrefl _)
      · exact q
/-! ### equality of the dicts -/
theorem eqD_can {r r' : SI} (c : Can r) (c' : Can r') : eqD (tk r) (tk r') = decide (r = r') := by
  have e2 : sameB (tk r') (tk r) = r.all fun p => decide (lookO r' p.1 = some p.2) := by
    unfold sameB tk
    rw [List.all_map]
    congr 1
    funext p
    simp only [Function.comp]
    rw [show (List.map (fun p : Str × Int => ((Sum.inr p.1 : Key), V.int p.2)) r') = tk r' from rfl, valV_tk]
    cases h : lookO r' p.1 with
    | none => simp
    | some v =>
      show eqV (.int p.2) (.int v) = _
      show (p.2 == v) = _
      by_cases e : p.2 = v
      · simp [e]
      · have e' : ¬ v = p.2 := fun z => e z.symm
        simp [e, e']
  unfold eqD
  rw [e2, tk_len, tk_len]
  by_cases e : r = r'
  · subst e
    rw [decide_eq_true rfl]
    simp only [beq_self_eq_true, Bool.true_and, List.all_eq_true, decide_eq_true_eq]
    exact fun p hp => lookO_mem c.nd hp
  · rw [decide_eq_false e]
    apply Bool.eq_false_iff.mpr
    intro h
    simp only [Bool.and_eq_true, beq_iff_eq, List.all_eq_true, decide_eq_true_eq] at h
    refine e (c.ext c' fun k => ?_)
    -- r within r', and as long
    have sub : ∀ k ∈ r.map (·.1), k ∈ r'.map (·.1) := fun k hk => by
      obtain ⟨p, hp, rfl⟩ := List.mem_map.mp hk
      exact List.mem_map.mpr ⟨_, lookO_get (h.2 p hp), rfl⟩
    have eqk : r.map (·.1) = r'.map (·.1) := (asc_sublist c.asc c'.asc sub).eq_of_length (by rw [List.length_map, List.length_map, h.1])
    by_cases hk : k ∈ r.map (·.1)
    · obtain ⟨p, hp, rfl⟩ := List.mem_map.mp hk
      unfold look
      rw [lookO_mem c.nd hp, h.2 p hp]
    · rw [look_out hk, look_out fun z => hk (by rw [eqk]; exact z)]
end N3

set_option Elab.async false
set_option linter.all false
set_option maxRecDepth 100000
set_option maxHeartbeats 4000000
namespace N3
open PySem PySem.Spec L2
open PyProof.Rows (envOfC)
section
variable {P : Program} {w : World} {K : PySem.W.Frag} {mg : Str → Option Value} {base : Heap}
/-- as fnX, with the names of its comprehensions among N -/
theorem fnXC {x qual : Str} {st : Stmt} {f : Addr} {fd : FuncData} {N ps Vn Ln Gn : List Str} {k : Nat} {pre : Pre} (F : Fun K x qual st f fd) (S : FnScope N ps (defScope st)) (ok : scopeB N (defScope st) Vn Ln Gn = true) (len : ∀ vs L Kk, pre vs L Kk → vs.length = ps.length)
    (body : ∀ (X : Cx), X.prog = P → X.w = w → X.K = K → X.mg = mg → X.base = base → XOk N (defScope st) Vn Ln Gn X → Room k X.A → ∀ vs L Kk, pre vs L Kk → WSs X (defBody st) (start N vs) L (EndOf Kk)) : FnOk P w K mg base CX0 (k + 1) f fd ps (SpL pre) :=
  fnL F S len fun cdv A outer s H vs E L Kk hr hp => body _ rfl rfl rfl rfl rfl ⟨rfl, rfl, ok, rfl, PassesOwn.never⟩ hr vs L Kk hp
theorem fnXDC {x qual : Str} {st : Stmt} {f : Addr} {fd : FuncData} {N ps Vn Ln Gn : List Str} {k : Nat} {pre : Pre} {dvs : List V} (F : FunD K x qual (defArgs st) (defBody st) (defScope st) dvs [] f fd) (S : FnScope N ps (defScope st)) (ok : scopeB N (defScope st) Vn Ln Gn = true)
    (len : ∀ vs L Kk, pre vs L Kk → vs.length = ps.length)
    (body : ∀ (X : Cx), X.prog = P → X.w = w → X.K = K → X.mg = mg → X.base = base → XOk N (defScope st) Vn Ln Gn X → Room k X.A → ∀ vs L Kk, pre vs L Kk → WSs X (defBody st) (start N vs) L (EndOf Kk)) : FnOk P w K mg base CX0 (k + 1) f fd ps (SpL pre) := by
  refine F.ok S (fun vs H Q E h => ?_) (fun cdv A outer s H vs Q E hr h => ?_)
  · obtain ⟨L, Kk, _, hp, _⟩ := h
    exact len vs L Kk hp
  · obtain ⟨L, Kk, hL, hp, hk⟩ := h
    have b := body (cxOf CX0 P w K mg base N qual (defScope st) f cdv A outer s H E).nox rfl rfl rfl rfl rfl ⟨rfl, rfl, ok, rfl, PassesOwn.never⟩ hr vs L Kk hp
    refine ⟨_, PSs.nox pss_sem, (b H hL).mono ⟨fun σ H' q => ?_, fun v H' q => hk v H' q.sub, fun _ _ q => ?_, fun _ _ q => ?_⟩⟩
    · obtain ⟨L1, h1, L2, s2, k2⟩ := q
      exact hk _ _ ⟨L2, s2 _ h1, k2⟩
    · obtain ⟨_, _, q⟩ := q
      exact q.elim
    · obtain ⟨_, _, q⟩ := q
      exact q.elim
/-- an own operator whose promise holds where nothing is being shown -/
structure GOpG (P : Program) (w : World) (K : PySem.W.Frag) (mg : Str → Option Value) (base : Heap) (C : Addr) (x : Str) (k : Nat) (ps : List Str) (pre : Pre) : Prop where
  ex : ∃ f fd, FnG P w K mg base k f fd ps pre ∧ PySem.W.findIn K (.ref C) x = some (some (.ref f)) ∧ PySem.W.isFn K (.ref f) = true ∧ Binds K fd ps []
end
section
variable {X : Cx} {σ : L2.St} {L : LH} {K : V → LH → Prop} {C o dx : Addr} {fs : List (Str × V)} {k : Nat} {ps : List Str} {pre : Pre}
theorem run_opG {pins : List (Addr × Obj)} {H : Hp} {s : Shared} {x : Str} {us : List Value} {vs : List V} {L : LH} {K : V → LH → Prop} (G : GOpG X.prog X.w X.K X.mg X.base C x k ps pre) {A : Around} (hr : Room k A) (hg : A.guards = some []) (he : A.frames = X.A.frames)
    (hL : Holds L H) (I : Inv X pins σ H s) (r : Vals vs us) (h : pre vs L K) : ∃ f, PySem.W.findIn X.K (.ref C) x = some (some (.ref f)) ∧ PySem.W.isFn X.K (.ref f) = true ∧ wpAny (model X.prog X.w) A (call (.ref f) us) (EP X pins σ (QE K)) X.xe s := by
  obtain ⟨f, fd, F, hs, hf, hb⟩ := G.ex
  refine ⟨f, hs, hf, ?_⟩
  have e0 : Env0 X.prog X.w X.K X.mg X.base A X.stack s H := by
    have e := I.env0
    exact ⟨by rw [he]; exact e.frames, e.mod, e.bs, e.bsz, e.funs, e.frf, e.hok, e.bare⟩
  have hl := F.len _ _ _ h
  refine wpAny_call (codeAny_mono (F.run A X.stack s H ⟨us, []⟩ us vs L K hr hg e0 (by
    have := hb s us I.kIn (by rw [List.append_nil, ← r.length]; exact hl)
    simpa using this) r hL h) fun r s' hq => ?_)
  cases r with
  | error e => exact (hq : False).elim
  | ok fl =>
    cases fl with
    | ret w => exact I.after hq
    | next => exact False.elim hq
    | brk => exact False.elim hq
    | cont => exact False.elim hq
theorem wc_ownReprG (G : GOpG X.prog X.w X.K X.mg X.base C "__repr__" k ps pre) (hr : Room (k + 1) X.A) (hg : X.A.guards = some []) (m : Mem o (.ins C dx fs) L) (h : pre [.ref o] L (KStr K)) : WC X (.builtin "repr") [.ref o] L K := by
  intro H hL pins s σ us I r1
  cases r1 with
  | cons r rr =>
    cases rr
    cases r
    obtain ⟨mA, J, _⟩ := ins_get I.hok (hL.get m)
    obtain ⟨od, J, _⟩ := J.look
    obtain ⟨mm, hF⟩ := I.fr
    obtain ⟨f, hs, hf, hrun⟩ := run_opG (A := X.A.in1) (us := [.ref o]) (vs := [.ref o]) G hr.in1 hg rfl hL I (.cons rfl .nil) h
    refine PySem.W.repr_K hr.in1.units0 hF I.ok.mod.kin J hs hf (wpAny_mono hrun (fun w s' z => ?_) fun _ _ x => x)
    obtain ⟨z', H', I', rz, L2, h2, y, ez, qz⟩ := z
    subst ez
    obtain ⟨t, rfl⟩ := rz
    exact ⟨.str y, H', I', ⟨t, rfl⟩, L2, h2, qz⟩
end
/-! ### small words -/
theorem Mem.hole {a : Addr} {o : HO} {L : LH} (h : Mem a o L) : ∃ F, Hole a o L F ∧ ∀ b u, b ≠ a → Mem b u L → ∀ o', Mem b u (F o') := by
  induction h with
  | head => exact ⟨_, .head, fun b u n m o' => by
      cases m with
      | head => exact absurd rfl n
      | tail m => exact .tail m⟩
  | @tail p L _ ih =>
    obtain ⟨F, hf, k⟩ := ih
    exact ⟨_, .tail hf, fun b u n m o' => by
      cases m with
      | head => exact .head
      | tail m => exact .tail (k b u n m o')⟩
theorem Hole.self' {a : Addr} {o : HO} {L : LH} {F : HO → LH} (h : Hole a o L F) : F o = L := by
  induction h with
  | head => rfl
  | tail _ ih => exact congrArg (_ :: ·) ih
theorem Hole.again' {a : Addr} {o : HO} {L : LH} {F : HO → LH} (h : Hole a o L F) (o' : HO) : Hole a o' (F o') F := by
  induction h with
  | head => exact .head
  | tail _ ih => exact .tail ih
theorem Hole.mm {a : Addr} {o : HO} {L : LH} {F : HO → LH} (h : Hole a o L F) : Mem a o L := by
  induction h with
  | head => exact .head
  | tail _ ih => exact .tail ih
theorem wo_isN {X : Cx} {L : LH} {K : V → LH → Prop} {v : V} (k : K (.bl (decide (v = .non))) L) : WO X (compareOp .Is) v .non L K := wo_of op_isN fun _ hL => ⟨rfl, L, hL, k⟩
theorem wss_sub' {X : Cx} {sts : List Stmt} {σ : L2.St} {L L' : LH} {D : EndsL} (s : Sub L L') (h : WSs X sts σ L' D) : WSs X sts σ L D := fun H hL => h H (s H hL)
theorem ws_sub' {X : Cx} {st : Stmt} {σ : L2.St} {L L' : LH} {D : EndsL} (s : Sub L L') (h : WS X st σ L' D) : WS X st σ L D := fun H hL => h H (s H hL)
theorem mem_sub {a : Addr} {o : HO} : ∀ {L : LH}, (a, o) ∈ L → Mem a o L
  | p :: L, h => by
    rcases List.mem_cons.mp h with e | h
    · rw [← e]; exact .head
    · exact .tail (mem_sub h)
theorem Mem.sl {a : Addr} {o : HO} {L L' : LH} (h : Mem a o L) (s : L.Sublist L') : Mem a o L' := mem_sub (s.mem h.mem)
end N3

set_option Elab.async false
set_option linter.all false
set_option maxRecDepth 100000
set_option maxHeartbeats 4000000
namespace N3
open PySem PySem.Spec L2
section
variable {X : Cx} {e f g : Expr} {σ : L2.St} {L : LH} {K : V → LH → Prop} {KT : Bool → LH → Prop} {pos : Pos}
/-- a <= b <= c of ints, as a test -/
theorem wt_chainLL (h : WE X e σ L fun x L1 => WE X f σ L1 fun y L2 => ∃ i j, x = .int i ∧ y = .int j ∧ (i ≤ j → WE X g σ L2 fun w L3 => ∃ k, w = .int k ∧ KT (decide (j ≤ k)) L3) ∧ (¬ i ≤ j → KT false L2))
    (hm : lastMarks [.LtE, .LtE] [f, g] = false := by with_unfolding_all rfl) : WT X (.Compare e [.LtE, .LtE] [f, g] pos) σ L KT :=
  wt_of (pt_chain op_le op_le pe_sem pe_sem pe_sem hm) fun _ hL => e_then h hL fun _ _ _ h1 k1 => e_then k1 h1 fun _ L2 H2 h2 ⟨i, j, ex, ey, kt, kf⟩ => ⟨i, j, ex, ey, decide (i ≤ j), rfl, by
    by_cases c : i ≤ j
    · rw [decide_eq_true c]
      exact iteT (e_then (kt c) h2 fun w L3 H3 h3 ⟨k, ew, q⟩ => ⟨j, k, ey, ew, _, rfl, L3, h3, q⟩)
    · rw [decide_eq_false c]
      exact iteF ⟨_, rfl, L2, h2, kf c⟩⟩
end
/-! ### names that a comprehension captures, stored -/
open PyProof.Rows (envOfC)
section
variable {P : Program} {w : World} {K : PySem.W.Frag} {mg : Str → Option Value} {base : Heap}
def celB (sc : Scope) (x : Str) : Bool := match sc.names.lookup x with | some .cell => true | _ => false
theorem celB_loc {sc : Scope} {x : Str} (h : celB sc x = true) : Loc sc x := by
  unfold celB at h
  split at h
  · rename_i e; exact .inr e
  · cases h
/-- as fnXC, with what is stored in cells -/
theorem fnXCC {x qual : Str} {st : Stmt} {f : Addr} {fd : FuncData} {N ps Vn Ln Gn : List Str} {k : Nat} {pre : Pre} (F : Fun K x qual st f fd) (S : FnScope N ps (defScope st)) (ok : scopeB N (defScope st) Vn Ln Gn = true) (len : ∀ vs L Kk, pre vs L Kk → vs.length = ps.length)
    (body : ∀ (X : Cx), X.prog = P → X.w = w → X.K = K → X.mg = mg → X.base = base → XOk N (defScope st) Vn Ln Gn X → (∀ x, X.fn x = true) → Room k X.A → ∀ vs L Kk, pre vs L Kk → WSs X (defBody st) (start N vs) L (EndOf Kk)) : FnOk P w K mg base CX0 (k + 1) f fd ps (SpL pre) :=
  fnL F S len fun cdv A outer s H vs E L Kk hr hp => body _ rfl rfl rfl rfl rfl ⟨rfl, rfl, ok, rfl, PassesOwn.never⟩ (fun _ => rfl) hr vs L Kk hp
theorem fnXDCC {x qual : Str} {st : Stmt} {f : Addr} {fd : FuncData} {N ps Vn Ln Gn : List Str} {k : Nat} {pre : Pre} {dvs : List V} (F : FunD K x qual (defArgs st) (defBody st) (defScope st) dvs [] f fd) (S : FnScope N ps (defScope st)) (ok : scopeB N (defScope st) Vn Ln Gn = true)
    (len : ∀ vs L Kk, pre vs L Kk → vs.length = ps.length)
    (body : ∀ (X : Cx), X.prog = P → X.w = w → X.K = K → X.mg = mg → X.base = base → XOk N (defScope st) Vn Ln Gn X → (∀ x, X.fn x = true) → Room k X.A → ∀ vs L Kk, pre vs L Kk → WSs X (defBody st) (start N vs) L (EndOf Kk)) : FnOk P w K mg base CX0 (k + 1) f fd ps (SpL pre) := by
  refine F.ok S (fun vs H Q E h => ?_) (fun cdv A outer s H vs Q E hr h => ?_)
  · obtain ⟨L, Kk, _, hp, _⟩ := h
    exact len vs L Kk hp
  · obtain ⟨L, Kk, hL, hp, hk⟩ := h
    have b := body (cxOf CX0 P w K mg base N qual (defScope st) f cdv A outer s H E).nox rfl rfl rfl rfl rfl ⟨rfl, rfl, ok, rfl, PassesOwn.never⟩ (fun _ => rfl) hr vs L Kk hp
    refine ⟨_, PSs.nox pss_sem, (b H hL).mono ⟨fun σ H' q => ?_, fun v H' q => hk v H' q.sub, fun _ _ q => ?_, fun _ _ q => ?_⟩⟩
    · obtain ⟨L1, h1, L2, s2, k2⟩ := q
      exact hk _ _ ⟨L2, s2 _ h1, k2⟩
    · obtain ⟨_, _, q⟩ := q
      exact q.elim
    · obtain ⟨_, _, q⟩ := q
      exact q.elim
theorem fnXGCC {x qual : Str} {st : Stmt} {f : Addr} {fd : FuncData} {N ps Vn Ln Gn : List Str} {k : Nat} {pre : Pre} (F : Fun K x qual st f fd) (S : FnScope N ps (defScope st)) (ok : scopeB N (defScope st) Vn Ln Gn = true) (len : ∀ vs L Kk, pre vs L Kk → vs.length = ps.length)
    (body : ∀ (X : Cx), X.prog = P → X.w = w → X.K = K → X.mg = mg → X.base = base → XOk N (defScope st) Vn Ln Gn X → (∀ x, X.fn x = true) → Room k X.A → X.A.guards = some [] → ∀ vs L Kk, pre vs L Kk → WSs X (defBody st) (start N vs) L (EndOf Kk)) : FnG P w K mg base (k + 1) f fd ps pre :=
  fnG F S len fun cdv A outer s H vs E L Kk hr hg hp => body _ rfl rfl rfl rfl rfl ⟨rfl, rfl, ok, rfl, PassesOwn.never⟩ (fun _ => rfl) hr hg vs L Kk hp
end
section
variable {N Vn Ln Gn : List Str} {sc : Scope} {X : Cx} {i : Nat} {e : Expr} {σ : L2.St} {L : LH} {KS : L2.St → LH → Prop} {D : EndsL} {pos pos' : Pos} {x : Str}
theorem x_setC (h : XOk N sc Vn Ln Gn X) (hfn : ∀ x, X.fn x = true) (a : At x N i) (c : celB sc x = true) (q : WE X e σ L fun v L1 => D.nx (σ.set i (some v)) L1) (hs : swapsWith e (some (.Name x pos')) pos.line X.env = pure false := by rfl) : WS X (.Assign [.Name x pos'] e pos) σ L D :=
  ws_set i q h.nd (h.ix a) (by rw [h.hsc]; exact celB_loc c) hs (.inl (hfn x))
theorem x_tgtC {v : V} (h : XOk N sc Vn Ln Gn X) (hfn : ∀ x, X.fn x = true) (a : At x N i) (c : celB sc x = true) (k : KS (σ.set i (some v)) L) : WG X (.Name x pos) v σ L KS := wg_name i k h.nd (h.ix a) (by rw [h.hsc]; exact celB_loc c) (.inl (hfn x))
end
/-! ### what is known stands at unlike places -/
theorem mem_one {a : Addr} {o u : HO} : ∀ {L : LH}, (L.map (·.1)).Nodup → Mem a o L → Mem a u L → o = u
  | p :: L, nd, m, m' => by
    have nd' := List.nodup_cons.mp (by rw [← List.map_cons]; exact nd)
    cases m with
    | head =>
      cases m' with
      | head => rfl
      | tail m' => exact absurd (List.mem_map.mpr ⟨_, m'.mem, rfl⟩) nd'.1
    | tail m =>
      cases m' with
      | head => exact absurd (List.mem_map.mpr ⟨_, m.mem, rfl⟩) nd'.1
      | tail m' => exact mem_one nd'.2 m m'
theorem mem_ne {a b : Addr} {o u : HO} {L : LH} (nd : (L.map (·.1)).Nodup) (m : Mem a o L) (m' : Mem b u L) (h : o ≠ u) : a ≠ b := fun e => h (by subst e; exact mem_one nd m m')
theorem we_nd {X : Cx} {e : Expr} {σ : L2.St} {L : LH} {K : V → LH → Prop} (h : (L.map (·.1)).Nodup → WE X e σ L K) : WE X e σ L K := fun H hL => h hL.nd H hL
theorem wss_nd {X : Cx} {sts : List Stmt} {σ : L2.St} {L : LH} {D : EndsL} (h : (L.map (·.1)).Nodup → WSs X sts σ L D) : WSs X sts σ L D := fun H hL => h hL.nd H hL
theorem ws_nd {X : Cx} {st : Stmt} {σ : L2.St} {L : LH} {D : EndsL} (h : (L.map (·.1)).Nodup → WS X st σ L D) : WS X st σ L D := fun H hL => h hL.nd H hL
end N3

set_option Elab.async false
set_option linter.all false
set_option maxRecDepth 100000
set_option maxHeartbeats 4000000
namespace K12
open PySem L2 N3
/-! ### the text by places -/
def top (i : Nat) : Stmt := PySem.Challenge.pw_notesums_k12_tables_by_dicts.main.body.getD i (.Pass ⟨0, 0, 0, 0⟩)
abbrev sIsName : Stmt := top 10
abbrev sMaps : Stmt := top 11
abbrev sIsInt : Stmt := top 13
abbrev sMapsI : Stmt := top 15
abbrev sInit : Stmt := inClass (top 16) 0
abbrev sAt : Stmt := inClass (top 16) 1
abbrev sUsed : Stmt := inClass (top 16) 2
abbrev sCounts : Stmt := inClass (top 16) 3
abbrev sPlain : Stmt := inClass (top 16) 4
abbrev sAdd : Stmt := inClass (top 16) 5
abbrev sSub : Stmt := inClass (top 16) 6
abbrev sNeg : Stmt := inClass (top 16) 7
abbrev sTimes : Stmt := inClass (top 16) 8
abbrev sRen : Stmt := inClass (top 16) 9
abbrev sEq : Stmt := inClass (top 16) 10
abbrev sLen : Stmt := inClass (top 16) 11
abbrev sCon : Stmt := inClass (top 16) 12
abbrev sRepr : Stmt := inClass (top 16) 13
abbrev sRng : Stmt := top 18
abbrev sDraw : Stmt := top 19
abbrev sChoice : Stmt := top 20
abbrev sNames : Stmt := top 21
abbrev sNumber : Stmt := top 22
abbrev sMixed : Stmt := top 23
abbrev sLong : Stmt := top 24
abbrev sDict : Stmt := top 25
abbrev sKept : Stmt := top 26
abbrev sTog : Stmt := top 27
abbrev sLRen : Stmt := top 28
abbrev sIs : Stmt := top 29
abbrev sRight : Stmt := top 30
abbrev sLaw : Stmt := top 31
/-! ### the data -/
abbrev LETTERS : Str := "abcdefghijklmnopqrstuvwxyz"
abbrev CHARS : Str := "abcdefghijklmnopqrstuvwxyz0123456789"
def tabF (d : Addr) : List (Str × V) := putF "_counts" (.ref d) []
theorem tabF_cnt (d : Addr) : (tabF d).lookup ("_counts" : Str) = some (.ref d) := by
  unfold tabF
  rw [lookup_putF, if_pos rfl]
theorem tabF_no (d : Addr) {m : Str} (h : ¬ m = "_counts") : (tabF d).lookup m = none := by
  unfold tabF
  rw [lookup_putF, if_neg h]
  rfl
/-- what is known of the written part -/
structure Txt (K : PySem.W.Frag) (mg : Str → Option Value) (C : Addr) : Prop where
  cl : Cls K C
  nC : NoAttr K C "_counts"
  ca : PySem.W.findIn K (.ref C) "__class__" = some (some (.builtin "object.__class__"))
  cn : PySem.W.specialIn K (.builtin "object.__class__") "__get__" = some (some (.builtin "getset_descriptor.__get__"))
  ct : PySem.W.takesIn K (.builtin "object.__class__") = some true
  cm : PySem.W.mroIn K C (.type "object") = some true
  iCC : PySem.W.kitOne K (.ref C) (.ref C) = some true
  iDC : PySem.W.kitOne K (.type "dict") (.ref C) = some false
  iSC : PySem.W.kitOne K (.type "str") (.ref C) = some false
  mgC : mg "Table" = some (.ref C)
  mgL : ∃ t, mg "LETTERS" = some (.str LETTERS t)
  mgH : ∃ t, mg "CHARACTERS" = some (.str CHARS t)
  mgN : ∃ t, mg "LONGEST" = some (.int 8 t)
  bn : ∀ x, InS x ["isinstance", "int", "bool", "max", "min", "abs", "len", "str", "repr", "divmod", "range", "all", "dict", "list", "sorted"] → mg x = none
theorem Txt.ty {K : PySem.W.Frag} {mg : Str → Option Value} {C a dx : Addr} {fs : List (Str × V)} {L : LH} (T : Txt K mg C) (m : Mem a (.ins C dx fs) L) : TyL K (.ref a) (.ref C) L := fun _ hL => .base (.ins (hL.get m) T.cl T.ca T.cn T.ct T.cm)
theorem ty_int {K : PySem.W.Frag} {i : Int} {L : LH} : TyL K (.int i) (.type "int") L := fun _ _ => .base (.int i)
theorem ty_str {K : PySem.W.Frag} {i : Str} {L : LH} : TyL K (.str i) (.type "str") L := fun _ _ => .base (.str i)
theorem ty_bool {K : PySem.W.Frag} {i : Bool} {L : LH} : TyL K (.bl i) (.type "bool") L := fun _ _ => .base (.bl i)
theorem ty_none {K : PySem.W.Frag} {L : LH} : TyL K .non (.type "NoneType") L := fun _ _ => .base .non
theorem ty_lst {K : PySem.W.Frag} {p : Addr} {xs : List V} {L : LH} (m : Mem p (.lst xs) L) : TyL K (.ref p) (.type "list") L := fun _ hL => .base (.lst (hL.get m))
theorem ty_tup {K : PySem.W.Frag} {p : Addr} {xs : List V} {L : LH} (m : Mem p (.tup xs) L) : TyL K (.ref p) (.type "tuple") L := fun _ hL => .base (.tup (hL.get m))
theorem ty_dict {K : PySem.W.Frag} {p : Addr} {xs : List (Key × V)} {L : LH} (m : Mem p (.dK xs) L) : TyL K (.ref p) (.type "dict") L := fun _ hL => .base (.dK (hL.get m))
theorem boot_isi : bootBuiltins "isinstance" = some (.builtin "isinstance") := by decide +kernel
theorem boot_max : bootBuiltins "max" = some (.builtin "max") := by decide +kernel
theorem boot_min : bootBuiltins "min" = some (.builtin "min") := by decide +kernel
theorem boot_abs : bootBuiltins "abs" = some (.builtin "abs") := by decide +kernel
theorem boot_len : bootBuiltins "len" = some (.builtin "len") := by decide +kernel
theorem boot_repr : bootBuiltins "repr" = some (.builtin "repr") := by decide +kernel
theorem boot_divmod : bootBuiltins "divmod" = some (.builtin "divmod") := by decide +kernel
theorem boot_all : bootBuiltins "all" = some (.builtin "all") := by decide +kernel
theorem boot_sorted : bootBuiltins "sorted" = some (.builtin "sorted") := by decide +kernel
theorem boot_int : bootBuiltins "int" = some (.type "int") := by decide +kernel
theorem boot_bool : bootBuiltins "bool" = some (.type "bool") := by decide +kernel
theorem boot_str : bootBuiltins "str" = some (.type "str") := by decide +kernel
theorem boot_dict : bootBuiltins "dict" = some (.type "dict") := by decide +kernel
theorem boot_list : bootBuiltins "list" = some (.type "list") := by decide +kernel
section
variable {N Vn Ln Gn : List Str} {sc : Scope} {X : Cx} {e : Expr} {σ : L2.St} {L : LH} {K : V → LH → Prop} {pos : Pos} {mg : Str → Option Value} {C : Addr} {i : Nat} {x : Str}
theorem x_bty {ty : String} (h : XOk N sc Vn Ln Gn X) (a : At x Gn i) (hm : X.mg x = none) (hv : bootBuiltins x = some (.type ty)) (k : K (.ty ty) L) : WE X (.Name x pos) σ L K := x_bltn (v := .ty ty) h a hm hv rfl k
theorem x_cls (T : Txt X.K X.mg C) (h : XOk N sc Vn Ln Gn X) (a : At "Table" Gn i) (k : K (.ref C) L) : WE X (.Name "Table" pos) σ L K := x_glob (v := .ref C) h a T.mgC rfl k
theorem x_gstr {z : Str} (hm : ∃ t, X.mg x = some (.str z t)) (h : XOk N sc Vn Ln Gn X) (a : At x Gn i) (k : K (.str z) L) : WE X (.Name x pos) σ L K := by
  obtain ⟨t, hm⟩ := hm
  exact x_glob (v := .str z) h a hm ⟨t, rfl⟩ k
theorem x_gint {z : Int} (hm : ∃ t, X.mg x = some (.int z t)) (h : XOk N sc Vn Ln Gn X) (a : At x Gn i) (k : K (.int z) L) : WE X (.Name x pos) σ L K := by
  obtain ⟨t, hm⟩ := hm
  exact x_glob (v := .int z) h a hm ⟨t, rfl⟩ k
theorem f_cnt (T : Txt X.K X.mg C) (h : WE X e σ L fun x L1 => ∃ a dx d, x = .ref a ∧ Mem a (.ins C dx (tabF d)) L1 ∧ K (.ref d) L1) (hb : attributeBase e "_counts" X.env (eval e X.env) = eval e X.env := by rfl) : WE X (.Attribute e "_counts" pos) σ L K :=
  we_fld (fun H hL => e_then h hL fun x L1 H1 h1 ⟨a, dx, d, ex, m, k⟩ => ⟨L1, h1, a, C, dx, _, _, ex, m, T.cl, T.nC, tabF_cnt d, k⟩) hb
end
theorem len_line {n : Nat} (h : n ≤ 1000 := by decide) : n ≤ sizeLine := Nat.le_trans h (by rw [sizeLine_eq]; decide)
theorem len_lt {n : Nat} (h : n < 1000) : n < sizeLine := Nat.lt_of_lt_of_le h (by rw [sizeLine_eq]; decide)
/-! ### names -/
def isNm (x : Str) : Bool := decide (1 ≤ x.length) && decide (x.length ≤ 8) && (match x.cps.toList with | c :: _ => decide (c ∈ LETTERS.cps.toList) | [] => false) && x.cps.toList.all fun c => decide (c ∈ CHARS.cps.toList)
end K12

set_option Elab.async false
set_option linter.all false
set_option maxRecDepth 100000
set_option maxHeartbeats 4000000
namespace K12
open PySem L2 N3
local macro_rules | `(tactic| walk_at "at") => `(tactic| with_reducible (repeat (first | exact At.head | apply At.tail)))
local macro_rules | `(tactic| walk_at "mem") => `(tactic| with_reducible (repeat (first | exact Mem.head | apply Mem.tail)))
local macro_rules | `(tactic| walk_at "boot") => `(tactic| with_reducible (first | exact boot_isi | exact boot_max | exact boot_min | exact boot_abs | exact boot_len | exact boot_repr | exact boot_divmod | exact boot_all | exact boot_int | exact boot_bool | exact boot_str | exact boot_dict | exact boot_list | exact boot_sorted))
local macro_rules | `(tactic| walk_at "room") => `(tactic| (first | assumption | exact Room.mono (by assumption) (by decide)))
local macro_rules | `(tactic| walk_at "none") => `(tactic| (refine Txt.bn (by assumption) _ ?xz; (case xz => with_reducible (repeat (first | exact InS.head | apply InS.tail)))))
local macro_rules | `(tactic| walk_at "n3") => `(tactic| first
  | with_reducible refine ws_ret ?_
  | with_reducible refine we_int ?_
  | with_reducible refine we_str ?_
  | with_reducible refine we_bool ?_
  | with_reducible refine we_none ?_
  | ((with_reducible refine' x_name ?xo ?xa ?xb ?xc ?_); (case xo => assumption); (case xa => walk_at "at"); (case xb => walk_at "at"); (case xc => rfl))
  | ((with_reducible refine' f_cnt ?xt ?_ ?xh); (case xt => assumption); (case xh => rfl))
  | ((with_reducible refine' we_prop ?xg ?xr ?_ ?xh); (case xg => assumption); (case xr => walk_at "room"); (case xh => rfl))
  | with_reducible refine we_bin ?_
  | with_reducible refine wo_add ?_
  | with_reducible refine wo_sub ?_
  | with_reducible refine wo_lt ?_
  | with_reducible refine wo_gt ?_
  | with_reducible refine wo_le ?_
  | with_reducible refine wo_ge ?_
  | with_reducible refine wu_neg ?_
  | ((with_reducible refine we_cmp ?xh ?_); (case xh => exact nomark _))
  | ((with_reducible refine wt_cmp ?xh ?_); (case xh => exact nomark _))
  | ((with_reducible refine wa_cons ?_ ?xh); (case xh => rfl))
  | with_reducible refine wa_nil ?_
  | with_reducible refine we_and ?_
  | with_reducible refine we_or ?_
  | with_reducible refine we_not ?_
  | with_reducible refine wt_not ?_
  | with_reducible refine we_un ?_
  | with_reducible refine we_one ?_
  | with_reducible refine wt_ww (ww_or ?_)
  | with_reducible refine wt_ww (ww_and ?_)
  | with_reducible refine ww_or ?_
  | with_reducible refine ww_and ?_
  | with_reducible refine ww_or1 ?_
  | with_reducible refine ww_and1 ?_
  | with_reducible refine we_ifExp ?_
  | with_reducible refine ws_if ?_
  | with_reducible refine ws_pass ?_
  | with_reducible refine we_tup ?_
  | with_reducible refine we_lst ?_
  | ((with_reducible refine' x_set ?xo ?xa ?xb ?_ ?xs); (case xo => assumption); (case xa => walk_at "at"); (case xb => walk_at "at"); (case xs => rfl))
  | ((with_reducible refine' x_setF ?_ ?xs); (case xs => rfl))
  | ((with_reducible refine' x_call ?xo ?xa ?xg ?xr ?_ ?xe ?xp); (case xo => assumption); (case xa => walk_at "at"); (case xg => assumption); (case xr => walk_at "room"); (case xe => rfl); (case xp => rfl))
  | ((with_reducible refine' x_callG ?xo ?xa ?xg ?xr ?xd ?_ ?xe ?xp); (case xo => assumption); (case xa => walk_at "at"); (case xg => assumption); (case xr => walk_at "room"); (case xd => assumption); (case xe => rfl); (case xp => rfl))
  | ((with_reducible refine' x_callB ?xo ?xa ?xg ?xr ?_ ?xe ?xp); (case xo => assumption); (case xr => walk_at "boot"); (case xa => walk_at "at"); (case xg => walk_at "none"); (case xe => rfl); (case xp => rfl))
  | ((with_reducible refine' x_callTy ?xo ?xa ?xg ?xr ?_ ?xe ?xp); (case xo => assumption); (case xr => walk_at "boot"); (case xa => walk_at "at"); (case xg => walk_at "none"); (case xe => rfl); (case xp => rfl))
  | ((with_reducible refine' x_bty ?xo ?xa ?xg ?xr ?_); (case xo => assumption); (case xr => walk_at "boot"); (case xa => walk_at "at"); (case xg => walk_at "none"))
  | ((with_reducible refine' x_cls ?xt ?xo ?xa ?_); (case xt => assumption); (case xo => assumption); (case xa => walk_at "at"))
  | ((with_reducible refine' x_make ?xo ?xa ?xg ?xr ?_ ?xe ?xp); (case xo => assumption); (case xa => walk_at "at"); (case xg => assumption); (case xr => walk_at "room"); (case xe => rfl); (case xp => rfl))
  | with_reducible refine wss_nil ?_
  | refine ⟨_, _, _, rfl, (by assumption), ?_⟩
  | refine wss_cons ?_
  | ((with_reducible refine' wt_val ?_ ?xv); (case xv => intro _; rfl)))
local macro_rules | `(tactic| walk_at "go") => `(tactic| repeat walk_at "n3")
section
variable {P : Program} {w : World} {K : PySem.W.Frag} {mg : Str → Option Value} {base : Heap}
theorem scIsName : FnScope ["value", "character"] ["value"] (defScope sIsName) := ⟨rfl, rfl, rfl, by decide +kernel, rfl, by decide +kernel, by decide +kernel⟩
def pIsName (K : PySem.W.Frag) : Pre := fun vs L Kk => ∃ v, vs = [v] ∧ ((∃ x, v = .str x ∧ x.length ≤ 1000 ∧ Kk (.bl (isNm x)) L) ∨ ((∃ t, TyL K v t L ∧ PySem.W.kitOne K t (.type "str") = some false) ∧ Kk (.bl false) L))
def oBool : Int → Int → V := fun i j => .bl (decide (i ≤ j))
theorem le_mono : ∀ x y H Q Q', rI0 (fun i j => .bl (decide (i ≤ j))) x y H Q → (∀ v H, Q v H → Q' v H) → rI0 (fun i j => .bl (decide (i ≤ j))) x y H Q' := fun x y H Q Q' ⟨i, j, e1, e2, q⟩ k => ⟨i, j, e1, e2, k _ _ q⟩
theorem okIsName {f C : Addr} {fd : FuncData} (F : Fun K "is_name" "is_name" sIsName f fd) (T : Txt K mg C) : FnOk P w K mg base CX0 1 f fd ["value"] (SpL (pIsName K)) := by
  refine fnXC (Vn := ["value"]) (Ln := ["value"]) (Gn := ["isinstance", "str", "len", "LONGEST", "LETTERS", "all"]) F scIsName (by decide +kernel) (fun vs L Kk h => ?_) (fun X e1 e2 e3 e4 e5 hX hr vs L Kk h => ?_)
  · obtain ⟨v, rfl, _⟩ := h
    rfl
  · subst e1 e2 e3 e4 e5
    obtain ⟨v, rfl, h⟩ := h
    walk_at "go"
    rcases h with ⟨x, rfl, hz, k⟩ | ⟨⟨t, ht, hk⟩, k⟩
    · refine wc_isi (r := true) (.ty _) ty_str (kit_ty (by decide +kernel)) ⟨_, rfl, fun _ => ?_, fun z => Bool.noConfusion z⟩
      walk_at "go"
      refine wt_chainLL ?_
      walk_at "go"
      refine wc_lenS (len_line hz) ⟨_, _, rfl, rfl, fun c1 => ?_, fun c1 => ?_⟩
      · refine x_gint T.mgN (by assumption) (by walk_at "at") ⟨_, rfl, fun c2 => ?_, fun c2 => ?_⟩
        · have e : isNm x = false := by
            unfold isNm
            have : ¬ x.length ≤ 8 := by
              have c3 : (8 : Int) < x.length := by simpa using c2
              omega
            simp [this]
          rw [e] at k
          walk_at "go"
          exact ret_sub k (Sub.refl _)
        · have c3 : (x.length : Int) ≤ 8 := by simpa using c2
          have h8 : x.length ≤ 8 := by omega
          have h1 : 1 ≤ x.length := by omega
          have hlen : x.cps.toList.length = x.length := by simp [PySem.Str.length]
          obtain ⟨c, rest, hc⟩ : ∃ c rest, x.cps.toList = c :: rest := by
            cases hx : x.cps.toList with
            | nil => rw [hx] at hlen; simp at hlen; omega
            | cons c rest => exact ⟨c, rest, rfl⟩
          have e : isNm x = (decide (c ∈ LETTERS.cps.toList) && x.cps.toList.all fun c => decide (c ∈ CHARS.cps.toList)) := by
            unfold isNm
            simp only [h1, h8, decide_true, Bool.true_and, hc]
          rw [e] at k
          walk_at "go"
          refine we_cmp rfl ?_
          refine we_ixS ?_
          walk_at "go"
          refine ⟨x, 0, c, rfl, rfl, len_line hz, by rw [hc]; exact atI_nat (j := 0) rfl, ?_⟩
          refine x_gstr T.mgL (by assumption) (by walk_at "at") ?_
          refine wo_inSign ⟨_, rfl, fun z => ?_, fun z => ?_⟩
          · rw [z, Bool.true_and] at k
            walk_at "go"
            refine x_lc [("character", 1)] hX (by decide +kernel) (wi_str ?_)
            walk_at "go"
            refine ⟨x, rfl, fun D => ⟨fun i L' => L' = (D, .lst ((x.cps.toList.take i).map fun c => .bl (decide (c ∈ CHARS.cps.toList)))) :: L, rfl, fun _ _ _ _ => True.intro, ?_, ?_⟩⟩
            · rintro i v L' L'' hi rfl ⟨rfl, c', hc', rfl⟩
              intro s H' Ca cl fp
              have hB := hX.blk (Vb := ["character"]) (Lb := ["character"]) (Gb := ["CHARACTERS"]) (scope := ⟨.function, [(".0", .local), ("character", .local), ("CHARACTERS", .globalImplicit)], false, false, []⟩) (by decide +kernel)
              refine x_tgt (hB s H' Ca cl fp) (by walk_at "at") (by walk_at "at") ⟨rfl, fun s H' Ca cl fp => ?_⟩
              have hX' := hB s H' Ca cl fp
              refine we_cmp rfl ?_
              walk_at "go"
              refine x_gstr (X := X.blk s H' _ (compEnvC _ cl Ca X.env) fp) T.mgH hX' (by walk_at "at") ?_
              refine wo_inSign ⟨_, _, .head, ?_, _, Sub.refl _, ?_⟩
              · rw [List.length_map, List.length_take]
                exact len_lt (by omega)
              · show _ = _
                have hg : x.cps.toList[i]? = some c' := by rw [Array.getElem?_toList]; exact hc'
                rw [List.take_add_one, hg, List.map_append]
                rfl
            · rintro L' rfl
              have hs : x.cps.size = x.cps.toList.length := by simp
              rw [hs, List.take_length]
              walk_at "go"
              refine wc_all (bs := x.cps.toList.map fun c => decide (c ∈ CHARS.cps.toList)) hX.calm (.of (by rw [List.map_map]; exact .head)) ?_
              rw [List.all_map]
              exact ret_sub k (Sub.of_sublist (.cons _ (.refl _)))
          · rw [z, Bool.false_and] at k
            exact ret_sub k (Sub.refl _)
      · have e : isNm x = false := by
          unfold isNm
          have : ¬ 1 ≤ x.length := by omega
          simp [this]
        rw [e] at k
        refine ⟨fun _ => ?_, fun z => Bool.noConfusion z⟩
        walk_at "go"
        exact ret_sub k (Sub.refl _)
    · refine wc_isi (r := false) (.ty _) ht hk ⟨_, rfl, (fun z => Bool.noConfusion z), fun _ => ⟨fun _ => ?_, fun z => Bool.noConfusion z⟩⟩
      walk_at "go"
      exact ret_sub k (Sub.refl _)
end
end K12

set_option Elab.async false
set_option linter.all false
set_option maxRecDepth 100000
set_option maxHeartbeats 4000000
namespace K12
open PySem L2 N3
local macro_rules | `(tactic| walk_at "at") => `(tactic| with_reducible (repeat (first | exact At.head | apply At.tail)))
local macro_rules | `(tactic| walk_at "mem") => `(tactic| with_reducible (repeat (first | exact Mem.head | apply Mem.tail)))
local macro_rules | `(tactic| walk_at "boot") => `(tactic| with_reducible (first | exact boot_isi | exact boot_max | exact boot_min | exact boot_abs | exact boot_len | exact boot_repr | exact boot_divmod | exact boot_all | exact boot_int | exact boot_bool | exact boot_str | exact boot_dict | exact boot_list | exact boot_sorted))
local macro_rules | `(tactic| walk_at "room") => `(tactic| (first | assumption | exact Room.mono (by assumption) (by decide)))
local macro_rules | `(tactic| walk_at "none") => `(tactic| (refine Txt.bn (by assumption) _ ?xz; (case xz => with_reducible (repeat (first | exact InS.head | apply InS.tail)))))
local macro_rules | `(tactic| walk_at "n3") => `(tactic| first
  | with_reducible refine ws_ret ?_
  | with_reducible refine we_int ?_
  | with_reducible refine we_str ?_
  | with_reducible refine we_bool ?_
  | with_reducible refine we_none ?_
  | ((with_reducible refine' x_name ?xo ?xa ?xb ?xc ?_); (case xo => assumption); (case xa => walk_at "at"); (case xb => walk_at "at"); (case xc => rfl))
  | ((with_reducible refine' f_cnt ?xt ?_ ?xh); (case xt => assumption); (case xh => rfl))
  | ((with_reducible refine' we_prop ?xg ?xr ?_ ?xh); (case xg => assumption); (case xr => walk_at "room"); (case xh => rfl))
  | with_reducible refine we_bin ?_
  | with_reducible refine wo_add ?_
  | with_reducible refine wo_sub ?_
  | with_reducible refine wo_lt ?_
  | with_reducible refine wo_gt ?_
  | with_reducible refine wo_le ?_
  | with_reducible refine wo_ge ?_
  | with_reducible refine wu_neg ?_
  | ((with_reducible refine we_cmp ?xh ?_); (case xh => exact nomark _))
  | ((with_reducible refine wt_cmp ?xh ?_); (case xh => exact nomark _))
  | ((with_reducible refine wa_cons ?_ ?xh); (case xh => rfl))
  | with_reducible refine wa_nil ?_
  | with_reducible refine we_and ?_
  | with_reducible refine we_or ?_
  | with_reducible refine we_not ?_
  | with_reducible refine wt_not ?_
  | with_reducible refine we_un ?_
  | with_reducible refine we_one ?_
  | with_reducible refine wt_ww (ww_or ?_)
  | with_reducible refine wt_ww (ww_and ?_)
  | with_reducible refine ww_or ?_
  | with_reducible refine ww_and ?_
  | with_reducible refine ww_or1 ?_
  | with_reducible refine ww_and1 ?_
  | with_reducible refine we_ifExp ?_
  | with_reducible refine ws_if ?_
  | with_reducible refine ws_pass ?_
  | with_reducible refine we_tup ?_
  | with_reducible refine we_lst ?_
  | ((with_reducible refine' x_set ?xo ?xa ?xb ?_ ?xs); (case xo => assumption); (case xa => walk_at "at"); (case xb => walk_at "at"); (case xs => rfl))
  | ((with_reducible refine' x_setF ?_ ?xs); (case xs => rfl))
  | ((with_reducible refine' x_call ?xo ?xa ?xg ?xr ?_ ?xe ?xp); (case xo => assumption); (case xa => walk_at "at"); (case xg => assumption); (case xr => walk_at "room"); (case xe => rfl); (case xp => rfl))
  | ((with_reducible refine' x_callG ?xo ?xa ?xg ?xr ?xd ?_ ?xe ?xp); (case xo => assumption); (case xa => walk_at "at"); (case xg => assumption); (case xr => walk_at "room"); (case xd => assumption); (case xe => rfl); (case xp => rfl))
  | ((with_reducible refine' x_callB ?xo ?xa ?xg ?xr ?_ ?xe ?xp); (case xo => assumption); (case xr => walk_at "boot"); (case xa => walk_at "at"); (case xg => walk_at "none"); (case xe => rfl); (case xp => rfl))
  | ((with_reducible refine' x_callTy ?xo ?xa ?xg ?xr ?_ ?xe ?xp); (case xo => assumption); (case xr => walk_at "boot"); (case xa => walk_at "at"); (case xg => walk_at "none"); (case xe => rfl); (case xp => rfl))
  | ((with_reducible refine' x_bty ?xo ?xa ?xg ?xr ?_); (case xo => assumption); (case xr => walk_at "boot"); (case xa => walk_at "at"); (case xg => walk_at "none"))
  | ((with_reducible refine' x_cls ?xt ?xo ?xa ?_); (case xt => assumption); (case xo => assumption); (case xa => walk_at "at"))
  | ((with_reducible refine' x_make ?xo ?xa ?xg ?xr ?_ ?xe ?xp); (case xo => assumption); (case xa => walk_at "at"); (case xg => assumption); (case xr => walk_at "room"); (case xe => rfl); (case xp => rfl))
  | with_reducible refine wss_nil ?_
  | refine ⟨_, _, _, rfl, (by assumption), ?_⟩
  | refine wss_cons ?_
  | ((with_reducible refine' wt_val ?_ ?xv); (case xv => intro _; rfl)))
local macro_rules | `(tactic| walk_at "go") => `(tactic| repeat walk_at "n3")
section
variable {P : Program} {w : World} {K : PySem.W.Frag} {mg : Str → Option Value} {base : Heap}
/-! is_integer -/
def pIsInt (K : PySem.W.Frag) : Pre := fun vs L Kk => ∃ i : Int, vs = [.int i] ∧ Kk (.bl true) L
theorem scIsInt : FnScope ["value"] ["value"] (defScope sIsInt) := ⟨rfl, rfl, rfl, by decide +kernel, rfl, by decide +kernel, by decide +kernel⟩
theorem okIsInt {f C : Addr} {fd : FuncData} (F : Fun K "is_integer" "is_integer" sIsInt f fd) (T : Txt K mg C) : FnOk P w K mg base CX0 1 f fd ["value"] (SpL (pIsInt K)) := by
  refine fnX (Gn := ["isinstance", "int", "bool"]) F scIsInt (by decide +kernel) (fun vs L Kk h => ?_) (fun X e1 e2 e3 e4 e5 hX hr vs L Kk h => ?_)
  · obtain ⟨i, rfl, _⟩ := h
    rfl
  · subst e1 e2 e3 e4 e5
    obtain ⟨i, rfl, k⟩ := h
    walk_at "go"
    refine wc_isi (r := true) (.ty _) ty_int (kit_ty (by decide +kernel)) ⟨true, rfl, fun _ => ?_, fun z => Bool.noConfusion z⟩
    walk_at "go"
    refine wc_isi (r := false) (.ty _) ty_int (kit_ty (by decide +kernel)) ⟨false, rfl, ?_⟩
    exact ret_sub k (Sub.refl _)
/-! maps_names: a dict from names to names -/
/-- names for names -/
def tn (m : List (Str × Str)) : List (Key × V) := m.map fun p => (Sum.inr p.1, V.str p.2)
def Nm (x : Str) : Prop := isNm x = true
theorem Nm.le {x : Str} (h : Nm x) : x.length ≤ 8 := by
  unfold Nm isNm at h
  simp only [Bool.and_eq_true, decide_eq_true_eq] at h
  exact h.1.1.2
theorem Nm.le' {x : Str} (h : Nm x) : x.length ≤ 1000 := Nat.le_trans h.le (by decide)
theorem is_nm (K : PySem.W.Frag) {x : Str} (h : Nm x) {L : LH} {Kk : V → LH → Prop} (k : Kk (.bl true) L) : pIsName K [.str x] L Kk := by
  refine ⟨_, rfl, .inl ⟨x, rfl, h.le', ?_⟩⟩
  rw [show isNm x = true from h]
  exact k
def pMaps : Pre := fun vs L Kk => ∃ d m, vs = [.ref d] ∧ Mem d (.dK (tn m)) L ∧ m.length < 1000 ∧ (∀ p ∈ m, Nm p.1 ∧ Nm p.2) ∧ Kk (.bl true) L
theorem scMaps : FnScope ["value", "old", "new"] ["value"] (defScope sMaps) := ⟨rfl, rfl, rfl, by decide +kernel, rfl, by decide +kernel, by decide +kernel⟩
theorem map_get {α β : Type} {f : α → β} {l : List α} {i : Nat} {y : β} (h : (l.map f)[i]? = some y) : ∃ x, l[i]? = some x ∧ f x = y := by
  rw [List.getElem?_map] at h
  exact Option.map_eq_some_iff.mp h
theorem okMaps {f C : Addr} {fd : FuncData} (F : Fun K "maps_names" "maps_names" sMaps f fd) (T : Txt K mg C) (GN : GFn P w K mg base "is_name" 1 ["value"] [] (pIsName K)) : FnOk P w K mg base CX0 2 f fd ["value"] (SpL pMaps) := by
  refine fnXC (Vn := ["value"]) (Ln := ["value"]) (Gn := ["isinstance", "dict", "all"]) F scMaps (by decide +kernel) (fun vs L Kk h => ?_) (fun X e1 e2 e3 e4 e5 hX hr vs L Kk h => ?_)
  · obtain ⟨d, m, rfl, _⟩ := h
    rfl
  · subst e1 e2 e3 e4 e5
    obtain ⟨d, m, rfl, md, hl, hn, k⟩ := h
    walk_at "go"
    refine wc_isi (r := true) (.ty _) (ty_dict md) (kit_ty (by decide +kernel)) ⟨_, rfl, fun z => Bool.noConfusion z, fun _ => ?_⟩
    walk_at "go"
    obtain ⟨F', hf, _⟩ := md.hole
    refine we_lock hf True.intro fun od => ?_
    refine x_lc [("old", 1), ("new", 2)] hX (by decide +kernel) (wi_items ?_)
    walk_at "go"
    have hh := hf.again' (.frz od (.dK (tn m)))
    refine ⟨d, od, tn m, rfl, hh.mm, fun D => ⟨fun i L' => L' = (D, .lst (List.replicate i (.bl true))) :: F' (.frz od (.dK (tn m))), rfl, ?_, ?_, ?_⟩⟩
    · rintro i L' _ rfl
      exact .tail hh.mm
    · rintro i v L' L'' hi rfl ⟨T0, x, y, rfl, rfl, hx, hy⟩
      intro s H' Ca cl fp
      obtain ⟨q, hq, eq⟩ := map_get (show ((tn m).map fun kv => kV kv.1)[i]? = some x by rw [List.getElem?_map]; exact hx)
      obtain ⟨q', hq', eq'⟩ := map_get (show ((tn m).map Prod.snd)[i]? = some y by rw [List.getElem?_map]; exact hy)
      obtain ⟨p, hp, ep⟩ := map_get hq
      rw [hq] at hq'
      cases hq'
      subst ep eq eq'
      have hpn := hn p (List.mem_of_getElem? hp)
      have hB := hX.blk (Vb := ["old", "new"]) (Lb := ["old", "new"]) (Gb := ["is_name"]) (scope := ⟨.function, [(".0", .local), ("old", .local), ("new", .local), ("is_name", .globalImplicit)], false, false, []⟩) (by decide +kernel)
      refine x_tup (hB s H' Ca cl fp) .head ?_
      refine wgs_cons (x_tgt (hB s H' Ca cl fp) (by walk_at "at") (by walk_at "at") ?_)
      refine wgs_cons (x_tgt (hB s H' Ca cl fp) (by walk_at "at") (by walk_at "at") ?_)
      refine wgs_nil ⟨rfl, fun s H' Ca cl fp => ?_⟩
      have hX' := hB s H' Ca cl fp
      refine we_and (x_call hX' (by walk_at "at") GN hr ?_)
      walk_at "go"
      refine is_nm _ hpn.1 ⟨_, rfl, fun _ => ?_, fun z => Bool.noConfusion z⟩
      refine we_one (x_call hX' (by walk_at "at") GN hr ?_)
      walk_at "go"
      refine is_nm _ hpn.2 ⟨_, _, .tail .head, ?_, _, Sub.of_sublist (.cons _ (.refl _)), ?_⟩
      · rw [List.length_replicate]
        have : i < (tn m).length := hi
        unfold tn at this
        rw [List.length_map] at this
        exact len_lt (by omega)
      · show _ = _
        rw [List.replicate_succ']
    · rintro L' rfl
      refine ⟨_, .tail hh, ?_⟩
      walk_at "go"
      refine wc_all (bs := List.replicate (tn m).length true) hX.calm (.of (by rw [List.map_replicate]; exact .head)) ?_
      rw [show (List.replicate (tn m).length true).all id = true by simp]
      rw [hf.self']
      exact ret_sub k (Sub.of_sublist (.cons _ (.refl _)))
end
end K12

set_option Elab.async false
set_option linter.all false
set_option maxRecDepth 100000
set_option maxHeartbeats 4000000
namespace K12
open PySem L2 N3
local macro_rules | `(tactic| walk_at "at") => `(tactic| with_reducible (repeat (first | exact At.head | apply At.tail)))
local macro_rules | `(tactic| walk_at "mem") => `(tactic| with_reducible (repeat (first | exact Mem.head | apply Mem.tail)))
local macro_rules | `(tactic| walk_at "boot") => `(tactic| with_reducible (first | exact boot_isi | exact boot_max | exact boot_min | exact boot_abs | exact boot_len | exact boot_repr | exact boot_divmod | exact boot_all | exact boot_int | exact boot_bool | exact boot_str | exact boot_dict | exact boot_list | exact boot_sorted))
local macro_rules | `(tactic| walk_at "room") => `(tactic| (first | assumption | exact Room.mono (by assumption) (by decide)))
local macro_rules | `(tactic| walk_at "none") => `(tactic| (refine Txt.bn (by assumption) _ ?xz; (case xz => with_reducible (repeat (first | exact InS.head | apply InS.tail)))))
local macro_rules | `(tactic| walk_at "n3") => `(tactic| first
  | with_reducible refine ws_ret ?_
  | with_reducible refine we_int ?_
  | with_reducible refine we_str ?_
  | with_reducible refine we_bool ?_
  | with_reducible refine we_none ?_
  | ((with_reducible refine' x_name ?xo ?xa ?xb ?xc ?_); (case xo => assumption); (case xa => walk_at "at"); (case xb => walk_at "at"); (case xc => rfl))
  | ((with_reducible refine' f_cnt ?xt ?_ ?xh); (case xt => assumption); (case xh => rfl))
  | ((with_reducible refine' we_prop ?xg ?xr ?_ ?xh); (case xg => assumption); (case xr => walk_at "room"); (case xh => rfl))
  | with_reducible refine we_bin ?_
  | with_reducible refine wo_add ?_
  | with_reducible refine wo_sub ?_
  | with_reducible refine wo_lt ?_
  | with_reducible refine wo_gt ?_
  | with_reducible refine wo_le ?_
  | with_reducible refine wo_ge ?_
  | with_reducible refine wu_neg ?_
  | ((with_reducible refine we_cmp ?xh ?_); (case xh => exact nomark _))
  | ((with_reducible refine wt_cmp ?xh ?_); (case xh => exact nomark _))
  | ((with_reducible refine wa_cons ?_ ?xh); (case xh => rfl))
  | with_reducible refine wa_nil ?_
  | with_reducible refine we_and ?_
  | with_reducible refine we_or ?_
  | with_reducible refine we_not ?_
  | with_reducible refine wt_not ?_
  | with_reducible refine we_un ?_
  | with_reducible refine we_one ?_
  | with_reducible refine wt_ww (ww_or ?_)
  | with_reducible refine wt_ww (ww_and ?_)
  | with_reducible refine ww_or ?_
  | with_reducible refine ww_and ?_
  | with_reducible refine ww_or1 ?_
  | with_reducible refine ww_and1 ?_
  | with_reducible refine we_ifExp ?_
  | with_reducible refine ws_if ?_
  | with_reducible refine ws_pass ?_
  | with_reducible refine we_tup ?_
  | with_reducible refine we_lst ?_
  | ((with_reducible refine' x_set ?xo ?xa ?xb ?_ ?xs); (case xo => assumption); (case xa => walk_at "at"); (case xb => walk_at "at"); (case xs => rfl))
  | ((with_reducible refine' x_setF ?_ ?xs); (case xs => rfl))
  | ((with_reducible refine' x_call ?xo ?xa ?xg ?xr ?_ ?xe ?xp); (case xo => assumption); (case xa => walk_at "at"); (case xg => assumption); (case xr => walk_at "room"); (case xe => rfl); (case xp => rfl))
  | ((with_reducible refine' x_callG ?xo ?xa ?xg ?xr ?xd ?_ ?xe ?xp); (case xo => assumption); (case xa => walk_at "at"); (case xg => assumption); (case xr => walk_at "room"); (case xd => assumption); (case xe => rfl); (case xp => rfl))
  | ((with_reducible refine' x_callB ?xo ?xa ?xg ?xr ?_ ?xe ?xp); (case xo => assumption); (case xr => walk_at "boot"); (case xa => walk_at "at"); (case xg => walk_at "none"); (case xe => rfl); (case xp => rfl))
  | ((with_reducible refine' x_callTy ?xo ?xa ?xg ?xr ?_ ?xe ?xp); (case xo => assumption); (case xr => walk_at "boot"); (case xa => walk_at "at"); (case xg => walk_at "none"); (case xe => rfl); (case xp => rfl))
  | ((with_reducible refine' x_bty ?xo ?xa ?xg ?xr ?_); (case xo => assumption); (case xr => walk_at "boot"); (case xa => walk_at "at"); (case xg => walk_at "none"))
  | ((with_reducible refine' x_cls ?xt ?xo ?xa ?_); (case xt => assumption); (case xo => assumption); (case xa => walk_at "at"))
  | ((with_reducible refine' x_make ?xo ?xa ?xg ?xr ?_ ?xe ?xp); (case xo => assumption); (case xa => walk_at "at"); (case xg => assumption); (case xr => walk_at "room"); (case xe => rfl); (case xp => rfl))
  | with_reducible refine wss_nil ?_
  | refine ⟨_, _, _, rfl, (by assumption), ?_⟩
  | refine wss_cons ?_
  | ((with_reducible refine' wt_val ?_ ?xv); (case xv => intro _; rfl)))
local macro_rules | `(tactic| walk_at "go") => `(tactic| repeat walk_at "n3")
section
variable {P : Program} {w : World} {K : PySem.W.Frag} {mg : Str → Option Value} {base : Heap}
/-! maps_to_integers -/
def pMapsI : Pre := fun vs L Kk => ∃ d m, vs = [.ref d] ∧ Mem d (.dK (tk m)) L ∧ m.length < 1000 ∧ (∀ p ∈ m, Nm p.1) ∧ Kk (.bl true) L
theorem scMapsI : FnScope ["value", "key", "number"] ["value"] (defScope sMapsI) := ⟨rfl, rfl, rfl, by decide +kernel, rfl, by decide +kernel, by decide +kernel⟩
theorem okMapsI {f C : Addr} {fd : FuncData} (F : Fun K "maps_to_integers" "maps_to_integers" sMapsI f fd) (T : Txt K mg C) (GN : GFn P w K mg base "is_name" 1 ["value"] [] (pIsName K)) (GI : GFn P w K mg base "is_integer" 1 ["value"] [] (pIsInt K)) : FnOk P w K mg base CX0 2 f fd ["value"] (SpL pMapsI) := by
  refine fnXC (Vn := ["value"]) (Ln := ["value"]) (Gn := ["isinstance", "dict", "all"]) F scMapsI (by decide +kernel) (fun vs L Kk h => ?_) (fun X e1 e2 e3 e4 e5 hX hr vs L Kk h => ?_)
  · obtain ⟨d, m, rfl, _⟩ := h
    rfl
  · subst e1 e2 e3 e4 e5
    obtain ⟨d, m, rfl, md, hl, hn, k⟩ := h
    walk_at "go"
    refine wc_isi (r := true) (.ty _) (ty_dict md) (kit_ty (by decide +kernel)) ⟨_, rfl, fun z => Bool.noConfusion z, fun _ => ?_⟩
    walk_at "go"
    obtain ⟨F', hf, _⟩ := md.hole
    refine we_lock hf True.intro fun od => ?_
    refine x_lc [("key", 1), ("number", 2)] hX (by decide +kernel) (wi_items ?_)
    walk_at "go"
    have hh := hf.again' (.frz od (.dK (tk m)))
    refine ⟨d, od, tk m, rfl, hh.mm, fun D => ⟨fun i L' => L' = (D, .lst (List.replicate i (.bl true))) :: F' (.frz od (.dK (tk m))), rfl, ?_, ?_, ?_⟩⟩
    · rintro i L' _ rfl
      exact .tail hh.mm
    · rintro i v L' L'' hi rfl ⟨T0, x, y, rfl, rfl, hx, hy⟩
      intro s H' Ca cl fp
      obtain ⟨q, hq, eq⟩ := map_get (show ((tk m).map fun kv => kV kv.1)[i]? = some x by rw [List.getElem?_map]; exact hx)
      obtain ⟨q', hq', eq'⟩ := map_get (show ((tk m).map Prod.snd)[i]? = some y by rw [List.getElem?_map]; exact hy)
      obtain ⟨p, hp, ep⟩ := map_get hq
      rw [hq] at hq'
      cases hq'
      subst ep eq eq'
      have hpn := hn p (List.mem_of_getElem? hp)
      have hB := hX.blk (Vb := ["key", "number"]) (Lb := ["key", "number"]) (Gb := ["is_name", "is_integer"]) (scope := ⟨.function, [(".0", .local), ("key", .local), ("number", .local), ("is_name", .globalImplicit), ("is_integer", .globalImplicit)], false, false, []⟩) (by decide +kernel)
      refine x_tup (hB s H' Ca cl fp) .head ?_
      refine wgs_cons (x_tgt (hB s H' Ca cl fp) (by walk_at "at") (by walk_at "at") ?_)
      refine wgs_cons (x_tgt (hB s H' Ca cl fp) (by walk_at "at") (by walk_at "at") ?_)
      refine wgs_nil ⟨rfl, fun s H' Ca cl fp => ?_⟩
      have hX' := hB s H' Ca cl fp
      refine we_and (x_call hX' (by walk_at "at") GN hr ?_)
      walk_at "go"
      refine is_nm _ hpn ⟨_, rfl, fun _ => ?_, fun z => Bool.noConfusion z⟩
      refine we_one (x_call hX' (by walk_at "at") GI hr ?_)
      walk_at "go"
      refine ⟨_, rfl, _, _, .tail .head, ?_, _, Sub.of_sublist (.cons _ (.refl _)), ?_⟩
      · rw [List.length_replicate]
        have : i < (tk m).length := hi
        rw [tk_len] at this
        exact len_lt (by omega)
      · show _ = _
        rw [List.replicate_succ']
    · rintro L' rfl
      refine ⟨_, .tail hh, ?_⟩
      walk_at "go"
      refine wc_all (bs := List.replicate (tk m).length true) hX.calm (.of (by rw [List.map_replicate]; exact .head)) ?_
      rw [show (List.replicate (tk m).length true).all id = true by simp]
      rw [hf.self']
      exact ret_sub k (Sub.of_sublist (.cons _ (.refl _)))
/-! __init__ -/
/-- what a table may be made of -/
structure Md (m : SI) : Prop where
  nd : (m.map (·.1)).Nodup
  nm : ∀ p ∈ m, Nm p.1
  ln : m.length < 40
theorem Md.nil : Md [] := ⟨List.nodup_nil, fun _ h => (List.not_mem_nil h).elim, by decide⟩
def pInit (C : Addr) : Pre := fun vs L Kk => ∃ o dx v m L0, vs = [.ref o, v] ∧ L = (o, .ins C dx []) :: L0 ∧ ((v = .non ∧ m = []) ∨ ∃ d, v = .ref d ∧ Mem d (.dK (tk m)) L0) ∧ Md m ∧ ∀ d', Kk .non ((d', .dK (tk (norm m))) :: (o, .ins C dx (tabF d')) :: L0)
theorem scInit : FnScope ["self", "counts", "given", "key"] ["self", "counts"] (defScope sInit) := ⟨rfl, rfl, rfl, by decide +kernel, rfl, by decide +kernel, by decide +kernel⟩
theorem filt_take {α : Type} {f : α → Bool} {l : List α} {i : Nat} {x : α} (h : l[i]? = some x) : (l.take (i + 1)).filter f = if f x = true then (l.take i).filter f ++ [x] else (l.take i).filter f := by
  rw [List.take_add_one, h, List.filter_append]
  cases e : f x <;> simp [e]
theorem swap2 (p q : Addr × HO) (L : LH) : Sub (p :: q :: L) (q :: p :: L) := by
  intro H hH
  refine ⟨?_, fun a u hm => hH.at_ a u ?_⟩
  · have := hH.nd
    rw [List.map_cons, List.map_cons, List.nodup_cons, List.nodup_cons] at this
    rw [List.map_cons, List.map_cons, List.nodup_cons, List.nodup_cons]
    simp only [List.mem_cons, not_or] at this ⊢
    exact ⟨⟨fun e => this.1.1 e.symm, this.2.1⟩, this.1.2, this.2.2⟩
  · rcases List.mem_cons.mp hm with e | hm
    · rw [e]; exact List.mem_cons_of_mem _ List.mem_cons_self
    · rcases List.mem_cons.mp hm with e | hm
      · rw [e]; exact List.mem_cons_self
      · exact List.mem_cons_of_mem _ (List.mem_cons_of_mem _ hm)
theorem okInit {f C : Addr} {fd : FuncData} (F : FunD K "__init__" "Table.__init__" (defArgs sInit) (defBody sInit) (defScope sInit) [.non] [] f fd) (T : Txt K mg C) (GM : GFn P w K mg base "maps_to_integers" 2 ["value"] [] pMapsI) :
    FnOk P w K mg base CX0 3 f fd ["self", "counts"] (SpL (pInit C)) := by
  refine fnXDCC (Vn := ["self", "counts", "given"]) (Ln := ["self", "counts"]) (Gn := ["maps_to_integers", "sorted"]) F scInit (by decide +kernel) (fun vs L Kk h => ?_) (fun X e1 e2 e3 e4 e5 hX hfn hr vs L Kk h => ?_)
  · obtain ⟨o, dx, v, m, L0, rfl, _⟩ := h
    rfl
  · subst e1 e2 e3 e4 e5
    obtain ⟨o, dx, v, m, L0, rfl, rfl, hv, hm, k⟩ := h
    have rest : ∀ (d : Addr) (L1 : LH), Mem d (.dK (tk m)) L1 → L0.Sublist L1 → WSs X (defBody sInit).tail [some (.ref o), some v, some (.ref d), none] ((o, .ins C dx []) :: L1) (EndOf Kk) := by
      intro d L1 md sl
      walk_at "go"
      refine ⟨d, m, rfl, .tail md, Nat.lt_of_lt_of_le hm.ln (by decide), hm.nm, _, rfl, (fun z => Bool.noConfusion z), fun _ => ?_⟩
      walk_at "go"
      refine x_dcI [("key", 3)] hX (by decide +kernel) (wi_list ?_)
      walk_at "go"
      refine wc_sortedD hX.calm (.of (.tail md)) (tk_keys m) (by rw [List.length_map]; exact Nat.lt_of_lt_of_le hm.ln (by decide)) fun ys p hp hs => ?_
      refine ⟨p, _, rfl, .of .head, fun D => ⟨fun i L' => L' = (D, .dK (tk (((ys.take i).filter fun k => decide (look m k ≠ 0)).map fun k => (k, look m k)))) :: (p, .lst (ys.map V.str)) :: (o, .ins C dx []) :: L1, rfl, ?_, ?_, ?_⟩⟩
      · rintro i L' _ rfl
        exact .of (.tail .head)
      · rintro i v' L' L'' hi rfl ⟨rfl, hv'⟩
        intro s H' Ca cl fp
        obtain ⟨y, hy, ey⟩ := map_get hv'
        subst ey
        have hmem : y ∈ m.map (·.1) := hp.mem_iff.mp (List.mem_of_getElem? hy)
        obtain ⟨u, hu⟩ : ∃ u, lookO m y = some u := by
          cases h : lookO m y with
          | some u => exact ⟨u, rfl⟩
          | none => exact absurd hmem (lookO_none.mp h)
        have hlu : look m y = u := by unfold look; rw [hu]; rfl
        have hB := hX.blk (Vb := ["key", "given"]) (Lb := ["key"]) (Gb := []) (scope := ⟨.function, [(".0", .local), ("key", .local), ("given", .free)], false, false, []⟩) (by decide +kernel)
        refine x_tgt (hB s H' Ca cl fp) (by walk_at "at") (by walk_at "at") ⟨rfl, fun s H' Ca cl fp => ?_⟩
        have hX1 := hB s H' Ca cl fp
        have hu1 : X.A.units + 1 < cLine := by have := hr.units; omega
        walk_at "go"
        refine we_dget (X := X.blk s H' _ (compEnvC _ cl Ca X.env) fp) hu1 ?_
        walk_at "go"
        refine ⟨d, .int u, rfl, .s (.of (.tail (.tail (.tail md)))) (by rw [valV_tk, hu]; rfl), ?_⟩
        walk_at "go"
        refine wo_ne rfl ⟨_, rfl, fun z => ?_, fun z => ?_⟩
        · have u0 : ¬ u = 0 := fun q => by rw [q, decide_eq_true rfl] at z; cases z
          intro s H' Ca cl fp
          have hX2 := hB s H' Ca cl fp
          walk_at "go"
          intro s H' Ca cl fp
          have hX3 := hB s H' Ca cl fp
          refine we_dget (X := X.blk s H' _ (compEnvC _ cl Ca X.env) fp) hu1 ?_
          walk_at "go"
          refine ⟨d, .int u, rfl, .s (.of (.tail (.tail (.tail md)))) (by rw [valV_tk, hu]; rfl), ?_⟩
          refine ⟨_, .inr y, _, rfl, .head, ?_, _, Sub.refl _, ?_⟩
          · rw [tk_len, List.length_map]
            exact len_lt (Nat.lt_of_le_of_lt (List.length_filter_le _ _) (Nat.lt_of_le_of_lt (by rw [List.length_take]; exact Nat.min_le_right _ _) (by rw [hp.length_eq, List.length_map]; exact Nat.lt_of_lt_of_le hm.ln (by decide))))
          · show _ = _
            have ny : y ∉ (((ys.take i).filter fun k => decide (look m k ≠ 0)).map fun k => (k, look m k)).map (·.1) := by
              rw [List.map_map, show ((fun x : Str × Int => x.1) ∘ fun k => (k, look m k)) = id from rfl, List.map_id]
              intro hm'
              have h2 := (List.mem_filter.mp hm').1
              have nd : ys.Nodup := hp.symm.nodup hm.nd
              have e := List.take_append_drop i ys
              rw [← e, List.nodup_append] at nd
              have hd : y ∈ ys.drop i := by
                have hlt : i < ys.length := (List.getElem?_eq_some_iff.mp hy).1
                rw [List.drop_eq_getElem_cons hlt, (List.getElem?_eq_some_iff.mp hy).2]
                exact List.mem_cons_self
              exact nd.2.2 y h2 y hd rfl
            rw [filt_take hy, if_pos (by rw [hlu]; exact decide_eq_true u0), putK_tk, put_new _ ny, List.map_append, show List.map (fun k => (k, look m k)) [y] = [(y, u)] by rw [List.map_cons, hlu]; rfl]
        · have u0 : u = 0 := by
            apply Classical.byContradiction
            intro q
            rw [decide_eq_false (fun y => q (V.int.inj y))] at z
            cases z
          refine ⟨_, Sub.refl _, ?_⟩
          show _ = _
          rw [filt_take hy, if_neg (by rw [hlu, u0]; decide)]
      · rintro L' rfl
        rw [List.length_map, List.take_length, pick_norm hm.nd hp hs]
        walk_at "go"
        refine ⟨o, C, dx, _, _, rfl, .tail (.tail .head), T.cl, T.nC, by decide, ?_⟩
        walk_at "go"
        exact nx_sub (k D) (Sub.of_sublist (.cons₂ _ (.cons _ (.cons₂ _ sl))))
    rcases hv with ⟨rfl, rfl⟩ | ⟨d, rfl, md⟩
    · refine wss_cons (x_setC hX hfn (by walk_at "at") (by decide +kernel) ?_)
      walk_at "go"
      refine wo_isN ⟨_, rfl, fun _ => ?_, fun z => ?_⟩
      · refine we_dnew fun d => ?_
        exact wss_sub' (swap2 _ _ _) (rest d ((d, .dK []) :: L0) .head (.cons _ (.refl _)))
      · rw [decide_eq_true rfl] at z
        cases z
    · refine wss_cons (x_setC hX hfn (by walk_at "at") (by decide +kernel) ?_)
      walk_at "go"
      refine wo_isN ⟨_, rfl, fun z => ?_, fun _ => ?_⟩
      · rw [decide_eq_false (fun q => by cases q)] at z
        cases z
      · refine x_name (by assumption) (by walk_at "at") (by walk_at "at") rfl ?_
        exact rest d L0 md (.refl _)
end
end K12

set_option Elab.async false
set_option linter.all false
set_option maxRecDepth 100000
set_option maxHeartbeats 4000000
namespace K12
open PySem L2 N3
local macro_rules | `(tactic| walk_at "at") => `(tactic| with_reducible (repeat (first | exact At.head | apply At.tail)))
local macro_rules | `(tactic| walk_at "mem") => `(tactic| with_reducible (repeat (first | exact Mem.head | apply Mem.tail)))
local macro_rules | `(tactic| walk_at "boot") => `(tactic| with_reducible (first | exact boot_isi | exact boot_max | exact boot_min | exact boot_abs | exact boot_len | exact boot_repr | exact boot_divmod | exact boot_all | exact boot_int | exact boot_bool | exact boot_str | exact boot_dict | exact boot_list | exact boot_sorted))
local macro_rules | `(tactic| walk_at "room") => `(tactic| (first | assumption | exact Room.mono (by assumption) (by decide)))
local macro_rules | `(tactic| walk_at "none") => `(tactic| (refine Txt.bn (by assumption) _ ?xz; (case xz => with_reducible (repeat (first | exact InS.head | apply InS.tail)))))
local macro_rules | `(tactic| walk_at "n3") => `(tactic| first
  | with_reducible refine ws_ret ?_
  | with_reducible refine we_int ?_
  | with_reducible refine we_str ?_
  | with_reducible refine we_bool ?_
  | with_reducible refine we_none ?_
  | ((with_reducible refine' x_name ?xo ?xa ?xb ?xc ?_); (case xo => assumption); (case xa => walk_at "at"); (case xb => walk_at "at"); (case xc => rfl))
  | ((with_reducible refine' f_cnt ?xt ?_ ?xh); (case xt => assumption); (case xh => rfl))
  | ((with_reducible refine' we_prop ?xg ?xr ?_ ?xh); (case xg => assumption); (case xr => walk_at "room"); (case xh => rfl))
  | with_reducible refine we_bin ?_
  | with_reducible refine wo_add ?_
  | with_reducible refine wo_sub ?_
  | with_reducible refine wo_lt ?_
  | with_reducible refine wo_gt ?_
  | with_reducible refine wo_le ?_
  | with_reducible refine wo_ge ?_
  | with_reducible refine wu_neg ?_
  | ((with_reducible refine we_cmp ?xh ?_); (case xh => exact nomark _))
  | ((with_reducible refine wt_cmp ?xh ?_); (case xh => exact nomark _))
  | ((with_reducible refine wa_cons ?_ ?xh); (case xh => rfl))
  | with_reducible refine wa_nil ?_
  | with_reducible refine we_and ?_
  | with_reducible refine we_or ?_
  | with_reducible refine we_not ?_
  | with_reducible refine wt_not ?_
  | with_reducible refine we_un ?_
  | with_reducible refine we_one ?_
  | with_reducible refine wt_ww (ww_or ?_)
  | with_reducible refine wt_ww (ww_and ?_)
  | with_reducible refine ww_or ?_
  | with_reducible refine ww_and ?_
  | with_reducible refine ww_or1 ?_
  | with_reducible refine ww_and1 ?_
  | with_reducible refine we_ifExp ?_
  | with_reducible refine ws_if ?_
  | with_reducible refine ws_pass ?_
  | with_reducible refine we_tup ?_
  | with_reducible refine we_lst ?_
  | ((with_reducible refine' x_set ?xo ?xa ?xb ?_ ?xs); (case xo => assumption); (case xa => walk_at "at"); (case xb => walk_at "at"); (case xs => rfl))
  | ((with_reducible refine' x_setF ?_ ?xs); (case xs => rfl))
  | ((with_reducible refine' x_call ?xo ?xa ?xg ?xr ?_ ?xe ?xp); (case xo => assumption); (case xa => walk_at "at"); (case xg => assumption); (case xr => walk_at "room"); (case xe => rfl); (case xp => rfl))
  | ((with_reducible refine' x_callG ?xo ?xa ?xg ?xr ?xd ?_ ?xe ?xp); (case xo => assumption); (case xa => walk_at "at"); (case xg => assumption); (case xr => walk_at "room"); (case xd => assumption); (case xe => rfl); (case xp => rfl))
  | ((with_reducible refine' x_callB ?xo ?xa ?xg ?xr ?_ ?xe ?xp); (case xo => assumption); (case xr => walk_at "boot"); (case xa => walk_at "at"); (case xg => walk_at "none"); (case xe => rfl); (case xp => rfl))
  | ((with_reducible refine' x_callTy ?xo ?xa ?xg ?xr ?_ ?xe ?xp); (case xo => assumption); (case xr => walk_at "boot"); (case xa => walk_at "at"); (case xg => walk_at "none"); (case xe => rfl); (case xp => rfl))
  | ((with_reducible refine' x_bty ?xo ?xa ?xg ?xr ?_); (case xo => assumption); (case xr => walk_at "boot"); (case xa => walk_at "at"); (case xg => walk_at "none"))
  | ((with_reducible refine' x_cls ?xt ?xo ?xa ?_); (case xt => assumption); (case xo => assumption); (case xa => walk_at "at"))
  | ((with_reducible refine' x_make ?xo ?xa ?xg ?xr ?_ ?xe ?xp); (case xo => assumption); (case xa => walk_at "at"); (case xg => assumption); (case xr => walk_at "room"); (case xe => rfl); (case xp => rfl))
  | with_reducible refine wss_nil ?_
  | refine ⟨_, _, _, rfl, (by assumption), ?_⟩
  | refine wss_cons ?_
  | ((with_reducible refine' wt_val ?_ ?xv); (case xv => intro _; rfl)))
local macro_rules | `(tactic| walk_at "go") => `(tactic| repeat walk_at "n3")
section
variable {P : Program} {w : World} {K : PySem.W.Frag} {mg : Str → Option Value} {base : Heap}
theorem hu1 {k : Nat} {A : Around} (hr : Room k A) : A.units + 1 < cLine := by have := hr.units; omega
/-- a table is known -/
def Tb (C : Addr) (L : LH) (o : Addr) (r : SI) : Prop := ∃ dx d, Mem o (.ins C dx (tabF d)) L ∧ Mem d (.dK (tk r)) L
theorem Tb.sl {C : Addr} {L L' : LH} {o : Addr} {r : SI} (h : Tb C L o r) (s : L.Sublist L') : Tb C L' o r := by
  obtain ⟨dx, d, m1, m2⟩ := h
  exact ⟨dx, d, m1.sl s, m2.sl s⟩
/-- what a table's numbers are -/
structure Rw (r : SI) : Prop where
  can : Can r
  nm : ∀ p ∈ r, Nm p.1
  ln : r.length < 20
theorem look_of {r : SI} (c : (r.map (·.1)).Nodup) {i : Nat} {p : Str × Int} (h : r[i]? = some p) : lookO r p.1 = some p.2 := lookO_mem c (List.mem_of_getElem? h)
/-! at -/
def pAt (C : Addr) : Pre := fun vs L Kk => ∃ o r k, vs = [.ref o, .str k] ∧ Tb C L o r ∧ Nm k ∧ Kk (.int (look r k)) L
theorem scAt : FnScope ["self", "key"] ["self", "key"] (defScope sAt) := ⟨rfl, rfl, rfl, by decide +kernel, rfl, by decide +kernel, by decide +kernel⟩
theorem okAt {f C : Addr} {fd : FuncData} (F : Fun K "at" "Table.at" sAt f fd) (T : Txt K mg C) (GN : GFn P w K mg base "is_name" 1 ["value"] [] (pIsName K)) : FnOk P w K mg base CX0 2 f fd ["self", "key"] (SpL (pAt C)) := by
  refine fnX (Gn := ["is_name"]) F scAt (by decide +kernel) (fun vs L Kk h => ?_) (fun X e1 e2 e3 e4 e5 hX hr vs L Kk h => ?_)
  · obtain ⟨o, r, k, rfl, _⟩ := h
    rfl
  · subst e1 e2 e3 e4 e5
    obtain ⟨o, r, k, rfl, ⟨dx, d, mo, md⟩, hk, kk⟩ := h
    walk_at "go"
    refine is_nm _ hk ⟨_, rfl, (fun z => Bool.noConfusion z), fun _ => ?_⟩
    walk_at "go"
    refine we_dget2 (hu1 hr) ?_
    walk_at "go"
    refine ⟨d, _, rfl, .of md, ?_⟩
    walk_at "go"
    refine ⟨_, .s (.of md) (valV_tk r k), ?_⟩
    have e : ((lookO r k).map V.int).getD (V.int 0) = V.int (look r k) := by
      unfold look
      cases lookO r k <;> rfl
    rw [e]
    exact ret_sub kk (Sub.refl _)
/-! used_keys -/
def pUsed (C : Addr) : Pre := fun vs L Kk => ∃ o r, vs = [.ref o] ∧ Tb C L o r ∧ ∀ p, Kk (.ref p) ((p, .lst ((r.map (·.1)).map V.str)) :: L)
theorem scUsed : FnScope ["self"] ["self"] (defScope sUsed) := ⟨rfl, rfl, rfl, by decide +kernel, rfl, by decide +kernel, by decide +kernel⟩
theorem okUsed {f C : Addr} {fd : FuncData} (F : Fun K "used_keys" "Table.used_keys" sUsed f fd) (T : Txt K mg C) : FnOk P w K mg base CX0 1 f fd ["self"] (SpL (pUsed C)) := by
  refine fnX (Gn := ["list"]) F scUsed (by decide +kernel) (fun vs L Kk h => ?_) (fun X e1 e2 e3 e4 e5 hX hr vs L Kk h => ?_)
  · obtain ⟨o, r, rfl, _⟩ := h
    rfl
  · subst e1 e2 e3 e4 e5
    obtain ⟨o, r, rfl, ⟨dx, d, mo, md⟩, kk⟩ := h
    walk_at "go"
    refine wc_listD hX.calm (.of md) fun p => ?_
    rw [tk_kv]
    exact ret_sub (kk p) (Sub.refl _)
/-! counts -/
def pCounts (C : Addr) : Pre := fun vs L Kk => ∃ o r, vs = [.ref o] ∧ Tb C L o r ∧ Rw r ∧ ∀ p, Kk (.ref p) ((p, .dK (tk r)) :: L)
theorem scCounts : FnScope ["self", "key"] ["self"] (defScope sCounts) := ⟨rfl, rfl, rfl, by decide +kernel, rfl, by decide +kernel, by decide +kernel⟩
theorem take_put {r : SI} (nd : (r.map (·.1)).Nodup) {i : Nat} {p : Str × Int} (h : r[i]? = some p) {g : Str × Int → Int} : put ((r.take i).map fun q => (q.1, g q)) p.1 (g p) = (r.take (i + 1)).map fun q => (q.1, g q) := by
  rw [put_new, take_succ' h, List.map_append]
  · rfl
  · rw [List.map_map, show ((fun x : Str × Int => x.1) ∘ fun q : Str × Int => (q.1, g q)) = (fun x : Str × Int => x.1) from rfl]
    intro hm
    have e := List.take_append_drop i r
    rw [← e, List.map_append, List.nodup_append] at nd
    have hlt : i < r.length := (List.getElem?_eq_some_iff.mp h).1
    have hd : p.1 ∈ (r.drop i).map (·.1) := by
      rw [List.drop_eq_getElem_cons hlt, (List.getElem?_eq_some_iff.mp h).2]
      exact List.mem_cons_self
    exact nd.2.2 p.1 hm p.1 hd rfl
where
  take_succ' {r : SI} {i : Nat} {p : Str × Int} (h : r[i]? = some p) : r.take (i + 1) = r.take i ++ [p] := by
    rw [List.take_add_one, h]
    rfl
theorem id_map (r : SI) : (r.map fun q => (q.1, q.2)) = r := List.map_id r
theorem okCounts {f C : Addr} {fd : FuncData} (F : Fun K "counts" "Table.counts" sCounts f fd) (T : Txt K mg C) : FnOk P w K mg base CX0 1 f fd ["self"] (SpL (pCounts C)) := by
  refine fnXC (Vn := ["self"]) (Ln := []) (Gn := []) F scCounts (by decide +kernel) (fun vs L Kk h => ?_) (fun X e1 e2 e3 e4 e5 hX hr vs L Kk h => ?_)
  · obtain ⟨o, r, rfl, _⟩ := h
    rfl
  · subst e1 e2 e3 e4 e5
    obtain ⟨o, r, rfl, ⟨dx, d, mo, md⟩, hr', kk⟩ := h
    obtain ⟨G, hf, other⟩ := md.hole
    refine wss_nd fun nd => ?_
    walk_at "go"
    refine we_lock hf True.intro fun od => ?_
    have hh := hf.again' (.frz od (.dK (tk r)))
    have ne : o ≠ d := mem_ne nd mo md (by intro z; cases z)
    have mo' := other o _ ne mo (.frz od (.dK (tk r)))
    refine x_dc [("key", 1)] hX (by decide +kernel) (wi_keys ?_)
    walk_at "go"
    refine ⟨d, od, tk r, rfl, hh.mm, fun D => ⟨fun i L' => L' = (D, .dK (tk ((r.take i).map fun q => (q.1, q.2)))) :: G (.frz od (.dK (tk r))), rfl, ?_, ?_, ?_⟩⟩
    · rintro i L' _ rfl
      exact .tail hh.mm
    · rintro i v L' L'' hi rfl ⟨rfl, k, u, hk, rfl⟩
      intro s H' Ca cl fp
      obtain ⟨p, hp, ep⟩ := map_get hk
      cases ep
      have hB := hX.blk (Vb := ["key", "self"]) (Lb := ["key"]) (Gb := []) (scope := ⟨.function, [(".0", .local), ("key", .local), ("self", .free)], false, false, []⟩) (by decide +kernel)
      refine x_tgt (hB s H' Ca cl fp) (by walk_at "at") (by walk_at "at") ⟨rfl, fun s H' Ca cl fp => ?_⟩
      have hX1 := hB s H' Ca cl fp
      walk_at "go"
      intro s H' Ca cl fp
      have hX2 := hB s H' Ca cl fp
      refine we_dget (X := X.blk s H' _ (compEnvC _ cl Ca X.env) fp) (hu1 hr) ?_
      refine f_cnt (X := X.blk s H' _ (compEnvC _ cl Ca X.env) fp) T ?_
      walk_at "go"
      refine ⟨o, dx, d, rfl, .tail mo', ?_⟩
      walk_at "go"
      refine ⟨d, .int p.2, rfl, .s (.fz (.tail hh.mm)) (by rw [valV_tk, look_of hr'.can.nd hp]; rfl), ?_⟩
      refine ⟨_, .inr p.1, _, rfl, .head, ?_, _, Sub.refl _, ?_⟩
      · rw [tk_len, List.length_map]
        exact len_lt (Nat.lt_of_le_of_lt (by rw [List.length_take]; exact Nat.min_le_right _ _) (Nat.lt_of_lt_of_le hr'.ln (by decide)))
      · show _ = _
        rw [putK_tk, take_put (g := fun q => q.2) hr'.can.nd hp]
    · rintro L' rfl
      rw [tk_len, List.take_length, id_map]
      refine ⟨_, .tail hh, ?_⟩
      rw [hf.self']
      exact ret_sub (kk D) (Sub.refl _)
end
end K12

set_option Elab.async false
set_option linter.all false
set_option maxRecDepth 100000
set_option maxHeartbeats 4000000
namespace K12
open PySem L2 N3
local macro_rules | `(tactic| walk_at "at") => `(tactic| with_reducible (repeat (first | exact At.head | apply At.tail)))
local macro_rules | `(tactic| walk_at "mem") => `(tactic| with_reducible (repeat (first | exact Mem.head | apply Mem.tail)))
local macro_rules | `(tactic| walk_at "boot") => `(tactic| with_reducible (first | exact boot_isi | exact boot_max | exact boot_min | exact boot_abs | exact boot_len | exact boot_repr | exact boot_divmod | exact boot_all | exact boot_int | exact boot_bool | exact boot_str | exact boot_dict | exact boot_list | exact boot_sorted))
local macro_rules | `(tactic| walk_at "room") => `(tactic| (first | assumption | exact Room.mono (by assumption) (by decide)))
local macro_rules | `(tactic| walk_at "none") => `(tactic| (refine Txt.bn (by assumption) _ ?xz; (case xz => with_reducible (repeat (first | exact InS.head | apply InS.tail)))))
local macro_rules | `(tactic| walk_at "n3") => `(tactic| first
  | with_reducible refine ws_ret ?_
  | with_reducible refine we_int ?_
  | with_reducible refine we_str ?_
  | with_reducible refine we_bool ?_
  | with_reducible refine we_none ?_
  | ((with_reducible refine' x_name ?xo ?xa ?xb ?xc ?_); (case xo => assumption); (case xa => walk_at "at"); (case xb => walk_at "at"); (case xc => rfl))
  | ((with_reducible refine' f_cnt ?xt ?_ ?xh); (case xt => assumption); (case xh => rfl))
  | ((with_reducible refine' we_prop ?xg ?xr ?_ ?xh); (case xg => assumption); (case xr => walk_at "room"); (case xh => rfl))
  | with_reducible refine we_bin ?_
  | with_reducible refine wo_add ?_
  | with_reducible refine wo_sub ?_
  | with_reducible refine wo_lt ?_
  | with_reducible refine wo_gt ?_
  | with_reducible refine wo_le ?_
  | with_reducible refine wo_ge ?_
  | with_reducible refine wu_neg ?_
  | ((with_reducible refine we_cmp ?xh ?_); (case xh => exact nomark _))
  | ((with_reducible refine wt_cmp ?xh ?_); (case xh => exact nomark _))
  | ((with_reducible refine wa_cons ?_ ?xh); (case xh => rfl))
  | with_reducible refine wa_nil ?_
  | with_reducible refine we_and ?_
  | with_reducible refine we_or ?_
  | with_reducible refine we_not ?_
  | with_reducible refine wt_not ?_
  | with_reducible refine we_un ?_
  | with_reducible refine we_one ?_
  | with_reducible refine wt_ww (ww_or ?_)
  | with_reducible refine wt_ww (ww_and ?_)
  | with_reducible refine ww_or ?_
  | with_reducible refine ww_and ?_
  | with_reducible refine ww_or1 ?_
  | with_reducible refine ww_and1 ?_
  | with_reducible refine we_ifExp ?_
  | with_reducible refine ws_if ?_
  | with_reducible refine ws_pass ?_
  | with_reducible refine we_tup ?_
  | with_reducible refine we_lst ?_
  | ((with_reducible refine' x_set ?xo ?xa ?xb ?_ ?xs); (case xo => assumption); (case xa => walk_at "at"); (case xb => walk_at "at"); (case xs => rfl))
  | ((with_reducible refine' x_setF ?_ ?xs); (case xs => rfl))
  | ((with_reducible refine' x_call ?xo ?xa ?xg ?xr ?_ ?xe ?xp); (case xo => assumption); (case xa => walk_at "at"); (case xg => assumption); (case xr => walk_at "room"); (case xe => rfl); (case xp => rfl))
  | ((with_reducible refine' x_callG ?xo ?xa ?xg ?xr ?xd ?_ ?xe ?xp); (case xo => assumption); (case xa => walk_at "at"); (case xg => assumption); (case xr => walk_at "room"); (case xd => assumption); (case xe => rfl); (case xp => rfl))
  | ((with_reducible refine' x_callB ?xo ?xa ?xg ?xr ?_ ?xe ?xp); (case xo => assumption); (case xr => walk_at "boot"); (case xa => walk_at "at"); (case xg => walk_at "none"); (case xe => rfl); (case xp => rfl))
  | ((with_reducible refine' x_callTy ?xo ?xa ?xg ?xr ?_ ?xe ?xp); (case xo => assumption); (case xr => walk_at "boot"); (case xa => walk_at "at"); (case xg => walk_at "none"); (case xe => rfl); (case xp => rfl))
  | ((with_reducible refine' x_bty ?xo ?xa ?xg ?xr ?_); (case xo => assumption); (case xr => walk_at "boot"); (case xa => walk_at "at"); (case xg => walk_at "none"))
  | ((with_reducible refine' x_cls ?xt ?xo ?xa ?_); (case xt => assumption); (case xo => assumption); (case xa => walk_at "at"))
  | ((with_reducible refine' x_make ?xo ?xa ?xg ?xr ?_ ?xe ?xp); (case xo => assumption); (case xa => walk_at "at"); (case xg => assumption); (case xr => walk_at "room"); (case xe => rfl); (case xp => rfl))
  | with_reducible refine wss_nil ?_
  | refine ⟨_, _, _, rfl, (by assumption), ?_⟩
  | refine wss_cons ?_
  | ((with_reducible refine' wt_val ?_ ?xv); (case xv => intro _; rfl)))
local macro_rules | `(tactic| walk_at "go") => `(tactic| repeat walk_at "n3")
section
variable {P : Program} {w : World} {K : PySem.W.Frag} {mg : Str → Option Value} {base : Heap}
/-! numbers for keys, one after another -/
def fp (ks : List Str) (f : Str → Int) : SI := ks.foldl (fun m k => put m k (f k)) []
theorem fp_snoc (ks : List Str) (f : Str → Int) (k : Str) : fp (ks ++ [k]) f = put (fp ks f) k (f k) := by
  unfold fp
  rw [List.foldl_append]
  rfl
theorem fp_ind {motive : List Str → Prop} (h0 : motive []) (hs : ∀ ks k, motive ks → motive (ks ++ [k])) (ks : List Str) : motive ks := by
  have h : ∀ l : List Str, motive l.reverse := by
    intro l
    induction l with
    | nil => exact h0
    | cons a l ih => rw [List.reverse_cons]; exact hs _ _ ih
  have := h ks.reverse
  rwa [List.reverse_reverse] at this
theorem fp_look (ks : List Str) (f : Str → Int) : ∀ j, look (fp ks f) j = if j ∈ ks then f j else 0 := by
  refine fp_ind (motive := fun ks => ∀ j, look (fp ks f) j = if j ∈ ks then f j else 0) (fun j => rfl) (fun ks k ih j => ?_) ks
  rw [fp_snoc, look_put, ih]
  by_cases e : j = k
  · subst e; simp
  · simp [e]
theorem fp_nd (ks : List Str) (f : Str → Int) : ((fp ks f).map (·.1)).Nodup := by
  refine fp_ind (motive := fun ks => ((fp ks f).map (·.1)).Nodup) List.nodup_nil (fun ks k ih => ?_) ks
  rw [fp_snoc]
  exact nodup_put ih k _
theorem fp_keys (ks : List Str) (f : Str → Int) : ∀ j, j ∈ (fp ks f).map (·.1) ↔ j ∈ ks := by
  refine fp_ind (motive := fun ks => ∀ j, j ∈ (fp ks f).map (·.1) ↔ j ∈ ks) (fun j => by simp [fp]) (fun ks k ih j => ?_) ks
  rw [fp_snoc, mem_put, ih, List.mem_append, List.mem_singleton]
theorem fp_len (ks : List Str) (f : Str → Int) : (fp ks f).length ≤ ks.length := by
  refine fp_ind (motive := fun ks => (fp ks f).length ≤ ks.length) (Nat.le_refl _) (fun ks k ih => ?_) ks
  rw [fp_snoc, List.length_append]
  exact Nat.le_trans (put_len _ _ _) (Nat.succ_le_succ ih)
abbrev keys (r : SI) : List Str := r.map (·.1)
theorem fp_md {ks : List Str} {f : Str → Int} (h : ∀ k ∈ ks, Nm k) (hl : ks.length < 40) : Md (fp ks f) :=
  ⟨fp_nd ks f, fun p hp => h _ ((fp_keys ks f _).mp (List.mem_map.mpr ⟨p, hp, rfl⟩)), Nat.lt_of_le_of_lt (fp_len ks f) hl⟩
theorem Rw.nk {r : SI} (h : Rw r) : ∀ k ∈ keys r, Nm k := fun k hk => by
  obtain ⟨p, hp, rfl⟩ := List.mem_map.mp hk
  exact h.nm p hp
/-! is_plain -/
def pPlain (C : Addr) : Pre := fun vs L Kk => ∃ o r, vs = [.ref o] ∧ Tb C L o r ∧ Rw r ∧ Kk (.bl (r.all fun p => decide (0 < p.2))) L
theorem scPlain : FnScope ["self", "key"] ["self"] (defScope sPlain) := ⟨rfl, rfl, rfl, by decide +kernel, rfl, by decide +kernel, by decide +kernel⟩
theorem okPlain {f C : Addr} {fd : FuncData} (F : Fun K "is_plain" "Table.is_plain" sPlain f fd) (T : Txt K mg C) : FnOk P w K mg base CX0 1 f fd ["self"] (SpL (pPlain C)) := by
  refine fnXC (Vn := ["self"]) (Ln := []) (Gn := ["all"]) F scPlain (by decide +kernel) (fun vs L Kk h => ?_) (fun X e1 e2 e3 e4 e5 hX hr vs L Kk h => ?_)
  · obtain ⟨o, r, rfl, _⟩ := h
    rfl
  · subst e1 e2 e3 e4 e5
    obtain ⟨o, r, rfl, ⟨dx, d, mo, md⟩, hr', kk⟩ := h
    obtain ⟨G, hf, other⟩ := md.hole
    refine wss_nd fun nd => ?_
    walk_at "go"
    refine we_lock hf True.intro fun od => ?_
    have hh := hf.again' (.frz od (.dK (tk r)))
    have ne : o ≠ d := mem_ne nd mo md (by intro z; cases z)
    have mo' := other o _ ne mo (.frz od (.dK (tk r)))
    refine x_lc [("key", 1)] hX (by decide +kernel) (wi_keys ?_)
    walk_at "go"
    refine ⟨d, od, tk r, rfl, hh.mm, fun D => ⟨fun i L' => L' = (D, .lst (((r.take i).map fun p => decide (0 < p.2)).map V.bl)) :: G (.frz od (.dK (tk r))), rfl, ?_, ?_, ?_⟩⟩
    · rintro i L' _ rfl
      exact .tail hh.mm
    · rintro i v L' L'' hi rfl ⟨rfl, k, u, hk, rfl⟩
      intro s H' Ca cl fp
      obtain ⟨p, hp, ep⟩ := map_get hk
      cases ep
      have hB := hX.blk (Vb := ["key", "self"]) (Lb := ["key"]) (Gb := []) (scope := ⟨.function, [(".0", .local), ("key", .local), ("self", .free)], false, false, []⟩) (by decide +kernel)
      refine x_tgt (hB s H' Ca cl fp) (by walk_at "at") (by walk_at "at") ⟨rfl, fun s H' Ca cl fp => ?_⟩
      have hX1 := hB s H' Ca cl fp
      walk_at "go"
      refine we_dget (X := X.blk s H' _ (compEnvC _ cl Ca X.env) fp) (hu1 hr) ?_
      refine f_cnt (X := X.blk s H' _ (compEnvC _ cl Ca X.env) fp) T ?_
      walk_at "go"
      refine ⟨o, dx, d, rfl, .tail mo', ?_⟩
      walk_at "go"
      refine ⟨d, .int p.2, rfl, .s (.fz (.tail hh.mm)) (by rw [valV_tk, look_of hr'.can.nd hp]; rfl), ?_⟩
      walk_at "go"
      refine ⟨_, _, .head, ?_, _, Sub.refl _, ?_⟩
      · rw [List.length_map, List.length_map]
        exact len_lt (Nat.lt_of_le_of_lt (by rw [List.length_take]; exact Nat.min_le_right _ _) (Nat.lt_of_lt_of_le hr'.ln (by decide)))
      · show _ = _
        rw [List.take_add_one, hp, List.map_append, List.map_append]
        rfl
    · rintro L' rfl
      rw [tk_len, List.take_length]
      refine ⟨_, .tail hh, ?_⟩
      rw [hf.self']
      walk_at "go"
      refine wc_all hX.calm (.of .head) ?_
      rw [List.all_map]
      exact ret_sub kk (Sub.of_sublist (.cons _ (.refl _)))
/-! sums -/
def pBin (C : Addr) (g : Int → Int → Int) : Pre := fun vs L Kk => ∃ o o2 r r2, vs = [.ref o, .ref o2] ∧ Tb C L o r ∧ Tb C L o2 r2 ∧ Rw r ∧ Rw r2 ∧ ∀ p dx d, Kk (.ref p) ((d, .dK (tk (norm (fp (keys r ++ keys r2) fun k => g (look r k) (look r2 k))))) :: (p, .ins C dx (tabF d)) :: L)
theorem scAdd : FnScope ["self", "other", "keys", "key"] ["self", "other"] (defScope sAdd) := ⟨rfl, rfl, rfl, by decide +kernel, rfl, by decide +kernel, by decide +kernel⟩
theorem scSub : FnScope ["self", "other", "keys", "key"] ["self", "other"] (defScope sSub) := ⟨rfl, rfl, rfl, by decide +kernel, rfl, by decide +kernel, by decide +kernel⟩
theorem okAdd {f C : Addr} {fd : FuncData} (F : Fun K "__add__" "Table.__add__" sAdd f fd) (T : Txt K mg C) (GA : GMe P w K mg base C "at" 2 ["self", "key"] [] (pAt C)) (GM : GMk P w K mg base "Table" C 3 ["self", "counts"] [] (pInit C)) :
    FnOk P w K mg base CX0 5 f fd ["self", "other"] (SpL (pBin C (· + ·))) := by
  refine fnXC (Vn := ["self", "other", "keys"]) (Ln := ["keys"]) (Gn := ["isinstance", "Table"]) F scAdd (by decide +kernel) (fun vs L Kk h => ?_) (fun X e1 e2 e3 e4 e5 hX hr vs L Kk h => ?_)
  · obtain ⟨o, o2, r, r2, rfl, _⟩ := h
    rfl
  · subst e1 e2 e3 e4 e5
    obtain ⟨o, o2, r, r2, rfl, ⟨dx, d, mo, md⟩, ⟨dx2, d2, mo2, md2⟩, h1, h2, kk⟩ := h
    walk_at "go"
    refine wc_isi (r := true) (.own _) (T.ty mo2) T.iCC ⟨_, rfl, (fun z => Bool.noConfusion z), fun _ => ?_⟩
    walk_at "go"
    refine wa_starD hX.calm ?_
    walk_at "go"
    refine ⟨d, _, rfl, .of md, ?_⟩
    refine wa_starD hX.calm ?_
    walk_at "go"
    refine ⟨d2, _, rfl, .of md2, ?_⟩
    walk_at "go"
    rw [tk_kv, tk_kv, List.append_nil, ← List.map_append]
    have hln : (keys r ++ keys r2).length < 40 := by
      rw [List.length_append, List.length_map, List.length_map]
      have := h1.ln
      have := h2.ln
      omega
    refine ⟨by rw [List.length_map]; exact Nat.le_of_lt (len_lt (Nat.lt_of_lt_of_le hln (by decide))), fun ql => ?_⟩
    walk_at "go"
    refine x_dc [("key", 3)] hX (by decide +kernel) (wi_list ?_)
    walk_at "go"
    refine ⟨ql, _, rfl, .of .head, fun D => ⟨fun i L' => L' = (D, .dK (tk (fp ((keys r ++ keys r2).take i) fun k => look r k + look r2 k))) :: (ql, .lst ((keys r ++ keys r2).map V.str)) :: L, rfl, ?_, ?_, ?_⟩⟩
    · rintro i L' _ rfl
      exact .of (.tail .head)
    · rintro i v L' L'' hi rfl ⟨rfl, hv⟩
      intro s H' Ca cl fp'
      obtain ⟨y, hy, ey⟩ := map_get hv
      subst ey
      have hym := List.mem_of_getElem? hy
      have hny : Nm y := (List.mem_append.mp hym).elim (h1.nk y) (h2.nk y)
      have hB := hX.blk (Vb := ["key", "self", "other"]) (Lb := ["key"]) (Gb := []) (scope := ⟨.function, [(".0", .local), ("key", .local), ("other", .free), ("self", .free)], false, false, []⟩) (by decide +kernel)
      refine x_tgt (hB s H' Ca cl fp') (by walk_at "at") (by walk_at "at") ⟨rfl, fun s H' Ca cl fp' => ?_⟩
      have hX1 := hB s H' Ca cl fp'
      walk_at "go"
      intro s H' Ca cl fp'
      have hX2 := hB s H' Ca cl fp'
      refine we_bin (we_meth (X := X.blk s H' _ (compEnvC _ cl Ca X.env) fp') GA (by exact hr.mono (by decide)) ?_)
      walk_at "go"
      refine ⟨o, dx, _, rfl, .tail (.tail mo), tabF_no _ (by decide +kernel), ?_⟩
      walk_at "go"
      refine ⟨o, r, y, rfl, ⟨dx, d, .tail (.tail mo), .tail (.tail md)⟩, hny, ?_⟩
      refine we_meth (X := X.blk s H' _ (compEnvC _ cl Ca X.env) fp') GA (by exact hr.mono (by decide)) ?_
      walk_at "go"
      refine ⟨o2, dx2, _, rfl, .tail (.tail mo2), tabF_no _ (by decide +kernel), ?_⟩
      walk_at "go"
      refine ⟨o2, r2, y, rfl, ⟨dx2, d2, .tail (.tail mo2), .tail (.tail md2)⟩, hny, ?_⟩
      walk_at "go"
      refine ⟨_, .inr y, _, rfl, .head, ?_, _, Sub.refl _, ?_⟩
      · rw [tk_len]
        exact len_lt (Nat.lt_of_le_of_lt (fp_len _ _) (Nat.lt_of_le_of_lt (by rw [List.length_take]; exact Nat.min_le_right _ _) (Nat.lt_of_lt_of_le hln (by decide))))
      · show _ = _
        rw [putK_tk, List.take_add_one, hy, show (some y).toList = [y] from rfl, fp_snoc]
    · rintro L' rfl
      rw [List.length_map, List.take_length]
      walk_at "go"
      intro p dp
      refine ⟨p, dp, _, _, _, rfl, rfl, .inr ⟨D, rfl, .head⟩, fp_md (fun k hk => (List.mem_append.mp hk).elim (h1.nk k) (h2.nk k)) hln, fun d' => ⟨rfl, ?_⟩⟩
      exact ret_sub (kk p dp d') (Sub.of_sublist (.cons₂ _ (.cons₂ _ (.cons _ (.cons _ (.refl _))))))
theorem okSub {f C : Addr} {fd : FuncData} (F : Fun K "__sub__" "Table.__sub__" sSub f fd) (T : Txt K mg C) (GA : GMe P w K mg base C "at" 2 ["self", "key"] [] (pAt C)) (GM : GMk P w K mg base "Table" C 3 ["self", "counts"] [] (pInit C)) :
    FnOk P w K mg base CX0 5 f fd ["self", "other"] (SpL (pBin C (· - ·))) := by
  refine fnXC (Vn := ["self", "other", "keys"]) (Ln := ["keys"]) (Gn := ["isinstance", "Table"]) F scSub (by decide +kernel) (fun vs L Kk h => ?_) (fun X e1 e2 e3 e4 e5 hX hr vs L Kk h => ?_)
  · obtain ⟨o, o2, r, r2, rfl, _⟩ := h
    rfl
  · subst e1 e2 e3 e4 e5
    obtain ⟨o, o2, r, r2, rfl, ⟨dx, d, mo, md⟩, ⟨dx2, d2, mo2, md2⟩, h1, h2, kk⟩ := h
    walk_at "go"
    refine wc_isi (r := true) (.own _) (T.ty mo2) T.iCC ⟨_, rfl, (fun z => Bool.noConfusion z), fun _ => ?_⟩
    walk_at "go"
    refine wa_starD hX.calm ?_
    walk_at "go"
    refine ⟨d, _, rfl, .of md, ?_⟩
    refine wa_starD hX.calm ?_
    walk_at "go"
    refine ⟨d2, _, rfl, .of md2, ?_⟩
    walk_at "go"
    rw [tk_kv, tk_kv, List.append_nil, ← List.map_append]
    have hln : (keys r ++ keys r2).length < 40 := by
      rw [List.length_append, List.length_map, List.length_map]
      have := h1.ln
      have := h2.ln
      omega
    refine ⟨by rw [List.length_map]; exact Nat.le_of_lt (len_lt (Nat.lt_of_lt_of_le hln (by decide))), fun ql => ?_⟩
    walk_at "go"
    refine x_dc [("key", 3)] hX (by decide +kernel) (wi_list ?_)
    walk_at "go"
    refine ⟨ql, _, rfl, .of .head, fun D => ⟨fun i L' => L' = (D, .dK (tk (fp ((keys r ++ keys r2).take i) fun k => look r k - look r2 k))) :: (ql, .lst ((keys r ++ keys r2).map V.str)) :: L, rfl, ?_, ?_, ?_⟩⟩
    · rintro i L' _ rfl
      exact .of (.tail .head)
    · rintro i v L' L'' hi rfl ⟨rfl, hv⟩
      intro s H' Ca cl fp'
      obtain ⟨y, hy, ey⟩ := map_get hv
      subst ey
      have hym := List.mem_of_getElem? hy
      have hny : Nm y := (List.mem_append.mp hym).elim (h1.nk y) (h2.nk y)
      have hB := hX.blk (Vb := ["key", "self", "other"]) (Lb := ["key"]) (Gb := []) (scope := ⟨.function, [(".0", .local), ("key", .local), ("other", .free), ("self", .free)], false, false, []⟩) (by decide +kernel)
      refine x_tgt (hB s H' Ca cl fp') (by walk_at "at") (by walk_at "at") ⟨rfl, fun s H' Ca cl fp' => ?_⟩
      have hX1 := hB s H' Ca cl fp'
      walk_at "go"
      intro s H' Ca cl fp'
      have hX2 := hB s H' Ca cl fp'
      refine we_bin (we_meth (X := X.blk s H' _ (compEnvC _ cl Ca X.env) fp') GA (by exact hr.mono (by decide)) ?_)
      walk_at "go"
      refine ⟨o, dx, _, rfl, .tail (.tail mo), tabF_no _ (by decide +kernel), ?_⟩
      walk_at "go"
      refine ⟨o, r, y, rfl, ⟨dx, d, .tail (.tail mo), .tail (.tail md)⟩, hny, ?_⟩
      refine we_meth (X := X.blk s H' _ (compEnvC _ cl Ca X.env) fp') GA (by exact hr.mono (by decide)) ?_
      walk_at "go"
      refine ⟨o2, dx2, _, rfl, .tail (.tail mo2), tabF_no _ (by decide +kernel), ?_⟩
      walk_at "go"
      refine ⟨o2, r2, y, rfl, ⟨dx2, d2, .tail (.tail mo2), .tail (.tail md2)⟩, hny, ?_⟩
      walk_at "go"
      refine ⟨_, .inr y, _, rfl, .head, ?_, _, Sub.refl _, ?_⟩
      · rw [tk_len]
        exact len_lt (Nat.lt_of_le_of_lt (fp_len _ _) (Nat.lt_of_le_of_lt (by rw [List.length_take]; exact Nat.min_le_right _ _) (Nat.lt_of_lt_of_le hln (by decide))))
      · show _ = _
        rw [putK_tk, List.take_add_one, hy, show (some y).toList = [y] from rfl, fp_snoc]
    · rintro L' rfl
      rw [List.length_map, List.take_length]
      walk_at "go"
      intro p dp
      refine ⟨p, dp, _, _, _, rfl, rfl, .inr ⟨D, rfl, .head⟩, fp_md (fun k hk => (List.mem_append.mp hk).elim (h1.nk k) (h2.nk k)) hln, fun d' => ⟨rfl, ?_⟩⟩
      exact ret_sub (kk p dp d') (Sub.of_sublist (.cons₂ _ (.cons₂ _ (.cons _ (.cons _ (.refl _))))))
end
end K12

set_option Elab.async false
set_option linter.all false
set_option maxRecDepth 100000
set_option maxHeartbeats 4000000
namespace K12
open PySem L2 N3
local macro_rules | `(tactic| walk_at "at") => `(tactic| with_reducible (repeat (first | exact At.head | apply At.tail)))
local macro_rules | `(tactic| walk_at "mem") => `(tactic| with_reducible (repeat (first | exact Mem.head | apply Mem.tail)))
local macro_rules | `(tactic| walk_at "boot") => `(tactic| with_reducible (first | exact boot_isi | exact boot_max | exact boot_min | exact boot_abs | exact boot_len | exact boot_repr | exact boot_divmod | exact boot_all | exact boot_int | exact boot_bool | exact boot_str | exact boot_dict | exact boot_list | exact boot_sorted))
local macro_rules | `(tactic| walk_at "room") => `(tactic| (first | assumption | exact Room.mono (by assumption) (by decide)))
local macro_rules | `(tactic| walk_at "none") => `(tactic| (refine Txt.bn (by assumption) _ ?xz; (case xz => with_reducible (repeat (first | exact InS.head | apply InS.tail)))))
local macro_rules | `(tactic| walk_at "n3") => `(tactic| first
  | with_reducible refine ws_ret ?_
  | with_reducible refine we_int ?_
  | with_reducible refine we_str ?_
  | with_reducible refine we_bool ?_
  | with_reducible refine we_none ?_
  | ((with_reducible refine' x_name ?xo ?xa ?xb ?xc ?_); (case xo => assumption); (case xa => walk_at "at"); (case xb => walk_at "at"); (case xc => rfl))
  | ((with_reducible refine' f_cnt ?xt ?_ ?xh); (case xt => assumption); (case xh => rfl))
  | ((with_reducible refine' we_prop ?xg ?xr ?_ ?xh); (case xg => assumption); (case xr => walk_at "room"); (case xh => rfl))
  | with_reducible refine we_bin ?_
  | with_reducible refine wo_add ?_
  | with_reducible refine wo_sub ?_
  | with_reducible refine wo_lt ?_
  | with_reducible refine wo_gt ?_
  | with_reducible refine wo_le ?_
  | with_reducible refine wo_ge ?_
  | with_reducible refine wu_neg ?_
  | ((with_reducible refine we_cmp ?xh ?_); (case xh => exact nomark _))
  | ((with_reducible refine wt_cmp ?xh ?_); (case xh => exact nomark _))
  | ((with_reducible refine wa_cons ?_ ?xh); (case xh => rfl))
  | with_reducible refine wa_nil ?_
  | with_reducible refine we_and ?_
  | with_reducible refine we_or ?_
  | with_reducible refine we_not ?_
  | with_reducible refine wt_not ?_
  | with_reducible refine we_un ?_
  | with_reducible refine we_one ?_
  | with_reducible refine wt_ww (ww_or ?_)
  | with_reducible refine wt_ww (ww_and ?_)
  | with_reducible refine ww_or ?_
  | with_reducible refine ww_and ?_
  | with_reducible refine ww_or1 ?_
  | with_reducible refine ww_and1 ?_
  | with_reducible refine we_ifExp ?_
  | with_reducible refine ws_if ?_
  | with_reducible refine ws_pass ?_
  | with_reducible refine we_tup ?_
  | with_reducible refine we_lst ?_
  | ((with_reducible refine' x_set ?xo ?xa ?xb ?_ ?xs); (case xo => assumption); (case xa => walk_at "at"); (case xb => walk_at "at"); (case xs => rfl))
  | ((with_reducible refine' x_setF ?_ ?xs); (case xs => rfl))
  | ((with_reducible refine' x_call ?xo ?xa ?xg ?xr ?_ ?xe ?xp); (case xo => assumption); (case xa => walk_at "at"); (case xg => assumption); (case xr => walk_at "room"); (case xe => rfl); (case xp => rfl))
  | ((with_reducible refine' x_callG ?xo ?xa ?xg ?xr ?xd ?_ ?xe ?xp); (case xo => assumption); (case xa => walk_at "at"); (case xg => assumption); (case xr => walk_at "room"); (case xd => assumption); (case xe => rfl); (case xp => rfl))
  | ((with_reducible refine' x_callB ?xo ?xa ?xg ?xr ?_ ?xe ?xp); (case xo => assumption); (case xr => walk_at "boot"); (case xa => walk_at "at"); (case xg => walk_at "none"); (case xe => rfl); (case xp => rfl))
  | ((with_reducible refine' x_callTy ?xo ?xa ?xg ?xr ?_ ?xe ?xp); (case xo => assumption); (case xr => walk_at "boot"); (case xa => walk_at "at"); (case xg => walk_at "none"); (case xe => rfl); (case xp => rfl))
  | ((with_reducible refine' x_bty ?xo ?xa ?xg ?xr ?_); (case xo => assumption); (case xr => walk_at "boot"); (case xa => walk_at "at"); (case xg => walk_at "none"))
  | ((with_reducible refine' x_cls ?xt ?xo ?xa ?_); (case xt => assumption); (case xo => assumption); (case xa => walk_at "at"))
  | ((with_reducible refine' x_make ?xo ?xa ?xg ?xr ?_ ?xe ?xp); (case xo => assumption); (case xa => walk_at "at"); (case xg => assumption); (case xr => walk_at "room"); (case xe => rfl); (case xp => rfl))
  | with_reducible refine wss_nil ?_
  | refine ⟨_, _, _, rfl, (by assumption), ?_⟩
  | refine wss_cons ?_
  | ((with_reducible refine' wt_val ?_ ?xv); (case xv => intro _; rfl)))
local macro_rules | `(tactic| walk_at "go") => `(tactic| repeat walk_at "n3")
section
variable {P : Program} {w : World} {K : PySem.W.Frag} {mg : Str → Option Value} {base : Heap}
/-! times, neg -/
def mulM (r : SI) (n : Int) : SI := r.map fun q => (q.1, q.2 * n)
theorem mulM_keys (r : SI) (n : Int) : (mulM r n).map (·.1) = r.map (·.1) := by unfold mulM; rw [List.map_map]; rfl
theorem mulM_look (r : SI) (n : Int) (k : Str) : look (mulM r n) k = look r k * n := by
  unfold mulM
  induction r with
  | nil => show (0 : Int) = 0 * n; rw [Int.zero_mul]
  | cons p r ih =>
    rw [List.map_cons, look_cons, look_cons, ih]
    split <;> rfl
theorem mulM_md {r : SI} (h : Rw r) (n : Int) : Md (mulM r n) := by
  refine ⟨by rw [mulM_keys]; exact h.can.nd, fun p hp => ?_, by unfold mulM; rw [List.length_map]; exact Nat.lt_of_lt_of_le h.ln (by decide)⟩
  have : p.1 ∈ (mulM r n).map (·.1) := List.mem_map.mpr ⟨p, hp, rfl⟩
  rw [mulM_keys] at this
  exact h.nk _ this
def pTimes (C : Addr) : Pre := fun vs L Kk => ∃ o r n, vs = [.ref o, .int n] ∧ Tb C L o r ∧ Rw r ∧ -(2 ^ 64) < n ∧ n < 2 ^ 64 ∧ ∀ p dx d, Kk (.ref p) ((d, .dK (tk (norm (mulM r n)))) :: (p, .ins C dx (tabF d)) :: L)
theorem scTimes : FnScope ["self", "many", "key"] ["self", "many"] (defScope sTimes) := ⟨rfl, rfl, rfl, by decide +kernel, rfl, by decide +kernel, by decide +kernel⟩
theorem okTimes {f C : Addr} {fd : FuncData} (F : Fun K "times" "Table.times" sTimes f fd) (T : Txt K mg C) (GI : GFn P w K mg base "is_integer" 1 ["value"] [] (pIsInt K)) (GM : GMk P w K mg base "Table" C 3 ["self", "counts"] [] (pInit C)) :
    FnOk P w K mg base CX0 5 f fd ["self", "many"] (SpL (pTimes C)) := by
  refine fnXC (Vn := ["self", "many"]) (Ln := []) (Gn := ["is_integer", "Table"]) F scTimes (by decide +kernel) (fun vs L Kk h => ?_) (fun X e1 e2 e3 e4 e5 hX hr vs L Kk h => ?_)
  · obtain ⟨o, r, n, rfl, _⟩ := h
    rfl
  · subst e1 e2 e3 e4 e5
    obtain ⟨o, r, n, rfl, ⟨dx, d, mo, md⟩, hr', n0, n1, kk⟩ := h
    obtain ⟨G, hf, other⟩ := md.hole
    refine wss_nd fun nd => ?_
    walk_at "go"
    refine ⟨_, rfl, _, rfl, (fun z => Bool.noConfusion z), fun _ => ?_⟩
    walk_at "go"
    refine we_lock hf True.intro fun od => ?_
    have hh := hf.again' (.frz od (.dK (tk r)))
    have ne : o ≠ d := mem_ne nd mo md (by intro z; cases z)
    have mo' := other o _ ne mo (.frz od (.dK (tk r)))
    refine x_dc [("key", 2)] hX (by decide +kernel) (wi_keys ?_)
    walk_at "go"
    refine ⟨d, od, tk r, rfl, hh.mm, fun D => ⟨fun i L' => L' = (D, .dK (tk ((r.take i).map fun q => (q.1, q.2 * n)))) :: G (.frz od (.dK (tk r))), rfl, ?_, ?_, ?_⟩⟩
    · rintro i L' _ rfl
      exact .tail hh.mm
    · rintro i v L' L'' hi rfl ⟨rfl, k, u, hk, rfl⟩
      intro s H' Ca cl fp
      obtain ⟨p, hp, ep⟩ := map_get hk
      cases ep
      have hB := hX.blk (Vb := ["key", "self", "many"]) (Lb := ["key"]) (Gb := []) (scope := ⟨.function, [(".0", .local), ("key", .local), ("many", .free), ("self", .free)], false, false, []⟩) (by decide +kernel)
      refine x_tgt (hB s H' Ca cl fp) (by walk_at "at") (by walk_at "at") ⟨rfl, fun s H' Ca cl fp => ?_⟩
      have hX1 := hB s H' Ca cl fp
      walk_at "go"
      intro s H' Ca cl fp
      have hX2 := hB s H' Ca cl fp
      refine we_bin (we_dget (X := X.blk s H' _ (compEnvC _ cl Ca X.env) fp) (hu1 hr) ?_)
      refine f_cnt (X := X.blk s H' _ (compEnvC _ cl Ca X.env) fp) T ?_
      walk_at "go"
      refine ⟨o, dx, d, rfl, .tail mo', ?_⟩
      walk_at "go"
      refine ⟨d, .int p.2, rfl, .s (.fz (.tail hh.mm)) (by rw [valV_tk, look_of hr'.can.nd hp]; rfl), ?_⟩
      walk_at "go"
      refine wo_mul (.inr ⟨n0, n1⟩) ?_
      refine ⟨_, .inr p.1, _, rfl, .head, ?_, _, Sub.refl _, ?_⟩
      · rw [tk_len, List.length_map]
        exact len_lt (Nat.lt_of_le_of_lt (by rw [List.length_take]; exact Nat.min_le_right _ _) (Nat.lt_of_lt_of_le hr'.ln (by decide)))
      · show _ = _
        rw [putK_tk, take_put (g := fun q => q.2 * n) hr'.can.nd hp]
    · rintro L' rfl
      rw [tk_len, List.take_length]
      refine ⟨_, .tail hh, ?_⟩
      rw [hf.self']
      walk_at "go"
      intro p dp
      refine ⟨p, dp, _, _, _, rfl, rfl, .inr ⟨D, rfl, .head⟩, mulM_md hr' n, fun d' => ⟨rfl, ?_⟩⟩
      exact ret_sub (kk p dp d') (Sub.of_sublist (.cons₂ _ (.cons₂ _ (.cons _ (.refl _)))))
def pNeg (C : Addr) : Pre := fun vs L Kk => ∃ o r, vs = [.ref o] ∧ Tb C L o r ∧ Rw r ∧ ∀ p dx d, Kk (.ref p) ((d, .dK (tk (norm (mulM r (-1))))) :: (p, .ins C dx (tabF d)) :: L)
theorem scNeg : FnScope ["self"] ["self"] (defScope sNeg) := ⟨rfl, rfl, rfl, by decide +kernel, rfl, by decide +kernel, by decide +kernel⟩
theorem okNeg {f C : Addr} {fd : FuncData} (F : Fun K "__neg__" "Table.__neg__" sNeg f fd) (T : Txt K mg C) (GT : GMe P w K mg base C "times" 5 ["self", "many"] [] (pTimes C)) : FnOk P w K mg base CX0 6 f fd ["self"] (SpL (pNeg C)) := by
  refine fnX (Gn := []) F scNeg (by decide +kernel) (fun vs L Kk h => ?_) (fun X e1 e2 e3 e4 e5 hX hr vs L Kk h => ?_)
  · obtain ⟨o, r, rfl, _⟩ := h
    rfl
  · subst e1 e2 e3 e4 e5
    obtain ⟨o, r, rfl, ⟨dx, d, mo, md⟩, hr', kk⟩ := h
    walk_at "go"
    refine we_meth GT (by walk_at "room") ?_
    walk_at "go"
    refine ⟨tabF_no _ (by decide +kernel), ?_⟩
    walk_at "go"
    exact ⟨o, r, _, rfl, ⟨dx, d, mo, md⟩, hr', by decide, by decide, fun p dx d => ret_sub (kk p dx d) (Sub.refl _)⟩
/-! renamed -/
def nmOf (nm : List (Str × Str)) (k : Str) : Str := ((nm.find? fun p => decide (p.1 = k)).map (·.2)).getD k
theorem valV_tn (m : List (Str × Str)) (k : Str) : valV (tn m) (.inr k) = ((m.find? fun p => decide (p.1 = k)).map (·.2)).map V.str := by
  induction m with
  | nil => rfl
  | cons p m ih =>
    have e : tn (p :: m) = (Sum.inr p.1, V.str p.2) :: tn m := rfl
    rw [e, List.find?_cons]
    by_cases h : p.1 = k
    · rw [valV_pos (by rw [h])]; simp [h]
    · rw [valV_neg (fun z => h (Sum.inr.inj z)), ih]; simp [h]
theorem nmOf_nm {nm : List (Str × Str)} (h : ∀ p ∈ nm, Nm p.1 ∧ Nm p.2) {k : Str} (hk : Nm k) : Nm (nmOf nm k) := by
  unfold nmOf
  cases e : nm.find? fun p => decide (p.1 = k) with
  | none => exact hk
  | some p => exact (h p (List.mem_of_find?_eq_some e)).2
def renM (nm : List (Str × Str)) (r : SI) : SI := r.foldl (fun m p => put m (nmOf nm p.1) (look m (nmOf nm p.1) + p.2)) []
theorem renM_snoc (nm : List (Str × Str)) (r : SI) (p : Str × Int) : renM nm (r ++ [p]) = put (renM nm r) (nmOf nm p.1) (look (renM nm r) (nmOf nm p.1) + p.2) := by
  unfold renM
  rw [List.foldl_append]
  rfl
theorem si_ind {α : Type} {motive : List α → Prop} (h0 : motive []) (hs : ∀ ks k, motive ks → motive (ks ++ [k])) (ks : List α) : motive ks := by
  have h : ∀ l : List α, motive l.reverse := by
    intro l
    induction l with
    | nil => exact h0
    | cons a l ih => rw [List.reverse_cons]; exact hs _ _ ih
  have := h ks.reverse
  rwa [List.reverse_reverse] at this
theorem renM_nd (nm : List (Str × Str)) (r : SI) : ((renM nm r).map (·.1)).Nodup := by
  refine si_ind (motive := fun r => ((renM nm r).map (·.1)).Nodup) List.nodup_nil (fun ks k ih => ?_) r
  rw [renM_snoc]
  exact nodup_put ih _ _
theorem renM_keys (nm : List (Str × Str)) (r : SI) : ∀ j, j ∈ (renM nm r).map (·.1) ↔ ∃ k ∈ keys r, nmOf nm k = j := by
  refine si_ind (motive := fun r => ∀ j, j ∈ (renM nm r).map (·.1) ↔ ∃ k ∈ keys r, nmOf nm k = j) (fun j => by simp [renM]) (fun ks k ih j => ?_) r
  rw [renM_snoc, mem_put, ih]
  constructor
  · rintro (⟨a, ha, e⟩ | e)
    · exact ⟨a, by simp only [keys, List.map_append, List.mem_append] at ha ⊢; exact .inl ha, e⟩
    · exact ⟨k.1, by simp [keys], e.symm⟩
  · rintro ⟨a, ha, e⟩
    simp only [keys, List.map_append, List.mem_append, List.map_cons, List.map_nil, List.mem_singleton] at ha
    rcases ha with ha | ha
    · exact .inl ⟨a, ha, e⟩
    · exact .inr (by rw [← e, ha])
theorem renM_len (nm : List (Str × Str)) (r : SI) : (renM nm r).length ≤ r.length := by
  refine si_ind (motive := fun r => (renM nm r).length ≤ r.length) (Nat.le_refl _) (fun ks k ih => ?_) r
  rw [renM_snoc, List.length_append]
  exact Nat.le_trans (put_len _ _ _) (Nat.succ_le_succ ih)
theorem renM_md {nm : List (Str × Str)} {r : SI} (h : Rw r) (hn : ∀ p ∈ nm, Nm p.1 ∧ Nm p.2) : Md (renM nm r) := by
  refine ⟨renM_nd nm r, fun p hp => ?_, Nat.lt_of_le_of_lt (renM_len nm r) (Nat.lt_of_lt_of_le h.ln (by decide))⟩
  obtain ⟨k, hk, e⟩ := (renM_keys nm r p.1).mp (List.mem_map.mpr ⟨p, hp, rfl⟩)
  rw [← e]
  exact nmOf_nm hn (h.nk k hk)
def pRen (C : Addr) : Pre := fun vs L Kk => ∃ o r q nm, vs = [.ref o, .ref q] ∧ Tb C L o r ∧ Rw r ∧ Mem q (.dK (tn nm)) L ∧ nm.length < 1000 ∧ (∀ p ∈ nm, Nm p.1 ∧ Nm p.2) ∧ ∀ p dx d, Kk (.ref p) ((d, .dK (tk (norm (renM nm r)))) :: (p, .ins C dx (tabF d)) :: L)
theorem scRen : FnScope ["self", "names", "counts", "key", "new"] ["self", "names"] (defScope sRen) := ⟨rfl, rfl, rfl, by decide +kernel, rfl, by decide +kernel, by decide +kernel⟩
theorem tk_tn {r : SI} {nm : List (Str × Str)} {a : Addr} {L : LH} (nd : (L.map (·.1)).Nodup) (m : Mem a (.dK (tk r)) L) (m' : Mem a (.dK (tn nm)) L) : r = [] ∧ nm = [] := by
  have e := HO.dK.inj (mem_one nd m m')
  cases r with
  | nil =>
    cases nm with
    | nil => exact ⟨rfl, rfl⟩
    | cons q nm => cases e
  | cons p r =>
    cases nm with
    | nil => cases e
    | cons q nm =>
      have := (List.cons.inj e).1
      exact absurd (congrArg Prod.snd this) (by intro z; cases z)
theorem okRen {f C : Addr} {fd : FuncData} (F : Fun K "renamed" "Table.renamed" sRen f fd) (T : Txt K mg C) (GN : GFn P w K mg base "maps_names" 2 ["value"] [] pMaps) (GM : GMk P w K mg base "Table" C 3 ["self", "counts"] [] (pInit C)) :
    FnOk P w K mg base CX0 5 f fd ["self", "names"] (SpL (pRen C)) := by
  refine fnX (Gn := ["maps_names", "Table"]) F scRen (by decide +kernel) (fun vs L Kk h => ?_) (fun X e1 e2 e3 e4 e5 hX hr vs L Kk h => ?_)
  · obtain ⟨o, r, q, nm, rfl, _⟩ := h
    rfl
  · subst e1 e2 e3 e4 e5
    obtain ⟨o, r, q, nm, rfl, ⟨dx, d, mo, md⟩, hr', mq, ln, hn, kk⟩ := h
    refine wss_nd fun nd => ?_
    walk_at "go"
    refine ⟨q, nm, rfl, mq, ln, hn, _, rfl, (fun z => Bool.noConfusion z), fun _ => ?_⟩
    walk_at "go"
    refine we_dnew fun cd => ?_
    obtain ⟨G, hf, other⟩ := md.hole
    have ne : o ≠ d := mem_ne nd mo md (by intro z; cases z)
    refine wss_cons (ws_lock (.tail hf) True.intro fun od => ?_)
    have hh := hf.again' (.frz od (.dK (tk r)))
    have mo' := other o _ ne mo (.frz od (.dK (tk r)))
    have rq : RdL q (.dK (tn nm)) (G (.frz od (.dK (tk r)))) := by
      by_cases e : q = d
      · subst e
        obtain ⟨rfl, rfl⟩ := tk_tn nd md mq
        exact .fz hh.mm
      · exact .of (other q _ e mq _)
    refine ws_forW hX.calm hX.pas (wi_keys ?_)
    walk_at "go"
    refine ⟨o, dx, d, rfl, .tail mo', ?_⟩
    walk_at "go"
    refine ⟨d, od, tk r, rfl, .tail hh.mm, fun i σ' L' => (∃ a b, σ' = [some (.ref o), some (.ref q), some (.ref cd), a, b]) ∧ L' = (cd, .dK (tk (renM nm (r.take i)))) :: G (.frz od (.dK (tk r))), ⟨⟨_, _, rfl⟩, rfl⟩, ?_, ?_, ?_⟩
    · rintro i σ' L' _ ⟨_, rfl⟩
      exact .tail hh.mm
    · rintro i v σ' L' L'' hi ⟨⟨a, b, rfl⟩, rfl⟩ ⟨rfl, k, u, hk, rfl⟩
      obtain ⟨p, hp, ep⟩ := map_get hk
      cases ep
      refine x_tgt (by assumption) (by walk_at "at") (by walk_at "at") ?_
      walk_at "go"
      refine we_dget2 (hu1 hr) ?_
      walk_at "go"
      refine ⟨q, _, rfl, fun H hL => rq H hL.drop, ?_⟩
      walk_at "go"
      refine ⟨_, .s (fun H hL => rq H hL.drop) (valV_tn nm p.1), ?_⟩
      have e : ((((nm.find? fun q => decide (q.1 = p.1)).map (·.2)).map V.str).getD (V.str p.1)) = V.str (nmOf nm p.1) := by
        unfold nmOf
        cases nm.find? fun q => decide (q.1 = p.1) <;> rfl
      rw [show kV (Sum.inr p.1) = V.str p.1 from rfl, e]
      refine wss_cons (ws_dput (hu1 hr) ?_)
      walk_at "go"
      refine we_dget2 (hu1 hr) ?_
      walk_at "go"
      refine ⟨cd, _, rfl, .of .head, ?_⟩
      walk_at "go"
      refine ⟨_, .s (.of .head) (valV_tk _ _), ?_⟩
      have e2 : ((lookO (renM nm (r.take i)) (nmOf nm p.1)).map V.int).getD (V.int 0) = V.int (look (renM nm (r.take i)) (nmOf nm p.1)) := by
        unfold look
        cases lookO (renM nm (r.take i)) (nmOf nm p.1) <;> rfl
      rw [e2]
      refine we_dget (hu1 hr) ?_
      walk_at "go"
      refine ⟨o, dx, d, rfl, .tail mo', ?_⟩
      walk_at "go"
      refine ⟨d, .int p.2, rfl, .s (.fz (.tail hh.mm)) (by rw [valV_tk, look_of hr'.can.nd hp]; rfl), ?_⟩
      walk_at "go"
      refine ⟨cd, _, .inr (nmOf nm p.1), _, rfl, rfl, .head, ?_, ?_⟩
      · rw [tk_len]
        exact len_lt (Nat.lt_of_le_of_lt (renM_len _ _) (Nat.lt_of_le_of_lt (by rw [List.length_take]; exact Nat.min_le_right _ _) (Nat.lt_of_lt_of_le hr'.ln (by decide))))
      refine wss_nil ⟨_, Sub.refl _, ⟨_, _, rfl⟩, ?_⟩
      rw [putK_tk, List.take_add_one, hp, show (some p).toList = [p] from rfl, renM_snoc]
    · rintro σ' L' ⟨⟨a, b, rfl⟩, rfl⟩
      rw [tk_len, List.take_length]
      refine ⟨_, .tail hh, ?_⟩
      rw [hf.self']
      walk_at "go"
      intro p dp
      refine ⟨p, dp, _, _, _, rfl, rfl, .inr ⟨cd, rfl, .head⟩, renM_md hr' hn, fun d' => ⟨rfl, ?_⟩⟩
      exact ret_sub (kk p dp d') (Sub.of_sublist (.cons₂ _ (.cons₂ _ (.cons _ (.refl _)))))
end
end K12

set_option Elab.async false
set_option linter.all false
set_option maxRecDepth 100000
set_option maxHeartbeats 4000000
namespace K12
open PySem L2 N3
local macro_rules | `(tactic| walk_at "at") => `(tactic| with_reducible (repeat (first | exact At.head | apply At.tail)))
local macro_rules | `(tactic| walk_at "mem") => `(tactic| with_reducible (repeat (first | exact Mem.head | apply Mem.tail)))
local macro_rules | `(tactic| walk_at "boot") => `(tactic| with_reducible (first | exact boot_isi | exact boot_max | exact boot_min | exact boot_abs | exact boot_len | exact boot_repr | exact boot_divmod | exact boot_all | exact boot_int | exact boot_bool | exact boot_str | exact boot_dict | exact boot_list | exact boot_sorted))
local macro_rules | `(tactic| walk_at "room") => `(tactic| (first | assumption | exact Room.mono (by assumption) (by decide)))
local macro_rules | `(tactic| walk_at "none") => `(tactic| (refine Txt.bn (by assumption) _ ?xz; (case xz => with_reducible (repeat (first | exact InS.head | apply InS.tail)))))
local macro_rules | `(tactic| walk_at "n3") => `(tactic| first
  | with_reducible refine ws_ret ?_
  | with_reducible refine we_int ?_
  | with_reducible refine we_str ?_
  | with_reducible refine we_bool ?_
  | with_reducible refine we_none ?_
  | ((with_reducible refine' x_name ?xo ?xa ?xb ?xc ?_); (case xo => assumption); (case xa => walk_at "at"); (case xb => walk_at "at"); (case xc => rfl))
  | ((with_reducible refine' f_cnt ?xt ?_ ?xh); (case xt => assumption); (case xh => rfl))
  | ((with_reducible refine' we_prop ?xg ?xr ?_ ?xh); (case xg => assumption); (case xr => walk_at "room"); (case xh => rfl))
  | with_reducible refine we_bin ?_
  | with_reducible refine wo_add ?_
  | with_reducible refine wo_sub ?_
  | with_reducible refine wo_lt ?_
  | with_reducible refine wo_gt ?_
  | with_reducible refine wo_le ?_
  | with_reducible refine wo_ge ?_
  | with_reducible refine wu_neg ?_
  | ((with_reducible refine we_cmp ?xh ?_); (case xh => exact nomark _))
  | ((with_reducible refine wt_cmp ?xh ?_); (case xh => exact nomark _))
  | ((with_reducible refine wa_cons ?_ ?xh); (case xh => rfl))
  | with_reducible refine wa_nil ?_
  | with_reducible refine we_and ?_
  | with_reducible refine we_or ?_
  | with_reducible refine we_not ?_
  | with_reducible refine wt_not ?_
  | with_reducible refine we_un ?_
  | with_reducible refine we_one ?_
  | with_reducible refine wt_ww (ww_or ?_)
  | with_reducible refine wt_ww (ww_and ?_)
  | with_reducible refine ww_or ?_
  | with_reducible refine ww_and ?_
  | with_reducible refine ww_or1 ?_
  | with_reducible refine ww_and1 ?_
  | with_reducible refine we_ifExp ?_
  | with_reducible refine ws_if ?_
  | with_reducible refine ws_pass ?_
  | with_reducible refine we_tup ?_
  | with_reducible refine we_lst ?_
  | ((with_reducible refine' x_set ?xo ?xa ?xb ?_ ?xs); (case xo => assumption); (case xa => walk_at "at"); (case xb => walk_at "at"); (case xs => rfl))
  | ((with_reducible refine' x_setF ?_ ?xs); (case xs => rfl))
  | ((with_reducible refine' x_call ?xo ?xa ?xg ?xr ?_ ?xe ?xp); (case xo => assumption); (case xa => walk_at "at"); (case xg => assumption); (case xr => walk_at "room"); (case xe => rfl); (case xp => rfl))
  | ((with_reducible refine' x_callG ?xo ?xa ?xg ?xr ?xd ?_ ?xe ?xp); (case xo => assumption); (case xa => walk_at "at"); (case xg => assumption); (case xr => walk_at "room"); (case xd => assumption); (case xe => rfl); (case xp => rfl))
  | ((with_reducible refine' x_callB ?xo ?xa ?xg ?xr ?_ ?xe ?xp); (case xo => assumption); (case xr => walk_at "boot"); (case xa => walk_at "at"); (case xg => walk_at "none"); (case xe => rfl); (case xp => rfl))
  | ((with_reducible refine' x_callTy ?xo ?xa ?xg ?xr ?_ ?xe ?xp); (case xo => assumption); (case xr => walk_at "boot"); (case xa => walk_at "at"); (case xg => walk_at "none"); (case xe => rfl); (case xp => rfl))
  | ((with_reducible refine' x_bty ?xo ?xa ?xg ?xr ?_); (case xo => assumption); (case xr => walk_at "boot"); (case xa => walk_at "at"); (case xg => walk_at "none"))
  | ((with_reducible refine' x_cls ?xt ?xo ?xa ?_); (case xt => assumption); (case xo => assumption); (case xa => walk_at "at"))
  | ((with_reducible refine' x_make ?xo ?xa ?xg ?xr ?_ ?xe ?xp); (case xo => assumption); (case xa => walk_at "at"); (case xg => assumption); (case xr => walk_at "room"); (case xe => rfl); (case xp => rfl))
  | with_reducible refine wss_nil ?_
  | refine ⟨_, _, _, rfl, (by assumption), ?_⟩
  | refine wss_cons ?_
  | ((with_reducible refine' wt_val ?_ ?xv); (case xv => intro _; rfl)))
local macro_rules | `(tactic| walk_at "go") => `(tactic| repeat walk_at "n3")
section
variable {P : Program} {w : World} {K : PySem.W.Frag} {mg : Str → Option Value} {base : Heap}
/-! __eq__, __len__, __contains__ -/
def NoTab (K : PySem.W.Frag) (C : Addr) (L : LH) (v : V) : Prop := ∃ t, TyL K v t L ∧ PySem.W.kitOne K t (.ref C) = some false
def pEq (K : PySem.W.Frag) (C : Addr) : Pre := fun vs L Kk => ∃ o r v, vs = [.ref o, v] ∧ Tb C L o r ∧ Can r ∧ ((∃ o2 r2, v = .ref o2 ∧ Tb C L o2 r2 ∧ Can r2 ∧ Kk (.bl (decide (r = r2))) L) ∨ (NoTab K C L v ∧ Kk (.bl false) L))
theorem scEq : FnScope ["self", "other"] ["self", "other"] (defScope sEq) := ⟨rfl, rfl, rfl, by decide +kernel, rfl, by decide +kernel, by decide +kernel⟩
theorem okEq {f C : Addr} {fd : FuncData} (F : Fun K "__eq__" "Table.__eq__" sEq f fd) (T : Txt K mg C) : FnOk P w K mg base CX0 1 f fd ["self", "other"] (SpL (pEq K C)) := by
  refine fnX (Gn := ["isinstance", "Table"]) F scEq (by decide +kernel) (fun vs L Kk h => ?_) (fun X e1 e2 e3 e4 e5 hX hr vs L Kk h => ?_)
  · obtain ⟨o, r, v, rfl, _⟩ := h
    rfl
  · subst e1 e2 e3 e4 e5
    obtain ⟨o, r, v, rfl, ⟨dx, d, mo, md⟩, c, h⟩ := h
    walk_at "go"
    rcases h with ⟨o2, r2, rfl, ⟨dx2, d2, mo2, md2⟩, c2, k⟩ | ⟨⟨t, ht, hk⟩, k⟩
    · refine wc_isi (r := true) (.own _) (T.ty mo2) T.iCC ⟨_, rfl, fun _ => ?_, fun z => Bool.noConfusion z⟩
      walk_at "go"
      refine wo_eqDK (by have := hr.units; omega) md md2 (tk_flat _) (tk_flat _) ?_
      rw [eqD_can c c2]
      exact ret_sub k (Sub.refl _)
    · refine wc_isi (r := false) (.own _) ht hk ⟨_, rfl, (fun z => Bool.noConfusion z), fun _ => ?_⟩
      exact ret_sub k (Sub.refl _)
def pLen (C : Addr) : Pre := fun vs L Kk => ∃ o r, vs = [.ref o] ∧ Tb C L o r ∧ Kk (.int (r.length : Int)) L
theorem scLen : FnScope ["self"] ["self"] (defScope sLen) := ⟨rfl, rfl, rfl, by decide +kernel, rfl, by decide +kernel, by decide +kernel⟩
theorem okLen {f C : Addr} {fd : FuncData} (F : Fun K "__len__" "Table.__len__" sLen f fd) (T : Txt K mg C) : FnOk P w K mg base CX0 1 f fd ["self"] (SpL (pLen C)) := by
  refine fnX (Gn := ["len"]) F scLen (by decide +kernel) (fun vs L Kk h => ?_) (fun X e1 e2 e3 e4 e5 hX hr vs L Kk h => ?_)
  · obtain ⟨o, r, rfl, _⟩ := h
    rfl
  · subst e1 e2 e3 e4 e5
    obtain ⟨o, r, rfl, ⟨dx, d, mo, md⟩, k⟩ := h
    walk_at "go"
    refine wc_lenD md ?_
    rw [tk_len]
    exact ret_sub k (Sub.refl _)
def pCon (K : PySem.W.Frag) (C : Addr) : Pre := fun vs L Kk => ∃ o r v, vs = [.ref o, v] ∧ Tb C L o r ∧ ((∃ k, v = .str k ∧ k.length ≤ 1000 ∧ Kk (.bl (isNm k && decide (k ∈ keys r))) L) ∨ ((∃ t, TyL K v t L ∧ PySem.W.kitOne K t (.type "str") = some false) ∧ Kk (.bl false) L))
theorem scCon : FnScope ["self", "x"] ["self", "x"] (defScope sCon) := ⟨rfl, rfl, rfl, by decide +kernel, rfl, by decide +kernel, by decide +kernel⟩
theorem okCon {f C : Addr} {fd : FuncData} (F : Fun K "__contains__" "Table.__contains__" sCon f fd) (T : Txt K mg C) (GN : GFn P w K mg base "is_name" 1 ["value"] [] (pIsName K)) : FnOk P w K mg base CX0 2 f fd ["self", "x"] (SpL (pCon K C)) := by
  refine fnX (Gn := ["is_name"]) F scCon (by decide +kernel) (fun vs L Kk h => ?_) (fun X e1 e2 e3 e4 e5 hX hr vs L Kk h => ?_)
  · obtain ⟨o, r, v, rfl, _⟩ := h
    rfl
  · subst e1 e2 e3 e4 e5
    obtain ⟨o, r, v, rfl, ⟨dx, d, mo, md⟩, h⟩ := h
    walk_at "go"
    rcases h with ⟨k, rfl, hk, kk⟩ | ⟨hk, kk⟩
    · refine ⟨_, rfl, .inl ⟨k, rfl, hk, ?_⟩⟩
      refine ⟨_, rfl, fun z => ?_, fun z => ?_⟩
      · rw [z, Bool.true_and] at kk
        refine we_din (hu1 hr) rfl ?_
        walk_at "go"
        refine ⟨d, _, rfl, .s (.of md) (valV_tk _ _), ?_⟩
        rw [show ((lookO r k).map V.int).isSome = decide (k ∈ keys r) by rw [Option.isSome_map, lookO_isSome]]
        exact ret_sub kk (Sub.refl _)
      · rw [z, Bool.false_and] at kk
        exact ret_sub kk (Sub.refl _)
    · exact ⟨_, rfl, .inr ⟨hk, _, rfl, (fun z => Bool.noConfusion z), fun _ => ret_sub kk (Sub.refl _)⟩⟩
/-! __repr__ -/
/-- the data of a table -/
def dd (r : SI) : List (PyData × PyData) := r.map fun p => (.str p.1, .int p.2)
theorem dd_is (r : SI) : DictIs (tk r) (dd r) := by
  induction r with
  | nil => exact .nil
  | cons p r ih => exact .cons (k := .inr p.1) rfl ih
/-- numbers that can be shown -/
def Sz (n : Nat) (r : SI) : Prop := ∀ p ∈ r, p.2.natAbs < 2 ^ n
theorem Sz.log {n : Nat} {r : SI} (h : Sz n r) (hn : n ≤ 1000) {p : Str × Int} (hp : p ∈ r) : p.2.natAbs.log2 < 1920 := by
  by_cases z : p.2.natAbs = 0
  · rw [z]; decide
  · exact (Nat.log2_lt z).mpr (Nat.lt_of_lt_of_le (h p hp) (Nat.pow_le_pow_right (by decide) (Nat.le_trans hn (by decide))))
theorem dd_show {n : Nat} (hn : n ≤ 1000) : ∀ {r : SI}, Sz n r → PyData.showableKv (dd r) = true
  | [], _ => by simp [dd, PyData.showableKv]
  | p :: r, h => by
    have e : dd (p :: r) = (.str p.1, .int p.2) :: dd r := rfl
    rw [e]
    simp only [PyData.showableKv, PyData.showable, Bool.true_and, Bool.and_eq_true, decide_eq_true_eq]
    exact ⟨h.log hn List.mem_cons_self, dd_show hn fun q hq => h q (List.mem_cons_of_mem _ hq)⟩
theorem dd_depth : ∀ r : SI, PyData.depthKv (dd r) = 0
  | [] => by simp [dd, PyData.depthKv]
  | p :: r => by
    have e : dd (p :: r) = (.str p.1, .int p.2) :: dd r := rfl
    rw [e]
    simp only [PyData.depthKv, PyData.depth, dd_depth r]
    rfl
theorem rc39 : ∀ c ∈ CHARS.cps.toList, (Builtin.Str.reprChar 39 c).length = 1 := by decide +kernel
theorem rc34 : ∀ c ∈ CHARS.cps.toList, (Builtin.Str.reprChar 34 c).length = 1 := by decide +kernel
theorem isNm_chars {x : Str} (h : Nm x) : ∀ c ∈ x.cps.toList, c ∈ CHARS.cps.toList := by
  unfold Nm isNm at h
  simp only [Bool.and_eq_true, List.all_eq_true, decide_eq_true_eq] at h
  exact h.2
theorem fold_len {q : Nat} (hq : ∀ c ∈ CHARS.cps.toList, (Builtin.Str.reprChar q c).length = 1) : ∀ (l : List Nat) (a : Array Nat), (∀ c ∈ l, c ∈ CHARS.cps.toList) → (l.foldl (fun out c => out ++ (Builtin.Str.reprChar q c).toArray) a).size = a.size + l.length
  | [], _, _ => rfl
  | c :: l, a, h => by
    rw [List.foldl_cons, fold_len hq l _ fun c hc => h c (List.mem_cons_of_mem _ hc), Array.size_append, List.length_cons]
    have := hq c (h c List.mem_cons_self)
    have e : (Builtin.Str.reprChar q c).toArray.size = (Builtin.Str.reprChar q c).length := List.size_toArray ..
    omega
theorem quote_is (x : Str) : reprQuote x = 39 ∨ reprQuote x = 34 := by
  unfold reprQuote
  split
  · exact .inr rfl
  · exact .inl rfl
theorem reprText_len {x : Str} (h : Nm x) : (reprText x).length ≤ 10 := by
  have hc := isNm_chars h
  have hl : x.cps.toList.length ≤ 8 := by have := h.le; simpa [PySem.Str.length] using this
  unfold reprText
  show (Array.push _ _).size ≤ 10
  rw [Array.size_push, ← Array.foldl_toList]
  rcases quote_is x with e | e <;> rw [e]
  · rw [fold_len rc39 _ _ hc]
    show 1 + _ + 1 ≤ 10
    omega
  · rw [fold_len rc34 _ _ hc]
    show 1 + _ + 1 ≤ 10
    omega
theorem shown_len {n : Nat} (hn : n ≤ 1000) : ∀ {r : SI}, Sz n r → (∀ p ∈ r, Nm p.1) → ((PyData.shownKv (dd r)).map (·.length)).sum ≤ 2000 * r.length ∧ (PyData.shownKv (dd r)).length = r.length
  | [], _, _ => by simp [dd, PyData.shownKv]
  | p :: r, h, hm => by
    have e : dd (p :: r) = (.str p.1, .int p.2) :: dd r := rfl
    have ih := shown_len hn (r := r) (fun q hq => h q (List.mem_cons_of_mem _ hq)) fun q hq => hm q (List.mem_cons_of_mem _ hq)
    have h1 := reprText_len (hm p List.mem_cons_self)
    have h2 : (Str.ofString (toString p.2)).length ≤ 1921 := PyProof.Rows.int_text_len_1921 (h.log hn List.mem_cons_self)
    rw [e]
    simp only [PyData.shownKv, PyData.shown, List.map_cons, List.sum_cons, List.length_cons, Str.length_append]
    rw [show (Str.ofString ": ").length = 2 by decide +kernel]
    exact ⟨by omega, by omega⟩
/-- a table's dict as a text -/
def dtx (r : SI) : Str := (PyData.dict (dd r)).shown
theorem dtx_len {n : Nat} (hn : n ≤ 1000) {r : SI} (h : Sz n r) (hm : ∀ p ∈ r, Nm p.1) (hl : r.length < 20) : (dtx r).length ≤ 50000 := by
  unfold dtx
  simp only [PyData.shown]
  refine Nat.le_trans (PySem.dictText_len_le _) ?_
  obtain ⟨a, b⟩ := shown_len hn h hm
  omega
theorem line_tab : 60000 ≤ sizeLine := by rw [sizeLine_eq]; decide
def ttx (r : SI) : Str := ("Table(" : Str) ++ dtx r ++ ")"
def pRepr (C : Addr) : Pre := fun vs L Kk => ∃ o r, vs = [.ref o] ∧ Tb C L o r ∧ Rw r ∧ Sz 1000 r ∧ Kk (.str (ttx r)) L
theorem scRepr : FnScope ["self"] ["self"] (defScope sRepr) := ⟨rfl, rfl, rfl, by decide +kernel, rfl, by decide +kernel, by decide +kernel⟩
theorem empty_app (x : Str) : Str.empty ++ x = x := Str.empty_append x
theorem len_app (a b : Str) : (a ++ b).length = a.length + b.length := Str.length_append a b
theorem okRepr {f C : Addr} {fd : FuncData} (F : Fun K "__repr__" "Table.__repr__" sRepr f fd) (T : Txt K mg C) : FnG P w K mg base 1 f fd ["self"] (pRepr C) := by
  refine fnXG (Gn := []) F scRepr (by decide +kernel) (fun vs L Kk h => ?_) (fun X e1 e2 e3 e4 e5 hX hr hgd vs L Kk h => ?_)
  · obtain ⟨o, r, rfl, _⟩ := h
    rfl
  · subst e1 e2 e3 e4 e5
    obtain ⟨o, r, rfl, ⟨dx, d, mo, md⟩, hw, sz, k⟩ := h
    have ll := dtx_len (Nat.le_refl _) sz hw.nm hw.ln
    have lb := line_tab
    have l6 : ("Table(" : Str).length = 6 := by decide +kernel
    have l1 : (")" : Str).length = 1 := by decide +kernel
    walk_at "go"
    refine we_joined (.cons "Table(" L ?_ ?_ (.cons (dtx r) L ?_ ?_ (.cons ")" L ?_ ?_ (.nil ?_))))
    · exact we_str ⟨rfl, rfl⟩
    · rw [empty_app]
      omega
    · refine we_fmtRDict hgd ?_
      walk_at "go"
      refine ⟨d, _, dd r, rfl, .of md, dd_is r, ?_, ?_, ?_, rfl, rfl⟩
      · simp only [PyData.depth, dd_depth]
        have := hr.units
        omega
      · simp only [PyData.showable]
        exact dd_show (Nat.le_refl _) sz
      · exact Nat.le_trans ll (by omega)
    · simp only [empty_app, len_app]
      omega
    · exact we_str ⟨rfl, rfl⟩
    · simp only [empty_app, len_app]
      omega
    · rw [empty_app]
      exact ret_sub k (Sub.refl _)
end
end K12

set_option Elab.async false
set_option linter.all false
set_option maxRecDepth 100000
set_option maxHeartbeats 4000000
namespace K12
open PySem L2 N3
local macro_rules | `(tactic| walk_at "at") => `(tactic| with_reducible (repeat (first | exact At.head | apply At.tail)))
local macro_rules | `(tactic| walk_at "mem") => `(tactic| with_reducible (repeat (first | exact Mem.head | apply Mem.tail)))
local macro_rules | `(tactic| walk_at "boot") => `(tactic| with_reducible (first | exact boot_isi | exact boot_max | exact boot_min | exact boot_abs | exact boot_len | exact boot_repr | exact boot_divmod | exact boot_all | exact boot_int | exact boot_bool | exact boot_str | exact boot_dict | exact boot_list | exact boot_sorted))
local macro_rules | `(tactic| walk_at "room") => `(tactic| (first | assumption | exact Room.mono (by assumption) (by decide)))
local macro_rules | `(tactic| walk_at "none") => `(tactic| (refine Txt.bn (by assumption) _ ?xz; (case xz => with_reducible (repeat (first | exact InS.head | apply InS.tail)))))
local macro_rules | `(tactic| walk_at "n3") => `(tactic| first
  | with_reducible refine ws_ret ?_
  | with_reducible refine we_int ?_
  | with_reducible refine we_str ?_
  | with_reducible refine we_bool ?_
  | with_reducible refine we_none ?_
  | ((with_reducible refine' x_name ?xo ?xa ?xb ?xc ?_); (case xo => assumption); (case xa => walk_at "at"); (case xb => walk_at "at"); (case xc => rfl))
  | ((with_reducible refine' f_cnt ?xt ?_ ?xh); (case xt => assumption); (case xh => rfl))
  | ((with_reducible refine' we_prop ?xg ?xr ?_ ?xh); (case xg => assumption); (case xr => walk_at "room"); (case xh => rfl))
  | with_reducible refine we_bin ?_
  | with_reducible refine wo_add ?_
  | with_reducible refine wo_sub ?_
  | with_reducible refine wo_lt ?_
  | with_reducible refine wo_gt ?_
  | with_reducible refine wo_le ?_
  | with_reducible refine wo_ge ?_
  | with_reducible refine wu_neg ?_
  | ((with_reducible refine we_cmp ?xh ?_); (case xh => exact nomark _))
  | ((with_reducible refine wt_cmp ?xh ?_); (case xh => exact nomark _))
  | ((with_reducible refine wa_cons ?_ ?xh); (case xh => rfl))
  | with_reducible refine wa_nil ?_
  | with_reducible refine we_and ?_
  | with_reducible refine we_or ?_
  | with_reducible refine we_not ?_
  | with_reducible refine wt_not ?_
  | with_reducible refine we_un ?_
  | with_reducible refine we_one ?_
  | with_reducible refine wt_ww (ww_or ?_)
  | with_reducible refine wt_ww (ww_and ?_)
  | with_reducible refine ww_or ?_
  | with_reducible refine ww_and ?_
  | with_reducible refine ww_or1 ?_
  | with_reducible refine ww_and1 ?_
  | with_reducible refine we_ifExp ?_
  | with_reducible refine ws_if ?_
  | with_reducible refine ws_pass ?_
  | with_reducible refine we_tup ?_
  | with_reducible refine we_lst ?_
  | ((with_reducible refine' x_set ?xo ?xa ?xb ?_ ?xs); (case xo => assumption); (case xa => walk_at "at"); (case xb => walk_at "at"); (case xs => rfl))
  | ((with_reducible refine' x_setF ?_ ?xs); (case xs => rfl))
  | ((with_reducible refine' x_call ?xo ?xa ?xg ?xr ?_ ?xe ?xp); (case xo => assumption); (case xa => walk_at "at"); (case xg => assumption); (case xr => walk_at "room"); (case xe => rfl); (case xp => rfl))
  | ((with_reducible refine' x_callG ?xo ?xa ?xg ?xr ?xd ?_ ?xe ?xp); (case xo => assumption); (case xa => walk_at "at"); (case xg => assumption); (case xr => walk_at "room"); (case xd => assumption); (case xe => rfl); (case xp => rfl))
  | ((with_reducible refine' x_callB ?xo ?xa ?xg ?xr ?_ ?xe ?xp); (case xo => assumption); (case xr => walk_at "boot"); (case xa => walk_at "at"); (case xg => walk_at "none"); (case xe => rfl); (case xp => rfl))
  | ((with_reducible refine' x_callTy ?xo ?xa ?xg ?xr ?_ ?xe ?xp); (case xo => assumption); (case xr => walk_at "boot"); (case xa => walk_at "at"); (case xg => walk_at "none"); (case xe => rfl); (case xp => rfl))
  | ((with_reducible refine' x_bty ?xo ?xa ?xg ?xr ?_); (case xo => assumption); (case xr => walk_at "boot"); (case xa => walk_at "at"); (case xg => walk_at "none"))
  | ((with_reducible refine' x_cls ?xt ?xo ?xa ?_); (case xt => assumption); (case xo => assumption); (case xa => walk_at "at"))
  | ((with_reducible refine' x_make ?xo ?xa ?xg ?xr ?_ ?xe ?xp); (case xo => assumption); (case xa => walk_at "at"); (case xg => assumption); (case xr => walk_at "room"); (case xe => rfl); (case xp => rfl))
  | with_reducible refine wss_nil ?_
  | refine ⟨_, _, _, rfl, (by assumption), ?_⟩
  | refine wss_cons ?_
  | ((with_reducible refine' wt_val ?_ ?xv); (case xv => intro _; rfl)))
local macro_rules | `(tactic| walk_at "go") => `(tactic| repeat walk_at "n3")
local macro_rules | `(tactic| walk_at "hole") => `(tactic| with_reducible (repeat (first | assumption | exact Hole.head | apply Hole.tail)))
section
variable {X : Cx} {tg a b : Expr} {σ : L2.St} {L : LH} {S : SK} {p apos : Pos}
theorem wi_range2 (hg : Gl X "range") (hm : X.mg "range" = none) (h : WA X [a, b] σ L fun vs L1 => ∃ i j : Int, vs = [.int i, .int j] ∧ (-(2 ^ 62) ≤ i ∧ i < 2 ^ 62 ∧ -(2 ^ 62) ≤ j ∧ j < 2 ^ 62) ∧ S (j - i).toNat (fun _ => True) (YLfn fun k => .int (i + (k : Int))) L1)
    (hst : starEach [a, b] X.env = [(false, eval a X.env), (false, eval b X.env)] := by rfl) (hst2 : starEach [b] X.env = [(false, eval b X.env)] := by rfl) : WI X tg (.Call (.Name "range" p) [a, b] [] apos) σ L S :=
  ⟨_, pi_range2 hg hm pa_sem hst hst2, fun _ hL R k => a_then h hL fun _ L1 H1 h1 ⟨i, j, ev, jj, s⟩ => ⟨i, j, ev, jj, k _ L1 H1 _ _ _ h1 (⟨_, _, walk_range, fun _ _ _ _ => True.intro, fun i L H v H' _ hL y => ⟨L, by rw [y.1]; exact hL, rfl, y.2⟩⟩) s⟩⟩
end
section
variable {P : Program} {w : World} {K : PySem.W.Frag} {mg : Str → Option Value} {base : Heap}
abbrev rl (a b : Int) : HO := .lst [.int a, .int b]
theorem atI0 {x y : V} : atI [x, y] 0 = some x := rfl
theorem atI1 {x y : V} : atI [x, y] 1 = some y := rfl
theorem small_of {i : Int} {m : Int} (h0 : 0 ≤ i) (h1 : i < m) (hm : m ≤ 2 ^ 64 := by decide) : -(2 ^ 64) < i ∧ i < 2 ^ 64 := by
  have : -(2 ^ 64 : Int) < 0 := by decide
  exact ⟨by omega, by omega⟩
/-! draw -/
def pDraw : Pre := fun vs L Kk => ∃ r m a b F, vs = [.ref r, .int m] ∧ Hole r (rl a b) L F ∧ 0 < m ∧ m < 1073741824 ∧ ∀ d a' b', 0 ≤ d → d < m → Kk (.int d) (F (rl a' b'))
theorem scDraw : FnScope ["_law_rng_here", "_law_many", "_law_digit"] ["_law_rng_here", "_law_many"] (defScope sDraw) := ⟨rfl, rfl, rfl, by decide +kernel, rfl, by decide +kernel, by decide +kernel⟩
theorem okDraw {f C : Addr} {fd : FuncData} (F : Fun K "_law_draw" "_law_draw" sDraw f fd) (T : Txt K mg C) : FnOk P w K mg base CX0 1 f fd ["_law_rng_here", "_law_many"] (SpL pDraw) := by
  refine fnX (Gn := ["divmod", "int"]) F scDraw (by decide +kernel) (fun vs L Kk h => ?_) (fun X e1 e2 e3 e4 e5 hX hr vs L Kk h => ?_)
  · obtain ⟨r, m, a, b, G, rfl, _⟩ := h
    rfl
  · subst e1 e2 e3 e4 e5
    obtain ⟨r, m, a, b, G, rfl, hh, h0, h1, k⟩ := h
    have ml : SqLL X.K r [.int a, .int b] L := fun H hL => SqL.of (hL.at_ _ _ hh.mem)
    walk_at "go"
    refine we_ixL ?_
    walk_at "go"
    refine ⟨r, _, _, _, rfl, rfl, ml, atI0, ?_⟩
    walk_at "go"
    refine ⟨_, rfl, fun z => ?_, fun z => ?_⟩
    · refine wss_cons (ws_asg ?_)
      walk_at "go"
      refine we_ixL ?_
      walk_at "go"
      refine ⟨r, _, _, _, rfl, rfl, ml, atI0, ?_⟩
      walk_at "go"
      refine wc_divmod ⟨h0, h1⟩ fun p => ?_
      refine x_tup (by assumption) .head ?_
      refine wgs_cons (wg_setL ?_)
      walk_at "go"
      refine ⟨r, _, _, 0, _, rfl, rfl, .tail hh, rfl, ?_⟩
      refine wgs_cons (x_tgt (by assumption) (by walk_at "at") (by walk_at "at") ?_)
      refine wgs_nil ?_
      walk_at "go"
      exact ret_sub (k _ _ _ (Int.emod_nonneg _ (by omega)) (Int.emod_lt_of_pos _ h0)) (Sub.of_sublist (.cons _ (.refl _)))
    · walk_at "go"
      refine ws_asg ?_
      walk_at "go"
      refine we_ixL ?_
      walk_at "go"
      refine ⟨r, _, _, _, rfl, rfl, ml, atI1, ?_⟩
      walk_at "go"
      refine wo_mul (.inr ⟨by decide, by decide⟩) ?_
      walk_at "go"
      refine wc_int ?_
      walk_at "go"
      refine wo_mod (by decide) ?_
      refine wg_setL ?_
      walk_at "go"
      refine ⟨r, _, _, 1, _, rfl, rfl, hh, rfl, ?_⟩
      have g : ∀ x : Int, Hole r (rl a x) (G (rl a x)) G := fun x => hh.again _
      walk_at "go"
      refine we_ixL ?_
      walk_at "go"
      refine ⟨r, _, _, _, rfl, rfl, fun H hL => SqL.of (hL.at_ _ _ (g _).mem), atI1, ?_⟩
      walk_at "go"
      refine we_ixL ?_
      walk_at "go"
      refine ⟨r, _, _, _, rfl, rfl, fun H hL => SqL.of (hL.at_ _ _ (g _).mem), atI1, ?_⟩
      refine wo_mul (.inl (small_of (m := 2147483563) (Int.emod_nonneg _ (by decide)) (Int.emod_lt_of_pos _ (by decide)))) ?_
      walk_at "go"
      refine wc_int ?_
      walk_at "go"
      refine wo_mod (by decide) ?_
      walk_at "go"
      refine wo_fdiv ⟨by decide, by decide⟩ ?_
      walk_at "go"
      refine wo_mod h0 ?_
      exact ret_sub (k _ _ _ (Int.emod_nonneg _ (by omega)) (Int.emod_lt_of_pos _ h0)) (Sub.refl _)
/-! rng -/
def pRng (K : PySem.W.Frag) : Pre := fun vs L Kk => ∃ (s : Addr) (k : Nat) (ns : List Int), vs = [.ref s, .int (k : Int)] ∧ k < 100 ∧ SqLL K s (ns.map V.int) L ∧ ∀ p a b, Kk (.ref p) ((p, rl a b) :: L)
theorem scRng : FnScope ["_law_script", "_law_k", "_law_cell"] ["_law_script", "_law_k"] (defScope sRng) := ⟨rfl, rfl, rfl, by decide +kernel, rfl, by decide +kernel, by decide +kernel⟩
theorem okRng {f C : Addr} {fd : FuncData} (F : Fun K "_law_rng" "_law_rng" sRng f fd) (T : Txt K mg C) : FnOk P w K mg base CX0 1 f fd ["_law_script", "_law_k"] (SpL (pRng K)) := by
  refine fnX (Gn := ["len", "max", "abs", "int"]) F scRng (by decide +kernel) (fun vs L Kk h => ?_) (fun X e1 e2 e3 e4 e5 hX hr vs L Kk h => ?_)
  · obtain ⟨s, k, ns, rfl, _⟩ := h
    rfl
  · subst e1 e2 e3 e4 e5
    obtain ⟨s, k, ns, rfl, hk, hs, kk⟩ := h
    have tail : ∀ (c : Int) (σ : L2.St), σ = [some (.ref s), some (.int (k : Int)), some (.int c)] → WSs X (defBody sRng).tail.tail σ L (EndOf Kk) := by
      rintro c σ rfl
      walk_at "go"
      refine wc_abs ?_
      walk_at "go"
      refine wo_pow ⟨by decide, by decide, by decide⟩ ?_
      walk_at "go"
      refine wc_max hX.calm ?_
      walk_at "go"
      refine wc_abs ?_
      walk_at "go"
      refine wc_int ?_
      walk_at "go"
      refine wo_mod (by decide) ?_
      walk_at "go"
      refine wc_int ?_
      walk_at "go"
      refine wo_mul (.inl ⟨by decide, by decide⟩) ?_
      walk_at "go"
      refine wo_pow ⟨by decide, by decide, by omega⟩ ?_
      refine wo_mul (.inl ?_) ?_
      · generalize (if c < 0 then -c else c) = y
        have h0 := Int.emod_nonneg y (show (2147483549 : Int) ≠ 0 by decide)
        have h1 := Int.emod_lt_of_pos y (show (0 : Int) < 2147483549 by decide)
        have : -(2 ^ 64 : Int) < 0 := by decide
        exact ⟨by omega, by omega⟩
      walk_at "go"
      refine wo_mod (by decide) ?_
      walk_at "go"
      refine ⟨show 2 ≤ sizeLine from len_line, fun p => ?_⟩
      exact ret_sub (kk p _ _) (Sub.refl _)
    walk_at "go"
    refine wo_mul (.inl ⟨by decide, by decide⟩) ?_
    walk_at "go"
    refine wc_len hs ?_
    walk_at "go"
    refine ⟨_, rfl, fun z => ?_, fun z => ?_⟩
    · rw [List.length_map] at z
      have hlt : k < ns.length := by have := of_decide_eq_true z; omega
      walk_at "go"
      refine we_ixL ?_
      walk_at "go"
      refine ⟨s, _, _, _, rfl, rfl, hs, atI_nat (v := .int ns[k]) (by rw [List.getElem?_map, List.getElem?_eq_getElem hlt]; rfl), ?_⟩
      refine wss_nil (tail _ _ rfl)
    · exact wss_nil (tail _ _ rfl)
/-! choice -/
def pChoice : Pre := fun vs L Kk => ∃ (r : Addr) (v : V) (a b : Int) (F : HO → LH), vs = [.ref r, v] ∧ Hole r (rl a b) L F ∧
  ((∃ s xs, v = .ref s ∧ (∀ o, Mem s (.lst xs) (F o)) ∧ 0 < xs.length ∧ xs.length < 1000 ∧ ∀ x a' b', x ∈ xs → Kk x (F (rl a' b'))) ∨
   (∃ z : Str, v = .str z ∧ 0 < z.length ∧ z.length < 1000 ∧ ∀ c a' b', c ∈ z.cps.toList → Kk (.str ⟨#[c]⟩) (F (rl a' b'))))
theorem scChoice : FnScope ["_law_rng_here", "_law_some"] ["_law_rng_here", "_law_some"] (defScope sChoice) := ⟨rfl, rfl, rfl, by decide +kernel, rfl, by decide +kernel, by decide +kernel⟩
theorem at_pick {α : Type} {xs : List α} {d : Int} (h0 : 0 ≤ d) (h1 : d < (xs.length : Int)) : ∃ x ∈ xs, atI xs d = some x := by
  obtain ⟨n, rfl⟩ : ∃ n : Nat, d = n := ⟨d.toNat, by omega⟩
  have hn : n < xs.length := by omega
  exact ⟨xs[n], List.getElem_mem hn, atI_nat (List.getElem?_eq_getElem hn)⟩
theorem okChoice {f C : Addr} {fd : FuncData} (F : Fun K "_law_choice" "_law_choice" sChoice f fd) (T : Txt K mg C) (GD : GFn P w K mg base "_law_draw" 1 ["_law_rng_here", "_law_many"] [] pDraw) : FnOk P w K mg base CX0 2 f fd ["_law_rng_here", "_law_some"] (SpL pChoice) := by
  refine fnX (Gn := ["_law_draw", "len"]) F scChoice (by decide +kernel) (fun vs L Kk h => ?_) (fun X e1 e2 e3 e4 e5 hX hr vs L Kk h => ?_)
  · obtain ⟨r, v, a, b, G, rfl, _⟩ := h
    rfl
  · subst e1 e2 e3 e4 e5
    obtain ⟨r, v, a, b, G, rfl, hh, ⟨s, xs, rfl, ms, h0, h1, k⟩ | ⟨z, rfl, h0, h1, k⟩⟩ := h
    · have ms0 : Mem s (.lst xs) L := by
        rw [← hh.self']
        exact ms _
      walk_at "go"
      refine we_ixL ?_
      walk_at "go"
      refine wc_len (.of ms0) ?_
      walk_at "go"
      refine ⟨r, _, a, b, G, rfl, hh, by omega, by omega, fun d a' b' d0 d1 => ?_⟩
      obtain ⟨x, hx, ha⟩ := at_pick d0 d1
      refine ⟨s, _, _, _, rfl, rfl, .of (ms _), ha, ?_⟩
      exact ret_sub (k x a' b' hx) (Sub.refl _)
    · walk_at "go"
      refine we_ixS ?_
      walk_at "go"
      refine wc_lenS (Nat.le_of_lt (len_lt h1)) ?_
      walk_at "go"
      refine ⟨r, _, a, b, G, rfl, hh, by omega, by omega, fun d a' b' d0 d1 => ?_⟩
      obtain ⟨c, hc, ha⟩ := at_pick (xs := z.cps.toList) d0 (by simpa [PySem.Str.length] using d1)
      refine ⟨z, _, c, rfl, rfl, Nat.le_of_lt (len_lt h1), ha, ?_⟩
      exact ret_sub (k c a' b' hc) (Sub.refl _)
/-! number -/
def pNumber : Pre := fun vs L Kk => ∃ (r : Addr) (a b : Int) (F : HO → LH), vs = [.ref r] ∧ Hole r (rl a b) L F ∧ ∀ x a' b', x.natAbs < 2 ^ 100 → Kk (.int x) (F (rl a' b'))
theorem scNumber : FnScope ["_law_rng_here"] ["_law_rng_here"] (defScope sNumber) := ⟨rfl, rfl, rfl, by decide +kernel, rfl, by decide +kernel, by decide +kernel⟩
theorem okNumber {f C : Addr} {fd : FuncData} (F : Fun K "_law_number" "_law_number" sNumber f fd) (T : Txt K mg C) (GC : GFn P w K mg base "_law_choice" 2 ["_law_rng_here", "_law_some"] [] pChoice) : FnOk P w K mg base CX0 3 f fd ["_law_rng_here"] (SpL pNumber) := by
  refine fnX (Gn := ["_law_choice"]) F scNumber (by decide +kernel) (fun vs L Kk h => ?_) (fun X e1 e2 e3 e4 e5 hX hr vs L Kk h => ?_)
  · obtain ⟨r, a, b, G, rfl, _⟩ := h
    rfl
  · subst e1 e2 e3 e4 e5
    obtain ⟨r, a, b, G, rfl, hh, k⟩ := h
    walk_at "go"
    repeat (first | walk_at "n3" | refine wo_pow ⟨by decide, by decide, by decide⟩ ?_)
    refine ⟨show 11 ≤ sizeLine from len_line, fun p => ?_⟩
    walk_at "go"
    refine ⟨r, _, a, b, _, rfl, .tail hh, .inl ⟨p, _, rfl, fun o => .head, by decide, by decide, fun x a' b' hx => ?_⟩⟩
    have px : ∃ i : Int, x = .int i ∧ i.natAbs < 2 ^ 100 := by
      have all : ∀ i ∈ ([0, 0, 1, 1, 2, 3, -1, -2, 7, 10 ^ (27 : Int).toNat, -(10 ^ (27 : Int).toNat) + 1] : List Int), i.natAbs < 2 ^ 100 := by decide +kernel
      obtain ⟨i, hi, e⟩ := List.mem_map.mp (show x ∈ ([0, 0, 1, 1, 2, 3, -1, -2, 7, 10 ^ (27 : Int).toNat, -(10 ^ (27 : Int).toNat) + 1] : List Int).map V.int from hx)
      exact ⟨i, e.symm, all i hi⟩
    obtain ⟨i, rfl, hi⟩ := px
    exact ret_sub (k i a' b' hi) (Sub.of_sublist (.cons _ (.refl _)))
/-! mixed -/
def pMixed : Pre := fun vs L Kk => ∃ (r s : Addr) (ns : List Str) (a b : Int) (F : HO → LH), vs = [.ref r, .ref s] ∧ Hole r (rl a b) L F ∧ (∀ o, Mem s (.lst (ns.map V.str)) (F o)) ∧ ns.length < 1000 ∧ ∀ (q : Addr) (ys : List Str) (a' b' : Int), ys.length = ns.length → (∀ y ∈ ys, y ∈ ns) → Kk (.ref q) ((q, .lst (ys.map V.str)) :: F (rl a' b'))
theorem scMixed : FnScope ["_law_rng_here", "_law_some", "_law_left", "_law_found", "_law_one"] ["_law_rng_here", "_law_some"] (defScope sMixed) := ⟨rfl, rfl, rfl, by decide +kernel, rfl, by decide +kernel, by decide +kernel⟩
theorem map_erase {α β : Type} (f : α → β) : ∀ (l : List α) (n : Nat), (l.eraseIdx n).map f = (l.map f).eraseIdx n
  | [], _ => rfl
  | a :: l, 0 => rfl
  | a :: l, n + 1 => by
    show f a :: (l.eraseIdx n).map f = f a :: (l.map f).eraseIdx n
    rw [map_erase f l n]
theorem seqIx {n : Nat} {d : Nat} (h : d < n) : seqIndex? (d : Int) n = some d := by
  unfold seqIndex?
  simp only []
  split <;> simp <;> omega
theorem okMixed {f C : Addr} {fd : FuncData} (F : Fun K "_law_mixed" "_law_mixed" sMixed f fd) (T : Txt K mg C) (GD : GFn P w K mg base "_law_draw" 1 ["_law_rng_here", "_law_many"] [] pDraw) : FnOk P w K mg base CX0 2 f fd ["_law_rng_here", "_law_some"] (SpL pMixed) := by
  refine fnX (Gn := ["list", "_law_draw", "len"]) F scMixed (by decide +kernel) (fun vs L Kk h => ?_) (fun X e1 e2 e3 e4 e5 hX hr vs L Kk h => ?_)
  · obtain ⟨r, s, ns, a, b, G, rfl, _⟩ := h
    rfl
  · subst e1 e2 e3 e4 e5
    obtain ⟨r, s, ns, a, b, G, rfl, hh, ms, hl, k⟩ := h
    have ms0 : Mem s (.lst (ns.map V.str)) L := by
      rw [← hh.self']
      exact ms _
    refine wss_cons (x_par (by assumption) (by walk_at "at") (by walk_at "at") (by walk_at "at") (by walk_at "at") (by decide) ?_)
    walk_at "go"
    refine wc_listOf (.of ms0) fun lf => ?_
    walk_at "go"
    refine ⟨show 0 ≤ sizeLine from len_line, fun fd => ?_⟩
    refine wss_cons (ws_forW hX.calm hX.pas (wi_list ?_))
    walk_at "go"
    refine ⟨s, _, rfl, .of (.tail (.tail ms0)), fun i σ' L' => ∃ (ls fs : List Str) (a' b' : Int) (u : Option V), ls.length + i = ns.length ∧ fs.length = i ∧ (∀ y ∈ ls, y ∈ ns) ∧ (∀ y ∈ fs, y ∈ ns) ∧ σ' = [some (.ref r), some (.ref s), some (.ref lf), some (.ref fd), u] ∧ L' = (fd, .lst (fs.map V.str)) :: (lf, .lst (ls.map V.str)) :: G (rl a' b'), ?_, ?_, ?_, ?_⟩
    · exact ⟨ns, [], a, b, none, rfl, rfl, fun _ h => h, fun _ h => (List.not_mem_nil h).elim, rfl, by rw [hh.self']; rfl⟩
    · rintro i σ' L' _ ⟨ls, fs, a1, b1, u, l1, l2, s1, s2, rfl, rfl⟩
      exact .of (.tail (.tail (ms _)))
    · rintro i v σ' L' L'' hi ⟨ls, fs, a1, b1, u, l1, l2, s1, s2, rfl, rfl⟩ ⟨rfl, hv⟩
      rw [List.length_map] at hi
      refine x_tgt (by assumption) (by walk_at "at") (by walk_at "at") ?_
      refine wss_cons (ws_expr ?_)
      refine we_append ?_
      walk_at "go"
      refine ⟨fd, _, rfl, .of .head, ?_⟩
      refine we_popAt ?_
      walk_at "go"
      refine ⟨lf, _, rfl, .of (.tail .head), ?_⟩
      walk_at "go"
      refine wc_len (.of (.tail .head)) ?_
      walk_at "go"
      rw [List.length_map]
      refine ⟨r, _, a1, b1, _, rfl, .tail (.tail (hh.again' _)), by omega, by omega, fun d a2 b2 d0 d1 => ?_⟩
      obtain ⟨n, rfl⟩ : ∃ n : Nat, d = n := ⟨d.toNat, by omega⟩
      have hn : n < ls.length := by omega
      refine ⟨ls.map V.str, n, n, .str ls[n], _, rfl, .tail .head, by omega, by omega, seqIx (by rw [List.length_map]; exact hn), by rw [List.getElem?_map, List.getElem?_eq_getElem hn]; rfl, ?_⟩
      refine ⟨fs.map V.str, _, .head, by rw [List.length_map]; exact len_lt (by omega), ?_⟩
      refine wss_nil ⟨_, Sub.refl _, ls.eraseIdx n, fs ++ [ls[n]], a2, b2, _, ?_, by rw [List.length_append, l2]; rfl, fun y hy => s1 y (List.mem_of_mem_eraseIdx hy), fun y hy => ?_, rfl, ?_⟩
      · rw [List.length_eraseIdx, if_pos hn]
        omega
      · rcases List.mem_append.mp hy with h | h
        · exact s2 y h
        · rw [List.mem_singleton.mp h]
          exact s1 _ (List.getElem_mem hn)
      · rw [List.map_append, map_erase]
        rfl
    · rintro σ' L' ⟨ls, fs, a1, b1, u, l1, l2, s1, s2, rfl, rfl⟩
      walk_at "go"
      rw [List.length_map] at l2
      exact ret_sub (k fd fs a1 b1 l2 s2) (Sub.of_sublist (.cons₂ _ (.cons _ (.refl _))))
/-! words -/
theorem glue_all : ∀ (cs : List Nat) (a : Array Nat), ((cs.map fun c => (⟨#[c]⟩ : Str)).foldl (fun acc p => acc ++ ("" : Str).cps ++ p.cps) a).toList = a.toList ++ cs
  | [], a => by simp
  | c :: cs, a => by
    rw [List.map_cons, List.foldl_cons, glue_all cs]
    rw [show ("" : Str).cps = #[] from by decide +kernel]
    simp
theorem join_sg (cs : List Nat) : (Txt.join "" (cs.map fun c => (⟨#[c]⟩ : Str))).cps.toList = cs := by
  unfold Txt.join Builtin.Str.glued
  cases cs with
  | nil => rfl
  | cons c cs =>
    show (List.foldl (fun acc p => acc ++ ("" : Str).cps ++ p.cps) (#[c] : Array Nat) (cs.map fun c => (⟨#[c]⟩ : Str))).toList = _
    rw [glue_all]
    rfl
theorem join_bound (cs : List Nat) (h : cs.length ≤ 100) : ((cs.map fun c => (⟨#[c]⟩ : Str)).map (·.length)).sum + (cs.map fun c => (⟨#[c]⟩ : Str)).length * ("" : Str).length ≤ 16777216 := by
  rw [show ("" : Str).length = 0 by decide +kernel, Nat.mul_zero, Nat.add_zero]
  have : ((cs.map fun c => (⟨#[c]⟩ : Str)).map (·.length)).sum = cs.length := by
    clear h
    induction cs with
    | nil => rfl
    | cons c cs ih =>
      rw [List.map_cons, List.map_cons, List.sum_cons, ih, List.length_cons]
      show 1 + _ = _
      omega
  omega
/-- a letter and at most n signs behind it -/
def Bg (n : Nat) (x : Str) : Prop := ∃ c cs, x.cps.toList = c :: cs ∧ c ∈ LETTERS.cps.toList ∧ (∀ d ∈ cs, d ∈ CHARS.cps.toList) ∧ cs.length ≤ n
theorem let_chars : ∀ c ∈ LETTERS.cps.toList, c ∈ CHARS.cps.toList := by decide +kernel
theorem len_is (x : Str) : x.length = x.cps.toList.length := by simp [PySem.Str.length]
theorem Bg.nm {n : Nat} {x : Str} (h : Bg n x) (hn : n ≤ 7) : Nm x := by
  obtain ⟨c, cs, e, hc, hs, hl⟩ := h
  have l : x.length = cs.length + 1 := by rw [len_is, e]; rfl
  unfold Nm isNm
  rw [e, l]
  simp only [Bool.and_eq_true, decide_eq_true_eq, List.all_eq_true]
  refine ⟨⟨⟨by omega, by omega⟩, hc⟩, fun d hd => ?_⟩
  rcases List.mem_cons.mp hd with h | h
  · rw [h]; exact let_chars c hc
  · exact hs d h
theorem app_cps (a b : Str) : (a ++ b).cps.toList = a.cps.toList ++ b.cps.toList := by
  show (a.cps ++ b.cps).toList = _
  rw [Array.toList_append]
theorem Bg.app {n m : Nat} {x y : Str} (h : Bg n x) (hy : ∀ d ∈ y.cps.toList, d ∈ CHARS.cps.toList) (hl : y.cps.toList.length ≤ m) : Bg (n + m) (x ++ y) := by
  obtain ⟨c, cs, e, hc, hs, hn⟩ := h
  refine ⟨c, cs ++ y.cps.toList, by rw [app_cps, e]; rfl, hc, fun d hd => ?_, by rw [List.length_append]; omega⟩
  rcases List.mem_append.mp hd with h | h
  · exact hs d h
  · exact hy d h
theorem Bg.one {c : Nat} (h : c ∈ LETTERS.cps.toList) : Bg 0 ⟨#[c]⟩ := ⟨c, [], rfl, h, fun _ h => (List.not_mem_nil h).elim, Nat.le_refl _⟩
/-! long -/
def pLong : Pre := fun vs L Kk => ∃ (r : Addr) (a b : Int) (F : HO → LH), vs = [.ref r] ∧ Hole r (rl a b) L F ∧ ∀ x a' b', Nm x → Kk (.str x) (F (rl a' b'))
theorem scLong : FnScope ["_law_rng_here", "_law_letters", "_law_tail", "_law_turn"] ["_law_rng_here"] (defScope sLong) := ⟨rfl, rfl, rfl, by decide +kernel, rfl, by decide +kernel, by decide +kernel⟩
theorem okLong {f C : Addr} {fd : FuncData} (F : Fun K "_law_long" "_law_long" sLong f fd) (T : Txt K mg C) (CH : GFn P w K mg base "_law_choice" 2 ["_law_rng_here", "_law_some"] [] pChoice) : FnOk P w K mg base CX0 3 f fd ["_law_rng_here"] (SpL pLong) := by
  refine fnXCC (Vn := ["_law_rng_here", "_law_letters", "_law_tail"]) (Ln := ["_law_tail"]) (Gn := ["range", "_law_choice"]) F scLong (by decide +kernel) (fun vs L Kk h => ?_) (fun X e1 e2 e3 e4 e5 hX hfn hr vs L Kk h => ?_)
  · obtain ⟨r, a, b, G, rfl, _⟩ := h
    rfl
  · subst e1 e2 e3 e4 e5
    obtain ⟨r, a, b, G, rfl, hh, k⟩ := h
    have zr : X.mg "range" = none := by walk_at "none"
    refine wss_cons (x_setC hX hfn (by walk_at "at") (by decide +kernel) ?_)
    walk_at "go"
    refine x_setLc [("_law_turn", 3)] hX (by walk_at "at") (by walk_at "at") (by decide +kernel) rfl (by decide +kernel) rfl (wi_range (hX.glo (by walk_at "at")).1 zr ?_)
    walk_at "go"
    refine ⟨7, rfl, by decide, by decide, fun D => ⟨fun i L' => ∃ (cs : List Nat) (a' b' : Int), cs.length = i ∧ (∀ c ∈ cs, c ∈ CHARS.cps.toList) ∧ L' = (D, .lst ((cs.map fun c => (⟨#[c]⟩ : Str)).map V.str)) :: G (rl a' b'), ?_, fun _ _ _ _ => True.intro, ?_, ?_⟩⟩
    · exact ⟨[], a, b, rfl, fun _ h => (List.not_mem_nil h).elim, by rw [hh.self']; rfl⟩
    · rintro i v L' L'' hi ⟨cs, a1, b1, hl, hc, rfl⟩ ⟨rfl, rfl⟩
      intro s H' Ca cl fp
      have hB := hX.blk (Vb := ["_law_turn", "_law_rng_here", "_law_letters"]) (Lb := ["_law_turn"]) (Gb := ["_law_choice"]) (scope := ⟨.function, [(".0", .local), ("_law_turn", .local), ("_law_choice", .globalImplicit), ("_law_letters", .free), ("_law_rng_here", .free)], false, false, []⟩) (by decide +kernel)
      refine x_tgt (hB s H' Ca cl fp) (by walk_at "at") (by walk_at "at") ⟨rfl, fun s H' Ca cl fp => ?_⟩
      have hX1 := hB s H' Ca cl fp
      refine x_call hX1 (by walk_at "at") CH (by exact hr.mono (by decide)) ?_
      walk_at "go"
      refine wo_cat (len_line (by decide +kernel)) ?_
      walk_at "go"
      refine ⟨r, _, a1, b1, _, rfl, .tail (hh.again' _), .inr ⟨_, rfl, by decide +kernel, by decide +kernel, fun c a2 b2 hc' => ?_⟩⟩
      have hcc : c ∈ CHARS.cps.toList := by
        have all : ∀ c ∈ (("abcdefghijklmnopqrstuvwxyz" : Str) ++ "0123456789").cps.toList, c ∈ CHARS.cps.toList := by decide +kernel
        exact all c hc'
      refine ⟨_, _, .head, ?_, _, Sub.refl _, cs ++ [c], a2, b2, by rw [List.length_append, hl]; rfl, fun d hd => ?_, ?_⟩
      · rw [List.length_map, List.length_map]
        have : i < 7 := hi
        exact len_lt (by omega)
      · rcases List.mem_append.mp hd with h | h
        · exact hc d h
        · rw [List.mem_singleton.mp h]
          exact hcc
      · rw [List.map_append, List.map_append]
        rfl
    · rintro L' ⟨cs, a1, b1, hl, hc, rfl⟩
      have hl7 : cs.length = 7 := hl
      walk_at "go"
      refine ⟨r, _, a1, b1, _, rfl, .tail (hh.again' _), .inr ⟨_, rfl, by decide +kernel, by decide +kernel, fun c a2 b2 h0 => ?_⟩⟩
      refine we_join ?_
      walk_at "go"
      refine ⟨_, rfl, ?_⟩
      walk_at "go"
      refine ⟨D, _, rfl, .of .head, join_bound cs (by omega), ?_⟩
      have e := join_sg cs
      refine wo_cat ?_ ?_
      · rw [len_is, len_is, e]
        exact len_line (by show 1 + _ ≤ _; omega)
      · exact ret_sub (k _ a2 b2 ((Bg.one h0).app (m := 7) (by rw [e]; exact hc) (by rw [e]; omega) |>.nm (by decide))) (Sub.of_sublist (.cons _ (.refl _)))
end
end K12

set_option Elab.async false
set_option linter.all false
set_option maxRecDepth 100000
set_option maxHeartbeats 4000000
namespace K12
open PySem L2 N3
local macro_rules | `(tactic| walk_at "at") => `(tactic| with_reducible (repeat (first | exact At.head | apply At.tail)))
local macro_rules | `(tactic| walk_at "mem") => `(tactic| with_reducible (repeat (first | exact Mem.head | apply Mem.tail)))
local macro_rules | `(tactic| walk_at "boot") => `(tactic| with_reducible (first | exact boot_isi | exact boot_max | exact boot_min | exact boot_abs | exact boot_len | exact boot_repr | exact boot_divmod | exact boot_all | exact boot_int | exact boot_bool | exact boot_str | exact boot_dict | exact boot_list | exact boot_sorted))
local macro_rules | `(tactic| walk_at "room") => `(tactic| (first | assumption | exact Room.mono (by assumption) (by decide)))
local macro_rules | `(tactic| walk_at "none") => `(tactic| (refine Txt.bn (by assumption) _ ?xz; (case xz => with_reducible (repeat (first | exact InS.head | apply InS.tail)))))
local macro_rules | `(tactic| walk_at "n3") => `(tactic| first
  | with_reducible refine ws_ret ?_
  | with_reducible refine we_int ?_
  | with_reducible refine we_str ?_
  | with_reducible refine we_bool ?_
  | with_reducible refine we_none ?_
  | ((with_reducible refine' x_name ?xo ?xa ?xb ?xc ?_); (case xo => assumption); (case xa => walk_at "at"); (case xb => walk_at "at"); (case xc => rfl))
  | ((with_reducible refine' f_cnt ?xt ?_ ?xh); (case xt => assumption); (case xh => rfl))
  | ((with_reducible refine' we_prop ?xg ?xr ?_ ?xh); (case xg => assumption); (case xr => walk_at "room"); (case xh => rfl))
  | with_reducible refine we_bin ?_
  | with_reducible refine wo_add ?_
  | with_reducible refine wo_sub ?_
  | with_reducible refine wo_lt ?_
  | with_reducible refine wo_gt ?_
  | with_reducible refine wo_le ?_
  | with_reducible refine wo_ge ?_
  | with_reducible refine wu_neg ?_
  | ((with_reducible refine we_cmp ?xh ?_); (case xh => exact nomark _))
  | ((with_reducible refine wt_cmp ?xh ?_); (case xh => exact nomark _))
  | ((with_reducible refine wa_cons ?_ ?xh); (case xh => rfl))
  | with_reducible refine wa_nil ?_
  | with_reducible refine we_and ?_
  | with_reducible refine we_or ?_
  | with_reducible refine we_not ?_
  | with_reducible refine wt_not ?_
  | with_reducible refine we_un ?_
  | with_reducible refine we_one ?_
  | with_reducible refine wt_ww (ww_or ?_)
  | with_reducible refine wt_ww (ww_and ?_)
  | with_reducible refine ww_or ?_
  | with_reducible refine ww_and ?_
  | with_reducible refine ww_or1 ?_
  | with_reducible refine ww_and1 ?_
  | with_reducible refine we_ifExp ?_
  | with_reducible refine ws_if ?_
  | with_reducible refine ws_pass ?_
  | with_reducible refine we_tup ?_
  | with_reducible refine we_lst ?_
  | ((with_reducible refine' x_set ?xo ?xa ?xb ?_ ?xs); (case xo => assumption); (case xa => walk_at "at"); (case xb => walk_at "at"); (case xs => rfl))
  | ((with_reducible refine' x_setF ?_ ?xs); (case xs => rfl))
  | ((with_reducible refine' x_call ?xo ?xa ?xg ?xr ?_ ?xe ?xp); (case xo => assumption); (case xa => walk_at "at"); (case xg => assumption); (case xr => walk_at "room"); (case xe => rfl); (case xp => rfl))
  | ((with_reducible refine' x_callG ?xo ?xa ?xg ?xr ?xd ?_ ?xe ?xp); (case xo => assumption); (case xa => walk_at "at"); (case xg => assumption); (case xr => walk_at "room"); (case xd => assumption); (case xe => rfl); (case xp => rfl))
  | ((with_reducible refine' x_callB ?xo ?xa ?xg ?xr ?_ ?xe ?xp); (case xo => assumption); (case xr => walk_at "boot"); (case xa => walk_at "at"); (case xg => walk_at "none"); (case xe => rfl); (case xp => rfl))
  | ((with_reducible refine' x_callTy ?xo ?xa ?xg ?xr ?_ ?xe ?xp); (case xo => assumption); (case xr => walk_at "boot"); (case xa => walk_at "at"); (case xg => walk_at "none"); (case xe => rfl); (case xp => rfl))
  | ((with_reducible refine' x_bty ?xo ?xa ?xg ?xr ?_); (case xo => assumption); (case xr => walk_at "boot"); (case xa => walk_at "at"); (case xg => walk_at "none"))
  | ((with_reducible refine' x_cls ?xt ?xo ?xa ?_); (case xt => assumption); (case xo => assumption); (case xa => walk_at "at"))
  | ((with_reducible refine' x_make ?xo ?xa ?xg ?xr ?_ ?xe ?xp); (case xo => assumption); (case xa => walk_at "at"); (case xg => assumption); (case xr => walk_at "room"); (case xe => rfl); (case xp => rfl))
  | with_reducible refine wss_nil ?_
  | refine ⟨_, _, _, rfl, (by assumption), ?_⟩
  | refine wss_cons ?_
  | ((with_reducible refine' wt_val ?_ ?xv); (case xv => intro _; rfl)))
local macro_rules | `(tactic| walk_at "go") => `(tactic| repeat walk_at "n3")
section
variable {P : Program} {w : World} {K : PySem.W.Frag} {mg : Str → Option Value} {base : Heap}
/-! names -/
/-- the text of 10 + i -/
def tx (i : Nat) : Str := Str.ofString (toString (10 + (i : Int)))
theorem tx_ok : ∀ i < 90, ((tx i).cps.toList.all (fun c => decide (c ∈ CHARS.cps.toList)) = true) ∧ (tx i).length = 2 := by decide +kernel
theorem tx_nd : ((List.range 90).map fun i => (tx i).cps.toList).Nodup := by decide +kernel
theorem Bg.mono {n m : Nat} {x : Str} (h : Bg n x) (hm : n ≤ m) : Bg m x := by
  obtain ⟨c, cs, e, hc, hs, hl⟩ := h
  exact ⟨c, cs, e, hc, hs, Nat.le_trans hl hm⟩
theorem Bg.tx {n : Nat} {x : Str} (h : Bg n x) {i : Nat} (hi : i < 90) : Bg (n + 2) (x ++ tx i) := by
  obtain ⟨a, b⟩ := tx_ok i hi
  refine h.app (fun d hd => ?_) (by rw [← len_is, b]; exact Nat.le_refl 2)
  rw [List.all_eq_true] at a
  exact of_decide_eq_true (a d hd)
/-- a name and ninety more -/
def spare (x : Str) : List Str := x :: (List.range 90).map fun i => x ++ tx i
theorem spare_len (x : Str) : (spare x).length = 91 := by unfold spare; rw [List.length_cons, List.length_map, List.length_range]
theorem spare_nm {x : Str} (h : Bg 2 x) : ∀ y ∈ spare x, Nm y := by
  intro y hy
  rcases List.mem_cons.mp hy with e | e
  · rw [e]; exact h.nm (by decide)
  · obtain ⟨i, hi, rfl⟩ := List.mem_map.mp e
    exact (h.tx (List.mem_range.mp hi)).nm (by decide)
theorem more_nd (x : Str) : ((List.range 90).map fun i => x ++ tx i).Nodup := by
  have h := tx_nd
  have e : ((List.range 90).map fun i => x ++ tx i).map (fun y : Str => y.cps.toList) = ((List.range 90).map fun i => (tx i).cps.toList).map (x.cps.toList ++ ·) := by
    rw [List.map_map, List.map_map]
    exact List.map_congr_left fun i _ => app_cps _ _
  have n2 : (((List.range 90).map fun i => (tx i).cps.toList).map (x.cps.toList ++ ·)).Nodup := by
    rw [List.nodup_iff_pairwise_ne] at h ⊢
    exact List.pairwise_map.mpr (h.imp fun ne e => ne (List.append_cancel_left e))
  rw [← e, List.nodup_iff_pairwise_ne] at n2
  rw [List.nodup_iff_pairwise_ne]
  exact (List.pairwise_map.mp n2).imp fun ne e => ne (by rw [e])
theorem pigeon : ∀ (l k : List Str), l.Nodup → k.length < l.length → ∃ y ∈ l, y ∉ k
  | [], k, _, h => absurd h (Nat.not_lt_zero _)
  | a :: l, k, nd, h => by
    by_cases ha : a ∈ k
    · obtain ⟨y, hy, hk⟩ := pigeon l (k.erase a) (List.nodup_cons.mp nd).2 (by rw [List.length_erase_of_mem ha]; have : 0 < k.length := List.length_pos_of_mem ha; rw [List.length_cons] at h; omega)
      refine ⟨y, List.mem_cons_of_mem _ hy, fun q => hk ?_⟩
      have ne : y ≠ a := fun e => (List.nodup_cons.mp nd).1 (e ▸ hy)
      exact (List.mem_erase_of_ne ne).mpr q
    · exact ⟨a, List.mem_cons_self, ha⟩
def free (fs ts : List Str) (y : Str) : Bool := !inV (.str y) (fs.map V.str) && !inV (.str y) (ts.map V.str)
theorem inV_str (y : Str) (l : List Str) : inV (.str y) (l.map V.str) = decide (y ∈ l) := by
  induction l with
  | nil => rfl
  | cons a l ih =>
    have e : inV (.str y) ((a :: l).map V.str) = (eqV (.str a) (.str y) || inV (.str y) (l.map V.str)) := rfl
    rw [e, ih]
    by_cases h : y = a
    · subst h
      have : eqV (.str y) (.str y) = true := by simp [eqV]
      rw [this]
      simp
    · have : eqV (.str a) (.str y) = false := by
        have h' : ¬ a = y := fun z => h z.symm
        simp [eqV, h']
      rw [this]
      simp [h]
theorem free_some (x : Str) {fs ts : List Str} (h : fs.length + ts.length < 90) : ∃ y ys, (spare x).filter (free fs ts) = y :: ys := by
  obtain ⟨y, hy, hn⟩ := pigeon _ (fs ++ ts) (more_nd x) (by rw [List.length_map, List.length_range, List.length_append]; exact h)
  have hf : free fs ts y = true := by
    unfold free
    rw [inV_str, inV_str]
    simp only [List.mem_append, not_or] at hn
    simp [hn.1, hn.2]
  have hm : y ∈ (spare x).filter (free fs ts) := List.mem_filter.mpr ⟨List.mem_cons_of_mem _ hy, hf⟩
  cases e : (spare x).filter (free fs ts) with
  | nil => rw [e] at hm; exact (List.not_mem_nil hm).elim
  | cons a l => exact ⟨a, l, rfl⟩
theorem flat_str (l : List Str) : (l.map V.str).all flatV = true := by
  rw [List.all_eq_true]
  intro v hv
  obtain ⟨x, _, rfl⟩ := List.mem_map.mp hv
  rfl
def pNames : Pre := fun vs L Kk => ∃ (r t : Addr) (m : Nat) (ts : List Str) (a b : Int) (F : HO → LH), vs = [.ref r, .int (m : Int), .ref t] ∧ Hole r (rl a b) L F ∧ (∀ o, Mem t (.lst (ts.map V.str)) (F o)) ∧ m < 10 ∧ ts.length < 20 ∧
  ∀ (q : Addr) (ns : List Str) (a' b' : Int), ns.length = m → (∀ y ∈ ns, Nm y) → Kk (.ref q) ((q, .lst (ns.map V.str)) :: F (rl a' b'))
theorem scNames : FnScope ["_law_rng_here", "_law_many", "_law_taken", "_law_found", "_law_k", "_law_size", "_law_name", "_law_spare", "_law_turn", "_law_one"] ["_law_rng_here", "_law_many", "_law_taken"] (defScope sNames) := ⟨rfl, rfl, rfl, by decide +kernel, rfl, by decide +kernel, by decide +kernel⟩
abbrev SIGNS : Str := "abcdefghijkmnopq0123456789"
theorem signs_ok : ∀ c ∈ SIGNS.cps.toList, c ∈ CHARS.cps.toList := by decide +kernel
theorem okNames {f C : Addr} {fd : FuncData} (F : Fun K "_law_names" "_law_names" sNames f fd) (T : Txt K mg C) (GD : GFn P w K mg base "_law_draw" 1 ["_law_rng_here", "_law_many"] [] pDraw) : FnOk P w K mg base CX0 2 f fd ["_law_rng_here", "_law_many", "_law_taken"] (SpL pNames) := by
  refine fnXCC (Vn := ["_law_rng_here", "_law_many", "_law_taken", "_law_found", "_law_k", "_law_size", "_law_name", "_law_spare"]) (Ln := ["_law_many", "_law_k", "_law_size", "_law_spare"]) (Gn := ["range", "_law_draw"]) F scNames (by decide +kernel) (fun vs L Kk h => ?_) (fun X e1 e2 e3 e4 e5 hX hfn hr vs L Kk h => ?_)
  · obtain ⟨r, t, m, ts, a, b, G, rfl, _⟩ := h
    rfl
  · subst e1 e2 e3 e4 e5
    obtain ⟨r, t, m, ts, a, b, G, rfl, hh, mt, hm, hts, k⟩ := h
    have zr : X.mg "range" = none := by walk_at "none"
    have zs : X.mg "str" = none := by walk_at "none"
    refine wss_cons (x_setC hX hfn (by walk_at "at") (by decide +kernel) ?_)
    walk_at "go"
    refine ⟨show 0 ≤ sizeLine from len_line, fun fd => ?_⟩
    refine wss_cons (ws_forW hX.calm hX.pas (wi_range (hX.glo (by walk_at "at")).1 zr ?_))
    walk_at "go"
    refine ⟨m, rfl, by omega, by omega, fun i σ' L' => ∃ (fs : List Str) (a' b' : Int) (u1 u2 u3 u4 : Option V), fs.length = i ∧ (∀ y ∈ fs, Nm y) ∧ σ' = [some (.ref r), some (.int (m : Int)), some (.ref t), some (.ref fd), u1, u2, u3, u4, none, none] ∧ L' = (fd, .lst (fs.map V.str)) :: G (rl a' b'), ?_, fun _ _ _ _ _ => True.intro, ?_, ?_⟩
    · exact ⟨[], a, b, none, none, none, none, rfl, fun _ h => (List.not_mem_nil h).elim, rfl, by rw [hh.self']; rfl⟩
    · rintro i v σ' L' L'' hi ⟨fs, a1, b1, u1, u2, u3, u4, hl, hn, rfl, rfl⟩ ⟨rfl, rfl⟩
      have him : i < m := by simpa using hi
      refine x_tgt (by assumption) (by walk_at "at") (by walk_at "at") ?_
      walk_at "go"
      refine ⟨r, _, a1, b1, _, rfl, .tail (hh.again' _), by decide, by decide, fun sz a2 b2 s0 s1 => ?_⟩
      refine wss_cons (x_setC hX hfn (by walk_at "at") (by decide +kernel) ?_)
      refine we_ixS ?_
      walk_at "go"
      refine ⟨r, _, a2, b2, _, rfl, .tail (hh.again' _), by decide, by decide, fun d a3 b3 d0 d1 => ?_⟩
      obtain ⟨c, hc, ha⟩ := at_pick (xs := LETTERS.cps.toList) d0 (by rw [show LETTERS.cps.toList.length = 26 by decide +kernel]; exact d1)
      refine ⟨LETTERS, _, c, rfl, rfl, len_line (by decide +kernel), ha, ?_⟩
      refine wss_cons (x_setC hX hfn (by walk_at "at") (by decide +kernel) ?_)
      walk_at "go"
      refine we_join ?_
      walk_at "go"
      refine ⟨_, rfl, ?_⟩
      refine x_lc [("_law_turn", 8)] hX (by decide +kernel) (wi_range (hX.glo (by walk_at "at")).1 zr ?_)
      walk_at "go"
      refine ⟨sz, rfl, by omega, by omega, fun D => ⟨fun i L' => ∃ (cs : List Nat) (a' b' : Int), cs.length = i ∧ (∀ c ∈ cs, c ∈ CHARS.cps.toList) ∧ L' = (D, .lst ((cs.map fun c => (⟨#[c]⟩ : Str)).map V.str)) :: (fd, .lst (fs.map V.str)) :: G (rl a' b'), ?_, fun _ _ _ _ => True.intro, ?_, ?_⟩⟩
      · exact ⟨[], a3, b3, rfl, fun _ h => (List.not_mem_nil h).elim, rfl⟩
      · rintro i v L' L'' hi ⟨cs, a1, b1, hl, hc, rfl⟩ ⟨rfl, rfl⟩
        intro s H' Ca cl fp
        have hB := hX.blk (Vb := ["_law_turn", "_law_rng_here"]) (Lb := ["_law_turn"]) (Gb := ["_law_draw"]) (scope := ⟨.function, [(".0", .local), ("_law_turn", .local), ("_law_draw", .globalImplicit), ("_law_rng_here", .free)], false, false, []⟩) (by decide +kernel)
        refine x_tgt (hB s H' Ca cl fp) (by walk_at "at") (by walk_at "at") ⟨rfl, fun s H' Ca cl fp => ?_⟩
        have hX1 := hB s H' Ca cl fp
        refine we_ixS ?_
        walk_at "go"
        refine ⟨r, _, a1, b1, _, rfl, .tail (.tail (hh.again' _)), by decide, by decide, fun d a2 b2 d0 d1 => ?_⟩
        obtain ⟨c, hc', ha⟩ := at_pick (xs := SIGNS.cps.toList) d0 (by rw [show SIGNS.cps.toList.length = 26 by decide +kernel]; exact d1)
        refine ⟨SIGNS, _, c, rfl, rfl, len_line (by decide +kernel), ha, ?_⟩
        refine ⟨_, _, .head, ?_, _, Sub.refl _, cs ++ [c], a2, b2, by rw [List.length_append, hl]; rfl, fun d hd => ?_, ?_⟩
        · rw [List.length_map, List.length_map]
          have : i < sz.toNat := hi
          exact len_lt (by omega)
        · rcases List.mem_append.mp hd with h | h
          · exact hc d h
          · rw [List.mem_singleton.mp h]
            exact signs_ok c hc'
        · rw [List.map_append, List.map_append]
          rfl
      rintro L' ⟨cs, a4, b4, hlc, hcs, rfl⟩
      refine ⟨D, _, rfl, .of .head, join_bound cs (by omega), ?_⟩
      have e := join_sg cs
      have b1' : Bg 2 (⟨#[c]⟩ ++ Txt.join "" (cs.map fun c => (⟨#[c]⟩ : Str))) := ((Bg.one hc).app (m := 2) (by rw [e]; exact hcs) (by rw [e]; omega)).mono (by decide)
      refine wo_cat ?_ ?_
      · rw [len_is, len_is, e]
        exact len_line (by show 1 + _ ≤ _; omega)
      generalize (⟨#[c]⟩ ++ Txt.join "" (cs.map fun c => (⟨#[c]⟩ : Str))) = x at b1'
      have xl : x.length ≤ 8 := (b1'.nm (by decide)).le
      refine wss_sub' (L' := (fd, .lst (fs.map V.str)) :: G (rl a4 b4)) (Sub.of_sublist (.cons _ (.refl _))) ?_
      walk_at "go"
      refine ⟨show 1 ≤ sizeLine from len_line, fun p1 => ?_⟩
      refine x_lc [("_law_turn", 8)] hX (by decide +kernel) (wi_range2 (hX.glo (by walk_at "at")).1 zr ?_)
      walk_at "go"
      refine ⟨10, 100, rfl, by decide, fun D2 => ⟨fun i L' => L' = (D2, .lst (((List.range i).map fun i => x ++ tx i).map V.str)) :: (p1, .lst [.str x]) :: (fd, .lst (fs.map V.str)) :: G (rl a4 b4), rfl, fun _ _ _ _ => True.intro, ?_, ?_⟩⟩
      · rintro i v L' L'' hi rfl ⟨rfl, rfl⟩
        intro s H' Ca cl fp
        have hi90 : i < 90 := hi
        have hB := hX.blk (Vb := ["_law_turn", "_law_name"]) (Lb := ["_law_turn"]) (Gb := ["str"]) (scope := ⟨.function, [(".0", .local), ("_law_turn", .local), ("str", .globalImplicit), ("_law_name", .free)], false, false, []⟩) (by decide +kernel)
        refine x_tgt (hB s H' Ca cl fp) (by walk_at "at") (by walk_at "at") ⟨rfl, fun s H' Ca cl fp => ?_⟩
        have hX1 := hB s H' Ca cl fp
        walk_at "go"
        refine wc_strI ?_ ?_
        · by_cases z : (10 + (i : Int)).natAbs = 0
          · rw [z]; decide
          · exact (Nat.log2_lt z).mpr (Nat.lt_of_lt_of_le (show (10 + (i : Int)).natAbs < 2 ^ 10 by omega) (Nat.pow_le_pow_right (by decide) (by decide)))
        show WO _ _ _ (.str (tx i)) _ _
        refine wo_cat ?_ ?_
        · rw [(tx_ok i hi90).2]
          exact len_line (by omega)
        refine ⟨_, _, .head, ?_, _, Sub.refl _, ?_⟩
        · rw [List.length_map, List.length_map, List.length_range]
          exact len_lt (by omega)
        · show _ = _
          rw [List.range_succ, List.map_append, List.map_append]
          rfl
      rintro L' rfl
      refine wo_catL (.tail .head) .head ?_ fun p2 => ?_
      · rw [List.length_map, List.length_map, List.length_range]
        exact len_line (n := 91)
      refine wss_sub' (L' := (p2, .lst ((spare x).map V.str)) :: (fd, .lst (fs.map V.str)) :: G (rl a4 b4)) (Sub.of_sublist (.cons₂ _ (.cons _ (.cons _ (.refl _))))) ?_
      walk_at "go"
      refine ws_expr ?_
      refine we_append ?_
      walk_at "go"
      refine ⟨fd, _, rfl, .of (.tail .head), ?_⟩
      refine we_ixL ?_
      refine x_lcI [("_law_one", 9)] hX (by decide +kernel) (wi_list ?_)
      walk_at "go"
      refine ⟨p2, _, rfl, .of .head, fun D3 => ⟨fun i L' => L' = (D3, .lst ((((spare x).take i).filter (free fs ts)).map V.str)) :: (p2, .lst ((spare x).map V.str)) :: (fd, .lst (fs.map V.str)) :: G (rl a4 b4), rfl, ?_, ?_, ?_⟩⟩
      · rintro i L' _ rfl
        exact .of (.tail .head)
      · rintro i v L' L'' hi rfl ⟨rfl, hv⟩
        intro s H' Ca cl fp
        obtain ⟨y, hy, rfl⟩ := map_get hv
        have hB := hX.blk (Vb := ["_law_one", "_law_found", "_law_taken"]) (Lb := ["_law_one"]) (Gb := []) (scope := ⟨.function, [(".0", .local), ("_law_one", .local), ("_law_found", .free), ("_law_taken", .free)], false, false, []⟩) (by decide +kernel)
        refine x_tgt (hB s H' Ca cl fp) (by walk_at "at") (by walk_at "at") ⟨rfl, fun s H' Ca cl fp => ?_⟩
        have hX1 := hB s H' Ca cl fp
        walk_at "go"
        have key : ∀ (z1 : Bool), free fs ts y = z1 → (((spare x).take (i + 1)).filter (free fs ts)) = if z1 = true then ((spare x).take i).filter (free fs ts) ++ [y] else ((spare x).take i).filter (free fs ts) := by
          intro z1 e
          rw [filt_take hy, e]
        refine wt_cmp rfl ?_
        walk_at "go"
        refine wo_notInL (.of (.tail (.tail .head))) rfl (flat_str _) ⟨_, rfl, fun z => ?_, fun z => ?_⟩
        · refine ww_and1 (wt_cmp rfl ?_)
          walk_at "go"
          refine wo_notInL (.of (.tail (.tail (.tail (mt _))))) rfl (flat_str _) ⟨_, rfl, fun z2 => ?_, fun z2 => ?_⟩
          · have hf : free fs ts y = true := by unfold free; rw [z, z2]; rfl
            intro s H' Ca cl fp
            have hX2 := hB s H' Ca cl fp
            walk_at "go"
            refine ⟨_, _, .head, ?_, _, Sub.refl _, ?_⟩
            · rw [List.length_map]
              refine len_lt (Nat.lt_of_le_of_lt (List.length_filter_le _ _) (Nat.lt_of_le_of_lt (by rw [List.length_take]; exact Nat.min_le_right _ _) ?_))
              rw [spare_len]
              decide
            · show _ = _
              rw [key _ hf, if_pos rfl, List.map_append]
              rfl
          · have hf : free fs ts y = false := by unfold free; rw [z2, Bool.and_false]
            refine ⟨_, Sub.refl _, ?_⟩
            show _ = _
            rw [key _ hf]
            rfl
        · have hf : free fs ts y = false := by unfold free; rw [z, Bool.false_and]
          refine ⟨fun z => Bool.noConfusion z, fun _ => ⟨_, Sub.refl _, ?_⟩⟩
          show _ = _
          rw [key _ hf]
          rfl
      · rintro L' rfl
        obtain ⟨y, ys, hy⟩ := free_some x (fs := fs) (ts := ts) (by omega)
        have hyn : Nm y := spare_nm b1' y ((List.mem_filter (p := free fs ts)).mp (by rw [hy]; exact List.mem_cons_self)).1
        rw [List.length_map, List.take_length, hy]
        walk_at "go"
        refine ⟨D3, _, 0, .str y, rfl, rfl, .of .head, atI_nat (j := 0) rfl, ?_⟩
        refine ⟨fs.map V.str, _, .tail (.tail .head), by rw [List.length_map]; exact len_lt (by omega), ?_⟩
        refine wss_nil ⟨(fd, .lst ((fs ++ [y]).map V.str)) :: G (rl a4 b4), ?_, fs ++ [y], a4, b4, _, _, _, _, by rw [List.length_append, hl]; rfl, fun u hu => ?_, rfl, rfl⟩
        · rw [List.map_append]
          exact Sub.of_sublist (.cons _ (.cons _ (.refl _)))
        · rcases List.mem_append.mp hu with h | h
          · exact hn u h
          · rw [List.mem_singleton.mp h]
            exact hyn
    · rintro σ' L' ⟨fs, a1, b1, u1, u2, u3, u4, hl, hn, rfl, rfl⟩
      walk_at "go"
      exact ret_sub (k fd fs a1 b1 (by simpa using hl) hn) (Sub.refl _)
end
end K12

set_option Elab.async false
set_option linter.all false
set_option maxRecDepth 100000
set_option maxHeartbeats 4000000
namespace K12
open PySem L2 N3
local macro_rules | `(tactic| walk_at "at") => `(tactic| with_reducible (repeat (first | exact At.head | apply At.tail)))
local macro_rules | `(tactic| walk_at "mem") => `(tactic| with_reducible (repeat (first | exact Mem.head | apply Mem.tail)))
local macro_rules | `(tactic| walk_at "boot") => `(tactic| with_reducible (first | exact boot_isi | exact boot_max | exact boot_min | exact boot_abs | exact boot_len | exact boot_repr | exact boot_divmod | exact boot_all | exact boot_int | exact boot_bool | exact boot_str | exact boot_dict | exact boot_list | exact boot_sorted))
local macro_rules | `(tactic| walk_at "room") => `(tactic| (first | assumption | exact Room.mono (by assumption) (by decide)))
local macro_rules | `(tactic| walk_at "none") => `(tactic| (refine Txt.bn (by assumption) _ ?xz; (case xz => with_reducible (repeat (first | exact InS.head | apply InS.tail)))))
local macro_rules | `(tactic| walk_at "n3") => `(tactic| first
  | with_reducible refine ws_ret ?_
  | with_reducible refine we_int ?_
  | with_reducible refine we_str ?_
  | with_reducible refine we_bool ?_
  | with_reducible refine we_none ?_
  | ((with_reducible refine' x_name ?xo ?xa ?xb ?xc ?_); (case xo => assumption); (case xa => walk_at "at"); (case xb => walk_at "at"); (case xc => rfl))
  | ((with_reducible refine' f_cnt ?xt ?_ ?xh); (case xt => assumption); (case xh => rfl))
  | ((with_reducible refine' we_prop ?xg ?xr ?_ ?xh); (case xg => assumption); (case xr => walk_at "room"); (case xh => rfl))
  | with_reducible refine we_bin ?_
  | with_reducible refine wo_add ?_
  | with_reducible refine wo_sub ?_
  | with_reducible refine wo_lt ?_
  | with_reducible refine wo_gt ?_
  | with_reducible refine wo_le ?_
  | with_reducible refine wo_ge ?_
  | with_reducible refine wu_neg ?_
  | ((with_reducible refine we_cmp ?xh ?_); (case xh => exact nomark _))
  | ((with_reducible refine wt_cmp ?xh ?_); (case xh => exact nomark _))
  | ((with_reducible refine wa_cons ?_ ?xh); (case xh => rfl))
  | with_reducible refine wa_nil ?_
  | with_reducible refine we_and ?_
  | with_reducible refine we_or ?_
  | with_reducible refine we_not ?_
  | with_reducible refine wt_not ?_
  | with_reducible refine we_un ?_
  | with_reducible refine we_one ?_
  | with_reducible refine wt_ww (ww_or ?_)
  | with_reducible refine wt_ww (ww_and ?_)
  | with_reducible refine ww_or ?_
  | with_reducible refine ww_and ?_
  | with_reducible refine ww_or1 ?_
  | with_reducible refine ww_and1 ?_
  | with_reducible refine we_ifExp ?_
  | with_reducible refine ws_if ?_
  | with_reducible refine ws_pass ?_
  | with_reducible refine we_tup ?_
  | with_reducible refine we_lst ?_
  | ((with_reducible refine' x_set ?xo ?xa ?xb ?_ ?xs); (case xo => assumption); (case xa => walk_at "at"); (case xb => walk_at "at"); (case xs => rfl))
  | ((with_reducible refine' x_setF ?_ ?xs); (case xs => rfl))
  | ((with_reducible refine' x_call ?xo ?xa ?xg ?xr ?_ ?xe ?xp); (case xo => assumption); (case xa => walk_at "at"); (case xg => assumption); (case xr => walk_at "room"); (case xe => rfl); (case xp => rfl))
  | ((with_reducible refine' x_callG ?xo ?xa ?xg ?xr ?xd ?_ ?xe ?xp); (case xo => assumption); (case xa => walk_at "at"); (case xg => assumption); (case xr => walk_at "room"); (case xd => assumption); (case xe => rfl); (case xp => rfl))
  | ((with_reducible refine' x_callB ?xo ?xa ?xg ?xr ?_ ?xe ?xp); (case xo => assumption); (case xr => walk_at "boot"); (case xa => walk_at "at"); (case xg => walk_at "none"); (case xe => rfl); (case xp => rfl))
  | ((with_reducible refine' x_callTy ?xo ?xa ?xg ?xr ?_ ?xe ?xp); (case xo => assumption); (case xr => walk_at "boot"); (case xa => walk_at "at"); (case xg => walk_at "none"); (case xe => rfl); (case xp => rfl))
  | ((with_reducible refine' x_bty ?xo ?xa ?xg ?xr ?_); (case xo => assumption); (case xr => walk_at "boot"); (case xa => walk_at "at"); (case xg => walk_at "none"))
  | ((with_reducible refine' x_cls ?xt ?xo ?xa ?_); (case xt => assumption); (case xo => assumption); (case xa => walk_at "at"))
  | ((with_reducible refine' x_make ?xo ?xa ?xg ?xr ?_ ?xe ?xp); (case xo => assumption); (case xa => walk_at "at"); (case xg => assumption); (case xr => walk_at "room"); (case xe => rfl); (case xp => rfl))
  | with_reducible refine wss_nil ?_
  | refine ⟨_, _, _, rfl, (by assumption), ?_⟩
  | refine wss_cons ?_
  | ((with_reducible refine' wt_val ?_ ?xv); (case xv => intro _; rfl)))
local macro_rules | `(tactic| walk_at "go") => `(tactic| repeat walk_at "n3")
/-! pairs that are made, and the dicts of them -/
abbrev Pq := Addr × Str × V
def pO (q : Pq) : Addr × HO := (q.1, .tup [.str q.2.1, q.2.2])
theorem pairs_ok {K : PySem.W.Frag} {qs : List Pq} {L : LH} (h : ∀ q ∈ qs, Mem (pO q).1 (pO q).2 L) : ∀ H, Holds L H → Paired (fun p kv => SqT K H p [kV kv.1, kv.2]) (qs.map (·.1)) (qs.map fun q => ((Sum.inr q.2.1 : Key), q.2.2)) := by
  intro H hL
  induction qs with
  | nil => exact .nil
  | cons q qs ih => exact .cons (SqT.of (hL.get (h q List.mem_cons_self))) (ih fun q hq => h q (List.mem_cons_of_mem _ hq))
theorem mem_rev {qs : List Pq} {L : LH} : ∀ q ∈ qs, Mem (pO q).1 (pO q).2 (qs.reverse.map pO ++ L) := by
  intro q hq
  exact mem_sub (List.mem_append_left _ (List.mem_map.mpr ⟨q, List.mem_reverse.mpr hq, rfl⟩))
def mg (ps : SI) : SI := ps.foldl (fun m p => put m p.1 p.2) []
theorem mg_snoc (ps : SI) (p : Str × Int) : mg (ps ++ [p]) = put (mg ps) p.1 p.2 := by unfold mg; rw [List.foldl_append]; rfl
theorem mg_nodup (ps : SI) : ((mg ps).map (·.1)).Nodup := by
  refine si_ind (motive := fun ps => ((mg ps).map (·.1)).Nodup) List.nodup_nil (fun ps p ih => ?_) ps
  rw [mg_snoc]
  exact nodup_put ih _ _
theorem mem_put' {m : SI} {k : Str} {v : Int} {p : Str × Int} (h : p ∈ put m k v) : p = (k, v) ∨ p ∈ m := by
  unfold put at h
  split at h
  · obtain ⟨q, hq, e⟩ := List.mem_map.mp h
    by_cases z : q.1 = k
    · rw [if_pos z] at e
      exact .inl (by rw [← e, z])
    · rw [if_neg z] at e
      exact .inr (by rw [← e]; exact hq)
  · rcases List.mem_append.mp h with h | h
    · exact .inr h
    · exact .inl (List.mem_singleton.mp h)
theorem mg_mem (ps : SI) : ∀ p ∈ mg ps, p ∈ ps := by
  refine si_ind (motive := fun ps => ∀ p ∈ mg ps, p ∈ ps) (fun p h => (List.not_mem_nil h).elim) (fun ps q ih p hp => ?_) ps
  rw [mg_snoc] at hp
  rcases mem_put' hp with e | h
  · rw [e]; exact List.mem_append_right _ List.mem_cons_self
  · exact List.mem_append_left _ (ih p h)
theorem mg_len (ps : SI) : (mg ps).length ≤ ps.length := by
  refine si_ind (motive := fun ps => (mg ps).length ≤ ps.length) (Nat.le_refl _) (fun ps q ih => ?_) ps
  rw [mg_snoc, List.length_append]
  exact Nat.le_trans (put_len _ _ _) (Nat.succ_le_succ ih)
theorem mg_id (ps : SI) : (ps.map (·.1)).Nodup → mg ps = ps := by
  refine si_ind (motive := fun ps => (ps.map (·.1)).Nodup → mg ps = ps) (fun _ => rfl) (fun ps q ih nd => ?_) ps
  rw [List.map_append, List.nodup_append] at nd
  rw [mg_snoc, ih nd.1, put_new]
  intro hm
  exact nd.2.2 q.1 hm q.1 (by simp) rfl
theorem merge_tk (ps : SI) : mergeK [] (ps.map fun p => ((Sum.inr p.1 : Key), V.int p.2)) = tk (mg ps) := by
  refine si_ind (motive := fun ps => mergeK [] (ps.map fun p => ((Sum.inr p.1 : Key), V.int p.2)) = tk (mg ps)) rfl (fun ps q ih => ?_) ps
  rw [mg_snoc, ← putK_tk, ← ih, List.map_append]
  unfold mergeK
  rw [List.foldl_append]
  rfl
theorem mg_md {ps : SI} (h : ∀ p ∈ ps, Nm p.1) (hl : ps.length < 40) : Md (mg ps) := ⟨mg_nodup ps, fun p hp => h p (mg_mem ps p hp), Nat.lt_of_le_of_lt (mg_len ps) hl⟩
theorem mg_sz {n : Nat} {ps : SI} (h : Sz n ps) : Sz n (mg ps) := fun p hp => h p (mg_mem ps p hp)
/-- the pairs of a list of numbers by names -/
def iq (q : Addr × Str × Int) : Pq := (q.1, q.2.1, .int q.2.2)
theorem iq_kv (qs : List (Addr × Str × Int)) : ((qs.map iq).map fun q => ((Sum.inr q.2.1 : Key), q.2.2)) = (qs.map (·.2)).map fun p => ((Sum.inr p.1 : Key), V.int p.2) := by
  rw [List.map_map, List.map_map]
  rfl
section
variable {P : Program} {w : World} {K : PySem.W.Frag} {mg' : Str → Option Value} {base : Heap}
/-! dict -/
def pDict : Pre := fun vs L Kk => ∃ (r s : Addr) (ns : List Str) (a b : Int) (F : HO → LH), vs = [.ref r, .ref s] ∧ Hole r (rl a b) L F ∧ (∀ o, Mem s (.lst (ns.map V.str)) (F o)) ∧ ns.length < 20 ∧ (∀ y ∈ ns, Nm y) ∧ ∀ (q : Addr) (m : SI) (a' b' : Int), Md m → Sz 100 m → m.length ≤ ns.length → Kk (.ref q) ((q, .dK (tk m)) :: F (rl a' b'))
theorem scDict : FnScope ["_law_rng_here", "_law_names_here", "_law_key"] ["_law_rng_here", "_law_names_here"] (defScope sDict) := ⟨rfl, rfl, rfl, by decide +kernel, rfl, by decide +kernel, by decide +kernel⟩
theorem okDict {f C : Addr} {fd : FuncData} (F : Fun K "_law_dict" "_law_dict" sDict f fd) (T : Txt K mg' C) (GD : GFn P w K mg' base "_law_draw" 1 ["_law_rng_here", "_law_many"] [] pDraw) (GM : GFn P w K mg' base "_law_mixed" 2 ["_law_rng_here", "_law_some"] [] pMixed) (GN : GFn P w K mg' base "_law_number" 3 ["_law_rng_here"] [] pNumber) : FnOk P w K mg' base CX0 4 f fd ["_law_rng_here", "_law_names_here"] (SpL pDict) := by
  refine fnXC (Vn := ["_law_rng_here", "_law_names_here"]) (Ln := ["_law_names_here"]) (Gn := ["dict", "_law_mixed"]) F scDict (by decide +kernel) (fun vs L Kk h => ?_) (fun X e1 e2 e3 e4 e5 hX hr vs L Kk h => ?_)
  · obtain ⟨r, s, ns, a, b, G, rfl, _⟩ := h
    rfl
  · subst e1 e2 e3 e4 e5
    obtain ⟨r, s, ns, a, b, G, rfl, hh, ms, hl, hn, k⟩ := h
    walk_at "go"
    refine x_lcI [("_law_key", 2)] hX (by decide +kernel) (wi_list ?_)
    walk_at "go"
    refine ⟨r, s, ns, a, b, G, rfl, hh, ms, by omega, fun q ys a1 b1 hyl hys => ?_⟩
    refine ⟨q, _, rfl, .of .head, fun D => ⟨fun i L' => ∃ (qs : List (Addr × Str × Int)) (a' b' : Int), qs.length ≤ i ∧ (∀ p ∈ qs, Nm p.2.1 ∧ p.2.2.natAbs < 2 ^ 100) ∧ L' = (qs.map iq).reverse.map pO ++ (D, .lst (qs.map fun p => .ref p.1)) :: (q, .lst (ys.map V.str)) :: G (rl a' b'), ?_, ?_, ?_, ?_⟩⟩
    · exact ⟨[], a1, b1, Nat.le_refl _, fun _ h => (List.not_mem_nil h).elim, rfl⟩
    · rintro i L' _ ⟨qs, a2, b2, l1, l2, rfl⟩
      exact .of ((Mem.tail .head).app _)
    · rintro i v L' L'' hi ⟨qs, a2, b2, l1, l2, rfl⟩ ⟨rfl, hv⟩
      intro s H' Ca cl fp
      obtain ⟨y, hy, rfl⟩ := map_get hv
      have hyn : Nm y := hn y (hys y (List.mem_of_getElem? hy))
      have hi' : i < ns.length := by rw [List.length_map, hyl] at hi; exact hi
      have hB := hX.blk (Vb := ["_law_key", "_law_rng_here"]) (Lb := ["_law_key"]) (Gb := ["_law_draw", "_law_number"]) (scope := ⟨.function, [(".0", .local), ("_law_key", .local), ("_law_draw", .globalImplicit), ("_law_number", .globalImplicit), ("_law_rng_here", .free)], false, false, []⟩) (by decide +kernel)
      refine x_tgt (hB s H' Ca cl fp) (by walk_at "at") (by walk_at "at") ⟨rfl, fun s H' Ca cl fp => ?_⟩
      have hX1 := hB s H' Ca cl fp
      walk_at "go"
      refine ⟨r, 4, a2, b2, _, rfl, (Hole.tail (.tail (hh.again' _))).app _, by decide, by decide, fun d a3 b3 d0 d1 => ?_⟩
      walk_at "go"
      refine ⟨_, rfl, fun z => ?_, fun z => ?_⟩
      · intro s H' Ca cl fp
        have hX2 := hB s H' Ca cl fp
        walk_at "go"
        refine ⟨r, a3, b3, _, rfl, (Hole.tail (.tail (hh.again' _))).app _, fun x a4 b4 hx => ?_⟩
        walk_at "go"
        refine ⟨show 2 ≤ sizeLine from len_line, fun p => ?_⟩
        refine ⟨_, _, .tail (Hole.head.app _), ?_, _, Sub.refl _, qs ++ [(p, y, x)], a4, b4, by rw [List.length_append]; exact Nat.succ_le_succ l1, ?_, ?_⟩
        · rw [List.length_map]
          exact len_lt (by omega)
        · intro u hu
          rcases List.mem_append.mp hu with h | h
          · exact l2 u h
          · rw [List.mem_singleton.mp h]
            exact ⟨hyn, hx⟩
        · rw [List.map_append, List.map_append, List.reverse_append]
          rfl
      · exact ⟨_, Sub.refl _, qs, a3, b3, Nat.le_succ_of_le l1, l2, rfl⟩
    · rintro L' ⟨qs, a2, b2, l1, l2, rfl⟩
      rw [List.length_map, hyl] at l1
      walk_at "go"
      refine wc_dictP (ps := (qs.map iq).map (·.1)) hX.calm (.of (by rw [List.map_map, List.map_map]; exact Mem.head.app _)) (pairs_ok (mem_rev)) fun p => ?_
      rw [iq_kv, merge_tk]
      have hs : Sz 100 (qs.map (·.2)) := fun u hu => by
        obtain ⟨t, ht, rfl⟩ := List.mem_map.mp hu
        exact (l2 t ht).2
      have hnn : ∀ u ∈ qs.map (·.2), Nm u.1 := fun u hu => by
        obtain ⟨t, ht, rfl⟩ := List.mem_map.mp hu
        exact (l2 t ht).1
      refine ret_sub (k p (mg (qs.map (·.2))) a2 b2 (mg_md hnn (by rw [List.length_map]; omega)) (mg_sz hs) (Nat.le_trans (mg_len _) (by rw [List.length_map]; exact l1))) (Sub.of_sublist (.cons₂ _ ?_))
      exact List.Sublist.trans (.cons _ (.cons _ (.refl _))) (List.sublist_append_right _ _)
/-! kept -/
def pKept : Pre := fun vs L Kk => ∃ d m, vs = [.ref d] ∧ Mem d (.dK (tk m)) L ∧ Md m ∧ ∀ q, Kk (.ref q) ((q, .dK (tk (norm m))) :: L)
theorem scKept : FnScope ["_law_model", "_law_key"] ["_law_model"] (defScope sKept) := ⟨rfl, rfl, rfl, by decide +kernel, rfl, by decide +kernel, by decide +kernel⟩
theorem okKept {f C : Addr} {fd : FuncData} (F : Fun K "_law_kept" "_law_kept" sKept f fd) (T : Txt K mg' C) : FnOk P w K mg' base CX0 1 f fd ["_law_model"] (SpL pKept) := by
  refine fnXC (Vn := ["_law_model"]) (Ln := []) (Gn := ["dict", "sorted"]) F scKept (by decide +kernel) (fun vs L Kk h => ?_) (fun X e1 e2 e3 e4 e5 hX hr vs L Kk h => ?_)
  · obtain ⟨d, m, rfl, _⟩ := h
    rfl
  · subst e1 e2 e3 e4 e5
    obtain ⟨d, m, rfl, md, hm, k⟩ := h
    have hu : X.A.units + 1 < cLine := hu1 hr
    walk_at "go"
    refine x_lcI [("_law_key", 1)] hX (by decide +kernel) (wi_list ?_)
    walk_at "go"
    refine wc_sortedD hX.calm (.of md) (tk_keys m) (by rw [List.length_map]; exact Nat.lt_of_lt_of_le hm.ln (by decide)) fun ys p hp hs => ?_
    have nd : ys.Nodup := hp.symm.nodup hm.nd
    have sp : ∀ i, ∀ (y : Str), ys[i]? = some y → ((ys.take (i + 1)).filter fun k => decide (look m k ≠ 0)) = if decide (look m y ≠ 0) = true then ((ys.take i).filter fun k => decide (look m k ≠ 0)) ++ [y] else (ys.take i).filter fun k => decide (look m k ≠ 0) := fun i y hy => filt_take hy
    refine ⟨p, _, rfl, .of .head, fun D => ⟨fun i L' => ∃ (qs : List (Addr × Str × Int)), (qs.map (·.2)) = (((ys.take i).filter fun k => decide (look m k ≠ 0)).map fun k => (k, look m k)) ∧ L' = (qs.map iq).reverse.map pO ++ (D, .lst (qs.map fun p => .ref p.1)) :: (p, .lst (ys.map V.str)) :: L, ?_, ?_, ?_, ?_⟩⟩
    · exact ⟨[], rfl, rfl⟩
    · rintro i L' _ ⟨qs, l1, rfl⟩
      exact .of ((Mem.tail .head).app _)
    · rintro i v' L' L'' hi ⟨qs, l1, rfl⟩ ⟨rfl, hv'⟩
      intro s H' Ca cl fp
      obtain ⟨y, hy, ey⟩ := map_get hv'
      subst ey
      have hmem : y ∈ m.map (·.1) := hp.mem_iff.mp (List.mem_of_getElem? hy)
      obtain ⟨u, hu'⟩ : ∃ u, lookO m y = some u := by
        cases h : lookO m y with
        | some u => exact ⟨u, rfl⟩
        | none => exact absurd hmem (lookO_none.mp h)
      have hlu : look m y = u := by unfold look; rw [hu']; rfl
      have hq : qs.length ≤ i := by
        have := congrArg List.length l1
        rw [List.length_map, List.length_map] at this
        rw [this]
        exact Nat.le_trans (List.length_filter_le _ _) (by rw [List.length_take]; exact Nat.min_le_left _ _)
      have hi40 : i < 40 := by
        rw [List.length_map, hp.length_eq, List.length_map] at hi
        exact Nat.lt_trans hi hm.ln
      have hB := hX.blk (Vb := ["_law_key", "_law_model"]) (Lb := ["_law_key"]) (Gb := []) (scope := ⟨.function, [(".0", .local), ("_law_key", .local), ("_law_model", .free)], false, false, []⟩) (by decide +kernel)
      refine x_tgt (hB s H' Ca cl fp) (by walk_at "at") (by walk_at "at") ⟨rfl, fun s H' Ca cl fp => ?_⟩
      have hX1 := hB s H' Ca cl fp
      walk_at "go"
      refine we_dget (X := X.blk s H' _ (compEnvC _ cl Ca X.env) fp) hu ?_
      walk_at "go"
      refine ⟨d, .int u, rfl, .s (.of (Mem.app (.tail (.tail md)) _)) (by rw [valV_tk, hu']; rfl), ?_⟩
      walk_at "go"
      refine wo_ne rfl ⟨_, rfl, fun z => ?_, fun z => ?_⟩
      · have u0 : ¬ u = 0 := fun q => by rw [q, decide_eq_true rfl] at z; cases z
        intro s H' Ca cl fp
        have hX2 := hB s H' Ca cl fp
        walk_at "go"
        refine we_dget (X := X.blk s H' _ (compEnvC _ cl Ca X.env) fp) hu ?_
        walk_at "go"
        refine ⟨d, .int u, rfl, .s (.of (Mem.app (.tail (.tail md)) _)) (by rw [valV_tk, hu']; rfl), ?_⟩
        walk_at "go"
        refine ⟨show 2 ≤ sizeLine from len_line, fun t => ?_⟩
        refine ⟨_, _, .tail (Hole.head.app _), ?_, _, Sub.refl _, qs ++ [(t, y, u)], ?_, ?_⟩
        · rw [List.length_map]
          exact len_lt (by omega)
        · rw [sp i y hy, hlu, if_pos (decide_eq_true u0), List.map_append, List.map_append, l1]
          simp [hlu]
        · rw [List.map_append, List.map_append, List.reverse_append]
          rfl
      · have u0 : u = 0 := by
          by_cases q : u = 0
          · exact q
          · rw [decide_eq_false (fun e => q (V.int.inj e))] at z
            cases z
        refine ⟨_, Sub.refl _, qs, ?_, rfl⟩
        rw [sp i y hy, hlu, if_neg (by simp [u0]), l1]
    · rintro L' ⟨qs, l1, rfl⟩
      rw [List.length_map, List.take_length, pick_norm hm.nd hp hs] at l1
      walk_at "go"
      refine wc_dictP (ps := (qs.map iq).map (·.1)) hX.calm (.of (by rw [List.map_map, List.map_map]; exact Mem.head.app _)) (pairs_ok (mem_rev)) fun p => ?_
      rw [iq_kv, merge_tk, l1, mg_id _ (norm_can hm.nd).nd]
      refine ret_sub (k p) (Sub.of_sublist (.cons₂ _ ?_))
      exact List.Sublist.trans (.cons _ (.cons _ (.refl _))) (List.sublist_append_right _ _)
end
end K12

set_option Elab.async false
set_option linter.all false
set_option maxRecDepth 100000
set_option maxHeartbeats 4000000
namespace K12
open PySem L2 N3
local macro_rules | `(tactic| walk_at "at") => `(tactic| with_reducible (repeat (first | exact At.head | apply At.tail)))
local macro_rules | `(tactic| walk_at "mem") => `(tactic| with_reducible (repeat (first | exact Mem.head | apply Mem.tail)))
local macro_rules | `(tactic| walk_at "boot") => `(tactic| with_reducible (first | exact boot_isi | exact boot_max | exact boot_min | exact boot_abs | exact boot_len | exact boot_repr | exact boot_divmod | exact boot_all | exact boot_int | exact boot_bool | exact boot_str | exact boot_dict | exact boot_list | exact boot_sorted))
local macro_rules | `(tactic| walk_at "room") => `(tactic| (first | assumption | exact Room.mono (by assumption) (by decide)))
local macro_rules | `(tactic| walk_at "none") => `(tactic| (refine Txt.bn (by assumption) _ ?xz; (case xz => with_reducible (repeat (first | exact InS.head | apply InS.tail)))))
local macro_rules | `(tactic| walk_at "n3") => `(tactic| first
  | with_reducible refine ws_ret ?_
  | with_reducible refine we_int ?_
  | with_reducible refine we_str ?_
  | with_reducible refine we_bool ?_
  | with_reducible refine we_none ?_
  | ((with_reducible refine' x_name ?xo ?xa ?xb ?xc ?_); (case xo => assumption); (case xa => walk_at "at"); (case xb => walk_at "at"); (case xc => rfl))
  | ((with_reducible refine' f_cnt ?xt ?_ ?xh); (case xt => assumption); (case xh => rfl))
  | ((with_reducible refine' we_prop ?xg ?xr ?_ ?xh); (case xg => assumption); (case xr => walk_at "room"); (case xh => rfl))
  | with_reducible refine we_bin ?_
  | with_reducible refine wo_add ?_
  | with_reducible refine wo_sub ?_
  | with_reducible refine wo_lt ?_
  | with_reducible refine wo_gt ?_
  | with_reducible refine wo_le ?_
  | with_reducible refine wo_ge ?_
  | with_reducible refine wu_neg ?_
  | ((with_reducible refine we_cmp ?xh ?_); (case xh => exact nomark _))
  | ((with_reducible refine wt_cmp ?xh ?_); (case xh => exact nomark _))
  | ((with_reducible refine wa_cons ?_ ?xh); (case xh => rfl))
  | with_reducible refine wa_nil ?_
  | with_reducible refine we_and ?_
  | with_reducible refine we_or ?_
  | with_reducible refine we_not ?_
  | with_reducible refine wt_not ?_
  | with_reducible refine we_un ?_
  | with_reducible refine we_one ?_
  | with_reducible refine wt_ww (ww_or ?_)
  | with_reducible refine wt_ww (ww_and ?_)
  | with_reducible refine ww_or ?_
  | with_reducible refine ww_and ?_
  | with_reducible refine ww_or1 ?_
  | with_reducible refine ww_and1 ?_
  | with_reducible refine we_ifExp ?_
  | with_reducible refine ws_if ?_
  | with_reducible refine ws_pass ?_
  | with_reducible refine we_tup ?_
  | with_reducible refine we_lst ?_
  | ((with_reducible refine' x_set ?xo ?xa ?xb ?_ ?xs); (case xo => assumption); (case xa => walk_at "at"); (case xb => walk_at "at"); (case xs => rfl))
  | ((with_reducible refine' x_setF ?_ ?xs); (case xs => rfl))
  | ((with_reducible refine' x_call ?xo ?xa ?xg ?xr ?_ ?xe ?xp); (case xo => assumption); (case xa => walk_at "at"); (case xg => assumption); (case xr => walk_at "room"); (case xe => rfl); (case xp => rfl))
  | ((with_reducible refine' x_callG ?xo ?xa ?xg ?xr ?xd ?_ ?xe ?xp); (case xo => assumption); (case xa => walk_at "at"); (case xg => assumption); (case xr => walk_at "room"); (case xd => assumption); (case xe => rfl); (case xp => rfl))
  | ((with_reducible refine' x_callB ?xo ?xa ?xg ?xr ?_ ?xe ?xp); (case xo => assumption); (case xr => walk_at "boot"); (case xa => walk_at "at"); (case xg => walk_at "none"); (case xe => rfl); (case xp => rfl))
  | ((with_reducible refine' x_callTy ?xo ?xa ?xg ?xr ?_ ?xe ?xp); (case xo => assumption); (case xr => walk_at "boot"); (case xa => walk_at "at"); (case xg => walk_at "none"); (case xe => rfl); (case xp => rfl))
  | ((with_reducible refine' x_bty ?xo ?xa ?xg ?xr ?_); (case xo => assumption); (case xr => walk_at "boot"); (case xa => walk_at "at"); (case xg => walk_at "none"))
  | ((with_reducible refine' x_cls ?xt ?xo ?xa ?_); (case xt => assumption); (case xo => assumption); (case xa => walk_at "at"))
  | ((with_reducible refine' x_make ?xo ?xa ?xg ?xr ?_ ?xe ?xp); (case xo => assumption); (case xa => walk_at "at"); (case xg => assumption); (case xr => walk_at "room"); (case xe => rfl); (case xp => rfl))
  | with_reducible refine wss_nil ?_
  | refine ⟨_, _, _, rfl, (by assumption), ?_⟩
  | refine wss_cons ?_
  | ((with_reducible refine' wt_val ?_ ?xv); (case xv => intro _; rfl)))
local macro_rules | `(tactic| walk_at "go") => `(tactic| repeat walk_at "n3")
/-! together, renamed: what they come to -/
def togM (m r : SI) (t : Int) : SI := r.foldl (fun f p => put f p.1 (look f p.1 + t * p.2)) m
theorem togM_snoc (m r : SI) (t : Int) (p : Str × Int) : togM m (r ++ [p]) t = put (togM m r t) p.1 (look (togM m r t) p.1 + t * p.2) := by unfold togM; rw [List.foldl_append]; rfl
theorem togM_nd {m : SI} (nd : (m.map (·.1)).Nodup) (r : SI) (t : Int) : ((togM m r t).map (·.1)).Nodup := by
  refine si_ind (motive := fun r => ((togM m r t).map (·.1)).Nodup) nd (fun r p ih => ?_) r
  rw [togM_snoc]
  exact nodup_put ih _ _
theorem togM_keys (m r : SI) (t : Int) : ∀ j, j ∈ (togM m r t).map (·.1) ↔ j ∈ m.map (·.1) ∨ j ∈ r.map (·.1) := by
  refine si_ind (motive := fun r => ∀ j, j ∈ (togM m r t).map (·.1) ↔ j ∈ m.map (·.1) ∨ j ∈ r.map (·.1)) (fun j => by simp [togM]) (fun r p ih j => ?_) r
  rw [togM_snoc, mem_put, ih]
  simp only [List.map_append, List.mem_append, List.map_cons, List.map_nil, List.mem_singleton]
  constructor
  · rintro ((a | a) | a)
    · exact .inl a
    · exact .inr (.inl a)
    · exact .inr (.inr a)
  · rintro (a | a | a)
    · exact .inl (.inl a)
    · exact .inl (.inr a)
    · exact .inr a
theorem togM_len (m r : SI) (t : Int) : (togM m r t).length ≤ m.length + r.length := by
  refine si_ind (motive := fun r => (togM m r t).length ≤ m.length + r.length) (Nat.le_refl _) (fun r p ih => ?_) r
  rw [togM_snoc, List.length_append]
  exact Nat.le_trans (put_len _ _ _) (Nat.succ_le_succ ih)
theorem look_snoc (r : SI) (p : Str × Int) (j : Str) : look (r ++ [p]) j = if j ∈ r.map (·.1) then look r j else if p.1 = j then p.2 else 0 := by
  induction r with
  | nil => rw [List.nil_append, look_cons]; simp; rfl
  | cons q r ih =>
    rw [List.cons_append, look_cons]
    by_cases h : q.1 = j
    · rw [List.map_cons, if_pos h, if_pos (by rw [h]; exact List.mem_cons_self), look_cons, if_pos h]
    · rw [if_neg h, ih]
      by_cases z : j ∈ r.map (·.1)
      · rw [List.map_cons, if_pos z, if_pos (List.mem_cons_of_mem _ z), look_cons, if_neg h]
      · rw [List.map_cons, if_neg z, if_neg (c := j ∈ q.1 :: r.map (·.1)) (by rw [List.mem_cons, not_or]; exact ⟨fun e => h e.symm, z⟩)]
theorem togM_look (m : SI) (t : Int) (r : SI) : (r.map (·.1)).Nodup → ∀ j, look (togM m r t) j = look m j + t * look r j := by
  refine si_ind (motive := fun r => (r.map (·.1)).Nodup → ∀ j, look (togM m r t) j = look m j + t * look r j) (fun _ j => by show look m j = look m j + t * 0; omega) (fun r p ih nd j => ?_) r
  rw [List.map_append, List.nodup_append] at nd
  have ih := ih nd.1
  have hp : p.1 ∉ r.map (·.1) := fun hm => nd.2.2 p.1 hm p.1 (by simp) rfl
  rw [togM_snoc, look_put, look_snoc]
  by_cases e : j = p.1
  · subst e
    rw [if_pos rfl, ih, look_out hp, if_neg hp, if_pos rfl, Int.mul_zero, Int.add_zero]
  · rw [if_neg e, ih]
    by_cases z : j ∈ r.map (·.1)
    · rw [if_pos z]
    · rw [if_neg z, if_neg (fun q => e q.symm), look_out z]
theorem norm_tog {a b : SI} (ha : (a.map (·.1)).Nodup) (hb : (b.map (·.1)).Nodup) (t : Int) {g : Int → Int → Int} (hg : ∀ x y, g x y = x + t * y) :
    norm (fp (keys (norm a) ++ keys (norm b)) fun k => g (look (norm a) k) (look (norm b) k)) = norm (togM a b t) := by
  refine norm_congr (fp_nd _ _) (togM_nd ha _ _) fun j => ?_
  rw [fp_look, togM_look _ _ _ hb]
  split
  · rw [hg, norm_look ha, norm_look hb]
  · rename_i h
    rw [List.mem_append, not_or] at h
    have h1 : look a j = 0 := by rw [← norm_look ha]; exact look_out h.1
    have h2 : look b j = 0 := by rw [← norm_look hb]; exact look_out h.2
    rw [h1, h2]
    simp
theorem norm_mul {a : SI} (ha : (a.map (·.1)).Nodup) (n : Int) : norm (mulM (norm a) n) = norm (togM [] a n) := by
  refine norm_congr (by rw [mulM_keys]; exact (norm_can ha).nd) (togM_nd (show (([] : SI).map (·.1)).Nodup from List.nodup_nil) _ _) fun j => ?_
  rw [mulM_look, togM_look _ _ _ ha, norm_look ha, show look [] j = 0 from rfl, Int.zero_add, Int.mul_comm]
/-- what comes to a key -/
def into (nm : List (Str × Str)) (r : SI) (j : Str) : Int := (r.map fun p => if nmOf nm p.1 = j then p.2 else 0).sum
theorem into_append (nm : List (Str × Str)) (r s : SI) (j : Str) : into nm (r ++ s) j = into nm r j + into nm s j := by
  unfold into
  rw [List.map_append, List.sum_append]
theorem renM_look (nm : List (Str × Str)) (r : SI) : ∀ j, look (renM nm r) j = into nm r j := by
  refine si_ind (motive := fun r => ∀ j, look (renM nm r) j = into nm r j) (fun j => rfl) (fun r p ih j => ?_) r
  rw [renM_snoc, look_put, into_append, ih, ih]
  have e : into nm [p] j = if nmOf nm p.1 = j then p.2 else 0 := by simp [into]
  rw [e]
  by_cases h : j = nmOf nm p.1
  · rw [if_pos h, if_pos h.symm, h]
  · rw [if_neg h, if_neg fun z => h z.symm, Int.add_zero]
theorem insK_sum (f : Str × Int → Int) (p : Str × Int) : ∀ r : SI, ((insK p r).map f).sum = f p + (r.map f).sum
  | [] => by simp [insK]
  | q :: r => by
    unfold insK
    split
    · simp
    · rw [List.map_cons, List.sum_cons, insK_sum f p r, List.map_cons, List.sum_cons]
      omega
theorem norm_sum (f : Str × Int → Int) (hf : ∀ k, f (k, 0) = 0) : ∀ m : SI, ((norm m).map f).sum = (m.map f).sum
  | [] => rfl
  | p :: m => by
    have ih := norm_sum f hf m
    unfold norm at ih ⊢
    by_cases h : p.2 = 0
    · rw [List.filter_cons, if_neg (by simp [h]), ih, List.map_cons, List.sum_cons]
      have : f p = 0 := by
        obtain ⟨k, v⟩ := p
        cases (show v = 0 from h)
        exact hf k
      omega
    · rw [List.filter_cons, if_pos (by simp [h]), List.foldr_cons, insK_sum, ih, List.map_cons, List.sum_cons]
theorem norm_ren (nm : List (Str × Str)) {a : SI} : norm (renM nm (norm a)) = norm (renM nm a) := by
  refine norm_congr (renM_nd _ _) (renM_nd _ _) fun j => ?_
  rw [renM_look, renM_look]
  unfold into
  exact norm_sum _ (fun k => by show (if nmOf nm k = j then (0 : Int) else 0) = 0; split <;> rfl) a
/-! sizes -/
theorem put_sz {n : Nat} {m : SI} (h : Sz n m) {k : Str} {v : Int} (hv : v.natAbs < 2 ^ n) : Sz n (put m k v) := fun p hp => by
  rcases mem_put' hp with e | e
  · rw [e]; exact hv
  · exact h p e
theorem look_sz {n : Nat} {m : SI} (h : Sz n m) (k : Str) : (look m k).natAbs < 2 ^ n := by
  unfold look
  cases e : lookO m k with
  | none => exact Nat.pow_pos (by decide)
  | some v => exact h _ (lookO_get e)
theorem Sz.mono {n k : Nat} {m : SI} (h : Sz n m) (hk : n ≤ k) : Sz k m := fun p hp => Nat.lt_of_lt_of_le (h p hp) (Nat.pow_le_pow_right (by decide) hk)
theorem norm_mem' (m : SI) : ∀ p ∈ norm m, p ∈ m := by
  induction m with
  | nil => intro p hp; exact hp
  | cons q m ih =>
    intro p hp
    unfold norm at hp ih
    rw [List.filter_cons] at hp
    split at hp
    · rw [List.foldr_cons] at hp
      rcases insK_mem _ _ _ hp with e | e
      · rw [e]; exact List.mem_cons_self
      · exact List.mem_cons_of_mem _ (ih p e)
    · exact List.mem_cons_of_mem _ (ih p hp)
theorem norm_sz {n : Nat} {m : SI} (h : Sz n m) : Sz n (norm m) := fun p hp => h p (norm_mem' m p hp)
theorem togM_sz {n k : Nat} {m r : SI} {t : Int} (hm : Sz n m) (hr : Sz n r) (md : (m.map (·.1)).Nodup) (nd : (r.map (·.1)).Nodup) (ht : t.natAbs < 2 ^ k) : Sz (n + k + 1) (togM m r t) := by
  intro p hp
  have e2 := lookO_mem (togM_nd md r t) hp
  have e3 : look (togM m r t) p.1 = p.2 := by unfold look; rw [e2]; rfl
  rw [← e3, togM_look _ _ _ nd]
  have a := look_sz hm p.1
  have b := look_sz hr p.1
  generalize look m p.1 = x at *
  generalize look r p.1 = y at *
  have h1 : (t * y).natAbs < 2 ^ (n + k) := by
    rw [Int.natAbs_mul, Nat.pow_add, Nat.mul_comm (2 ^ n)]
    exact Nat.mul_lt_mul'' ht b
  have h2 : (2 : Nat) ^ n ≤ 2 ^ (n + k) := Nat.pow_le_pow_right (by decide) (Nat.le_add_right _ _)
  have h3 : (2 : Nat) ^ (n + k + 1) = 2 ^ (n + k) * 2 := Nat.pow_succ ..
  omega
theorem into_sz {n : Nat} (nm : List (Str × Str)) (j : Str) : ∀ {r : SI}, Sz n r → (into nm r j).natAbs ≤ r.length * 2 ^ n
  | [], _ => by simp [into]
  | p :: r, h => by
    have ih := into_sz nm j (r := r) fun q hq => h q (List.mem_cons_of_mem _ hq)
    have e : into nm (p :: r) j = (if nmOf nm p.1 = j then p.2 else 0) + into nm r j := by unfold into; rw [List.map_cons, List.sum_cons]
    have hp := h p List.mem_cons_self
    rw [e, List.length_cons, Nat.succ_mul]
    have : (if nmOf nm p.1 = j then p.2 else 0).natAbs ≤ 2 ^ n := by split <;> omega
    omega
theorem renM_sz {n : Nat} (nm : List (Str × Str)) {r : SI} (h : Sz n r) (hl : r.length < 20) : Sz (n + 5) (renM nm r) := by
  intro p hp
  have e2 := lookO_mem (renM_nd nm r) hp
  have e3 : look (renM nm r) p.1 = p.2 := by unfold look; rw [e2]; rfl
  rw [← e3, renM_look]
  refine Nat.lt_of_le_of_lt (into_sz nm _ h) ?_
  rw [Nat.pow_add, Nat.mul_comm]
  exact Nat.mul_lt_mul_of_pos_left (Nat.lt_of_lt_of_le hl (by decide)) (Nat.pow_pos (by decide))
section
variable {P : Program} {w : World} {K : PySem.W.Frag} {mg' : Str → Option Value} {base : Heap}
/-! together -/
def pTog : Pre := fun vs L Kk => ∃ d e m r t, vs = [.ref d, .ref e, .int t] ∧ Mem d (.dK (tk m)) L ∧ Mem e (.dK (tk r)) L ∧ (r.map (·.1)).Nodup ∧ m.length + r.length < 1000 ∧ -(2 ^ 64) < t ∧ t < 2 ^ 64 ∧ ∀ q, Kk (.ref q) ((q, .dK (tk (togM m r t))) :: L)
theorem scTog : FnScope ["_law_one", "_law_other", "_law_times", "_law_found", "_law_key", "_law_number_here"] ["_law_one", "_law_other", "_law_times"] (defScope sTog) := ⟨rfl, rfl, rfl, by decide +kernel, rfl, by decide +kernel, by decide +kernel⟩
theorem okTog {f C : Addr} {fd : FuncData} (F : Fun K "_law_together" "_law_together" sTog f fd) (T : Txt K mg' C) : FnOk P w K mg' base CX0 1 f fd ["_law_one", "_law_other", "_law_times"] (SpL pTog) := by
  refine fnX (Gn := ["dict"]) F scTog (by decide +kernel) (fun vs L Kk h => ?_) (fun X e1 e2 e3 e4 e5 hX hr vs L Kk h => ?_)
  · obtain ⟨d, e, m, r, t, rfl, _⟩ := h
    rfl
  · subst e1 e2 e3 e4 e5
    obtain ⟨d, e, m, r, t, rfl, md, me, nd, hl, t0, t1, k⟩ := h
    walk_at "go"
    refine wc_dictD (.of md) fun cd => ?_
    obtain ⟨G, hf, other⟩ := me.hole
    refine wss_cons (ws_lock (.tail hf) True.intro fun od => ?_)
    have hh := hf.again' (.frz od (.dK (tk r)))
    refine ws_forW hX.calm hX.pas (wi_items ?_)
    walk_at "go"
    refine ⟨e, od, tk r, rfl, .tail hh.mm, fun i σ' L' => (∃ a b, σ' = [some (.ref d), some (.ref e), some (.int t), some (.ref cd), a, b]) ∧ L' = (cd, .dK (tk (togM m (r.take i) t))) :: G (.frz od (.dK (tk r))), ⟨⟨_, _, rfl⟩, rfl⟩, ?_, ?_, ?_⟩
    · rintro i σ' L' _ ⟨_, rfl⟩
      exact .tail hh.mm
    · rintro i v σ' L' L'' hi ⟨⟨a, b, rfl⟩, rfl⟩ ⟨T0, x, y, rfl, rfl, hx, hy⟩
      obtain ⟨q, hq, eq⟩ := map_get (show ((tk r).map fun kv => kV kv.1)[i]? = some x by rw [List.getElem?_map]; exact hx)
      obtain ⟨q', hq', eq'⟩ := map_get (show ((tk r).map Prod.snd)[i]? = some y by rw [List.getElem?_map]; exact hy)
      obtain ⟨p, hp, ep⟩ := map_get hq
      rw [hq] at hq'
      cases hq'
      subst ep eq eq'
      refine x_tup (by assumption) .head ?_
      refine wgs_cons (x_tgt (by assumption) (by walk_at "at") (by walk_at "at") ?_)
      refine wgs_cons (x_tgt (by assumption) (by walk_at "at") (by walk_at "at") ?_)
      refine wgs_nil ?_
      refine wss_cons (ws_dput (hu1 hr) ?_)
      walk_at "go"
      refine we_dget2 (hu1 hr) ?_
      walk_at "go"
      refine ⟨cd, _, rfl, .of (.tail .head), ?_⟩
      walk_at "go"
      refine ⟨_, .s (x := p.1) (.of (.tail .head)) (valV_tk _ _), ?_⟩
      have e2 : ((lookO (togM m (r.take i) t) p.1).map V.int).getD (V.int 0) = V.int (look (togM m (r.take i) t) p.1) := by
        unfold look
        cases lookO (togM m (r.take i) t) p.1 <;> rfl
      rw [e2]
      walk_at "go"
      refine wo_mul (.inl ⟨t0, t1⟩) ?_
      walk_at "go"
      refine ⟨cd, _, .inr p.1, _, rfl, rfl, .tail .head, ?_, ?_⟩
      · rw [tk_len]
        refine len_lt (Nat.lt_of_le_of_lt (togM_len _ _ _) (Nat.lt_of_le_of_lt (Nat.add_le_add_left ?_ _) hl))
        rw [List.length_take]
        exact Nat.min_le_right _ _
      refine wss_nil ⟨_, Sub.of_sublist (.cons _ (.refl _)), ⟨_, _, rfl⟩, ?_⟩
      rw [putK_tk, List.take_add_one, hp, show (some p).toList = [p] from rfl, togM_snoc]
    · rintro σ' L' ⟨⟨a, b, rfl⟩, rfl⟩
      rw [tk_len, List.take_length]
      refine ⟨_, .tail hh, ?_⟩
      rw [hf.self']
      walk_at "go"
      exact ret_sub (k cd) (Sub.refl _)
/-! renamed -/
def pLRen : Pre := fun vs L Kk => ∃ d q r nm, vs = [.ref d, .ref q] ∧ Mem d (.dK (tk r)) L ∧ Mem q (.dK (tn nm)) L ∧ r.length < 1000 ∧ ∀ p, Kk (.ref p) ((p, .dK (tk (renM nm r))) :: L)
theorem scLRen : FnScope ["_law_model", "_law_names_here", "_law_found", "_law_key", "_law_number_here"] ["_law_model", "_law_names_here"] (defScope sLRen) := ⟨rfl, rfl, rfl, by decide +kernel, rfl, by decide +kernel, by decide +kernel⟩
theorem okLRen {f C : Addr} {fd : FuncData} (F : Fun K "_law_renamed" "_law_renamed" sLRen f fd) (T : Txt K mg' C) : FnOk P w K mg' base CX0 1 f fd ["_law_model", "_law_names_here"] (SpL pLRen) := by
  refine fnX (Gn := []) F scLRen (by decide +kernel) (fun vs L Kk h => ?_) (fun X e1 e2 e3 e4 e5 hX hr vs L Kk h => ?_)
  · obtain ⟨d, q, r, nm, rfl, _⟩ := h
    rfl
  · subst e1 e2 e3 e4 e5
    obtain ⟨d, q, r, nm, rfl, md, mq, hl, k⟩ := h
    refine wss_nd fun nd => ?_
    walk_at "go"
    refine we_dnew fun cd => ?_
    obtain ⟨G, hf, other⟩ := md.hole
    refine wss_cons (ws_lock (.tail hf) True.intro fun od => ?_)
    have hh := hf.again' (.frz od (.dK (tk r)))
    have rq : RdL q (.dK (tn nm)) (G (.frz od (.dK (tk r)))) := by
      by_cases e : q = d
      · subst e
        obtain ⟨rfl, rfl⟩ := tk_tn nd md mq
        exact .fz hh.mm
      · exact .of (other q _ e mq _)
    have e0 : ∀ x : Str, ((((nm.find? fun q => decide (q.1 = x)).map (·.2)).map V.str).getD (V.str x)) = V.str (nmOf nm x) := by
      intro x
      unfold nmOf
      cases nm.find? fun q => decide (q.1 = x) <;> rfl
    refine ws_forW hX.calm hX.pas (wi_items ?_)
    walk_at "go"
    refine ⟨d, od, tk r, rfl, .tail hh.mm, fun i σ' L' => (∃ a b, σ' = [some (.ref d), some (.ref q), some (.ref cd), a, b]) ∧ L' = (cd, .dK (tk (renM nm (r.take i)))) :: G (.frz od (.dK (tk r))), ⟨⟨_, _, rfl⟩, rfl⟩, ?_, ?_, ?_⟩
    · rintro i σ' L' _ ⟨_, rfl⟩
      exact .tail hh.mm
    · rintro i v σ' L' L'' hi ⟨⟨a, b, rfl⟩, rfl⟩ ⟨T0, x, y, rfl, rfl, hx, hy⟩
      obtain ⟨q1, hq, eq⟩ := map_get (show ((tk r).map fun kv => kV kv.1)[i]? = some x by rw [List.getElem?_map]; exact hx)
      obtain ⟨q', hq', eq'⟩ := map_get (show ((tk r).map Prod.snd)[i]? = some y by rw [List.getElem?_map]; exact hy)
      obtain ⟨p, hp, ep⟩ := map_get hq
      rw [hq] at hq'
      cases hq'
      subst ep eq eq'
      refine x_tup (by assumption) .head ?_
      refine wgs_cons (x_tgt (by assumption) (by walk_at "at") (by walk_at "at") ?_)
      refine wgs_cons (x_tgt (by assumption) (by walk_at "at") (by walk_at "at") ?_)
      refine wgs_nil ?_
      refine wss_cons (ws_dput (hu1 hr) ?_)
      walk_at "go"
      refine we_dget2 (hu1 hr) ?_
      walk_at "go"
      refine ⟨cd, _, rfl, .of (.tail .head), ?_⟩
      refine we_dget2 (hu1 hr) ?_
      walk_at "go"
      refine ⟨q, _, rfl, fun H hL => rq H hL.drop.drop, ?_⟩
      walk_at "go"
      refine ⟨_, .s (x := p.1) (fun H hL => rq H hL.drop.drop) (valV_tn nm p.1), ?_⟩
      rw [show kV (Sum.inr p.1) = V.str p.1 from rfl, e0]
      walk_at "go"
      refine ⟨_, .s (.of (.tail .head)) (valV_tk _ _), ?_⟩
      have e2 : ((lookO (renM nm (r.take i)) (nmOf nm p.1)).map V.int).getD (V.int 0) = V.int (look (renM nm (r.take i)) (nmOf nm p.1)) := by
        unfold look
        cases lookO (renM nm (r.take i)) (nmOf nm p.1) <;> rfl
      rw [e2]
      walk_at "go"
      refine we_dget2 (hu1 hr) ?_
      walk_at "go"
      refine ⟨q, _, rfl, fun H hL => rq H hL.drop.drop, ?_⟩
      walk_at "go"
      refine ⟨_, .s (x := p.1) (fun H hL => rq H hL.drop.drop) (valV_tn nm p.1), ?_⟩
      rw [e0]
      refine ⟨cd, _, .inr (nmOf nm p.1), _, rfl, rfl, .tail .head, ?_, ?_⟩
      · rw [tk_len]
        refine len_lt (Nat.lt_of_le_of_lt (renM_len _ _) (Nat.lt_of_le_of_lt ?_ hl))
        rw [List.length_take]
        exact Nat.min_le_right _ _
      refine wss_nil ⟨_, Sub.of_sublist (.cons _ (.refl _)), ⟨_, _, rfl⟩, ?_⟩
      rw [putK_tk, List.take_add_one, hp, show (some p).toList = [p] from rfl, renM_snoc]
    · rintro σ' L' ⟨⟨a, b, rfl⟩, rfl⟩
      rw [tk_len, List.take_length]
      refine ⟨_, .tail hh, ?_⟩
      rw [hf.self']
      walk_at "go"
      exact ret_sub (k cd) (Sub.refl _)
end
end K12

set_option Elab.async false
set_option linter.all false
set_option maxRecDepth 100000
set_option maxHeartbeats 4000000
namespace K12
open PySem L2 N3
local macro_rules | `(tactic| walk_at "at") => `(tactic| with_reducible (repeat (first | exact At.head | apply At.tail)))
local macro_rules | `(tactic| walk_at "mem") => `(tactic| with_reducible (repeat (first | exact Mem.head | apply Mem.tail)))
local macro_rules | `(tactic| walk_at "boot") => `(tactic| with_reducible (first | exact boot_isi | exact boot_max | exact boot_min | exact boot_abs | exact boot_len | exact boot_repr | exact boot_divmod | exact boot_all | exact boot_int | exact boot_bool | exact boot_str | exact boot_dict | exact boot_list | exact boot_sorted))
local macro_rules | `(tactic| walk_at "room") => `(tactic| (first | assumption | exact Room.mono (by assumption) (by decide)))
local macro_rules | `(tactic| walk_at "none") => `(tactic| (refine Txt.bn (by assumption) _ ?xz; (case xz => with_reducible (repeat (first | exact InS.head | apply InS.tail)))))
local macro_rules | `(tactic| walk_at "n3") => `(tactic| first
  | with_reducible refine ws_ret ?_
  | with_reducible refine we_int ?_
  | with_reducible refine we_str ?_
  | with_reducible refine we_bool ?_
  | with_reducible refine we_none ?_
  | ((with_reducible refine' x_name ?xo ?xa ?xb ?xc ?_); (case xo => assumption); (case xa => walk_at "at"); (case xb => walk_at "at"); (case xc => rfl))
  | ((with_reducible refine' f_cnt ?xt ?_ ?xh); (case xt => assumption); (case xh => rfl))
  | ((with_reducible refine' we_prop ?xg ?xr ?_ ?xh); (case xg => assumption); (case xr => walk_at "room"); (case xh => rfl))
  | with_reducible refine we_bin ?_
  | with_reducible refine wo_add ?_
  | with_reducible refine wo_sub ?_
  | with_reducible refine wo_lt ?_
  | with_reducible refine wo_gt ?_
  | with_reducible refine wo_le ?_
  | with_reducible refine wo_ge ?_
  | with_reducible refine wu_neg ?_
  | ((with_reducible refine we_cmp ?xh ?_); (case xh => exact nomark _))
  | ((with_reducible refine wt_cmp ?xh ?_); (case xh => exact nomark _))
  | ((with_reducible refine wa_cons ?_ ?xh); (case xh => rfl))
  | with_reducible refine wa_nil ?_
  | with_reducible refine we_and ?_
  | with_reducible refine we_or ?_
  | with_reducible refine we_not ?_
  | with_reducible refine wt_not ?_
  | with_reducible refine we_un ?_
  | with_reducible refine we_one ?_
  | with_reducible refine wt_ww (ww_or ?_)
  | with_reducible refine wt_ww (ww_and ?_)
  | with_reducible refine ww_or ?_
  | with_reducible refine ww_and ?_
  | with_reducible refine ww_or1 ?_
  | with_reducible refine ww_and1 ?_
  | with_reducible refine we_ifExp ?_
  | with_reducible refine ws_if ?_
  | with_reducible refine ws_pass ?_
  | with_reducible refine we_tup ?_
  | with_reducible refine we_lst ?_
  | ((with_reducible refine' x_set ?xo ?xa ?xb ?_ ?xs); (case xo => assumption); (case xa => walk_at "at"); (case xb => walk_at "at"); (case xs => rfl))
  | ((with_reducible refine' x_setF ?_ ?xs); (case xs => rfl))
  | ((with_reducible refine' x_call ?xo ?xa ?xg ?xr ?_ ?xe ?xp); (case xo => assumption); (case xa => walk_at "at"); (case xg => assumption); (case xr => walk_at "room"); (case xe => rfl); (case xp => rfl))
  | ((with_reducible refine' x_callG ?xo ?xa ?xg ?xr ?xd ?_ ?xe ?xp); (case xo => assumption); (case xa => walk_at "at"); (case xg => assumption); (case xr => walk_at "room"); (case xd => assumption); (case xe => rfl); (case xp => rfl))
  | ((with_reducible refine' x_callB ?xo ?xa ?xg ?xr ?_ ?xe ?xp); (case xo => assumption); (case xr => walk_at "boot"); (case xa => walk_at "at"); (case xg => walk_at "none"); (case xe => rfl); (case xp => rfl))
  | ((with_reducible refine' x_callTy ?xo ?xa ?xg ?xr ?_ ?xe ?xp); (case xo => assumption); (case xr => walk_at "boot"); (case xa => walk_at "at"); (case xg => walk_at "none"); (case xe => rfl); (case xp => rfl))
  | ((with_reducible refine' x_bty ?xo ?xa ?xg ?xr ?_); (case xo => assumption); (case xr => walk_at "boot"); (case xa => walk_at "at"); (case xg => walk_at "none"))
  | ((with_reducible refine' x_cls ?xt ?xo ?xa ?_); (case xt => assumption); (case xo => assumption); (case xa => walk_at "at"))
  | ((with_reducible refine' x_make ?xo ?xa ?xg ?xr ?_ ?xe ?xp); (case xo => assumption); (case xa => walk_at "at"); (case xg => assumption); (case xr => walk_at "room"); (case xe => rfl); (case xp => rfl))
  | with_reducible refine wss_nil ?_
  | refine ⟨_, _, _, rfl, (by assumption), ?_⟩
  | refine wss_cons ?_
  | ((with_reducible refine' wt_val ?_ ?xv); (case xv => intro _; rfl)))
local macro_rules | `(tactic| walk_at "go") => `(tactic| repeat walk_at "n3")
/-! lists that are the same, as data -/
theorem eqvAll_refl : ∀ (ds : List PyData), (∀ d ∈ ds, PyData.eqv d d = true) → PyData.eqvAll ds ds = true
  | [], _ => by simp only [PyData.eqvAll]
  | d :: ds, h => by
    simp only [PyData.eqvAll, Bool.and_eq_true]
    exact ⟨h d List.mem_cons_self, eqvAll_refl ds fun x hx => h x (List.mem_cons_of_mem _ hx)⟩
theorem lay_all : ∀ (ds : List PyData), (∀ d ∈ ds, PyData.canLay0 d = true) → PyData.canLayAll0 ds = true
  | [], _ => by simp only [PyData.canLayAll0]
  | d :: ds, h => by
    simp only [PyData.canLayAll0, Bool.and_eq_true]
    exact ⟨h d List.mem_cons_self, lay_all ds fun x hx => h x (List.mem_cons_of_mem _ hx)⟩
theorem depth_all {n : Nat} : ∀ (ds : List PyData), (∀ d ∈ ds, d.depth ≤ n) → PyData.depthAll ds ≤ n
  | [], _ => by simp only [PyData.depthAll]; exact Nat.zero_le _
  | d :: ds, h => by
    simp only [PyData.depthAll]
    exact Nat.max_le.mpr ⟨h d List.mem_cons_self, depth_all ds fun x hx => h x (List.mem_cons_of_mem _ hx)⟩
/-- data that is the same as itself and not deep -/
structure Pl (d : PyData) : Prop where
  e : PyData.eqv d d = true
  c : PyData.canLay0 d = true
  h : d.depth ≤ 5
theorem Pl.list {ds : List PyData} (h : ∀ d ∈ ds, Pl d) : PyData.eqv (.list ds) (.list ds) = true ∧ SeqAt.shaped (.list ds) = true := by
  refine ⟨?_, ?_⟩
  · simp only [PyData.eqv]
    exact eqvAll_refl ds fun d hd => (h d hd).e
  · unfold SeqAt.shaped
    simp only [PyData.canLay0, PyData.depth, Bool.and_eq_true]
    exact ⟨lay_all ds fun d hd => (h d hd).c, decide_eq_true <| Nat.le_trans (Nat.succ_le_succ (depth_all ds fun d hd => (h d hd).h)) (show 5 + 1 ≤ 64 by decide)⟩
theorem Pl.int (i : Int) : Pl (.int i) := ⟨by simp [PyData.eqv], by simp [PyData.canLay0], by simp [PyData.depth]⟩
theorem Pl.bool (i : Bool) : Pl (.bool i) := ⟨by simp [PyData.eqv], by simp [PyData.canLay0], by simp [PyData.depth]⟩
theorem chars_small : ∀ c ∈ CHARS.cps.toList, c < 1114112 := by decide +kernel
theorem strOk_nm {x : Str} (h : Nm x) : PyData.strOk x = true := by
  unfold PyData.strOk
  rw [← Array.all_toList, List.all_eq_true]
  intro c hc
  have := chars_small c (isNm_chars h c hc)
  simpa using this
theorem Pl.str {x : Str} (h : Nm x) : Pl (.str x) := ⟨by simp [PyData.eqv], by simp only [PyData.canLay0]; exact strOk_nm h, by simp [PyData.depth]⟩
theorem Pl.pair {x : Str} (h : Nm x) (i : Int) : Pl (.tuple [.str x, .int i]) := by
  refine ⟨?_, ?_, ?_⟩
  · simp [PyData.eqv, PyData.eqvAll]
  · simp [PyData.canLay0, PyData.canLayAll0, strOk_nm h]
  · simp [PyData.depth, PyData.depthAll]
theorem Pl.pairS {x y : Str} (h : Nm x) (h' : Nm y) : Pl (.tuple [.str x, .str y]) := by
  refine ⟨?_, ?_, ?_⟩
  · simp [PyData.eqv, PyData.eqvAll]
  · simp [PyData.canLay0, PyData.canLayAll0, strOk_nm h, strOk_nm h']
  · simp [PyData.depth, PyData.depthAll]
theorem dp_list {α : Type} {K : PySem.W.Frag} {H : Hp} {f : α → V} {g : α → PyData} (h : ∀ x, Dp K H (f x) (g x)) : ∀ l : List α, DpAll K H (l.map f) (l.map g)
  | [] => .nil
  | x :: l => .cons (h x) (dp_list h l)
theorem dp_lst {α : Type} {K : PySem.W.Frag} {L : LH} {a : Addr} {l : List α} {f : α → V} {g : α → PyData} (m : Mem a (.lst (l.map f)) L) (h : ∀ H x, Dp K H (f x) (g x)) : DpL K (.ref a) (.list (l.map g)) L := fun H hL => .lst (SqL.of (hL.get m)) (dp_list (h H) l)
theorem tups_mem : ∀ (ts : List Addr) (kvs : List (Key × V)) (L : LH) (i : Nat) (t : Addr) (q : Key × V), ts[i]? = some t → kvs[i]? = some q → Mem t (.tup [kV q.1, q.2]) (tupsOf ts kvs ++ L) := by
  intro ts kvs L i t q h1 h2
  refine mem_sub (List.mem_append_left _ ?_)
  unfold tupsOf
  refine List.mem_iff_getElem?.mpr ⟨i, ?_⟩
  rw [List.getElem?_zipWith, h1, h2]
theorem dp_pairs {K : PySem.W.Frag} {H : Hp} {g : Key × V → PyData} : ∀ (ts : List Addr) (kvs : List (Key × V)), ts.length = kvs.length → (∀ (i : Nat) (t : Addr) (q : Key × V), ts[i]? = some t → kvs[i]? = some q → H t = some (.tup [kV q.1, q.2])) → (∀ q ∈ kvs, Dp K H q.2 (g q)) →
    DpAll K H (ts.map V.ref) (kvs.map fun q => .tuple [keyD q.1, g q])
  | [], [], _, _, _ => .nil
  | t :: ts, q :: kvs, hl, h, hd => by
    refine .cons (.tup (SqT.of (h 0 t q rfl rfl)) (.cons ?_ (.cons (hd q List.mem_cons_self) .nil))) (dp_pairs ts kvs (Nat.succ.inj hl) (fun i t q h1 h2 => h (i + 1) t q h1 h2) fun q hq => hd q (List.mem_cons_of_mem _ hq))
    obtain ⟨k, v⟩ := q
    cases k with
    | inl i => exact .int i
    | inr x => exact .str x
/-- the data of a list of pairs -/
def prD (r : SI) : PyData := .list (r.map fun p => .tuple [.str p.1, .int p.2])
theorem dp_items {K : PySem.W.Frag} {L' : LH} {p : Addr} {ts : List Addr} {r : SI} (hl : ts.length = (tk r).length) (mp : Mem p (.lst (ts.map V.ref)) L') (ht : ∀ (i : Nat) (t : Addr) (q : Key × V), ts[i]? = some t → (tk r)[i]? = some q → Mem t (.tup [kV q.1, q.2]) L') : DpL K (.ref p) (prD r) L' := by
  intro H hL
  have h := dp_pairs (K := K) (H := H) (g := fun q => match q.2 with | .int i => .int i | _ => .none) ts (tk r) hl (fun i t q h1 h2 => hL.get (ht i t q h1 h2)) (by
    intro q hq
    obtain ⟨p, _, rfl⟩ := List.mem_map.mp hq
    exact .int _)
  have e : ((tk r).map fun q => PyData.tuple [keyD q.1, (match q.2 with | .int i => .int i | _ => .none)]) = r.map fun p => .tuple [.str p.1, .int p.2] := by
    unfold tk
    rw [List.map_map]
    rfl
  rw [e] at h
  exact .lst (SqL.of (hL.get mp)) h
/-! what is known of Table and of the law -/
structure Rg (P : Program) (w : World) (K : PySem.W.Frag) (mg : Str → Option Value) (base : Heap) (C : Addr) : Prop where
  T : Txt K mg C
  at' : GMe P w K mg base C "at" 2 ["self", "key"] [] (pAt C)
  us : GMe P w K mg base C "used_keys" 1 ["self"] [] (pUsed C)
  co : GMe P w K mg base C "counts" 1 ["self"] [] (pCounts C)
  pl : GPr P w K mg base C "is_plain" 1 ["self"] (pPlain C)
  ti : GMe P w K mg base C "times" 5 ["self", "many"] [] (pTimes C)
  re : GMe P w K mg base C "renamed" 5 ["self", "names"] [] (pRen C)
  ad : GOp P w K mg base C "__add__" 5 ["self", "other"] (pBin C fun x y => x + y)
  sb : GOp P w K mg base C "__sub__" 5 ["self", "other"] (pBin C fun x y => x - y)
  ng : GOp P w K mg base C "__neg__" 6 ["self"] (pNeg C)
  eq : GOp P w K mg base C "__eq__" 1 ["self", "other"] (pEq K C)
  le : GOp P w K mg base C "__len__" 1 ["self"] (pLen C)
  cn : GOp P w K mg base C "__contains__" 2 ["self", "x"] (pCon K C)
  rp : GOpG P w K mg base C "__repr__" 1 ["self"] (pRepr C)
  mk1 : GMk P w K mg base "Table" C 3 ["self", "counts"] [] (pInit C)
  mk0 : GMk P w K mg base "Table" C 3 ["self", "counts"] [.non] (pInit C)
  mkK : GMkK P w K mg base "Table" C 3 ["self", "counts"] ["counts"] (fun v k => v ++ k) (pInit C)
  nfS : PySem.W.notFirst K C (.type "str") = true
  nfD : PySem.W.notFirst K C (.type "dict") = true
  nfC : PySem.W.notFirst K C (.ref C) = true
  ne : PySem.W.findIn K (.ref C) "__ne__" = some (some (.builtin "object.__ne__"))
  ke : GFn P w K mg base "_law_kept" 1 ["_law_model"] [] pKept
abbrev nIs : List Str := ["_law_table", "_law_model", "_law_names_here", "_law_due", "_law_told", "_law_is_above", "_law_again", "_law_key", "_law_thing", "_law_number_here"]
abbrev vIs : List Str := ["_law_table", "_law_model", "_law_names_here", "_law_due", "_law_told", "_law_is_above", "_law_again"]
abbrev lIs : List Str := ["_law_model", "_law_names_here", "_law_told", "_law_is_above", "_law_again"]
abbrev gIs : List Str := ["_law_kept", "list", "len", "all", "repr", "Table", "dict"]
theorem scIs : FnScope nIs ["_law_table", "_law_model", "_law_names_here"] (defScope sIs) := ⟨rfl, rfl, rfl, by decide +kernel, rfl, by decide +kernel, by decide +kernel⟩
theorem okScIs : scopeB nIs (defScope sIs) vIs lIs gIs = true := by decide +kernel
def bI (i : Nat) : List Stmt := (defBody sIs).drop i
theorem bI_at (i j : Nat) (hj : j = i + 1) (h : i < (defBody sIs).length) : bI i = (defBody sIs)[i] :: bI j := by
  subst hj
  exact List.drop_eq_getElem_cons h
theorem norm_md {m : SI} (h : Md m) (hl : m.length < 20) : Rw (norm m) := ⟨norm_can h.nd, fun p hp => h.nm p (norm_mem' m p hp), Nat.lt_of_le_of_lt (norm_len m) hl⟩
theorem ww_sub {X : Cx} {e : Expr} {σ : L2.St} {L L' : LH} {KT : Bool → LH → Prop} (s : Sub L L') (h : WW X e σ L' KT) : WW X e σ L KT := fun H hL => h H (s H hL)
theorem wss_subl {X : Cx} {sts : List Stmt} {σ : L2.St} {L L' : LH} {D : EndsL} (s : L'.Sublist L) (h : WSs X sts σ L' D) : WSs X sts σ L D := fun H hL => h H (Sub.of_sublist s H hL)
theorem nil_rest {X : Cx} {sts : List Stmt} {σ : L2.St} {L L' : LH} {D : EndsL} {rt : V → LH → Prop} {bk ct : L2.St → LH → Prop} (s : L'.Sublist L) (h : WSs X sts σ L' D) : WSs X [] σ L { nx := fun σ' L' => WSs X sts σ' L' D, rt := rt, bk := bk, ct := ct } := wss_nil (wss_subl s h)
theorem not_eq_true {b : Bool} (h : b = true) : (!b) = false := by rw [h]; rfl
section
variable {X : Cx} {C o d q du : Addr} {L : LH} {r : SI} {ns : List Str} {D : EndsL} {u4 u5 u6 : Option V}
theorem is_2 (hX : XOk nIs (defScope sIs) vIs lIs gIs X) (hr : Room 4 X.A) (Q : Rg X.prog X.w X.K X.mg X.base C) {td : Addr} (to : Tb C L o r) (hw : Rw r) (m1 : Mem du (.dK (tk r)) L) (m2 : Mem td (.dK (tk r)) L) {σ : L2.St} (hσ : σ = [some (.ref o), some (.ref d), some (.ref q), some (.ref du), some (.ref td), u5, u6, none, none, none]) (rest : WSs X (bI 3) σ L D) : WSs X (bI 2) σ L D := by
  obtain ⟨T, at', us, co, pl, ti, re, ad, sb, ng, eq, le, cn, rp, mk1, mk0, mkK, nfS, nfD, nfC, ne, ke⟩ := Q
  have T0 := T
  subst hσ
  have zl : X.mg "list" = none := by walk_at "none"
  have gl := (hX.glo (x := "list") (by walk_at "at")).1
  have hp : ∀ d ∈ (r.map fun p => PyData.tuple [.str p.1, .int p.2]), Pl d := by
    intro d hd
    obtain ⟨p, hp, rfl⟩ := List.mem_map.mp hd
    exact Pl.pair (hw.nm p hp) _
  have hk : ∀ d ∈ ((keys r).map PyData.str), Pl d := by
    intro d hd
    obtain ⟨p, hp, rfl⟩ := List.mem_map.mp hd
    exact Pl.str (hw.nk p hp)
  obtain ⟨dx, dd', mo, md⟩ := to
  rw [bI_at 2 3 rfl (by decide +kernel)]
  refine wss_cons (ws_if ?_)
  refine wt_ww (ww_or ?_)
  refine wt_cmp rfl ?_
  refine we_listItems hX.calm gl zl boot_list ?_
  walk_at "go"
  refine ⟨td, tk r, rfl, m2, tk_nodup hw.can.nd, fun p1 ts1 l1 => ?_⟩
  refine we_listItems hX.calm gl zl boot_list ?_
  walk_at "go"
  refine ⟨du, tk r, rfl, .tail (Mem.app m1 _), tk_nodup hw.can.nd, fun p2 ts2 l2 => ?_⟩
  refine wo_neD (by have := hr.un; omega) (dp_items (r := r) l1 (.tail (Mem.app .head _)) fun i t q h1 h2 => .tail (Mem.app (.tail (tups_mem _ _ _ i t q h1 h2)) _)) (dp_items (r := r) l2 .head fun i t q h1 h2 => .tail (tups_mem _ _ _ i t q h1 h2)) (Pl.list hp).2 (Pl.list hp).2 ?_
  rw [show PyData.eqv (prD r) (prD r) = true from (Pl.list hp).1]
  refine ⟨false, rfl, fun _ => ?_, fun z => Bool.noConfusion z⟩
  refine ww_sub (L' := L) (Sub.of_sublist (.cons _ (List.Sublist.trans (.cons _ (List.sublist_append_right _ _)) (List.sublist_append_right _ _)))) ?_
  refine ww_or ?_
  refine wt_cmp rfl ?_
  refine we_meth0 us (by walk_at "room") ?_
  walk_at "go"
  refine ⟨tabF_no _ (by decide +kernel), o, r, rfl, ⟨dx, dd', mo, md⟩, fun p3 => ?_⟩
  walk_at "go"
  refine wc_listD hX.calm (.of (.tail m1)) fun p4 => ?_
  rw [tk_kv]
  refine wo_neD (by have := hr.un; omega) (dp_lst (l := keys r) (g := PyData.str) (.tail .head) fun H x => .str x) (dp_lst (l := keys r) (g := PyData.str) .head fun H x => .str x) (Pl.list hk).2 (Pl.list hk).2 ?_
  rw [(Pl.list hk).1]
  refine ⟨false, rfl, fun _ => ?_, fun z => Bool.noConfusion z⟩
  refine ww_sub (L' := L) (Sub.of_sublist (.cons _ (.cons _ (.refl _)))) ?_
  refine ww_or1 (wt_cmp rfl ?_)
  walk_at "go"
  have hl := hw.ln
  refine wc_ownLen le (by walk_at "room") mo ⟨o, r, rfl, ⟨dx, dd', mo, md⟩, _, rfl, by omega, by omega, ?_⟩
  walk_at "go"
  refine wc_lenD m1 ?_
  rw [tk_len]
  refine wo_ne rfl ?_
  rw [decide_eq_true rfl]
  refine ⟨false, rfl, fun z => Bool.noConfusion z, fun _ => nil_rest (.refl _) ?_⟩
  with_reducible_and_instances exact rest
theorem is_3 (hX : XOk nIs (defScope sIs) vIs lIs gIs X) (hr : Room 4 X.A) {td : Addr} {F : HO → LH} (hf : Hole td (.dK (tk r)) L F) (hl : r.length < 20) {σ : L2.St} (hσ : σ = [some (.ref o), some (.ref d), some (.ref q), some (.ref du), some (.ref td), u5, u6, none, none, none]) (rest : ∀ kvs, WSs X (bI 4) σ (F (.dK kvs)) D) : WSs X (bI 3) σ L D := by
  subst hσ
  refine wss_cons (ws_dput (hu1 hr) ?_)
  walk_at "go"
  exact ⟨td, _, .inr "zz", F, rfl, rfl, hf, by rw [tk_len]; exact len_lt (by omega), rest _⟩
theorem is_4 (hX : XOk nIs (defScope sIs) vIs lIs gIs X) (hr : Room 4 X.A) (Q : Rg X.prog X.w X.K X.mg X.base C) (to : Tb C L o r) (hw : Rw r) {σ : L2.St} (hσ : σ = [some (.ref o), some (.ref d), some (.ref q), some (.ref du), u4, u5, u6, none, none, none]) (rest : WSs X (bI 5) σ L D) : WSs X (bI 4) σ L D := by
  obtain ⟨T, at', us, co, pl, ti, re, ad, sb, ng, eq, le, cn, rp, mk1, mk0, mkK, nfS, nfD, nfC, ne, ke⟩ := Q
  subst hσ
  obtain ⟨dx, dd', mo, md⟩ := to
  refine wss_cons (ws_expr ?_)
  refine we_append ?_
  refine we_meth0 us (by walk_at "room") ?_
  walk_at "go"
  refine ⟨tabF_no _ (by decide +kernel), o, r, rfl, ⟨dx, dd', mo, md⟩, fun p3 => ?_⟩
  refine ⟨p3, _, rfl, .of .head, ?_⟩
  walk_at "go"
  refine ⟨_, _, .head, ?_, wss_subl (L' := L) (.cons _ (.refl _)) rest⟩
  rw [List.length_map, List.length_map]
  exact len_lt (Nat.lt_of_lt_of_le hw.ln (by decide))
/-- the names and one more -/
def zs (ns : List Str) : List Str := ns ++ [("zz" : Str)]
theorem zs_map (ns : List Str) : ns.map V.str ++ [V.str "zz"] = (zs ns).map V.str := by unfold zs; rw [List.map_append]; rfl
theorem zz_nm : Nm "zz" := by unfold Nm; decide +kernel
theorem zs_nm {ns : List Str} (h : ∀ y ∈ ns, Nm y) : ∀ y ∈ zs ns, Nm y := fun y hy => by
  rcases List.mem_append.mp hy with z | z
  · exact h y z
  · rw [List.mem_singleton.mp z]; exact zz_nm
theorem zs_len (ns : List Str) : (zs ns).length = ns.length + 1 := by unfold zs; rw [List.length_append]; rfl
theorem step_len {α : Type} {n : Nat} {l : List α} {f : α → V} {i : Nat} (h : i < n) (hn : n < 1000) : ((l.take i).map f).length < sizeLine := by
  rw [List.length_map, List.length_take]
  exact len_lt (Nat.lt_of_le_of_lt (Nat.min_le_left _ _) (Nat.lt_trans h hn))
theorem step_snoc {α β : Type} {l : List α} {f : α → β} {i : Nat} {y : α} (h : l[i]? = some y) : (l.take i).map f ++ [f y] = (l.take (i + 1)).map f := by
  rw [List.take_add_one, h, List.map_append]
  rfl
theorem is_5 (hX : XOk nIs (defScope sIs) vIs lIs gIs X) (hr : Room 4 X.A) (Q : Rg X.prog X.w X.K X.mg X.base C) (to : Tb C L o r) (hw : Rw r) (m1 : Mem du (.dK (tk r)) L) (mq : Mem q (.lst (ns.map V.str)) L) (hn : ∀ y ∈ ns, Nm y) (hl : ns.length < 100) {σ : L2.St} (hσ : σ = [some (.ref o), some (.ref d), some (.ref q), some (.ref du), u4, u5, u6, none, none, none]) (rest : WSs X (bI 6) σ L D) : WSs X (bI 5) σ L D := by
  obtain ⟨T, at', us, co, pl, ti, re, ad, sb, ng, eq, le, cn, rp, mk1, mk0, mkK, nfS, nfD, nfC, ne, ke⟩ := Q
  subst hσ
  obtain ⟨dx, dd', mo, md⟩ := to
  have hzn := zs_nm hn
  have hzl := zs_len ns
  rw [bI_at 5 6 rfl (by decide +kernel)]
  refine wss_cons (ws_if ?_)
  refine wt_cmp rfl ?_
  refine x_lc [("_law_key", 7)] hX (by decide +kernel) (wi_list ?_)
  walk_at "go"
  refine ⟨show 1 ≤ sizeLine from len_line, fun p1 => ?_⟩
  refine wo_catL (.tail mq) .head (by rw [List.length_map]; exact len_line (n := ns.length + 1) (by omega)) fun p2 => ?_
  rw [zs_map]
  refine ⟨p2, _, rfl, .of .head, fun D1 => ⟨fun i L' => L' = (D1, .lst (((zs ns).take i).map fun k => V.int (look r k))) :: (p2, .lst ((zs ns).map V.str)) :: (p1, .lst [.str "zz"]) :: L, rfl, ?_, ?_, ?_⟩⟩
  · rintro i L' _ rfl
    exact .of (.tail .head)
  · rintro i v L' L'' hi rfl ⟨rfl, hv⟩
    intro s H' Ca cl fp
    obtain ⟨y, hy, rfl⟩ := map_get hv
    rw [List.length_map] at hi
    have hB := hX.blk (Vb := ["_law_key", "_law_table"]) (Lb := ["_law_key"]) (Gb := []) (scope := ⟨.function, [(".0", .local), ("_law_key", .local), ("_law_table", .free)], false, false, []⟩) (by decide +kernel)
    refine x_tgt (hB s H' Ca cl fp) (by walk_at "at") (by walk_at "at") ⟨rfl, fun s H' Ca cl fp => ?_⟩
    have hX1 := hB s H' Ca cl fp
    refine we_meth (X := X.blk s H' _ (compEnvC _ cl Ca X.env) fp) at' (by exact hr.mono (by decide)) ?_
    walk_at "go"
    refine ⟨o, dx, _, rfl, .tail (.tail (.tail mo)), tabF_no _ (by decide +kernel), ?_⟩
    walk_at "go"
    refine ⟨o, r, y, rfl, ⟨dx, dd', .tail (.tail (.tail mo)), .tail (.tail (.tail md))⟩, hzn y (List.mem_of_getElem? hy), ?_⟩
    exact ⟨_, _, .head, step_len hi (by omega), _, Sub.refl _, by show _ = _; rw [step_snoc (f := fun k => V.int (look r k)) hy]⟩
  rintro L' rfl
  rw [List.length_map, List.take_length]
  refine x_lc [("_law_key", 7)] hX (by decide +kernel) (wi_list ?_)
  walk_at "go"
  refine ⟨show 1 ≤ sizeLine from len_line, fun p3 => ?_⟩
  refine wo_catL (.tail (.tail (.tail (.tail mq)))) .head (by rw [List.length_map]; exact len_line (n := ns.length + 1) (by omega)) fun p4 => ?_
  rw [zs_map]
  refine ⟨p4, _, rfl, .of .head, fun D2 => ⟨fun i L' => L' = (D2, .lst (((zs ns).take i).map fun k => V.int (look r k))) :: (p4, .lst ((zs ns).map V.str)) :: (p3, .lst [.str "zz"]) :: (D1, .lst ((zs ns).map fun k => V.int (look r k))) :: (p2, .lst ((zs ns).map V.str)) :: (p1, .lst [.str "zz"]) :: L, rfl, ?_, ?_, ?_⟩⟩
  · rintro i L' _ rfl
    exact .of (.tail .head)
  · rintro i v L' L'' hi rfl ⟨rfl, hv⟩
    intro s H' Ca cl fp
    obtain ⟨y, hy, rfl⟩ := map_get hv
    rw [List.length_map] at hi
    have hB := hX.blk (Vb := ["_law_key", "_law_due"]) (Lb := ["_law_key"]) (Gb := []) (scope := ⟨.function, [(".0", .local), ("_law_key", .local), ("_law_due", .free)], false, false, []⟩) (by decide +kernel)
    refine x_tgt (hB s H' Ca cl fp) (by walk_at "at") (by walk_at "at") ⟨rfl, fun s H' Ca cl fp => ?_⟩
    have hX1 := hB s H' Ca cl fp
    refine we_dget2 (X := X.blk s H' _ (compEnvC _ cl Ca X.env) fp) (hu1 hr) ?_
    walk_at "go"
    refine ⟨du, _, rfl, .of (.tail (.tail (.tail (.tail (.tail (.tail m1)))))), ?_⟩
    walk_at "go"
    refine ⟨_, .s (.of (.tail (.tail (.tail (.tail (.tail (.tail m1))))))) (valV_tk r y), ?_⟩
    have e : ((lookO r y).map V.int).getD (V.int 0) = V.int (look r y) := by
      unfold look
      cases lookO r y <;> rfl
    rw [e]
    exact ⟨_, _, .head, step_len hi (by omega), _, Sub.refl _, by show _ = _; rw [step_snoc (f := fun k => V.int (look r k)) hy]⟩
  rintro L' rfl
  rw [List.length_map, List.take_length]
  have hk : ∀ d ∈ ((zs ns).map fun k => PyData.int (look r k)), Pl d := by
    intro d hd
    obtain ⟨p, hp, rfl⟩ := List.mem_map.mp hd
    exact Pl.int _
  refine wo_neD (by have := hr.un; omega) (dp_lst (g := fun k => PyData.int (look r k)) (.tail (.tail (.tail .head))) fun H x => .int _) (dp_lst (g := fun k => PyData.int (look r k)) .head fun H x => .int _) (Pl.list hk).2 (Pl.list hk).2 ?_
  rw [(Pl.list hk).1]
  refine ⟨false, rfl, fun z => Bool.noConfusion z, fun _ => nil_rest (L' := L) (.cons _ (.cons _ (.cons _ (.cons _ (.cons _ (.cons _ (.refl _))))))) ?_⟩
  with_reducible_and_instances exact rest
def inK (r : SI) (k : Str) : Bool := decide (k ∈ keys r)
theorem inK_is (r : SI) (k : Str) : decide (k ∈ keys r) = inK r k := rfl
theorem inK_is' (r : SI) (k : Str) : decide (k ∈ r.map (·.1)) = inK r k := rfl
theorem is_6 (hX : XOk nIs (defScope sIs) vIs lIs gIs X) (hr : Room 4 X.A) (Q : Rg X.prog X.w X.K X.mg X.base C) (to : Tb C L o r) (hw : Rw r) (m1 : Mem du (.dK (tk r)) L) (mq : Mem q (.lst (ns.map V.str)) L) (hn : ∀ y ∈ ns, Nm y) (hl : ns.length < 100) {σ : L2.St} (hσ : σ = [some (.ref o), some (.ref d), some (.ref q), some (.ref du), u4, u5, u6, none, none, none]) (rest : WSs X (bI 7) σ L D) : WSs X (bI 6) σ L D := by
  obtain ⟨T, at', us, co, pl, ti, re, ad, sb, ng, eq, le, cn, rp, mk1, mk0, mkK, nfS, nfD, nfC, ne, ke⟩ := Q
  subst hσ
  obtain ⟨dx, dd', mo, md⟩ := to
  have hzn := zs_nm hn
  have hzl := zs_len ns
  rw [bI_at 6 7 rfl (by decide +kernel)]
  refine wss_cons (ws_if ?_)
  refine wt_cmp rfl ?_
  refine x_lc [("_law_key", 7)] hX (by decide +kernel) (wi_list ?_)
  walk_at "go"
  refine ⟨show 1 ≤ sizeLine from len_line, fun p1 => ?_⟩
  refine wo_catL (.tail mq) .head (by rw [List.length_map]; exact len_line (n := ns.length + 1) (by omega)) fun p2 => ?_
  rw [zs_map]
  refine ⟨p2, _, rfl, .of .head, fun D1 => ⟨fun i L' => L' = (D1, .lst (((zs ns).take i).map fun k => V.bl (inK r k))) :: (p2, .lst ((zs ns).map V.str)) :: (p1, .lst [.str "zz"]) :: L, rfl, ?_, ?_, ?_⟩⟩
  · rintro i L' _ rfl
    exact .of (.tail .head)
  · rintro i v L' L'' hi rfl ⟨rfl, hv⟩
    intro s H' Ca cl fp
    obtain ⟨y, hy, rfl⟩ := map_get hv
    have hyn : Nm y := hzn y (List.mem_of_getElem? hy)
    rw [List.length_map] at hi
    have hB := hX.blk (Vb := ["_law_key", "_law_table"]) (Lb := ["_law_key"]) (Gb := []) (scope := ⟨.function, [(".0", .local), ("_law_key", .local), ("_law_table", .free)], false, false, []⟩) (by decide +kernel)
    refine x_tgt (hB s H' Ca cl fp) (by walk_at "at") (by walk_at "at") ⟨rfl, fun s H' Ca cl fp => ?_⟩
    have hX1 := hB s H' Ca cl fp
    refine we_cmp rfl ?_
    walk_at "go"
    refine wo_ownIn (X := X.blk s H' _ (compEnvC _ cl Ca X.env) fp) cn (by exact hr.mono (by decide)) (.tail (.tail (.tail mo))) ?_
    refine ⟨o, r, _, rfl, ⟨dx, dd', .tail (.tail (.tail mo)), .tail (.tail (.tail md))⟩, .inl ⟨y, rfl, hyn.le', _, rfl, ?_⟩⟩
    rw [show isNm y = true from hyn, Bool.true_and, inK_is]
    exact ⟨_, _, .head, step_len hi (by omega), _, Sub.refl _, by show _ = _; rw [step_snoc (f := fun k => V.bl (inK r k)) hy]⟩
  rintro L' rfl
  rw [List.length_map, List.take_length]
  refine x_lc [("_law_key", 7)] hX (by decide +kernel) (wi_list ?_)
  walk_at "go"
  refine ⟨show 1 ≤ sizeLine from len_line, fun p3 => ?_⟩
  refine wo_catL (.tail (.tail (.tail (.tail mq)))) .head (by rw [List.length_map]; exact len_line (n := ns.length + 1) (by omega)) fun p4 => ?_
  rw [zs_map]
  refine ⟨p4, _, rfl, .of .head, fun D2 => ⟨fun i L' => L' = (D2, .lst (((zs ns).take i).map fun k => V.bl (inK r k))) :: (p4, .lst ((zs ns).map V.str)) :: (p3, .lst [.str "zz"]) :: (D1, .lst ((zs ns).map fun k => V.bl (inK r k))) :: (p2, .lst ((zs ns).map V.str)) :: (p1, .lst [.str "zz"]) :: L, rfl, ?_, ?_, ?_⟩⟩
  · rintro i L' _ rfl
    exact .of (.tail .head)
  · rintro i v L' L'' hi rfl ⟨rfl, hv⟩
    intro s H' Ca cl fp
    obtain ⟨y, hy, rfl⟩ := map_get hv
    rw [List.length_map] at hi
    have hB := hX.blk (Vb := ["_law_key", "_law_due"]) (Lb := ["_law_key"]) (Gb := []) (scope := ⟨.function, [(".0", .local), ("_law_key", .local), ("_law_due", .free)], false, false, []⟩) (by decide +kernel)
    refine x_tgt (hB s H' Ca cl fp) (by walk_at "at") (by walk_at "at") ⟨rfl, fun s H' Ca cl fp => ?_⟩
    have hX1 := hB s H' Ca cl fp
    refine we_din (X := X.blk s H' _ (compEnvC _ cl Ca X.env) fp) (hu1 hr) rfl ?_
    walk_at "go"
    refine ⟨du, _, rfl, .s (.of (.tail (.tail (.tail (.tail (.tail (.tail m1))))))) (valV_tk r y), ?_⟩
    rw [Option.isSome_map, lookO_isSome, inK_is']
    exact ⟨_, _, .head, step_len hi (by omega), _, Sub.refl _, by show _ = _; rw [step_snoc (f := fun k => V.bl (inK r k)) hy]⟩
  rintro L' rfl
  rw [List.length_map, List.take_length]
  have hk : ∀ d ∈ ((zs ns).map fun k => PyData.bool (inK r k)), Pl d := by
    intro d hd
    obtain ⟨p, hp, rfl⟩ := List.mem_map.mp hd
    exact Pl.bool _
  refine wo_neD (by have := hr.un; omega) (dp_lst (g := fun k => PyData.bool (inK r k)) (.tail (.tail (.tail .head))) fun H x => .bl _) (dp_lst (g := fun k => PyData.bool (inK r k)) .head fun H x => .bl _) (Pl.list hk).2 (Pl.list hk).2 ?_
  rw [(Pl.list hk).1]
  refine ⟨false, rfl, fun z => Bool.noConfusion z, fun _ => nil_rest (L' := L) (.cons _ (.cons _ (.cons _ (.cons _ (.cons _ (.cons _ (.refl _))))))) ?_⟩
  with_reducible_and_instances exact rest
end
end K12

set_option Elab.async false
set_option linter.all false
set_option maxRecDepth 100000
set_option maxHeartbeats 4000000
namespace K12
open PySem L2 N3
local macro_rules | `(tactic| walk_at "at") => `(tactic| with_reducible (repeat (first | exact At.head | apply At.tail)))
local macro_rules | `(tactic| walk_at "mem") => `(tactic| with_reducible (repeat (first | exact Mem.head | apply Mem.tail)))
local macro_rules | `(tactic| walk_at "boot") => `(tactic| with_reducible (first | exact boot_isi | exact boot_max | exact boot_min | exact boot_abs | exact boot_len | exact boot_repr | exact boot_divmod | exact boot_all | exact boot_int | exact boot_bool | exact boot_str | exact boot_dict | exact boot_list | exact boot_sorted))
local macro_rules | `(tactic| walk_at "room") => `(tactic| (first | assumption | exact Room.mono (by assumption) (by decide)))
local macro_rules | `(tactic| walk_at "none") => `(tactic| (refine Txt.bn (by assumption) _ ?xz; (case xz => with_reducible (repeat (first | exact InS.head | apply InS.tail)))))
local macro_rules | `(tactic| walk_at "n3") => `(tactic| first
  | with_reducible refine ws_ret ?_
  | with_reducible refine we_int ?_
  | with_reducible refine we_str ?_
  | with_reducible refine we_bool ?_
  | with_reducible refine we_none ?_
  | ((with_reducible refine' x_name ?xo ?xa ?xb ?xc ?_); (case xo => assumption); (case xa => walk_at "at"); (case xb => walk_at "at"); (case xc => rfl))
  | ((with_reducible refine' f_cnt ?xt ?_ ?xh); (case xt => assumption); (case xh => rfl))
  | ((with_reducible refine' we_prop ?xg ?xr ?_ ?xh); (case xg => assumption); (case xr => walk_at "room"); (case xh => rfl))
  | with_reducible refine we_bin ?_
  | with_reducible refine wo_add ?_
  | with_reducible refine wo_sub ?_
  | with_reducible refine wo_lt ?_
  | with_reducible refine wo_gt ?_
  | with_reducible refine wo_le ?_
  | with_reducible refine wo_ge ?_
  | with_reducible refine wu_neg ?_
  | ((with_reducible refine we_cmp ?xh ?_); (case xh => exact nomark _))
  | ((with_reducible refine wt_cmp ?xh ?_); (case xh => exact nomark _))
  | ((with_reducible refine wa_cons ?_ ?xh); (case xh => rfl))
  | with_reducible refine wa_nil ?_
  | with_reducible refine we_and ?_
  | with_reducible refine we_or ?_
  | with_reducible refine we_not ?_
  | with_reducible refine wt_not ?_
  | with_reducible refine we_un ?_
  | with_reducible refine we_one ?_
  | with_reducible refine wt_ww (ww_or ?_)
  | with_reducible refine wt_ww (ww_and ?_)
  | with_reducible refine ww_or ?_
  | with_reducible refine ww_and ?_
  | with_reducible refine ww_or1 ?_
  | with_reducible refine ww_and1 ?_
  | with_reducible refine we_ifExp ?_
  | with_reducible refine ws_if ?_
  | with_reducible refine ws_pass ?_
  | with_reducible refine we_tup ?_
  | with_reducible refine we_lst ?_
  | ((with_reducible refine' x_set ?xo ?xa ?xb ?_ ?xs); (case xo => assumption); (case xa => walk_at "at"); (case xb => walk_at "at"); (case xs => rfl))
  | ((with_reducible refine' x_setF ?_ ?xs); (case xs => rfl))
  | ((with_reducible refine' x_call ?xo ?xa ?xg ?xr ?_ ?xe ?xp); (case xo => assumption); (case xa => walk_at "at"); (case xg => assumption); (case xr => walk_at "room"); (case xe => rfl); (case xp => rfl))
  | ((with_reducible refine' x_callG ?xo ?xa ?xg ?xr ?xd ?_ ?xe ?xp); (case xo => assumption); (case xa => walk_at "at"); (case xg => assumption); (case xr => walk_at "room"); (case xd => assumption); (case xe => rfl); (case xp => rfl))
  | ((with_reducible refine' x_callB ?xo ?xa ?xg ?xr ?_ ?xe ?xp); (case xo => assumption); (case xr => walk_at "boot"); (case xa => walk_at "at"); (case xg => walk_at "none"); (case xe => rfl); (case xp => rfl))
  | ((with_reducible refine' x_callTy ?xo ?xa ?xg ?xr ?_ ?xe ?xp); (case xo => assumption); (case xr => walk_at "boot"); (case xa => walk_at "at"); (case xg => walk_at "none"); (case xe => rfl); (case xp => rfl))
  | ((with_reducible refine' x_bty ?xo ?xa ?xg ?xr ?_); (case xo => assumption); (case xr => walk_at "boot"); (case xa => walk_at "at"); (case xg => walk_at "none"))
  | ((with_reducible refine' x_cls ?xt ?xo ?xa ?_); (case xt => assumption); (case xo => assumption); (case xa => walk_at "at"))
  | ((with_reducible refine' x_make ?xo ?xa ?xg ?xr ?_ ?xe ?xp); (case xo => assumption); (case xa => walk_at "at"); (case xg => assumption); (case xr => walk_at "room"); (case xe => rfl); (case xp => rfl))
  | with_reducible refine wss_nil ?_
  | refine ⟨_, _, _, rfl, (by assumption), ?_⟩
  | refine wss_cons ?_
  | ((with_reducible refine' wt_val ?_ ?xv); (case xv => intro _; rfl)))
local macro_rules | `(tactic| walk_at "go") => `(tactic| repeat walk_at "n3")
section
variable {X : Cx} {C o d q du : Addr} {L : LH} {r : SI} {ns : List Str} {D : EndsL} {u4 u5 u6 : Option V}
theorem rep_snoc (i : Nat) (v : V) : List.replicate i v ++ [v] = List.replicate (i + 1) v := by rw [List.replicate_succ']
theorem is_7 (hX : XOk nIs (defScope sIs) vIs lIs gIs X) (hr : Room 4 X.A) (Q : Rg X.prog X.w X.K X.mg X.base C) (to : Tb C L o r) {σ : L2.St} (hσ : σ = [some (.ref o), some (.ref d), some (.ref q), some (.ref du), u4, u5, u6, none, none, none]) (rest : WSs X (bI 8) σ L D) : WSs X (bI 7) σ L D := by
  obtain ⟨T, at', us, co, pl, ti, re, ad, sb, ng, eq, le, cn, rp, mk1, mk0, mkK, nfS, nfD, nfC, ne, ke⟩ := Q
  clear at' us co pl ti re ad sb ng eq le rp mk1 mk0 mkK ke
  subst hσ
  obtain ⟨dx, dd', mo, md⟩ := to
  rw [bI_at 7 8 rfl (by decide +kernel)]
  refine wss_cons ?_
  refine ws_if ?_
  refine wt_cmp rfl ?_
  refine we_bool ?_
  refine x_lc [("_law_thing", 8)] hX (by decide +kernel) (wi_list ?_)
  walk_at "go"
  refine ⟨show 0 ≤ sizeLine from len_line, fun t1 => ?_⟩
  walk_at "go"
  refine ⟨show 0 ≤ sizeLine from len_line, fun t2 => ?_⟩
  walk_at "go"
  refine we_dnew fun t3 => ?_
  walk_at "go"
  refine ⟨show 7 ≤ sizeLine from len_line, fun p1 => ?_⟩
  refine ⟨p1, _, rfl, .of .head, fun D1 => ⟨fun i L' => L' = (D1, .lst (List.replicate i (.bl false))) :: (p1, .lst [.non, .int 0, .bl true, .str "", .ref t1, .ref t2, .ref t3]) :: (t3, .dK []) :: (t2, .lst []) :: (t1, .tup []) :: L, rfl, ?_, ?_, ?_⟩⟩
  · rintro i L' _ rfl
    exact .of (.tail .head)
  · rintro i v L' L'' hi rfl ⟨rfl, hv⟩
    have hi7 : i < 7 := hi
    have kd : (∃ k, v = .str k ∧ k.length ≤ 1000 ∧ isNm k = false) ∨ (∃ t, TyL X.K v t ((D1, .lst (List.replicate i (.bl false))) :: (p1, .lst [.non, .int 0, .bl true, .str "", .ref t1, .ref t2, .ref t3]) :: (t3, .dK []) :: (t2, .lst []) :: (t1, .tup []) :: L) ∧ PySem.W.kitOne X.K t (.type "str") = some false) := by
      match i, hv with
      | 0, hv => cases hv; exact .inr ⟨_, ty_none, kit_ty (by decide +kernel)⟩
      | 1, hv => cases hv; exact .inr ⟨_, ty_int, kit_ty (by decide +kernel)⟩
      | 2, hv => cases hv; exact .inr ⟨_, ty_bool, kit_ty (by decide +kernel)⟩
      | 3, hv => cases hv; exact .inl ⟨"", rfl, by decide +kernel, by decide +kernel⟩
      | 4, hv => cases hv; exact .inr ⟨_, ty_tup (.tail (.tail (.tail (.tail .head)))), kit_ty (by decide +kernel)⟩
      | 5, hv => cases hv; exact .inr ⟨_, ty_lst (.tail (.tail (.tail .head))), kit_ty (by decide +kernel)⟩
      | 6, hv => cases hv; exact .inr ⟨_, ty_dict (.tail (.tail .head)), kit_ty (by decide +kernel)⟩
    intro s H' Ca cl fp
    have hB := hX.blk (Vb := ["_law_thing", "_law_table"]) (Lb := ["_law_thing"]) (Gb := []) (scope := ⟨.function, [(".0", .local), ("_law_thing", .local), ("_law_table", .free)], false, false, []⟩) (by decide +kernel)
    refine x_tgt (hB s H' Ca cl fp) (by walk_at "at") (by walk_at "at") ⟨rfl, fun s H' Ca cl fp => ?_⟩
    have hX1 := hB s H' Ca cl fp
    refine we_cmp rfl ?_
    walk_at "go"
    refine wo_ownIn (X := X.blk s H' _ (compEnvC _ cl Ca X.env) fp) cn (by exact hr.mono (by decide)) (.tail (.tail (.tail (.tail (.tail mo))))) ?_
    refine ⟨o, r, _, rfl, ⟨dx, dd', .tail (.tail (.tail (.tail (.tail mo)))), .tail (.tail (.tail (.tail (.tail md))))⟩, ?_⟩
    have fin : ∃ xs F, Hole D1 (.lst xs) ((D1, .lst (List.replicate i (.bl false))) :: (p1, .lst [.non, .int 0, .bl true, .str "", .ref t1, .ref t2, .ref t3]) :: (t3, .dK []) :: (t2, .lst []) :: (t1, .tup []) :: L) F ∧ xs.length < sizeLine ∧ ∃ L5, N3.Sub (F (.lst (xs ++ [.bl false]))) L5 ∧ L5 = (D1, .lst (List.replicate (i + 1) (.bl false))) :: (p1, .lst [.non, .int 0, .bl true, .str "", .ref t1, .ref t2, .ref t3]) :: (t3, .dK []) :: (t2, .lst []) :: (t1, .tup []) :: L :=
      ⟨_, _, .head, by rw [List.length_replicate]; exact len_lt (by omega), _, Sub.refl _, by rw [rep_snoc]⟩
    rcases kd with ⟨k, rfl, hk, hf⟩ | hk
    · refine .inl ⟨k, rfl, hk, _, rfl, ?_⟩
      rw [hf, Bool.false_and]
      exact fin
    · exact .inr ⟨hk, _, rfl, fin⟩
  rintro L' rfl
  refine wo_inL (.of .head) rfl rfl ?_
  rw [show inV (.bl true) (List.replicate ([V.non, V.int 0, V.bl true, V.str "", V.ref t1, V.ref t2, V.ref t3] : List V).length (V.bl false)) = false from rfl]
  refine ⟨false, rfl, fun z => Bool.noConfusion z, fun _ => nil_rest (L' := L) (.cons _ (.cons _ (.cons _ (.cons _ (.cons _ (.refl _)))))) ?_⟩
  with_reducible_and_instances exact rest
theorem is_8 (hX : XOk nIs (defScope sIs) vIs lIs gIs X) (hr : Room 4 X.A) (Q : Rg X.prog X.w X.K X.mg X.base C) (hw : Rw r) (m1 : Mem du (.dK (tk r)) L) {σ : L2.St} (hσ : σ = [some (.ref o), some (.ref d), some (.ref q), some (.ref du), u4, u5, u6, none, none, none]) (rest : WSs X (bI 9) [some (.ref o), some (.ref d), some (.ref q), some (.ref du), u4, some (.bl (r.all fun p => decide (0 < p.2))), u6, none, none, none] L D) : WSs X (bI 8) σ L D := by
  obtain ⟨T, at', us, co, pl, ti, re, ad, sb, ng, eq, le, cn, rp, mk1, mk0, mkK, nfS, nfD, nfC, ne, ke⟩ := Q
  clear at' us co pl ti re ad sb ng eq le rp mk1 mk0 mkK ke cn
  subst hσ
  obtain ⟨G, hf, other⟩ := m1.hole
  have hh := fun od => hf.again' (.frz od (.dK (tk r)))
  walk_at "go"
  refine we_lock hf True.intro fun od => ?_
  refine x_lc [("_law_number_here", 9)] hX (by decide +kernel) (wi_values ?_)
  walk_at "go"
  refine ⟨du, od, tk r, rfl, (hh od).mm, fun D1 => ⟨fun i L' => L' = (D1, .lst (((r.take i).map fun p => decide (0 < p.2)).map V.bl)) :: G (.frz od (.dK (tk r))), rfl, ?_, ?_, ?_⟩⟩
  · rintro i L' _ rfl
    exact .tail (hh od).mm
  · rintro i v L' L'' hi rfl ⟨rfl, k, hk⟩
    intro s H' Ca cl fp
    obtain ⟨p, hp, ep⟩ := map_get hk
    cases ep
    have hB := hX.blk (Vb := ["_law_number_here"]) (Lb := ["_law_number_here"]) (Gb := []) (scope := ⟨.function, [(".0", .local), ("_law_number_here", .local)], false, false, []⟩) (by decide +kernel)
    refine x_tgt (hB s H' Ca cl fp) (by walk_at "at") (by walk_at "at") ⟨rfl, fun s H' Ca cl fp => ?_⟩
    have hX1 := hB s H' Ca cl fp
    walk_at "go"
    refine ⟨_, _, .head, ?_, _, Sub.refl _, ?_⟩
    · rw [List.length_map, List.length_map]
      exact len_lt (Nat.lt_of_le_of_lt (by rw [List.length_take]; exact Nat.min_le_right _ _) (Nat.lt_of_lt_of_le hw.ln (by decide)))
    · show _ = _
      rw [List.take_add_one, hp, List.map_append, List.map_append]
      rfl
  rintro L' rfl
  rw [tk_len, List.take_length]
  refine ⟨_, .tail (hh od), ?_⟩
  rw [hf.self']
  walk_at "go"
  refine wc_all hX.calm (.of .head) ?_
  rw [List.all_map]
  exact wss_subl (L' := L) (.cons _ (.refl _)) rest
theorem is_9 (hX : XOk nIs (defScope sIs) vIs lIs gIs X) (hr : Room 4 X.A) (hgd : X.A.guards = some []) (Q : Rg X.prog X.w X.K X.mg X.base C) (to : Tb C L o r) (hw : Rw r) (sz : Sz 1000 r) (m1 : Mem du (.dK (tk r)) L) {σ : L2.St} (hσ : σ = [some (.ref o), some (.ref d), some (.ref q), some (.ref du), u4, some (.bl (r.all fun p => decide (0 < p.2))), u6, none, none, none]) (rest : WSs X (bI 10) σ L D) : WSs X (bI 9) σ L D := by
  obtain ⟨T, at', us, co, pl, ti, re, ad, sb, ng, eq, le, cn, rp, mk1, mk0, mkK, nfS, nfD, nfC, ne, ke⟩ := Q
  clear at' us co ti re ad sb ng eq le mk1 mk0 mkK ke cn
  subst hσ
  have to' := to
  obtain ⟨dx, dd', mo, md⟩ := to
  have ll := dtx_len (Nat.le_refl _) sz hw.nm hw.ln
  have lb := line_tab
  have l6 : ("Table(" : Str).length = 6 := by decide +kernel
  have l1 : (")" : Str).length = 1 := by decide +kernel
  have hun := hr.un
  rw [bI_at 9 10 rfl (by decide +kernel)]
  refine wss_cons ?_
  refine ws_if ?_
  refine wt_ww (ww_or ?_)
  refine wt_cmp rfl ?_
  walk_at "go"
  refine wc_ownReprG rp (by walk_at "room") hgd mo ⟨o, r, rfl, to', hw, sz, _, rfl, ?_⟩
  walk_at "go"
  refine wc_reprDict hgd ?_ (.of m1) (dd_is r) ?_ ?_ ?_
  · simp only [PyData.depth, dd_depth]
    omega
  · simp only [PyData.showable]
    exact dd_show (Nat.le_refl _) sz
  · exact Nat.le_trans ll (by omega)
  refine wo_cat (i := "Table(") (j := dtx r) (by omega) ?_
  walk_at "go"
  refine wo_cat (j := ")") (by rw [len_app]; omega) ?_
  refine wo_ne rfl ?_
  rw [show V.str (("Table(" : Str) ++ dtx r ++ ")") = V.str (ttx r) from rfl, decide_eq_true rfl]
  refine ⟨false, rfl, fun _ => ?_, fun z => Bool.noConfusion z⟩
  refine ww_or1 (wt_cmp rfl ?_)
  walk_at "go"
  refine ⟨o, r, rfl, to', hw, ?_⟩
  walk_at "go"
  refine wc_reprD (d := .bool (r.all fun p => decide (0 < p.2))) hgd (by simp only [PyData.depth]; omega) (fun H hL => .bl _) (by simp [PyData.showable]) ?_ ?_
  · generalize (r.all fun p => decide (0 < p.2)) = b
    cases b
    · exact len_line (by decide +kernel)
    · exact len_line (by decide +kernel)
  walk_at "go"
  refine wc_reprD (d := .bool (r.all fun p => decide (0 < p.2))) hgd (by simp only [PyData.depth]; omega) (fun H hL => .bl _) (by simp [PyData.showable]) ?_ ?_
  · generalize (r.all fun p => decide (0 < p.2)) = b
    cases b
    · exact len_line (by decide +kernel)
    · exact len_line (by decide +kernel)
  refine wo_ne rfl ?_
  rw [decide_eq_true rfl]
  refine ⟨false, rfl, fun z => Bool.noConfusion z, fun _ => nil_rest (.refl _) ?_⟩
  with_reducible_and_instances exact rest
theorem paired_of {α β : Type} {R : α → β → Prop} : ∀ (l : List α) (l' : List β), l.length = l'.length → (∀ (i : Nat) (a : α) (b : β), l[i]? = some a → l'[i]? = some b → R a b) → Paired R l l'
  | [], [], _, _ => .nil
  | a :: l, b :: l', h, k => .cons (k 0 a b rfl rfl) (paired_of l l' (Nat.succ.inj h) fun i a b h1 h2 => k (i + 1) a b h1 h2)
theorem rev_get {α : Type} {l : List α} {i : Nat} {a : α} (h : l.reverse[i]? = some a) : i < l.length ∧ l[l.length - 1 - i]? = some a := by
  have hi : i < l.length := by
    have := (List.getElem?_eq_some_iff.mp h).1
    rwa [List.length_reverse] at this
  rw [List.getElem?_reverse hi] at h
  exact ⟨hi, h⟩
theorem look_rev {r : SI} (c : (r.map (·.1)).Nodup) (k : Str) : look r.reverse k = look r k := by
  have c' : (r.reverse.map (·.1)).Nodup := by rw [List.map_reverse]; exact (List.reverse_perm _).symm.nodup c
  unfold look
  cases e : lookO r k with
  | some v =>
    have := lookO_mem c' (List.mem_reverse.mpr (lookO_get e))
    rw [this]
  | none =>
    rw [lookO_none.mpr]
    rw [List.map_reverse, List.mem_reverse]
    exact lookO_none.mp e
theorem is_10 (hX : XOk nIs (defScope sIs) vIs lIs gIs X) (hr : Room 4 X.A) (Q : Rg X.prog X.w X.K X.mg X.base C) (hw : Rw r) (m1 : Mem du (.dK (tk r)) L) {σ : L2.St} (hσ : σ = [some (.ref o), some (.ref d), some (.ref q), some (.ref du), u4, u5, u6, none, none, none]) (rest : ∀ o2 L', L.Sublist L' → Tb C L' o2 r → WSs X (bI 11) [some (.ref o), some (.ref d), some (.ref q), some (.ref du), u4, u5, some (.ref o2), none, none, none] L' D) : WSs X (bI 10) σ L D := by
  obtain ⟨T, at', us, co, pl, ti, re, ad, sb, ng, eq, le, cn, rp, mk1, mk0, mkK, nfS, nfD, nfC, ne, ke⟩ := Q
  clear at' us co pl ti re ad sb ng eq le rp mk0 mkK ke cn
  subst hσ
  have zl : X.mg "list" = none := by walk_at "none"
  have gl := (hX.glo (x := "list") (by walk_at "at")).1
  walk_at "go"
  refine we_revL ?_
  refine we_listItems hX.calm gl zl boot_list ?_
  walk_at "go"
  refine ⟨du, tk r, rfl, m1, tk_nodup hw.can.nd, fun p1 ts l1 => ?_⟩
  refine ⟨p1, _, rfl, .of .head, fun p2 => ?_⟩
  walk_at "go"
  refine wc_dictP (ps := ts.reverse) (kvs := (tk r).reverse) hX.calm (.of (by rw [List.map_reverse]; exact .head)) ?_ fun p3 => ?_
  · intro H hL
    refine paired_of _ _ (by rw [List.length_reverse, List.length_reverse, l1]) fun i t q h1 h2 => ?_
    obtain ⟨i1, e1⟩ := rev_get h1
    obtain ⟨i2, e2⟩ := rev_get h2
    rw [← l1] at e2
    exact SqT.of (hL.get (.tail (.tail (tups_mem ts (tk r) L _ t q e1 e2))))
  rw [show (tk r).reverse = r.reverse.map fun p => ((Sum.inr p.1 : Key), V.int p.2) by unfold tk; rw [List.map_reverse], merge_tk]
  have ndr : (r.reverse.map (·.1)).Nodup := by rw [List.map_reverse]; exact (List.reverse_perm _).symm.nodup hw.can.nd
  rw [mg_id _ ndr]
  walk_at "go"
  intro o2 dx2
  refine ⟨o2, dx2, _, r.reverse, _, rfl, rfl, .inr ⟨p3, rfl, .head⟩, ⟨ndr, fun p hp => hw.nm p (List.mem_reverse.mp hp), by rw [List.length_reverse]; exact Nat.lt_trans hw.ln (by decide)⟩, fun d' => ⟨rfl, ?_⟩⟩
  rw [norm_eq ndr hw.can fun k => (look_rev hw.can.nd k).symm]
  refine rest o2 _ ?_ ⟨dx2, d', .tail .head, .head⟩
  exact .cons _ (.cons _ (.cons _ (.cons _ (.cons _ (List.sublist_append_right _ _)))))
theorem is_11 (hX : XOk nIs (defScope sIs) vIs lIs gIs X) (hr : Room 4 X.A) (hgd : X.A.guards = some []) (Q : Rg X.prog X.w X.K X.mg X.base C) {o2 : Addr} (to : Tb C L o r) (to2 : Tb C L o2 r) (hw : Rw r) (sz : Sz 1000 r) (m1 : Mem du (.dK (tk r)) L) {σ : L2.St} (hσ : σ = [some (.ref o), some (.ref d), some (.ref q), some (.ref du), u4, u5, some (.ref o2), none, none, none]) {Kk : V → LH → Prop} (k : (EndOf Kk).rt (.bl true) L) : WSs X (bI 11) σ L (EndOf Kk) := by
  obtain ⟨T, at', us, co, pl, ti, re, ad, sb, ng, eq, le, cn, rp, mk1, mk0, mkK, nfS, nfD, nfC, ne, ke⟩ := Q
  clear at' us co pl ti re ad sb ng le mk1 mk0 mkK ke cn
  subst hσ
  have to' := to
  have to2' := to2
  obtain ⟨dx, dd', mo, md⟩ := to
  obtain ⟨dx2, dd2, mo2, md2⟩ := to2
  walk_at "go"
  refine wo_ownEq eq (by walk_at "room") mo (.ins mo2) nfC ⟨o, r, _, rfl, to', hw.can, .inl ⟨o2, r, rfl, to2', hw.can, ?_⟩⟩
  rw [decide_eq_true rfl]
  refine ⟨_, rfl, fun _ => ?_, fun z => Bool.noConfusion z⟩
  walk_at "go"
  refine wo_ownNe eq (by walk_at "room") mo (.dK m1) nfD ne T.cm ⟨o, r, _, rfl, to', hw.can, .inr ⟨⟨_, ty_dict m1, T.iDC⟩, _, rfl, ?_⟩⟩
  refine ⟨_, rfl, fun _ => ?_, fun z => Bool.noConfusion z⟩
  walk_at "go"
  refine wc_ownReprG rp (by walk_at "room") hgd mo ⟨o, r, rfl, to', hw, sz, _, rfl, ?_⟩
  refine wo_ownNe eq (by walk_at "room") mo (.str _) nfS ne T.cm ⟨o, r, _, rfl, to', hw.can, .inr ⟨⟨_, ty_str, T.iSC⟩, _, rfl, ?_⟩⟩
  exact k
end
end K12

set_option Elab.async false
set_option linter.all false
set_option maxRecDepth 100000
set_option maxHeartbeats 4000000
namespace K12
open PySem L2 N3
local macro_rules | `(tactic| walk_at "at") => `(tactic| with_reducible (repeat (first | exact At.head | apply At.tail)))
local macro_rules | `(tactic| walk_at "mem") => `(tactic| with_reducible (repeat (first | exact Mem.head | apply Mem.tail)))
local macro_rules | `(tactic| walk_at "boot") => `(tactic| with_reducible (first | exact boot_isi | exact boot_max | exact boot_min | exact boot_abs | exact boot_len | exact boot_repr | exact boot_divmod | exact boot_all | exact boot_int | exact boot_bool | exact boot_str | exact boot_dict | exact boot_list | exact boot_sorted))
local macro_rules | `(tactic| walk_at "room") => `(tactic| (first | assumption | exact Room.mono (by assumption) (by decide)))
local macro_rules | `(tactic| walk_at "none") => `(tactic| (refine Txt.bn (by assumption) _ ?xz; (case xz => with_reducible (repeat (first | exact InS.head | apply InS.tail)))))
local macro_rules | `(tactic| walk_at "n3") => `(tactic| first
  | with_reducible refine ws_ret ?_
  | with_reducible refine we_int ?_
  | with_reducible refine we_str ?_
  | with_reducible refine we_bool ?_
  | with_reducible refine we_none ?_
  | ((with_reducible refine' x_name ?xo ?xa ?xb ?xc ?_); (case xo => assumption); (case xa => walk_at "at"); (case xb => walk_at "at"); (case xc => rfl))
  | ((with_reducible refine' f_cnt ?xt ?_ ?xh); (case xt => assumption); (case xh => rfl))
  | ((with_reducible refine' we_prop ?xg ?xr ?_ ?xh); (case xg => assumption); (case xr => walk_at "room"); (case xh => rfl))
  | with_reducible refine we_bin ?_
  | with_reducible refine wo_add ?_
  | with_reducible refine wo_sub ?_
  | with_reducible refine wo_lt ?_
  | with_reducible refine wo_gt ?_
  | with_reducible refine wo_le ?_
  | with_reducible refine wo_ge ?_
  | with_reducible refine wu_neg ?_
  | ((with_reducible refine we_cmp ?xh ?_); (case xh => exact nomark _))
  | ((with_reducible refine wt_cmp ?xh ?_); (case xh => exact nomark _))
  | ((with_reducible refine wa_cons ?_ ?xh); (case xh => rfl))
  | with_reducible refine wa_nil ?_
  | with_reducible refine we_and ?_
  | with_reducible refine we_or ?_
  | with_reducible refine we_not ?_
  | with_reducible refine wt_not ?_
  | with_reducible refine we_un ?_
  | with_reducible refine we_one ?_
  | with_reducible refine wt_ww (ww_or ?_)
  | with_reducible refine wt_ww (ww_and ?_)
  | with_reducible refine ww_or ?_
  | with_reducible refine ww_and ?_
  | with_reducible refine ww_or1 ?_
  | with_reducible refine ww_and1 ?_
  | with_reducible refine we_ifExp ?_
  | with_reducible refine ws_if ?_
  | with_reducible refine ws_pass ?_
  | with_reducible refine we_tup ?_
  | with_reducible refine we_lst ?_
  | ((with_reducible refine' x_set ?xo ?xa ?xb ?_ ?xs); (case xo => assumption); (case xa => walk_at "at"); (case xb => walk_at "at"); (case xs => rfl))
  | ((with_reducible refine' x_setF ?_ ?xs); (case xs => rfl))
  | ((with_reducible refine' x_call ?xo ?xa ?xg ?xr ?_ ?xe ?xp); (case xo => assumption); (case xa => walk_at "at"); (case xg => assumption); (case xr => walk_at "room"); (case xe => rfl); (case xp => rfl))
  | ((with_reducible refine' x_callG ?xo ?xa ?xg ?xr ?xd ?_ ?xe ?xp); (case xo => assumption); (case xa => walk_at "at"); (case xg => assumption); (case xr => walk_at "room"); (case xd => assumption); (case xe => rfl); (case xp => rfl))
  | ((with_reducible refine' x_callB ?xo ?xa ?xg ?xr ?_ ?xe ?xp); (case xo => assumption); (case xr => walk_at "boot"); (case xa => walk_at "at"); (case xg => walk_at "none"); (case xe => rfl); (case xp => rfl))
  | ((with_reducible refine' x_callTy ?xo ?xa ?xg ?xr ?_ ?xe ?xp); (case xo => assumption); (case xr => walk_at "boot"); (case xa => walk_at "at"); (case xg => walk_at "none"); (case xe => rfl); (case xp => rfl))
  | ((with_reducible refine' x_bty ?xo ?xa ?xg ?xr ?_); (case xo => assumption); (case xr => walk_at "boot"); (case xa => walk_at "at"); (case xg => walk_at "none"))
  | ((with_reducible refine' x_cls ?xt ?xo ?xa ?_); (case xt => assumption); (case xo => assumption); (case xa => walk_at "at"))
  | ((with_reducible refine' x_make ?xo ?xa ?xg ?xr ?_ ?xe ?xp); (case xo => assumption); (case xa => walk_at "at"); (case xg => assumption); (case xr => walk_at "room"); (case xe => rfl); (case xp => rfl))
  | with_reducible refine wss_nil ?_
  | refine ⟨_, _, _, rfl, (by assumption), ?_⟩
  | refine wss_cons ?_
  | ((with_reducible refine' wt_val ?_ ?xv); (case xv => intro _; rfl)))
local macro_rules | `(tactic| walk_at "go") => `(tactic| repeat walk_at "n3")
section
variable {P : Program} {w : World} {K : PySem.W.Frag} {mg : Str → Option Value} {base : Heap}
def pIs (C : Addr) : Pre := fun vs L Kk => ∃ (o d q : Addr) (m : SI) (ns : List Str), vs = [.ref o, .ref d, .ref q] ∧ Tb C L o (norm m) ∧ Mem d (.dK (tk m)) L ∧ Mem q (.lst (ns.map V.str)) L ∧ Md m ∧ m.length < 20 ∧ Sz 1000 m ∧ (∀ y ∈ ns, Nm y) ∧ ns.length < 100 ∧ Kk (.bl true) L
theorem okIs {f C : Addr} {fd : FuncData} (F : Fun K "_law_is" "_law_is" sIs f fd) (Q : Rg P w K mg base C) : FnG P w K mg base 5 f fd ["_law_table", "_law_model", "_law_names_here"] (pIs C) := by
  refine fnXGCC (Vn := vIs) (Ln := lIs) (Gn := gIs) F scIs okScIs (fun vs L Kk h => ?_) (fun X e1 e2 e3 e4 e5 hX hfn hr hgd vs L Kk h => ?_)
  · obtain ⟨o, d, q, m, ns, rfl, _⟩ := h
    rfl
  · subst e1 e2 e3 e4 e5
    obtain ⟨o, d, q, m, ns, rfl, to, md, mq, hm, hl, sz, hn, hnl, k⟩ := h
    have hw := norm_md hm hl
    have szn := norm_sz sz
    have ke := Q.ke
    have co := Q.co
    show WSs X (bI 0) _ _ _
    rw [bI_at 0 1 rfl (by decide +kernel)]
    refine wss_cons ?_
    refine x_setC hX hfn (by walk_at "at") (by decide +kernel) ?_
    walk_at "go"
    refine ⟨d, m, rfl, md, hm, fun du => ?_⟩
    dsimp only
    rw [bI_at 1 2 rfl (by decide +kernel)]
    refine wss_cons ?_
    refine x_set hX (by walk_at "at") (by walk_at "at") ?_
    refine we_meth0 co (by walk_at "room") ?_
    walk_at "go"
    obtain ⟨dx, dd', mo, mdd⟩ := to
    refine ⟨o, dx, _, rfl, .tail mo, tabF_no _ (by decide +kernel), o, _, rfl, ⟨dx, dd', .tail mo, .tail mdd⟩, hw, fun td => ?_⟩
    have to1 : Tb C ((td, .dK (tk (norm m))) :: (du, .dK (tk (norm m))) :: L) o (norm m) := ⟨dx, dd', .tail (.tail mo), .tail (.tail mdd)⟩
    have to0 : Tb C ((du, .dK (tk (norm m))) :: L) o (norm m) := ⟨dx, dd', .tail mo, .tail mdd⟩
    dsimp only
    show WSs X (bI 2) [some (.ref o), some (.ref d), some (.ref q), some (.ref du), some (.ref td), none, none, none, none, none] _ _
    refine is_2 hX hr Q to1 hw (.tail .head) .head rfl ?_
    refine is_3 hX hr .head hw.ln rfl fun kvs => ?_
    refine wss_subl (L' := (du, .dK (tk (norm m))) :: L) (.cons _ (.refl _)) ?_
    with_reducible_and_instances refine is_4 hX hr Q to0 hw rfl ?_
    with_reducible_and_instances refine is_5 hX hr Q to0 hw .head (.tail mq) hn hnl rfl ?_
    with_reducible_and_instances refine is_6 hX hr Q to0 hw .head (.tail mq) hn hnl rfl ?_
    with_reducible_and_instances refine is_7 hX hr Q to0 rfl ?_
    with_reducible_and_instances refine is_8 hX hr Q hw .head rfl ?_
    with_reducible_and_instances refine is_9 hX hr hgd Q to0 hw szn .head rfl ?_
    with_reducible_and_instances refine is_10 hX hr Q hw .head rfl fun o2 L' sl to2 => ?_
    with_reducible_and_instances refine is_11 hX hr hgd Q (to0.sl sl) to2 hw szn (Mem.head.sl sl) rfl ?_
    exact ret_sub k (Sub.of_sublist (.trans (.cons _ (.refl _)) sl))
end
end K12

set_option Elab.async false
set_option linter.all false
set_option maxRecDepth 100000
set_option maxHeartbeats 4000000
namespace K12
open PySem L2 N3
local macro_rules | `(tactic| walk_at "at") => `(tactic| with_reducible (repeat (first | exact At.head | apply At.tail)))
local macro_rules | `(tactic| walk_at "mem") => `(tactic| with_reducible (repeat (first | exact Mem.head | apply Mem.tail)))
local macro_rules | `(tactic| walk_at "boot") => `(tactic| with_reducible (first | exact boot_isi | exact boot_max | exact boot_min | exact boot_abs | exact boot_len | exact boot_repr | exact boot_divmod | exact boot_all | exact boot_int | exact boot_bool | exact boot_str | exact boot_dict | exact boot_list | exact boot_sorted))
local macro_rules | `(tactic| walk_at "room") => `(tactic| (first | assumption | exact Room.mono (by assumption) (by decide)))
local macro_rules | `(tactic| walk_at "none") => `(tactic| (refine Txt.bn (by assumption) _ ?xz; (case xz => with_reducible (repeat (first | exact InS.head | apply InS.tail)))))
local macro_rules | `(tactic| walk_at "n3") => `(tactic| first
  | with_reducible refine ws_ret ?_
  | with_reducible refine we_int ?_
  | with_reducible refine we_str ?_
  | with_reducible refine we_bool ?_
  | with_reducible refine we_none ?_
  | ((with_reducible refine' x_name ?xo ?xa ?xb ?xc ?_); (case xo => assumption); (case xa => walk_at "at"); (case xb => walk_at "at"); (case xc => rfl))
  | ((with_reducible refine' f_cnt ?xt ?_ ?xh); (case xt => assumption); (case xh => rfl))
  | ((with_reducible refine' we_prop ?xg ?xr ?_ ?xh); (case xg => assumption); (case xr => walk_at "room"); (case xh => rfl))
  | with_reducible refine we_bin ?_
  | with_reducible refine wo_add ?_
  | with_reducible refine wo_sub ?_
  | with_reducible refine wo_lt ?_
  | with_reducible refine wo_gt ?_
  | with_reducible refine wo_le ?_
  | with_reducible refine wo_ge ?_
  | with_reducible refine wu_neg ?_
  | ((with_reducible refine we_cmp ?xh ?_); (case xh => exact nomark _))
  | ((with_reducible refine wt_cmp ?xh ?_); (case xh => exact nomark _))
  | ((with_reducible refine wa_cons ?_ ?xh); (case xh => rfl))
  | with_reducible refine wa_nil ?_
  | with_reducible refine we_and ?_
  | with_reducible refine we_or ?_
  | with_reducible refine we_not ?_
  | with_reducible refine wt_not ?_
  | with_reducible refine we_un ?_
  | with_reducible refine we_one ?_
  | with_reducible refine wt_ww (ww_or ?_)
  | with_reducible refine wt_ww (ww_and ?_)
  | with_reducible refine ww_or ?_
  | with_reducible refine ww_and ?_
  | with_reducible refine ww_or1 ?_
  | with_reducible refine ww_and1 ?_
  | with_reducible refine we_ifExp ?_
  | with_reducible refine ws_if ?_
  | with_reducible refine ws_pass ?_
  | with_reducible refine we_tup ?_
  | with_reducible refine we_lst ?_
  | ((with_reducible refine' x_set ?xo ?xa ?xb ?_ ?xs); (case xo => assumption); (case xa => walk_at "at"); (case xb => walk_at "at"); (case xs => rfl))
  | ((with_reducible refine' x_setF ?_ ?xs); (case xs => rfl))
  | ((with_reducible refine' x_call ?xo ?xa ?xg ?xr ?_ ?xe ?xp); (case xo => assumption); (case xa => walk_at "at"); (case xg => assumption); (case xr => walk_at "room"); (case xe => rfl); (case xp => rfl))
  | ((with_reducible refine' x_callG ?xo ?xa ?xg ?xr ?xd ?_ ?xe ?xp); (case xo => assumption); (case xa => walk_at "at"); (case xg => assumption); (case xr => walk_at "room"); (case xd => assumption); (case xe => rfl); (case xp => rfl))
  | ((with_reducible refine' x_callB ?xo ?xa ?xg ?xr ?_ ?xe ?xp); (case xo => assumption); (case xr => walk_at "boot"); (case xa => walk_at "at"); (case xg => walk_at "none"); (case xe => rfl); (case xp => rfl))
  | ((with_reducible refine' x_callTy ?xo ?xa ?xg ?xr ?_ ?xe ?xp); (case xo => assumption); (case xr => walk_at "boot"); (case xa => walk_at "at"); (case xg => walk_at "none"); (case xe => rfl); (case xp => rfl))
  | ((with_reducible refine' x_bty ?xo ?xa ?xg ?xr ?_); (case xo => assumption); (case xr => walk_at "boot"); (case xa => walk_at "at"); (case xg => walk_at "none"))
  | ((with_reducible refine' x_cls ?xt ?xo ?xa ?_); (case xt => assumption); (case xo => assumption); (case xa => walk_at "at"))
  | ((with_reducible refine' x_make ?xo ?xa ?xg ?xr ?_ ?xe ?xp); (case xo => assumption); (case xa => walk_at "at"); (case xg => assumption); (case xr => walk_at "room"); (case xe => rfl); (case xp => rfl))
  | with_reducible refine wss_nil ?_
  | refine ⟨_, _, _, rfl, (by assumption), ?_⟩
  | refine wss_cons ?_
  | ((with_reducible refine' wt_val ?_ ?xv); (case xv => intro _; rfl)))
local macro_rules | `(tactic| walk_at "go") => `(tactic| repeat walk_at "n3")
section
variable {P : Program} {w : World} {K : PySem.W.Frag} {mg : Str → Option Value} {base : Heap}
theorem wss_end {X : Cx} {sts : List Stmt} {σ : L2.St} {L : LH} {Kk : V → LH → Prop} (h : WSs X sts σ L (EndOf fun v L' => ∃ L2, Sub L' L2 ∧ Kk v L2)) : WSs X sts σ L (EndOf Kk) := fun H hL =>
  (h H hL).mono ⟨fun _ _ ⟨L1, h1, L2, s2, L3, s3, q⟩ => ⟨L1, h1, L3, s2.trans s3, q⟩, fun _ _ ⟨L1, h1, L2, s2, L3, s3, q⟩ => ⟨L1, h1, L3, s2.trans s3, q⟩, fun _ _ q => q, fun _ _ q => q⟩
/-! _law_right -/
def pRight : Pre := fun vs L Kk => ∃ r a b F, vs = [.ref r] ∧ Hole r (rl a b) L F ∧ ∀ a' b', Kk (.bl true) (F (rl a' b'))
/-! law -/
def pLaw (K : PySem.W.Frag) : Pre := fun vs L Kk => ∃ (a : Addr) (ns : List Int), vs = [.ref a] ∧ ScriptOf K a ns L ∧ ns.length ≤ 63 ∧ Kk (.bl true) L
theorem scLaw : FnScope ["_law_script", "_law_k", "_law_rng_here", "_law_turn"] ["_law_script"] (defScope sLaw) := ⟨rfl, rfl, rfl, by decide +kernel, rfl, by decide +kernel, by decide +kernel⟩
theorem script_sq {K : PySem.W.Frag} {a : Addr} {ns : List Int} {L : LH} (h : ScriptOf K a ns L) (J : LH) : SqLL K a (ns.map V.int) (J ++ L) := by
  rcases h with ⟨rfl, h⟩ | ⟨ob, rfl⟩
  · exact fun H _ => h H
  · exact .fz (Mem.app .head J)
theorem okLaw {f C : Addr} {fd : FuncData} (F : Fun K "law" "law" sLaw f fd) (T : Txt K mg C) (GR : GFn P w K mg base "_law_rng" 1 ["_law_script", "_law_k"] [] (pRng K)) (GG : GFg P w K mg base "_law_right" 12 ["_law_rng_here"] [] pRight) : FnG P w K mg base 13 f fd ["_law_script"] (pLaw K) := by
  refine fnXG (Gn := ["range", "max", "min", "len", "_law_rng", "_law_right"]) F scLaw (by decide +kernel) (fun vs L Kk h => ?_) (fun X e1 e2 e3 e4 e5 hX hr hgd vs L Kk h => ?_)
  · obtain ⟨a, ns, rfl, _⟩ := h
    rfl
  · subst e1 e2 e3 e4 e5
    obtain ⟨a, ns, rfl, hS, hl, k⟩ := h
    have zr : X.mg "range" = none := by walk_at "none"
    have gr := (hX.glo (x := "range") .head).1
    refine wss_cons (ws_forR hX.calm hX.pas zr ?_ gr)
    walk_at "go"
    refine wc_len (script_sq hS []) ?_
    walk_at "go"
    refine wc_min hX.calm ?_
    walk_at "go"
    refine wc_max hX.calm ?_
    rw [List.length_map]
    walk_at "go"
    have b0 : ∀ n : Nat, n ≤ 63 → (1 : Int) ≤ (if (if (n : Int) < 4 then (n : Int) else 4) > 1 then (if (n : Int) < 4 then (n : Int) else 4) else 1) ∧ (if (if (n : Int) < 4 then (n : Int) else 4) > 1 then (if (n : Int) < 4 then (n : Int) else 4) else 1) ≤ 4 := by
      intro n hn
      split <;> split at * <;> omega
    have b1 := b0 ns.length hl
    refine ⟨_, rfl, Int.le_trans (by decide) b1.1, Int.lt_of_le_of_lt b1.2 (by decide), fun i σ' L' => (∃ x y z, σ' = [some (.ref a), x, y, z]) ∧ L' = L, ⟨⟨_, _, _, rfl⟩, rfl⟩, ?_, ?_⟩
    · rintro i σ' L' hi ⟨⟨x, y, z, rfl⟩, rfl⟩
      generalize (if (if (ns.length : Int) < 4 then (ns.length : Int) else 4) > 1 then (if (ns.length : Int) < 4 then (ns.length : Int) else 4) else 1) = m at *
      refine x_tgt (by assumption) (by walk_at "at") (by walk_at "at") ?_
      walk_at "go"
      rw [Int.zero_add]
      refine ⟨a, i, ns, rfl, by omega, script_sq hS [], fun p c d => ?_⟩
      refine wss_cons (ws_forR hX.calm hX.pas zr ?_ gr)
      walk_at "go"
      refine ⟨5, rfl, by decide, by decide, fun j σ' L2 => (∃ z, σ' = [some (.ref a), some (.int (i : Int)), some (.ref p), z]) ∧ ∃ c d, L2 = (p, rl c d) :: L', ⟨⟨_, rfl⟩, _, _, rfl⟩, ?_, ?_⟩
      · rintro j σ' L2 hj ⟨⟨z, rfl⟩, c, d, rfl⟩
        refine x_tgt (by assumption) (by walk_at "at") (by walk_at "at") ?_
        walk_at "go"
        refine ⟨p, c, d, _, rfl, .head, fun c' d' => ⟨true, rfl, fun z => Bool.noConfusion z, fun _ => ?_⟩⟩
        exact wss_nil (wss_nil ⟨_, Sub.refl _, ⟨_, rfl⟩, _, _, rfl⟩)
      · rintro σ' L2 ⟨⟨z, rfl⟩, c, d, rfl⟩
        exact wss_nil ⟨_, Sub.of_sublist (.cons _ (.refl _)), ⟨_, _, _, rfl⟩, rfl⟩
    · rintro σ' L' ⟨⟨x, y, z, rfl⟩, rfl⟩
      walk_at "go"
      exact ret_sub k (Sub.refl _)
end
end K12

set_option Elab.async false
set_option linter.all false
set_option maxRecDepth 100000
set_option maxHeartbeats 4000000
namespace K12
open PySem L2 N3
local macro_rules | `(tactic| walk_at "at") => `(tactic| with_reducible (repeat (first | exact At.head | apply At.tail)))
local macro_rules | `(tactic| walk_at "mem") => `(tactic| with_reducible (repeat (first | exact Mem.head | apply Mem.tail)))
local macro_rules | `(tactic| walk_at "boot") => `(tactic| with_reducible (first | exact boot_isi | exact boot_max | exact boot_min | exact boot_abs | exact boot_len | exact boot_repr | exact boot_divmod | exact boot_all | exact boot_int | exact boot_bool | exact boot_str | exact boot_dict | exact boot_list | exact boot_sorted))
local macro_rules | `(tactic| walk_at "room") => `(tactic| (first | assumption | exact Room.mono (by assumption) (by decide)))
local macro_rules | `(tactic| walk_at "none") => `(tactic| (refine Txt.bn (by assumption) _ ?xz; (case xz => with_reducible (repeat (first | exact InS.head | apply InS.tail)))))
local macro_rules | `(tactic| walk_at "n3") => `(tactic| first
  | with_reducible refine ws_ret ?_
  | with_reducible refine we_int ?_
  | with_reducible refine we_str ?_
  | with_reducible refine we_bool ?_
  | with_reducible refine we_none ?_
  | ((with_reducible refine' x_name ?xo ?xa ?xb ?xc ?_); (case xo => assumption); (case xa => walk_at "at"); (case xb => walk_at "at"); (case xc => rfl))
  | ((with_reducible refine' f_cnt ?xt ?_ ?xh); (case xt => assumption); (case xh => rfl))
  | ((with_reducible refine' we_prop ?xg ?xr ?_ ?xh); (case xg => assumption); (case xr => walk_at "room"); (case xh => rfl))
  | with_reducible refine we_bin ?_
  | with_reducible refine wo_add ?_
  | with_reducible refine wo_sub ?_
  | with_reducible refine wo_lt ?_
  | with_reducible refine wo_gt ?_
  | with_reducible refine wo_le ?_
  | with_reducible refine wo_ge ?_
  | with_reducible refine wu_neg ?_
  | ((with_reducible refine we_cmp ?xh ?_); (case xh => exact nomark _))
  | ((with_reducible refine wt_cmp ?xh ?_); (case xh => exact nomark _))
  | ((with_reducible refine wa_cons ?_ ?xh); (case xh => rfl))
  | with_reducible refine wa_nil ?_
  | with_reducible refine we_and ?_
  | with_reducible refine we_or ?_
  | with_reducible refine we_not ?_
  | with_reducible refine wt_not ?_
  | with_reducible refine we_un ?_
  | with_reducible refine we_one ?_
  | with_reducible refine wt_ww (ww_or ?_)
  | with_reducible refine wt_ww (ww_and ?_)
  | with_reducible refine ww_or ?_
  | with_reducible refine ww_and ?_
  | with_reducible refine ww_or1 ?_
  | with_reducible refine ww_and1 ?_
  | with_reducible refine we_ifExp ?_
  | with_reducible refine ws_if ?_
  | with_reducible refine ws_pass ?_
  | with_reducible refine we_tup ?_
  | with_reducible refine we_lst ?_
  | ((with_reducible refine' x_set ?xo ?xa ?xb ?_ ?xs); (case xo => assumption); (case xa => walk_at "at"); (case xb => walk_at "at"); (case xs => rfl))
  | ((with_reducible refine' x_setF ?_ ?xs); (case xs => rfl))
  | ((with_reducible refine' x_call ?xo ?xa ?xg ?xr ?_ ?xe ?xp); (case xo => assumption); (case xa => walk_at "at"); (case xg => assumption); (case xr => walk_at "room"); (case xe => rfl); (case xp => rfl))
  | ((with_reducible refine' x_callG ?xo ?xa ?xg ?xr ?xd ?_ ?xe ?xp); (case xo => assumption); (case xa => walk_at "at"); (case xg => assumption); (case xr => walk_at "room"); (case xd => assumption); (case xe => rfl); (case xp => rfl))
  | ((with_reducible refine' x_callB ?xo ?xa ?xg ?xr ?_ ?xe ?xp); (case xo => assumption); (case xr => walk_at "boot"); (case xa => walk_at "at"); (case xg => walk_at "none"); (case xe => rfl); (case xp => rfl))
  | ((with_reducible refine' x_callTy ?xo ?xa ?xg ?xr ?_ ?xe ?xp); (case xo => assumption); (case xr => walk_at "boot"); (case xa => walk_at "at"); (case xg => walk_at "none"); (case xe => rfl); (case xp => rfl))
  | ((with_reducible refine' x_bty ?xo ?xa ?xg ?xr ?_); (case xo => assumption); (case xr => walk_at "boot"); (case xa => walk_at "at"); (case xg => walk_at "none"))
  | ((with_reducible refine' x_cls ?xt ?xo ?xa ?_); (case xt => assumption); (case xo => assumption); (case xa => walk_at "at"))
  | ((with_reducible refine' x_make ?xo ?xa ?xg ?xr ?_ ?xe ?xp); (case xo => assumption); (case xa => walk_at "at"); (case xg => assumption); (case xr => walk_at "room"); (case xe => rfl); (case xp => rfl))
  | with_reducible refine wss_nil ?_
  | refine ⟨_, _, _, rfl, (by assumption), ?_⟩
  | refine wss_cons ?_
  | ((with_reducible refine' wt_val ?_ ?xv); (case xv => intro _; rfl)))
local macro_rules | `(tactic| walk_at "go") => `(tactic| repeat walk_at "n3")
/-! what is known for the law of one turn -/
structure Rl (P : Program) (w : World) (K : PySem.W.Frag) (mg : Str → Option Value) (base : Heap) (C : Addr) : Prop where
  Q : Rg P w K mg base C
  sf : PySem.W.selfFirst K C = true
  dr : GFn P w K mg base "_law_draw" 1 ["_law_rng_here", "_law_many"] [] pDraw
  ch : GFn P w K mg base "_law_choice" 2 ["_law_rng_here", "_law_some"] [] pChoice
  na : GFn P w K mg base "_law_names" 2 ["_law_rng_here", "_law_many", "_law_taken"] [] pNames
  mi : GFn P w K mg base "_law_mixed" 2 ["_law_rng_here", "_law_some"] [] pMixed
  lo : GFn P w K mg base "_law_long" 3 ["_law_rng_here"] [] pLong
  di : GFn P w K mg base "_law_dict" 4 ["_law_rng_here", "_law_names_here"] [] pDict
  to : GFn P w K mg base "_law_together" 1 ["_law_one", "_law_other", "_law_times"] [] pTog
  lr : GFn P w K mg base "_law_renamed" 1 ["_law_model", "_law_names_here"] [] pLRen
  is : GFg P w K mg base "_law_is" 5 ["_law_table", "_law_model", "_law_names_here"] [] (pIs C)
abbrev nRight : List Str := ["_law_rng_here", "_law_names_here", "_law_first", "_law_second", "_law_handed", "_law_spoken", "_law_one", "_law_other", "_law_many", "_law_more", "_law_fresh", "_law_kept_here", "_law_key"]
abbrev vRight : List Str := ["_law_rng_here", "_law_names_here", "_law_first", "_law_second", "_law_handed", "_law_spoken", "_law_one", "_law_other", "_law_many", "_law_more", "_law_fresh", "_law_kept_here"]
abbrev lRight : List Str := ["_law_first", "_law_second", "_law_handed", "_law_spoken", "_law_one", "_law_other", "_law_many", "_law_fresh", "_law_kept_here"]
abbrev gRight : List Str := ["_law_names", "_law_draw", "_law_long", "_law_dict", "dict", "list", "Table", "_law_is", "_law_together", "_law_choice", "_law_mixed", "_law_renamed", "_law_kept", "len"]
theorem scRight : FnScope nRight ["_law_rng_here"] (defScope sRight) := ⟨rfl, rfl, rfl, by decide +kernel, rfl, by decide +kernel, by decide +kernel⟩
theorem okScRight : scopeB nRight (defScope sRight) vRight lRight gRight = true := by decide +kernel
def bR (i : Nat) : List Stmt := (defBody sRight).drop i
theorem bR_at (i j : Nat) (hj : j = i + 1) (h : i < (defBody sRight).length) : bR i = (defBody sRight)[i] :: bR j := by
  subst hj
  exact List.drop_eq_getElem_cons h
/-- what lies in the heap -/
structure Fa (C q d1 d2 o1 o2 sp : Addr) (ns : List Str) (a1 a2 : SI) (ts : List Addr) (L : LH) : Prop where
  mq : Mem q (.lst (ns.map V.str)) L
  m1 : Mem d1 (.dK (tk a1)) L
  m2 : Mem d2 (.dK (tk a2)) L
  t1 : Tb C L o1 (norm a1)
  t2 : Tb C L o2 (norm a2)
  ms : Mem sp (.lst (ts.map V.ref)) L
  mt : ∀ (i : Nat) (t : Addr) (p : Key × V), ts[i]? = some t → (tk a2)[i]? = some p → Mem t (.tup [kV p.1, p.2]) L
theorem Fa.sl {C q d1 d2 o1 o2 sp : Addr} {ns : List Str} {a1 a2 : SI} {ts : List Addr} {L L' : LH} (h : Fa C q d1 d2 o1 o2 sp ns a1 a2 ts L) (s : L.Sublist L') : Fa C q d1 d2 o1 o2 sp ns a1 a2 ts L' :=
  ⟨h.mq.sl s, h.m1.sl s, h.m2.sl s, h.t1.sl s, h.t2.sl s, h.ms.sl s, fun i t p e1 e2 => (h.mt i t p e1 e2).sl s⟩
/-- what is known of the values -/
structure Va (ns : List Str) (a1 a2 : SI) (ts : List Addr) : Prop where
  nm : ∀ y ∈ ns, Nm y
  np : 0 < ns.length
  nl : ns.length < 6
  md1 : Md a1
  md2 : Md a2
  s1 : Sz 100 a1
  s2 : Sz 100 a2
  l1 : a1.length < 6
  l2 : a2.length < 6
  lt : ts.length = (tk a2).length
theorem togM_md {m r : SI} (hm : Md m) (hr : Md r) (t : Int) (hl : m.length + r.length < 40) : Md (togM m r t) := by
  refine ⟨togM_nd hm.nd _ _, fun p hp => ?_, Nat.lt_of_le_of_lt (togM_len _ _ _) hl⟩
  rcases (togM_keys m r t p.1).mp (List.mem_map.mpr ⟨p, hp, rfl⟩) with h | h
  · obtain ⟨u, hu, e⟩ := List.mem_map.mp h
    rw [← e]; exact hm.nm u hu
  · obtain ⟨u, hu, e⟩ := List.mem_map.mp h
    rw [← e]; exact hr.nm u hu
section
variable {X : Cx} {C r q d1 d2 o1 o2 sp : Addr} {ns : List Str} {a1 a2 : SI} {ts : List Addr} {L : LH} {D : EndsL} {u8 u9 u10 u11 : Option V} {hd : V}
abbrev sR (r q d1 d2 o1 o2 sp : Addr) (hd : V) (u8 u9 u10 u11 : Option V) : L2.St := [some (.ref r), some (.ref q), some (.ref d1), some (.ref d2), some hd, some (.ref sp), some (.ref o1), some (.ref o2), u8, u9, u10, u11, none]
theorem right_6 (hX : XOk nRight (defScope sRight) vRight lRight gRight X) (hr : Room 11 X.A) (hgd : X.A.guards = some []) (R : Rl X.prog X.w X.K X.mg X.base C) (fa : Fa C q d1 d2 o1 o2 sp ns a1 a2 ts L) (va : Va ns a1 a2 ts) (rest : WSs X (bR 7) (sR r q d1 d2 o1 o2 sp hd u8 u9 u10 u11) L D) : WSs X (bR 6) (sR r q d1 d2 o1 o2 sp hd u8 u9 u10 u11) L D := by
  obtain ⟨Q, sf, dr, ch, na, mi, lo, di, to, lr, is⟩ := R
  have T := Q.T
  have e1 := va.l1
  have e2 := va.l2
  have e3 := va.nl
  rw [bR_at 6 7 rfl (by decide +kernel)]
  refine wss_cons ?_
  refine ws_if ?_
  refine wt_ww (ww_or ?_)
  walk_at "go"
  refine ⟨o1, d1, q, a1, ns, rfl, fa.t1, fa.m1, fa.mq, va.md1, by omega, va.s1.mono (by decide), va.nm, by omega, true, rfl, fun _ => ?_, fun z => Bool.noConfusion z⟩
  refine ww_or1 ?_
  walk_at "go"
  refine ⟨o2, d2, q, a2, ns, rfl, fa.t2, fa.m2, fa.mq, va.md2, by omega, va.s2.mono (by decide), va.nm, by omega, true, rfl, fun z => Bool.noConfusion z, fun _ => nil_rest (.refl _) ?_⟩
  with_reducible_and_instances exact rest
theorem right_7 (hX : XOk nRight (defScope sRight) vRight lRight gRight X) (hr : Room 11 X.A) (hgd : X.A.guards = some []) (R : Rl X.prog X.w X.K X.mg X.base C) (fa : Fa C q d1 d2 o1 o2 sp ns a1 a2 ts L) (va : Va ns a1 a2 ts) (rest : WSs X (bR 8) (sR r q d1 d2 o1 o2 sp hd u8 u9 u10 u11) L D) : WSs X (bR 7) (sR r q d1 d2 o1 o2 sp hd u8 u9 u10 u11) L D := by
  obtain ⟨Q, sf, dr, ch, na, mi, lo, di, to, lr, is⟩ := R
  have T := Q.T
  have e1 := va.l1
  have e2 := va.l2
  have e3 := va.nl
  have w1 := norm_md va.md1 (by omega)
  have w2 := norm_md va.md2 (by omega)
  have t1 := fa.t1
  have t2 := fa.t2
  obtain ⟨x1, y1, mo1, my1⟩ := fa.t1
  obtain ⟨x2, y2, mo2, my2⟩ := fa.t2
  rw [bR_at 7 8 rfl (by decide +kernel)]
  refine wss_cons ?_
  refine ws_if ?_
  walk_at "go"
  refine wo_own (op := .Add) Q.ad sf (by walk_at "room") mo1 mo2 ⟨o1, o2, _, _, rfl, t1, t2, w1, w2, fun p dx dy => ?_⟩
  rw [norm_tog va.md1.nd va.md2.nd 1 (g := fun x y => x + y) (fun x y => by rw [Int.one_mul])]
  walk_at "go"
  refine ⟨d1, d2, a1, a2, 1, rfl, .tail (.tail fa.m1), .tail (.tail fa.m2), va.md2.nd, by omega, by decide, by decide, fun z => ?_⟩
  walk_at "go"
  refine ⟨p, z, q, togM a1 a2 1, ns, rfl, ⟨dx, dy, .tail (.tail .head), .tail .head⟩, .head, .tail (.tail (.tail fa.mq)), togM_md va.md1 va.md2 1 (by omega), Nat.lt_of_le_of_lt (togM_len _ _ _) (by omega), (togM_sz (k := 1) va.s1 va.s2 va.md1.nd va.md2.nd (by decide)).mono (by decide), va.nm, by omega, true, rfl, fun z => Bool.noConfusion z, fun _ => nil_rest (L' := L) (.cons _ (.cons _ (.cons _ (.refl _)))) ?_⟩
  with_reducible_and_instances exact rest
end
end K12

set_option Elab.async false
set_option linter.all false
set_option maxRecDepth 100000
set_option maxHeartbeats 4000000
namespace K12
open PySem L2 N3
local macro_rules | `(tactic| walk_at "at") => `(tactic| with_reducible (repeat (first | exact At.head | apply At.tail)))
local macro_rules | `(tactic| walk_at "mem") => `(tactic| with_reducible (repeat (first | exact Mem.head | apply Mem.tail)))
local macro_rules | `(tactic| walk_at "boot") => `(tactic| with_reducible (first | exact boot_isi | exact boot_max | exact boot_min | exact boot_abs | exact boot_len | exact boot_repr | exact boot_divmod | exact boot_all | exact boot_int | exact boot_bool | exact boot_str | exact boot_dict | exact boot_list | exact boot_sorted))
local macro_rules | `(tactic| walk_at "room") => `(tactic| (first | assumption | exact Room.mono (by assumption) (by decide)))
local macro_rules | `(tactic| walk_at "none") => `(tactic| (refine Txt.bn (by assumption) _ ?xz; (case xz => with_reducible (repeat (first | exact InS.head | apply InS.tail)))))
local macro_rules | `(tactic| walk_at "n3") => `(tactic| first
  | with_reducible refine ws_ret ?_
  | with_reducible refine we_int ?_
  | with_reducible refine we_str ?_
  | with_reducible refine we_bool ?_
  | with_reducible refine we_none ?_
  | ((with_reducible refine' x_name ?xo ?xa ?xb ?xc ?_); (case xo => assumption); (case xa => walk_at "at"); (case xb => walk_at "at"); (case xc => rfl))
  | ((with_reducible refine' f_cnt ?xt ?_ ?xh); (case xt => assumption); (case xh => rfl))
  | ((with_reducible refine' we_prop ?xg ?xr ?_ ?xh); (case xg => assumption); (case xr => walk_at "room"); (case xh => rfl))
  | with_reducible refine we_bin ?_
  | with_reducible refine wo_add ?_
  | with_reducible refine wo_sub ?_
  | with_reducible refine wo_lt ?_
  | with_reducible refine wo_gt ?_
  | with_reducible refine wo_le ?_
  | with_reducible refine wo_ge ?_
  | with_reducible refine wu_neg ?_
  | ((with_reducible refine we_cmp ?xh ?_); (case xh => exact nomark _))
  | ((with_reducible refine wt_cmp ?xh ?_); (case xh => exact nomark _))
  | ((with_reducible refine wa_cons ?_ ?xh); (case xh => rfl))
  | with_reducible refine wa_nil ?_
  | with_reducible refine we_and ?_
  | with_reducible refine we_or ?_
  | with_reducible refine we_not ?_
  | with_reducible refine wt_not ?_
  | with_reducible refine we_un ?_
  | with_reducible refine we_one ?_
  | with_reducible refine wt_ww (ww_or ?_)
  | with_reducible refine wt_ww (ww_and ?_)
  | with_reducible refine ww_or ?_
  | with_reducible refine ww_and ?_
  | with_reducible refine ww_or1 ?_
  | with_reducible refine ww_and1 ?_
  | with_reducible refine we_ifExp ?_
  | with_reducible refine ws_if ?_
  | with_reducible refine ws_pass ?_
  | with_reducible refine we_tup ?_
  | with_reducible refine we_lst ?_
  | ((with_reducible refine' x_set ?xo ?xa ?xb ?_ ?xs); (case xo => assumption); (case xa => walk_at "at"); (case xb => walk_at "at"); (case xs => rfl))
  | ((with_reducible refine' x_setF ?_ ?xs); (case xs => rfl))
  | ((with_reducible refine' x_call ?xo ?xa ?xg ?xr ?_ ?xe ?xp); (case xo => assumption); (case xa => walk_at "at"); (case xg => assumption); (case xr => walk_at "room"); (case xe => rfl); (case xp => rfl))
  | ((with_reducible refine' x_callG ?xo ?xa ?xg ?xr ?xd ?_ ?xe ?xp); (case xo => assumption); (case xa => walk_at "at"); (case xg => assumption); (case xr => walk_at "room"); (case xd => assumption); (case xe => rfl); (case xp => rfl))
  | ((with_reducible refine' x_callB ?xo ?xa ?xg ?xr ?_ ?xe ?xp); (case xo => assumption); (case xr => walk_at "boot"); (case xa => walk_at "at"); (case xg => walk_at "none"); (case xe => rfl); (case xp => rfl))
  | ((with_reducible refine' x_callTy ?xo ?xa ?xg ?xr ?_ ?xe ?xp); (case xo => assumption); (case xr => walk_at "boot"); (case xa => walk_at "at"); (case xg => walk_at "none"); (case xe => rfl); (case xp => rfl))
  | ((with_reducible refine' x_bty ?xo ?xa ?xg ?xr ?_); (case xo => assumption); (case xr => walk_at "boot"); (case xa => walk_at "at"); (case xg => walk_at "none"))
  | ((with_reducible refine' x_cls ?xt ?xo ?xa ?_); (case xt => assumption); (case xo => assumption); (case xa => walk_at "at"))
  | ((with_reducible refine' x_make ?xo ?xa ?xg ?xr ?_ ?xe ?xp); (case xo => assumption); (case xa => walk_at "at"); (case xg => assumption); (case xr => walk_at "room"); (case xe => rfl); (case xp => rfl))
  | with_reducible refine wss_nil ?_
  | refine ⟨_, _, _, rfl, (by assumption), ?_⟩
  | refine wss_cons ?_
  | ((with_reducible refine' wt_val ?_ ?xv); (case xv => intro _; rfl)))
local macro_rules | `(tactic| walk_at "go") => `(tactic| repeat walk_at "n3")
section
variable {X : Cx} {C r q d1 d2 o1 o2 sp : Addr} {ns : List Str} {a1 a2 : SI} {ts : List Addr} {L : LH} {D : EndsL} {u8 u9 u10 u11 : Option V} {hd : V}
theorem right_8 (hX : XOk nRight (defScope sRight) vRight lRight gRight X) (hr : Room 11 X.A) (hgd : X.A.guards = some []) (R : Rl X.prog X.w X.K X.mg X.base C) (fa : Fa C q d1 d2 o1 o2 sp ns a1 a2 ts L) (va : Va ns a1 a2 ts) (rest : WSs X (bR 9) (sR r q d1 d2 o1 o2 sp hd u8 u9 u10 u11) L D) : WSs X (bR 8) (sR r q d1 d2 o1 o2 sp hd u8 u9 u10 u11) L D := by
  obtain ⟨Q, sf, dr, ch, na, mi, lo, di, to, lr, is⟩ := R
  have T := Q.T
  have e1 := va.l1
  have e2 := va.l2
  have e3 := va.nl
  have w1 := norm_md va.md1 (by omega)
  have w2 := norm_md va.md2 (by omega)
  have t1 := fa.t1
  have t2 := fa.t2
  obtain ⟨x1, y1, mo1, my1⟩ := fa.t1
  obtain ⟨x2, y2, mo2, my2⟩ := fa.t2
  rw [bR_at 8 9 rfl (by decide +kernel)]
  refine wss_cons ?_
  refine ws_if ?_
  walk_at "go"
  refine wo_own (op := .Sub) Q.sb sf (by walk_at "room") mo1 mo2 ⟨o1, o2, _, _, rfl, t1, t2, w1, w2, fun p dx dy => ?_⟩
  rw [norm_tog va.md1.nd va.md2.nd (-1) (g := fun x y => x - y) (fun x y => by rw [Int.neg_mul, Int.one_mul]; exact Int.sub_eq_add_neg)]
  walk_at "go"
  refine ⟨d1, d2, a1, a2, -1, rfl, .tail (.tail fa.m1), .tail (.tail fa.m2), va.md2.nd, by omega, by decide, by decide, fun z => ?_⟩
  walk_at "go"
  refine ⟨p, z, q, togM a1 a2 (-1), ns, rfl, ⟨dx, dy, .tail (.tail .head), .tail .head⟩, .head, .tail (.tail (.tail fa.mq)), togM_md va.md1 va.md2 _ (by omega), Nat.lt_of_le_of_lt (togM_len _ _ _) (by omega), (togM_sz (k := 1) va.s1 va.s2 va.md1.nd va.md2.nd (by decide)).mono (by decide), va.nm, by omega, true, rfl, fun z => Bool.noConfusion z, fun _ => nil_rest (L' := L) (.cons _ (.cons _ (.cons _ (.refl _)))) ?_⟩
  with_reducible_and_instances exact rest
theorem sz_nil (n : Nat) : Sz n [] := fun _ h => (List.not_mem_nil h).elim
theorem right_10 (hX : XOk nRight (defScope sRight) vRight lRight gRight X) (hr : Room 11 X.A) (hgd : X.A.guards = some []) (R : Rl X.prog X.w X.K X.mg X.base C) (fa : Fa C q d1 d2 o1 o2 sp ns a1 a2 ts L) (va : Va ns a1 a2 ts) {n : Int} (hn : n.natAbs < 2 ^ 7) (rest : WSs X (bR 11) (sR r q d1 d2 o1 o2 sp hd (some (.int n)) u9 u10 u11) L D) : WSs X (bR 10) (sR r q d1 d2 o1 o2 sp hd (some (.int n)) u9 u10 u11) L D := by
  obtain ⟨Q, sf, dr, ch, na, mi, lo, di, to, lr, is⟩ := R
  have T := Q.T
  have e1 := va.l1
  have e2 := va.l2
  have e3 := va.nl
  have w1 := norm_md va.md1 (by omega)
  have t1 := fa.t1
  have n0 : -(2 ^ 64 : Int) < n := by omega
  have n1 : n < (2 ^ 64 : Int) := by omega
  obtain ⟨x1, y1, mo1, my1⟩ := fa.t1
  rw [bR_at 10 11 rfl (by decide +kernel)]
  refine wss_cons ?_
  refine ws_if ?_
  walk_at "go"
  refine we_meth Q.ti (by walk_at "room") ?_
  walk_at "go"
  refine ⟨tabF_no _ (by decide +kernel), ?_⟩
  walk_at "go"
  refine ⟨w1, n0, n1, fun p dx dy => ?_⟩
  rw [norm_mul va.md1.nd]
  walk_at "go"
  refine we_dnew fun cd => ?_
  walk_at "go"
  refine ⟨cd, d1, [], a1, n, rfl, .head, .tail (.tail (.tail fa.m1)), va.md1.nd, by show 0 + _ < 1000; omega, n0, n1, fun z => ?_⟩
  walk_at "go"
  refine ⟨p, z, q, togM [] a1 n, ns, rfl, ⟨dx, dy, .tail (.tail (.tail .head)), .tail (.tail .head)⟩, .head, .tail (.tail (.tail (.tail fa.mq))), togM_md Md.nil va.md1 _ (by show 0 + _ < 40; omega), Nat.lt_of_le_of_lt (togM_len _ _ _) (by show 0 + _ < 20; omega), (togM_sz (n := 100) (k := 7) (sz_nil _) va.s1 List.nodup_nil va.md1.nd hn).mono (by decide), va.nm, by omega, true, rfl, fun z => Bool.noConfusion z, fun _ => nil_rest (L' := L) (.cons _ (.cons _ (.cons _ (.cons _ (.refl _))))) ?_⟩
  with_reducible_and_instances exact rest
theorem right_11 (hX : XOk nRight (defScope sRight) vRight lRight gRight X) (hr : Room 11 X.A) (hgd : X.A.guards = some []) (R : Rl X.prog X.w X.K X.mg X.base C) (fa : Fa C q d1 d2 o1 o2 sp ns a1 a2 ts L) (va : Va ns a1 a2 ts) (rest : WSs X (bR 12) (sR r q d1 d2 o1 o2 sp hd u8 u9 u10 u11) L D) : WSs X (bR 11) (sR r q d1 d2 o1 o2 sp hd u8 u9 u10 u11) L D := by
  obtain ⟨Q, sf, dr, ch, na, mi, lo, di, to, lr, is⟩ := R
  have T := Q.T
  have e1 := va.l1
  have e2 := va.l2
  have e3 := va.nl
  have w1 := norm_md va.md1 (by omega)
  have t1 := fa.t1
  obtain ⟨x1, y1, mo1, my1⟩ := fa.t1
  rw [bR_at 11 12 rfl (by decide +kernel)]
  refine wss_cons ?_
  refine ws_if ?_
  walk_at "go"
  refine wu_own Q.ng (by walk_at "room") mo1 ⟨o1, _, rfl, t1, w1, fun p dx dy => ?_⟩
  rw [norm_mul va.md1.nd]
  walk_at "go"
  refine we_dnew fun cd => ?_
  walk_at "go"
  refine ⟨cd, d1, [], a1, -1, rfl, .head, .tail (.tail (.tail fa.m1)), va.md1.nd, by show 0 + _ < 1000; omega, by decide, by decide, fun z => ?_⟩
  walk_at "go"
  refine ⟨p, z, q, togM [] a1 (-1), ns, rfl, ⟨dx, dy, .tail (.tail (.tail .head)), .tail (.tail .head)⟩, .head, .tail (.tail (.tail (.tail fa.mq))), togM_md Md.nil va.md1 _ (by show 0 + _ < 40; omega), Nat.lt_of_le_of_lt (togM_len _ _ _) (by show 0 + _ < 20; omega), (togM_sz (n := 100) (k := 7) (sz_nil _) va.s1 List.nodup_nil va.md1.nd (by decide)).mono (by decide), va.nm, by omega, true, rfl, fun z => Bool.noConfusion z, fun _ => nil_rest (L' := L) (.cons _ (.cons _ (.cons _ (.cons _ (.refl _))))) ?_⟩
  with_reducible_and_instances exact rest
theorem right_12 (hX : XOk nRight (defScope sRight) vRight lRight gRight X) (hr : Room 11 X.A) (hgd : X.A.guards = some []) (R : Rl X.prog X.w X.K X.mg X.base C) (fa : Fa C q d1 d2 o1 o2 sp ns a1 a2 ts L) (va : Va ns a1 a2 ts) (rest : WSs X (bR 13) (sR r q d1 d2 o1 o2 sp hd u8 u9 u10 u11) L D) : WSs X (bR 12) (sR r q d1 d2 o1 o2 sp hd u8 u9 u10 u11) L D := by
  obtain ⟨Q, sf, dr, ch, na, mi, lo, di, to, lr, is⟩ := R
  have T := Q.T
  have e1 := va.l1
  have e2 := va.l2
  have e3 := va.nl
  have w1 := norm_md va.md1 (by omega)
  have w2 := norm_md va.md2 (by omega)
  have t1 := fa.t1
  have t2 := fa.t2
  obtain ⟨x1, y1, mo1, my1⟩ := fa.t1
  obtain ⟨x2, y2, mo2, my2⟩ := fa.t2
  have n1 : ((togM a1 a2 1).map (·.1)).Nodup := togM_nd va.md1.nd _ _
  have n2 : ((togM a2 a1 1).map (·.1)).Nodup := togM_nd va.md2.nd _ _
  have n3 : ((togM a1 a1 (-1)).map (·.1)).Nodup := togM_nd va.md1.nd _ _
  have c12 : norm (togM a1 a2 1) = norm (togM a2 a1 1) := norm_congr n1 n2 fun k => by
    rw [togM_look _ _ _ va.md2.nd, togM_look _ _ _ va.md1.nd, Int.one_mul, Int.one_mul, Int.add_comm]
  have c0 : norm (togM a1 a1 (-1)) = norm [] := norm_congr n3 List.nodup_nil fun k => by
    rw [togM_look _ _ _ va.md1.nd, Int.neg_mul, Int.one_mul]
    show _ = (0 : Int)
    omega
  rw [bR_at 12 13 rfl (by decide +kernel)]
  refine wss_cons ?_
  refine ws_if ?_
  refine wt_ww (ww_or ?_)
  refine wt_cmp rfl ?_
  walk_at "go"
  refine wo_own (op := .Add) Q.ad sf (by walk_at "room") mo1 mo2 ⟨o1, o2, _, _, rfl, t1, t2, w1, w2, fun p dx dy => ?_⟩
  rw [norm_tog va.md1.nd va.md2.nd 1 (g := fun x y => x + y) (fun x y => by rw [Int.one_mul])]
  walk_at "go"
  have sl2 : L.Sublist ((dy, .dK (tk (norm (togM a1 a2 1)))) :: (p, .ins C dx (tabF dy)) :: L) := .cons _ (.cons _ (.refl _))
  refine wo_own (op := .Add) Q.ad sf (by walk_at "room") (mo2.sl sl2) (mo1.sl sl2) ⟨o2, o1, _, _, rfl, t2.sl sl2, t1.sl sl2, w2, w1, fun p2 dx2 dy2 => ?_⟩
  rw [norm_tog va.md2.nd va.md1.nd 1 (g := fun x y => x + y) (fun x y => by rw [Int.one_mul])]
  refine wo_ownNe Q.eq (by walk_at "room") (.tail (.tail (.tail .head))) (.ins (.tail .head)) Q.nfC Q.ne T.cm ⟨p, _, _, rfl, ⟨dx, dy, .tail (.tail (.tail .head)), .tail (.tail .head)⟩, norm_can n1, .inl ⟨p2, _, rfl, ⟨dx2, dy2, .tail .head, .head⟩, norm_can n2, _, rfl, ?_⟩⟩
  rw [decide_eq_true c12]
  refine ⟨false, rfl, fun _ => ?_, fun z => Bool.noConfusion z⟩
  refine ww_sub (L' := L) (Sub.of_sublist (.cons _ (.cons _ (.cons _ (.cons _ (.refl _)))))) ?_
  refine ww_or1 (wt_cmp rfl ?_)
  walk_at "go"
  refine wo_own (op := .Sub) Q.sb sf (by walk_at "room") mo1 mo1 ⟨o1, o1, _, _, rfl, t1, t1, w1, w1, fun p dx dy => ?_⟩
  rw [norm_tog va.md1.nd va.md1.nd (-1) (g := fun x y => x - y) (fun x y => by rw [Int.neg_mul, Int.one_mul]; exact Int.sub_eq_add_neg)]
  refine x_make0 hX (by walk_at "at") Q.mk0 (by walk_at "room") fun o dx2 => ?_
  refine ⟨o, dx2, .non, [], _, rfl, rfl, .inl ⟨rfl, rfl⟩, Md.nil, fun d' => ⟨rfl, ?_⟩⟩
  refine wo_ownNe Q.eq (by walk_at "room") (.tail (.tail (.tail .head))) (.ins (.tail .head)) Q.nfC Q.ne T.cm ⟨p, _, _, rfl, ⟨dx, dy, .tail (.tail (.tail .head)), .tail (.tail .head)⟩, norm_can n3, .inl ⟨o, _, rfl, ⟨dx2, d', .tail .head, .head⟩, Can.nil, _, rfl, ?_⟩⟩
  rw [show decide (norm (togM a1 a1 (-1)) = norm []) = true from decide_eq_true c0]
  refine ⟨false, rfl, fun z => Bool.noConfusion z, fun _ => nil_rest (L' := L) (.cons _ (.cons _ (.cons _ (.cons _ (.refl _))))) ?_⟩
  with_reducible_and_instances exact rest
end
end K12

set_option Elab.async false
set_option linter.all false
set_option maxRecDepth 100000
set_option maxHeartbeats 4000000
namespace K12
open PySem L2 N3
local macro_rules | `(tactic| walk_at "at") => `(tactic| with_reducible (repeat (first | exact At.head | apply At.tail)))
local macro_rules | `(tactic| walk_at "mem") => `(tactic| with_reducible (repeat (first | exact Mem.head | apply Mem.tail)))
local macro_rules | `(tactic| walk_at "boot") => `(tactic| with_reducible (first | exact boot_isi | exact boot_max | exact boot_min | exact boot_abs | exact boot_len | exact boot_repr | exact boot_divmod | exact boot_all | exact boot_int | exact boot_bool | exact boot_str | exact boot_dict | exact boot_list | exact boot_sorted))
local macro_rules | `(tactic| walk_at "room") => `(tactic| (first | assumption | exact Room.mono (by assumption) (by decide)))
local macro_rules | `(tactic| walk_at "none") => `(tactic| (refine Txt.bn (by assumption) _ ?xz; (case xz => with_reducible (repeat (first | exact InS.head | apply InS.tail)))))
local macro_rules | `(tactic| walk_at "n3") => `(tactic| first
  | with_reducible refine ws_ret ?_
  | with_reducible refine we_int ?_
  | with_reducible refine we_str ?_
  | with_reducible refine we_bool ?_
  | with_reducible refine we_none ?_
  | ((with_reducible refine' x_name ?xo ?xa ?xb ?xc ?_); (case xo => assumption); (case xa => walk_at "at"); (case xb => walk_at "at"); (case xc => rfl))
  | ((with_reducible refine' f_cnt ?xt ?_ ?xh); (case xt => assumption); (case xh => rfl))
  | ((with_reducible refine' we_prop ?xg ?xr ?_ ?xh); (case xg => assumption); (case xr => walk_at "room"); (case xh => rfl))
  | with_reducible refine we_bin ?_
  | with_reducible refine wo_add ?_
  | with_reducible refine wo_sub ?_
  | with_reducible refine wo_lt ?_
  | with_reducible refine wo_gt ?_
  | with_reducible refine wo_le ?_
  | with_reducible refine wo_ge ?_
  | with_reducible refine wu_neg ?_
  | ((with_reducible refine we_cmp ?xh ?_); (case xh => exact nomark _))
  | ((with_reducible refine wt_cmp ?xh ?_); (case xh => exact nomark _))
  | ((with_reducible refine wa_cons ?_ ?xh); (case xh => rfl))
  | with_reducible refine wa_nil ?_
  | with_reducible refine we_and ?_
  | with_reducible refine we_or ?_
  | with_reducible refine we_not ?_
  | with_reducible refine wt_not ?_
  | with_reducible refine we_un ?_
  | with_reducible refine we_one ?_
  | with_reducible refine wt_ww (ww_or ?_)
  | with_reducible refine wt_ww (ww_and ?_)
  | with_reducible refine ww_or ?_
  | with_reducible refine ww_and ?_
  | with_reducible refine ww_or1 ?_
  | with_reducible refine ww_and1 ?_
  | with_reducible refine we_ifExp ?_
  | with_reducible refine ws_if ?_
  | with_reducible refine ws_pass ?_
  | with_reducible refine we_tup ?_
  | with_reducible refine we_lst ?_
  | ((with_reducible refine' x_set ?xo ?xa ?xb ?_ ?xs); (case xo => assumption); (case xa => walk_at "at"); (case xb => walk_at "at"); (case xs => rfl))
  | ((with_reducible refine' x_setF ?_ ?xs); (case xs => rfl))
  | ((with_reducible refine' x_call ?xo ?xa ?xg ?xr ?_ ?xe ?xp); (case xo => assumption); (case xa => walk_at "at"); (case xg => assumption); (case xr => walk_at "room"); (case xe => rfl); (case xp => rfl))
  | ((with_reducible refine' x_callG ?xo ?xa ?xg ?xr ?xd ?_ ?xe ?xp); (case xo => assumption); (case xa => walk_at "at"); (case xg => assumption); (case xr => walk_at "room"); (case xd => assumption); (case xe => rfl); (case xp => rfl))
  | ((with_reducible refine' x_callB ?xo ?xa ?xg ?xr ?_ ?xe ?xp); (case xo => assumption); (case xr => walk_at "boot"); (case xa => walk_at "at"); (case xg => walk_at "none"); (case xe => rfl); (case xp => rfl))
  | ((with_reducible refine' x_callTy ?xo ?xa ?xg ?xr ?_ ?xe ?xp); (case xo => assumption); (case xr => walk_at "boot"); (case xa => walk_at "at"); (case xg => walk_at "none"); (case xe => rfl); (case xp => rfl))
  | ((with_reducible refine' x_bty ?xo ?xa ?xg ?xr ?_); (case xo => assumption); (case xr => walk_at "boot"); (case xa => walk_at "at"); (case xg => walk_at "none"))
  | ((with_reducible refine' x_cls ?xt ?xo ?xa ?_); (case xt => assumption); (case xo => assumption); (case xa => walk_at "at"))
  | ((with_reducible refine' x_make ?xo ?xa ?xg ?xr ?_ ?xe ?xp); (case xo => assumption); (case xa => walk_at "at"); (case xg => assumption); (case xr => walk_at "room"); (case xe => rfl); (case xp => rfl))
  | with_reducible refine wss_nil ?_
  | refine ⟨_, _, _, rfl, (by assumption), ?_⟩
  | refine wss_cons ?_
  | ((with_reducible refine' wt_val ?_ ?xv); (case xv => intro _; rfl)))
local macro_rules | `(tactic| walk_at "go") => `(tactic| repeat walk_at "n3")
/-! the second half of a turn -/
structure Fb (pm fr kh : Addr) (ms : List Str) (nm : List (Str × Str)) (us : List Addr) (L : LH) : Prop where
  mm : Mem pm (.lst (ms.map V.str)) L
  mf : Mem fr (.dK (tn nm)) L
  mk' : Mem kh (.lst (us.map V.ref)) L
  mt : ∀ (i : Nat) (t : Addr) (p : Key × V), us[i]? = some t → (tn nm)[i]? = some p → Mem t (.tup [kV p.1, p.2]) L
structure Vb (ms : List Str) (nm : List (Str × Str)) (us : List Addr) : Prop where
  mn : ∀ y ∈ ms, Nm y
  ml : ms.length < 10
  fn : ∀ p ∈ nm, Nm p.1 ∧ Nm p.2
  fl : nm.length < 10
  nd : ((tn nm).map (·.1)).Nodup
  lt : us.length = (tn nm).length
theorem renM_md' {nm : List (Str × Str)} {r : SI} (h : Md r) (hn : ∀ p ∈ nm, Nm p.1 ∧ Nm p.2) : Md (renM nm r) := by
  refine ⟨renM_nd nm r, fun p hp => ?_, Nat.lt_of_le_of_lt (renM_len nm r) h.ln⟩
  obtain ⟨k, hk, e⟩ := (renM_keys nm r p.1).mp (List.mem_map.mpr ⟨p, hp, rfl⟩)
  rw [← e]
  refine nmOf_nm hn ?_
  obtain ⟨u, hu, e⟩ := List.mem_map.mp hk
  rw [← e]
  exact h.nm u hu
def prN (nm : List (Str × Str)) : PyData := .list (nm.map fun p => .tuple [.str p.1, .str p.2])
theorem dp_itemsN {K : PySem.W.Frag} {L' : LH} {p : Addr} {ts : List Addr} {r : List (Str × Str)} (hl : ts.length = (tn r).length) (mp : Mem p (.lst (ts.map V.ref)) L') (ht : ∀ (i : Nat) (t : Addr) (q : Key × V), ts[i]? = some t → (tn r)[i]? = some q → Mem t (.tup [kV q.1, q.2]) L') : DpL K (.ref p) (prN r) L' := by
  intro H hL
  have h := dp_pairs (K := K) (H := H) (g := fun q => match q.2 with | .str i => .str i | _ => .none) ts (tn r) hl (fun i t q h1 h2 => hL.get (ht i t q h1 h2)) (by
    intro q hq
    obtain ⟨p, _, rfl⟩ := List.mem_map.mp hq
    exact .str _)
  have e : ((tn r).map fun q => PyData.tuple [keyD q.1, (match q.2 with | .str i => .str i | _ => .none)]) = r.map fun p => .tuple [.str p.1, .str p.2] := by
    unfold tn
    rw [List.map_map]
    rfl
  rw [e] at h
  exact .lst (SqL.of (hL.get mp)) h
theorem pl_prN {nm : List (Str × Str)} (h : ∀ p ∈ nm, Nm p.1 ∧ Nm p.2) : ∀ d ∈ (nm.map fun p => PyData.tuple [.str p.1, .str p.2]), Pl d := by
  intro d hd
  obtain ⟨p, hp, rfl⟩ := List.mem_map.mp hd
  exact Pl.pairS (h p hp).1 (h p hp).2
theorem pl_prD {r : SI} (h : ∀ p ∈ r, Nm p.1) : ∀ d ∈ (r.map fun p => PyData.tuple [.str p.1, .int p.2]), Pl d := by
  intro d hd
  obtain ⟨p, hp, rfl⟩ := List.mem_map.mp hd
  exact Pl.pair (h p hp) _
section
variable {X : Cx} {C r q d1 d2 o1 o2 sp pm fr kh : Addr} {ns ms : List Str} {nm : List (Str × Str)} {a1 a2 : SI} {ts us : List Addr} {L : LH} {D : EndsL} {u8 u9 u10 u11 : Option V} {hd : V}
/-- is(one.renamed(fresh), renamed(first, fresh), names + more), as a test that comes out true -/
theorem ren_is (hX : XOk nRight (defScope sRight) vRight lRight gRight X) (hr : Room 11 X.A) (hgd : X.A.guards = some []) (R : Rl X.prog X.w X.K X.mg X.base C) (fa : Fa C q d1 d2 o1 o2 sp ns a1 a2 ts L) (va : Va ns a1 a2 ts) (fb : Fb pm fr kh ms nm us L) (vb : Vb ms nm us) (rest : WSs X (bR 19) (sR r q d1 d2 o1 o2 sp hd u8 (some (.ref pm)) (some (.ref fr)) u11) L D) : WSs X (bR 18) (sR r q d1 d2 o1 o2 sp hd u8 (some (.ref pm)) (some (.ref fr)) u11) L D := by
  obtain ⟨Q, sf, dr, ch, na, mi, lo, di, to, lr, is⟩ := R
  have T := Q.T
  have e1 := va.l1
  have e3 := va.nl
  have e4 := vb.ml
  have e5 := vb.fl
  have w1 := norm_md va.md1 (by omega)
  have t1 := fa.t1
  obtain ⟨x1, y1, mo1, my1⟩ := fa.t1
  rw [bR_at 18 19 rfl (by decide +kernel)]
  refine wss_cons ?_
  refine ws_if ?_
  walk_at "go"
  refine we_meth Q.re (by walk_at "room") ?_
  walk_at "go"
  refine ⟨tabF_no _ (by decide +kernel), ?_⟩
  walk_at "go"
  refine ⟨o1, _, fr, nm, rfl, t1, w1, fb.mf, by omega, vb.fn, fun p dx dy => ?_⟩
  rw [norm_ren]
  walk_at "go"
  refine ⟨d1, fr, a1, nm, rfl, .tail (.tail fa.m1), .tail (.tail fb.mf), by omega, fun z => ?_⟩
  walk_at "go"
  refine wo_catL (.tail (.tail (.tail fa.mq))) (.tail (.tail (.tail fb.mm))) (by rw [List.length_map, List.length_map]; exact len_line (by omega)) fun pl => ?_
  rw [← List.map_append]
  walk_at "go"
  refine ⟨p, z, pl, renM nm a1, ns ++ ms, rfl, ⟨dx, dy, .tail (.tail (.tail .head)), .tail (.tail .head)⟩, .tail .head, .head, renM_md' va.md1 vb.fn, Nat.lt_of_le_of_lt (renM_len _ _) (by omega), (renM_sz nm va.s1 (by omega)).mono (by decide), fun y hy => (List.mem_append.mp hy).elim (va.nm y) (vb.mn y), by rw [List.length_append]; omega, true, rfl, fun z => Bool.noConfusion z, fun _ => nil_rest (L' := L) (.cons _ (.cons _ (.cons _ (.cons _ (.refl _))))) ?_⟩
  with_reducible_and_instances exact rest
theorem right_16 (hX : XOk nRight (defScope sRight) vRight lRight gRight X) (hr : Room 11 X.A) (hgd : X.A.guards = some []) (R : Rl X.prog X.w X.K X.mg X.base C) (fa : Fa C q d1 d2 o1 o2 sp ns a1 a2 ts L) (va : Va ns a1 a2 ts) (fb : Fb pm fr kh ms nm us L) (vb : Vb ms nm us) (rest : WSs X (bR 17) (sR r q d1 d2 o1 o2 sp hd u8 (some (.ref pm)) (some (.ref fr)) (some (.ref kh))) L D) : WSs X (bR 16) (sR r q d1 d2 o1 o2 sp hd u8 (some (.ref pm)) (some (.ref fr)) (some (.ref kh))) L D := by
  obtain ⟨Q, sf, dr, ch, na, mi, lo, di, to, lr, is⟩ := R
  have T := Q.T
  have e1 := va.l1
  have e3 := va.nl
  have e4 := vb.ml
  have e5 := vb.fl
  have w1 := norm_md va.md1 (by omega)
  have t1 := fa.t1
  have zl : X.mg "list" = none := by walk_at "none"
  have gl := (hX.glo (x := "list") (by walk_at "at")).1
  obtain ⟨x1, y1, mo1, my1⟩ := fa.t1
  rw [bR_at 16 17 rfl (by decide +kernel)]
  refine wss_cons ?_
  refine ws_if ?_
  refine wt_ww (ww_or ?_)
  walk_at "go"
  refine we_meth Q.re (by walk_at "room") ?_
  walk_at "go"
  refine ⟨tabF_no _ (by decide +kernel), ?_⟩
  walk_at "go"
  refine ⟨o1, _, fr, nm, rfl, t1, w1, fb.mf, by omega, vb.fn, fun p dx dy => ?_⟩
  rw [norm_ren]
  walk_at "go"
  refine ⟨d1, fr, a1, nm, rfl, .tail (.tail fa.m1), .tail (.tail fb.mf), by omega, fun z => ?_⟩
  walk_at "go"
  refine wo_catL (.tail (.tail (.tail fa.mq))) (.tail (.tail (.tail fb.mm))) (by rw [List.length_map, List.length_map]; exact len_line (by omega)) fun pl => ?_
  rw [← List.map_append]
  walk_at "go"
  refine ⟨p, z, pl, renM nm a1, ns ++ ms, rfl, ⟨dx, dy, .tail (.tail (.tail .head)), .tail (.tail .head)⟩, .tail .head, .head, renM_md' va.md1 vb.fn, Nat.lt_of_le_of_lt (renM_len _ _) (by omega), (renM_sz nm va.s1 (by omega)).mono (by decide), fun y hy => (List.mem_append.mp hy).elim (va.nm y) (vb.mn y), by rw [List.length_append]; omega, true, rfl, fun _ => ?_, fun z => Bool.noConfusion z⟩
  refine ww_sub (L' := L) (Sub.of_sublist (.cons _ (.cons _ (.cons _ (.cons _ (.refl _)))))) ?_
  refine ww_or1 (wt_cmp rfl ?_)
  refine we_listItems hX.calm gl zl boot_list ?_
  walk_at "go"
  refine ⟨fr, tn nm, rfl, fb.mf, vb.nd, fun p1 ts1 l1 => ?_⟩
  walk_at "go"
  refine wo_neD (by have := hr.un; omega) (dp_itemsN (r := nm) l1 .head fun i t q h1 h2 => .tail (tups_mem _ _ _ i t q h1 h2)) (dp_itemsN (r := nm) vb.lt (.tail (Mem.app fb.mk' _)) fun i t q h1 h2 => .tail (Mem.app (fb.mt i t q h1 h2) _)) (Pl.list (pl_prN vb.fn)).2 (Pl.list (pl_prN vb.fn)).2 ?_
  rw [show PyData.eqv (prN nm) (prN nm) = true from (Pl.list (pl_prN vb.fn)).1]
  refine ⟨false, rfl, fun z => Bool.noConfusion z, fun _ => nil_rest (L' := L) (.cons _ (List.sublist_append_right _ _)) ?_⟩
  with_reducible_and_instances exact rest
theorem right_21 (hX : XOk nRight (defScope sRight) vRight lRight gRight X) (hr : Room 11 X.A) (hgd : X.A.guards = some []) (R : Rl X.prog X.w X.K X.mg X.base C) (fa : Fa C q d1 d2 o1 o2 sp ns a1 a2 ts L) (va : Va ns a1 a2 ts) {Kk : V → LH → Prop} (k : (EndOf Kk).rt (.bl true) L) : WSs X (bR 21) (sR r q d1 d2 o1 o2 sp hd u8 u9 u10 u11) L (EndOf Kk) := by
  obtain ⟨Q, sf, dr, ch, na, mi, lo, di, to, lr, is⟩ := R
  have T := Q.T
  have e1 := va.l1
  have e2 := va.l2
  have e3 := va.nl
  have zl : X.mg "list" = none := by walk_at "none"
  have gl := (hX.glo (x := "list") (by walk_at "at")).1
  walk_at "go"
  refine ⟨o1, d1, q, a1, ns, rfl, fa.t1, fa.m1, fa.mq, va.md1, by omega, va.s1.mono (by decide), va.nm, by omega, true, rfl, fun _ => ?_, fun z => Bool.noConfusion z⟩
  walk_at "go"
  refine ⟨o2, d2, q, a2, ns, rfl, fa.t2, fa.m2, fa.mq, va.md2, by omega, va.s2.mono (by decide), va.nm, by omega, true, rfl, fun _ => ?_, fun z => Bool.noConfusion z⟩
  refine we_one (we_cmp rfl ?_)
  refine we_listItems hX.calm gl zl boot_list ?_
  walk_at "go"
  refine ⟨d2, tk a2, rfl, fa.m2, tk_nodup va.md2.nd, fun p1 ts1 l1 => ?_⟩
  walk_at "go"
  refine wo_eqD (by have := hr.un; omega) (dp_items (r := a2) l1 .head fun i t q h1 h2 => .tail (tups_mem _ _ _ i t q h1 h2)) (dp_items (r := a2) va.lt (.tail (Mem.app fa.ms _)) fun i t q h1 h2 => .tail (Mem.app (fa.mt i t q h1 h2) _)) (Pl.list (pl_prD va.md2.nm)).2 (Pl.list (pl_prD va.md2.nm)).2 ?_
  rw [show PyData.eqv (prD a2) (prD a2) = true from (Pl.list (pl_prD va.md2.nm)).1]
  obtain ⟨L2, s2, kk⟩ := k
  exact ⟨L2, (Sub.of_sublist (.cons _ (List.sublist_append_right _ _))).trans s2, kk⟩
end
end K12

set_option Elab.async false
set_option linter.all false
set_option maxRecDepth 100000
set_option maxHeartbeats 4000000
namespace K12
open PySem L2 N3
local macro_rules | `(tactic| walk_at "at") => `(tactic| with_reducible (repeat (first | exact At.head | apply At.tail)))
local macro_rules | `(tactic| walk_at "mem") => `(tactic| with_reducible (repeat (first | exact Mem.head | apply Mem.tail)))
local macro_rules | `(tactic| walk_at "boot") => `(tactic| with_reducible (first | exact boot_isi | exact boot_max | exact boot_min | exact boot_abs | exact boot_len | exact boot_repr | exact boot_divmod | exact boot_all | exact boot_int | exact boot_bool | exact boot_str | exact boot_dict | exact boot_list | exact boot_sorted))
local macro_rules | `(tactic| walk_at "room") => `(tactic| (first | assumption | exact Room.mono (by assumption) (by decide)))
local macro_rules | `(tactic| walk_at "none") => `(tactic| (refine Txt.bn (by assumption) _ ?xz; (case xz => with_reducible (repeat (first | exact InS.head | apply InS.tail)))))
local macro_rules | `(tactic| walk_at "n3") => `(tactic| first
  | with_reducible refine ws_ret ?_
  | with_reducible refine we_int ?_
  | with_reducible refine we_str ?_
  | with_reducible refine we_bool ?_
  | with_reducible refine we_none ?_
  | ((with_reducible refine' x_name ?xo ?xa ?xb ?xc ?_); (case xo => assumption); (case xa => walk_at "at"); (case xb => walk_at "at"); (case xc => rfl))
  | ((with_reducible refine' f_cnt ?xt ?_ ?xh); (case xt => assumption); (case xh => rfl))
  | ((with_reducible refine' we_prop ?xg ?xr ?_ ?xh); (case xg => assumption); (case xr => walk_at "room"); (case xh => rfl))
  | with_reducible refine we_bin ?_
  | with_reducible refine wo_add ?_
  | with_reducible refine wo_sub ?_
  | with_reducible refine wo_lt ?_
  | with_reducible refine wo_gt ?_
  | with_reducible refine wo_le ?_
  | with_reducible refine wo_ge ?_
  | with_reducible refine wu_neg ?_
  | ((with_reducible refine we_cmp ?xh ?_); (case xh => exact nomark _))
  | ((with_reducible refine wt_cmp ?xh ?_); (case xh => exact nomark _))
  | ((with_reducible refine wa_cons ?_ ?xh); (case xh => rfl))
  | with_reducible refine wa_nil ?_
  | with_reducible refine we_and ?_
  | with_reducible refine we_or ?_
  | with_reducible refine we_not ?_
  | with_reducible refine wt_not ?_
  | with_reducible refine we_un ?_
  | with_reducible refine we_one ?_
  | with_reducible refine wt_ww (ww_or ?_)
  | with_reducible refine wt_ww (ww_and ?_)
  | with_reducible refine ww_or ?_
  | with_reducible refine ww_and ?_
  | with_reducible refine ww_or1 ?_
  | with_reducible refine ww_and1 ?_
  | with_reducible refine we_ifExp ?_
  | with_reducible refine ws_if ?_
  | with_reducible refine ws_pass ?_
  | with_reducible refine we_tup ?_
  | with_reducible refine we_lst ?_
  | ((with_reducible refine' x_set ?xo ?xa ?xb ?_ ?xs); (case xo => assumption); (case xa => walk_at "at"); (case xb => walk_at "at"); (case xs => rfl))
  | ((with_reducible refine' x_setF ?_ ?xs); (case xs => rfl))
  | ((with_reducible refine' x_call ?xo ?xa ?xg ?xr ?_ ?xe ?xp); (case xo => assumption); (case xa => walk_at "at"); (case xg => assumption); (case xr => walk_at "room"); (case xe => rfl); (case xp => rfl))
  | ((with_reducible refine' x_callG ?xo ?xa ?xg ?xr ?xd ?_ ?xe ?xp); (case xo => assumption); (case xa => walk_at "at"); (case xg => assumption); (case xr => walk_at "room"); (case xd => assumption); (case xe => rfl); (case xp => rfl))
  | ((with_reducible refine' x_callB ?xo ?xa ?xg ?xr ?_ ?xe ?xp); (case xo => assumption); (case xr => walk_at "boot"); (case xa => walk_at "at"); (case xg => walk_at "none"); (case xe => rfl); (case xp => rfl))
  | ((with_reducible refine' x_callTy ?xo ?xa ?xg ?xr ?_ ?xe ?xp); (case xo => assumption); (case xr => walk_at "boot"); (case xa => walk_at "at"); (case xg => walk_at "none"); (case xe => rfl); (case xp => rfl))
  | ((with_reducible refine' x_bty ?xo ?xa ?xg ?xr ?_); (case xo => assumption); (case xr => walk_at "boot"); (case xa => walk_at "at"); (case xg => walk_at "none"))
  | ((with_reducible refine' x_cls ?xt ?xo ?xa ?_); (case xt => assumption); (case xo => assumption); (case xa => walk_at "at"))
  | ((with_reducible refine' x_make ?xo ?xa ?xg ?xr ?_ ?xe ?xp); (case xo => assumption); (case xa => walk_at "at"); (case xg => assumption); (case xr => walk_at "room"); (case xe => rfl); (case xp => rfl))
  | with_reducible refine wss_nil ?_
  | refine ⟨_, _, _, rfl, (by assumption), ?_⟩
  | refine wss_cons ?_
  | ((with_reducible refine' wt_val ?_ ?xv); (case xv => intro _; rfl)))
local macro_rules | `(tactic| walk_at "go") => `(tactic| repeat walk_at "n3")
theorem we_disp1 {X : Cx} {k v : Expr} {σ : L2.St} {L : LH} {K : V → LH → Prop} {pos : Pos} (h : ∀ p, WE X k σ ((p, .dK []) :: L) fun x L1 => WE X v σ L1 fun y L2 => ∃ kk F, x = kV kk ∧ Hole p (.dK []) L2 F ∧ K (.ref p) (F (.dK (putK [] kk y)))) : WE X (.Dict [some k] [v] pos) σ L K :=
  we_of (pe_disp (pps_cons pe_sem pe_sem pps_nil) rfl rfl (by intro z; cases z) (show 1 ≤ 15 by decide)) fun H hL p hp => e_then (h p) (hL.new hp) fun x L1 H1 h1 k1 => e_then k1 h1 fun y L2 H2 h2 ⟨kk, F, ex, hf, q⟩ => ⟨h2.at_ _ _ hf.mem, [(kk, y)], by rw [ex]; rfl, (show 1 ≤ 15 by decide), _, h2.put hf, q⟩
theorem nmOf_id {l : List (Str × Str)} (h : ∀ p ∈ l, p.2 = p.1) (k : Str) : nmOf l k = k := by
  unfold nmOf
  cases e : l.find? fun p => decide (p.1 = k) with
  | none => rfl
  | some p =>
    have h1 := List.find?_some e
    have h2 := h p (List.mem_of_find?_eq_some e)
    show p.2 = k
    rw [h2]
    exact of_decide_eq_true h1
theorem into_id {nm : List (Str × Str)} (h : ∀ p ∈ nm, p.2 = p.1) (j : Str) : ∀ r : SI, (r.map (·.1)).Nodup → into nm r j = look r j
  | [], _ => rfl
  | p :: r, nd => by
    rw [List.map_cons, List.nodup_cons] at nd
    have ih := into_id h j r nd.2
    have e : into nm (p :: r) j = (if nmOf nm p.1 = j then p.2 else 0) + into nm r j := by unfold into; rw [List.map_cons, List.sum_cons]
    rw [e, nmOf_id h, look_cons, ih]
    split
    · rename_i z
      rw [look_out (by rw [← z]; exact nd.1), Int.add_zero]
    · rw [Int.zero_add]
theorem ren_id {nm : List (Str × Str)} (h : ∀ p ∈ nm, p.2 = p.1) {a : SI} (ha : (a.map (·.1)).Nodup) : norm (renM nm (norm a)) = norm a := by
  refine norm_eq (renM_nd _ _) (norm_can ha) fun k => ?_
  rw [renM_look, into_id h k _ (norm_can ha).nd]
section
variable {X : Cx} {C r q d1 d2 o1 o2 sp pm fr kh : Addr} {ns ms : List Str} {nm : List (Str × Str)} {a1 a2 : SI} {ts us : List Addr} {L : LH} {D : EndsL} {u8 u9 u10 u11 : Option V} {hd : V}
theorem right_19 (hX : XOk nRight (defScope sRight) vRight lRight gRight X) (hr : Room 11 X.A) (hgd : X.A.guards = some []) (R : Rl X.prog X.w X.K X.mg X.base C) (fa : Fa C q d1 d2 o1 o2 sp ns a1 a2 ts L) (va : Va ns a1 a2 ts) (rest : WSs X (bR 20) (sR r q d1 d2 o1 o2 sp hd u8 u9 u10 u11) L D) : WSs X (bR 19) (sR r q d1 d2 o1 o2 sp hd u8 u9 u10 u11) L D := by
  obtain ⟨Q, sf, dr, ch, na, mi, lo, di, to, lr, is⟩ := R
  have T := Q.T
  have ke := Q.ke
  have e1 := va.l1
  have e2 := va.l2
  have w1 := norm_md va.md1 (by omega)
  have w2 := norm_md va.md2 (by omega)
  have t1 := fa.t1
  have t2 := fa.t2
  obtain ⟨x1, y1, mo1, my1⟩ := fa.t1
  obtain ⟨x2, y2, mo2, my2⟩ := fa.t2
  rw [bR_at 19 20 rfl (by decide +kernel)]
  refine wss_cons ?_
  refine ws_if ?_
  refine wt_ww (ww_or ?_)
  refine wt_cmp rfl ?_
  walk_at "go"
  refine wo_ownEq Q.eq (by walk_at "room") mo1 (.ins mo2) Q.nfC ⟨o1, _, _, rfl, t1, w1.can, .inl ⟨o2, _, rfl, t2, w2.can, ?_⟩⟩
  walk_at "go"
  refine ⟨d1, a1, rfl, fa.m1, va.md1, fun k1 => ?_⟩
  walk_at "go"
  refine ⟨d2, a2, rfl, .tail fa.m2, va.md2, fun k2 => ?_⟩
  refine wo_eqDK (by have := hr.un; omega) (.tail .head) .head (tk_flat _) (tk_flat _) ?_
  rw [eqD_can w1.can w2.can]
  refine wo_ne rfl ?_
  rw [decide_eq_true rfl]
  refine ⟨false, rfl, fun _ => ?_, fun z => Bool.noConfusion z⟩
  refine ww_sub (L' := L) (Sub.of_sublist (.cons _ (.cons _ (.refl _)))) ?_
  refine ww_or1 (wt_cmp rfl ?_)
  refine we_meth Q.re (by walk_at "room") ?_
  walk_at "go"
  refine ⟨tabF_no _ (by decide +kernel), ?_⟩
  walk_at "go"
  refine we_dnew fun cd => ?_
  walk_at "go"
  refine ⟨o1, _, cd, [], rfl, t1.sl (.cons _ (.refl _)), w1, .head, by decide, fun _ h => (List.not_mem_nil h).elim, fun p dx dy => ?_⟩
  rw [ren_id (fun _ h => (List.not_mem_nil h).elim) va.md1.nd]
  walk_at "go"
  refine wo_ownNe Q.eq (by walk_at "room") (.tail .head) (.ins (.tail (.tail (.tail mo1)))) Q.nfC Q.ne T.cm ⟨p, _, _, rfl, ⟨dx, dy, .tail .head, .head⟩, w1.can, .inl ⟨o1, _, rfl, t1.sl (.cons _ (.cons _ (.cons _ (.refl _)))), w1.can, _, rfl, ?_⟩⟩
  rw [decide_eq_true rfl]
  refine ⟨false, rfl, fun z => Bool.noConfusion z, fun _ => nil_rest (L' := L) (.cons _ (.cons _ (.cons _ (.refl _)))) ?_⟩
  with_reducible_and_instances exact rest
theorem rw_nil : Rw [] := ⟨Can.nil, fun _ h => (List.not_mem_nil h).elim, by decide⟩
theorem right_20 (hX : XOk nRight (defScope sRight) vRight lRight gRight X) (hr : Room 11 X.A) (hgd : X.A.guards = some []) (R : Rl X.prog X.w X.K X.mg X.base C) (fa : Fa C q d1 d2 o1 o2 sp ns a1 a2 ts L) (va : Va ns a1 a2 ts) (rest : WSs X (bR 21) (sR r q d1 d2 o1 o2 sp hd u8 u9 u10 u11) L D) : WSs X (bR 20) (sR r q d1 d2 o1 o2 sp hd u8 u9 u10 u11) L D := by
  obtain ⟨Q, sf, dr, ch, na, mi, lo, di, to, lr, is⟩ := R
  have T := Q.T
  have mk1 := Q.mk1
  obtain ⟨y0, ys, hy⟩ : ∃ y ys, ns = y :: ys := by
    cases h : ns with
    | nil => have := va.np; rw [h] at this; exact absurd this (by decide)
    | cons y ys => exact ⟨y, ys, rfl⟩
  have hy0 : Nm y0 := va.nm y0 (by rw [hy]; exact List.mem_cons_self)
  have md0 : Md [(y0, (0 : Int))] := ⟨by simp, fun p hp => by rw [List.mem_singleton.mp hp]; exact hy0, by show 1 < 40; decide⟩
  have z0 : norm [(y0, (0 : Int))] = [] := norm_eq (by simp) Can.nil fun k => by
    rw [look_cons]
    split <;> rfl
  rw [bR_at 20 21 rfl (by decide +kernel)]
  refine wss_cons ?_
  refine ws_if ?_
  refine wt_ww (ww_or ?_)
  refine wt_cmp rfl ?_
  refine x_make0 hX (by walk_at "at") Q.mk0 (by walk_at "room") fun p dx => ?_
  refine ⟨p, dx, .non, [], _, rfl, rfl, .inl ⟨rfl, rfl⟩, Md.nil, fun dy => ⟨rfl, ?_⟩⟩
  walk_at "go"
  refine we_dnew fun cd => ?_
  walk_at "go"
  intro p2 dx2
  refine ⟨p2, dx2, _, [], _, rfl, rfl, .inr ⟨cd, rfl, .head⟩, Md.nil, fun dy2 => ⟨rfl, ?_⟩⟩
  refine wo_ownNe Q.eq (by walk_at "room") (.tail (.tail (.tail (.tail .head)))) (.ins (.tail .head)) Q.nfC Q.ne T.cm ⟨p, [], _, rfl, ⟨dx, dy, .tail (.tail (.tail (.tail .head))), .tail (.tail (.tail .head))⟩, Can.nil, .inl ⟨p2, [], rfl, ⟨dx2, dy2, .tail .head, .head⟩, Can.nil, _, rfl, ?_⟩⟩
  rw [decide_eq_true rfl]
  refine ⟨false, rfl, fun _ => ?_, fun z => Bool.noConfusion z⟩
  refine ww_sub (L' := L) (Sub.of_sublist (.cons _ (.cons _ (.cons _ (.cons _ (.cons _ (.refl _))))))) ?_
  refine ww_or ?_
  refine wt_cmp rfl ?_
  walk_at "go"
  intro p dx
  refine ⟨p, dx, .non, [], _, rfl, rfl, .inl ⟨rfl, rfl⟩, Md.nil, fun dy => ⟨rfl, ?_⟩⟩
  walk_at "go"
  refine we_disp1 fun cd => ?_
  refine we_ixL ?_
  walk_at "go"
  refine ⟨q, _, 0, .str y0, rfl, rfl, .of (.tail (.tail (.tail fa.mq))), by rw [hy]; exact atI_nat (j := 0) rfl, ?_⟩
  walk_at "go"
  refine ⟨.inr y0, _, rfl, .head, ?_⟩
  walk_at "go"
  intro p2 dx2
  refine ⟨p2, dx2, _, [(y0, 0)], _, rfl, rfl, .inr ⟨cd, rfl, .head⟩, md0, fun dy2 => ⟨rfl, ?_⟩⟩
  rw [z0]
  refine wo_ownNe Q.eq (by walk_at "room") (.tail (.tail (.tail (.tail .head)))) (.ins (.tail .head)) Q.nfC Q.ne T.cm ⟨p, [], _, rfl, ⟨dx, dy, .tail (.tail (.tail (.tail .head))), .tail (.tail (.tail .head))⟩, Can.nil, .inl ⟨p2, [], rfl, ⟨dx2, dy2, .tail .head, .head⟩, Can.nil, _, rfl, ?_⟩⟩
  rw [decide_eq_true rfl]
  refine ⟨false, rfl, fun _ => ?_, fun z => Bool.noConfusion z⟩
  refine ww_sub (L' := L) (Sub.of_sublist (.cons _ (.cons _ (.cons _ (.cons _ (.cons _ (.refl _))))))) ?_
  refine ww_or ?_
  refine wt_cmp rfl ?_
  walk_at "go"
  refine x_make0 hX (by walk_at "at") Q.mk0 (by walk_at "room") fun p dx => ?_
  refine ⟨p, dx, .non, [], _, rfl, rfl, .inl ⟨rfl, rfl⟩, Md.nil, fun dy => ⟨rfl, ?_⟩⟩
  walk_at "go"
  refine wc_ownLen Q.le (by walk_at "room") (.tail .head) ⟨p, [], rfl, ⟨dx, dy, .tail .head, .head⟩, 0, rfl, by decide, by decide, ?_⟩
  walk_at "go"
  refine wo_ne rfl ?_
  rw [decide_eq_true rfl]
  refine ⟨false, rfl, fun _ => ?_, fun z => Bool.noConfusion z⟩
  refine ww_sub (L' := L) (Sub.of_sublist (.cons _ (.cons _ (.refl _)))) ?_
  refine ww_or1 ?_
  refine wt_not ?_
  refine wt_val (we_prop Q.pl (by walk_at "room") ?_) (by intro _; rfl)
  refine x_make0 hX (by walk_at "at") Q.mk0 (by walk_at "room") fun p dx => ?_
  refine ⟨p, dx, .non, [], _, rfl, rfl, .inl ⟨rfl, rfl⟩, Md.nil, fun dy => ⟨rfl, ?_⟩⟩
  refine ⟨p, dx, _, rfl, .tail .head, p, [], rfl, ⟨dx, dy, .tail .head, .head⟩, rw_nil, true, rfl, ?_⟩
  refine ⟨fun z => Bool.noConfusion z, fun _ => nil_rest (L' := L) (.cons _ (.cons _ (.refl _))) ?_⟩
  with_reducible_and_instances exact rest
end
end K12

set_option Elab.async false
set_option linter.all false
set_option maxRecDepth 100000
set_option maxHeartbeats 4000000
namespace K12
open PySem L2 N3
local macro_rules | `(tactic| walk_at "at") => `(tactic| with_reducible (repeat (first | exact At.head | apply At.tail)))
local macro_rules | `(tactic| walk_at "mem") => `(tactic| with_reducible (repeat (first | exact Mem.head | apply Mem.tail)))
local macro_rules | `(tactic| walk_at "boot") => `(tactic| with_reducible (first | exact boot_isi | exact boot_max | exact boot_min | exact boot_abs | exact boot_len | exact boot_repr | exact boot_divmod | exact boot_all | exact boot_int | exact boot_bool | exact boot_str | exact boot_dict | exact boot_list | exact boot_sorted))
local macro_rules | `(tactic| walk_at "room") => `(tactic| (first | assumption | exact Room.mono (by assumption) (by decide)))
local macro_rules | `(tactic| walk_at "none") => `(tactic| (refine Txt.bn (by assumption) _ ?xz; (case xz => with_reducible (repeat (first | exact InS.head | apply InS.tail)))))
local macro_rules | `(tactic| walk_at "n3") => `(tactic| first
  | with_reducible refine ws_ret ?_
  | with_reducible refine we_int ?_
  | with_reducible refine we_str ?_
  | with_reducible refine we_bool ?_
  | with_reducible refine we_none ?_
  | ((with_reducible refine' x_name ?xo ?xa ?xb ?xc ?_); (case xo => assumption); (case xa => walk_at "at"); (case xb => walk_at "at"); (case xc => rfl))
  | ((with_reducible refine' f_cnt ?xt ?_ ?xh); (case xt => assumption); (case xh => rfl))
  | ((with_reducible refine' we_prop ?xg ?xr ?_ ?xh); (case xg => assumption); (case xr => walk_at "room"); (case xh => rfl))
  | with_reducible refine we_bin ?_
  | with_reducible refine wo_add ?_
  | with_reducible refine wo_sub ?_
  | with_reducible refine wo_lt ?_
  | with_reducible refine wo_gt ?_
  | with_reducible refine wo_le ?_
  | with_reducible refine wo_ge ?_
  | with_reducible refine wu_neg ?_
  | ((with_reducible refine we_cmp ?xh ?_); (case xh => exact nomark _))
  | ((with_reducible refine wt_cmp ?xh ?_); (case xh => exact nomark _))
  | ((with_reducible refine wa_cons ?_ ?xh); (case xh => rfl))
  | with_reducible refine wa_nil ?_
  | with_reducible refine we_and ?_
  | with_reducible refine we_or ?_
  | with_reducible refine we_not ?_
  | with_reducible refine wt_not ?_
  | with_reducible refine we_un ?_
  | with_reducible refine we_one ?_
  | with_reducible refine wt_ww (ww_or ?_)
  | with_reducible refine wt_ww (ww_and ?_)
  | with_reducible refine ww_or ?_
  | with_reducible refine ww_and ?_
  | with_reducible refine ww_or1 ?_
  | with_reducible refine ww_and1 ?_
  | with_reducible refine we_ifExp ?_
  | with_reducible refine ws_if ?_
  | with_reducible refine ws_pass ?_
  | with_reducible refine we_tup ?_
  | with_reducible refine we_lst ?_
  | ((with_reducible refine' x_set ?xo ?xa ?xb ?_ ?xs); (case xo => assumption); (case xa => walk_at "at"); (case xb => walk_at "at"); (case xs => rfl))
  | ((with_reducible refine' x_setF ?_ ?xs); (case xs => rfl))
  | ((with_reducible refine' x_call ?xo ?xa ?xg ?xr ?_ ?xe ?xp); (case xo => assumption); (case xa => walk_at "at"); (case xg => assumption); (case xr => walk_at "room"); (case xe => rfl); (case xp => rfl))
  | ((with_reducible refine' x_callG ?xo ?xa ?xg ?xr ?xd ?_ ?xe ?xp); (case xo => assumption); (case xa => walk_at "at"); (case xg => assumption); (case xr => walk_at "room"); (case xd => assumption); (case xe => rfl); (case xp => rfl))
  | ((with_reducible refine' x_callB ?xo ?xa ?xg ?xr ?_ ?xe ?xp); (case xo => assumption); (case xr => walk_at "boot"); (case xa => walk_at "at"); (case xg => walk_at "none"); (case xe => rfl); (case xp => rfl))
  | ((with_reducible refine' x_callTy ?xo ?xa ?xg ?xr ?_ ?xe ?xp); (case xo => assumption); (case xr => walk_at "boot"); (case xa => walk_at "at"); (case xg => walk_at "none"); (case xe => rfl); (case xp => rfl))
  | ((with_reducible refine' x_bty ?xo ?xa ?xg ?xr ?_); (case xo => assumption); (case xr => walk_at "boot"); (case xa => walk_at "at"); (case xg => walk_at "none"))
  | ((with_reducible refine' x_cls ?xt ?xo ?xa ?_); (case xt => assumption); (case xo => assumption); (case xa => walk_at "at"))
  | ((with_reducible refine' x_make ?xo ?xa ?xg ?xr ?_ ?xe ?xp); (case xo => assumption); (case xa => walk_at "at"); (case xg => assumption); (case xr => walk_at "room"); (case xe => rfl); (case xp => rfl))
  | with_reducible refine wss_nil ?_
  | refine ⟨_, _, _, rfl, (by assumption), ?_⟩
  | refine wss_cons ?_
  | ((with_reducible refine' wt_val ?_ ?xv); (case xv => intro _; rfl)))
local macro_rules | `(tactic| walk_at "go") => `(tactic| repeat walk_at "n3")
/-! dicts from names to names -/
def putN (m : List (Str × Str)) (k v : Str) : List (Str × Str) := if (m.any fun p => decide (p.1 = k)) = true then m.map (fun p => if p.1 = k then (p.1, v) else p) else m ++ [(k, v)]
theorem putK_tn (m : List (Str × Str)) (k v : Str) : putK (tn m) (.inr k) (.str v) = tn (putN m k v) := by
  have ea : ((tn m).any fun kv => decide (kv.1 = Sum.inr k)) = (m.any fun p => decide (p.1 = k)) := by
    unfold tn
    rw [List.any_map]
    congr 1
    funext p
    simp only [Function.comp, Sum.inr.injEq]
  unfold putK putN
  rw [ea]
  split
  · unfold tn
    rw [List.map_map, List.map_map]
    refine List.map_congr_left fun p _ => ?_
    simp only [Function.comp, Sum.inr.injEq]
    split <;> rfl
  · unfold tn
    rw [List.map_append]
    rfl
theorem any_keyN (m : List (Str × Str)) (k : Str) : (m.any fun p => decide (p.1 = k)) = decide (k ∈ m.map (·.1)) := by
  rw [Bool.eq_iff_iff]
  simp
theorem putN_keys (m : List (Str × Str)) (k v : Str) : (putN m k v).map (·.1) = if k ∈ m.map (·.1) then m.map (·.1) else m.map (·.1) ++ [k] := by
  unfold putN
  rw [any_keyN]
  by_cases h : k ∈ m.map (·.1)
  · rw [if_pos (decide_eq_true h), if_pos h, List.map_map]
    refine List.map_congr_left fun q _ => ?_
    simp only [Function.comp]
    split <;> rfl
  · rw [if_neg (by simp [h]), if_neg h, List.map_append]
    rfl
theorem putN_nd {m : List (Str × Str)} (nd : (m.map (·.1)).Nodup) (k v : Str) : ((putN m k v).map (·.1)).Nodup := by
  rw [putN_keys]
  split
  · exact nd
  · rename_i h
    rw [List.nodup_append]
    refine ⟨nd, List.nodup_cons.mpr ⟨List.not_mem_nil, List.nodup_nil⟩, fun a ha b hb e => h ?_⟩
    rw [List.mem_singleton] at hb
    rw [← hb, ← e]
    exact ha
theorem putN_mem {m : List (Str × Str)} {k v : Str} {p : Str × Str} (h : p ∈ putN m k v) : p = (k, v) ∨ p ∈ m := by
  unfold putN at h
  split at h
  · obtain ⟨q, hq, e⟩ := List.mem_map.mp h
    by_cases z : q.1 = k
    · rw [if_pos z] at e
      exact .inl (by rw [← e, z])
    · rw [if_neg z] at e
      exact .inr (by rw [← e]; exact hq)
  · rcases List.mem_append.mp h with h | h
    · exact .inr h
    · exact .inl (List.mem_singleton.mp h)
theorem putN_len (m : List (Str × Str)) (k v : Str) : (putN m k v).length ≤ m.length + 1 := by
  unfold putN
  split <;> simp
theorem putN_new {m : List (Str × Str)} {k : Str} (v : Str) (h : k ∉ m.map (·.1)) : putN m k v = m ++ [(k, v)] := by
  unfold putN
  rw [any_keyN, if_neg (by simp [h])]
def mgN (ps : List (Str × Str)) : List (Str × Str) := ps.foldl (fun m p => putN m p.1 p.2) []
theorem mgN_snoc (ps : List (Str × Str)) (p : Str × Str) : mgN (ps ++ [p]) = putN (mgN ps) p.1 p.2 := by unfold mgN; rw [List.foldl_append]; rfl
theorem mgN_nd (ps : List (Str × Str)) : ((mgN ps).map (·.1)).Nodup := by
  refine si_ind (motive := fun ps => ((mgN ps).map (·.1)).Nodup) List.nodup_nil (fun ps p ih => ?_) ps
  rw [mgN_snoc]
  exact putN_nd ih _ _
theorem mgN_mem (ps : List (Str × Str)) : ∀ p ∈ mgN ps, p ∈ ps := by
  refine si_ind (motive := fun ps => ∀ p ∈ mgN ps, p ∈ ps) (fun p h => (List.not_mem_nil h).elim) (fun ps q ih p hp => ?_) ps
  rw [mgN_snoc] at hp
  rcases putN_mem hp with e | h
  · rw [e]; exact List.mem_append_right _ List.mem_cons_self
  · exact List.mem_append_left _ (ih p h)
theorem mgN_len (ps : List (Str × Str)) : (mgN ps).length ≤ ps.length := by
  refine si_ind (motive := fun ps => (mgN ps).length ≤ ps.length) (Nat.le_refl _) (fun ps q ih => ?_) ps
  rw [mgN_snoc, List.length_append]
  exact Nat.le_trans (putN_len _ _ _) (Nat.succ_le_succ ih)
theorem merge_tn (ps : List (Str × Str)) : mergeK [] (ps.map fun p => ((Sum.inr p.1 : Key), V.str p.2)) = tn (mgN ps) := by
  refine si_ind (motive := fun ps => mergeK [] (ps.map fun p => ((Sum.inr p.1 : Key), V.str p.2)) = tn (mgN ps)) rfl (fun ps q ih => ?_) ps
  rw [mgN_snoc, ← putK_tn, ← ih, List.map_append]
  unfold mergeK
  rw [List.foldl_append]
  rfl
theorem tn_nodup {m : List (Str × Str)} (nd : (m.map (·.1)).Nodup) : ((tn m).map (·.1)).Nodup := by
  have e : (tn m).map (·.1) = (m.map (·.1)).map Sum.inr := by unfold tn; rw [List.map_map, List.map_map]; rfl
  rw [e, List.nodup_iff_pairwise_ne]
  rw [List.nodup_iff_pairwise_ne] at nd
  exact List.pairwise_map.mpr (nd.imp fun ne z => ne (Sum.inr.inj z))
/-- pairs of names that are made -/
def sq (p : Addr × Str × Str) : Pq := (p.1, p.2.1, .str p.2.2)
theorem sq_kv (qs : List (Addr × Str × Str)) : ((qs.map sq).map fun q => ((Sum.inr q.2.1 : Key), q.2.2)) = (qs.map (·.2)).map fun p => ((Sum.inr p.1 : Key), V.str p.2) := by
  rw [List.map_map, List.map_map]
  rfl
section
variable {X : Cx} {C r q d1 d2 o1 o2 sp pm fr kh : Addr} {ns ms : List Str} {nm : List (Str × Str)} {a1 a2 : SI} {ts us : List Addr} {L : LH} {D : EndsL} {u8 u9 u10 u11 : Option V} {hd : V}
theorem right_17 (hX : XOk nRight (defScope sRight) vRight lRight gRight X) (hr : Room 11 X.A) (hgd : X.A.guards = some []) (R : Rl X.prog X.w X.K X.mg X.base C) (fa : Fa C q d1 d2 o1 o2 sp ns a1 a2 ts L) (va : Va ns a1 a2 ts) (fb : Fb pm fr kh ms nm us L) (vb : Vb ms nm us) (rest : WSs X (bR 18) (sR r q d1 d2 o1 o2 sp hd u8 (some (.ref pm)) (some (.ref fr)) u11) L D) : WSs X (bR 17) (sR r q d1 d2 o1 o2 sp hd u8 (some (.ref pm)) (some (.ref fr)) u11) L D := by
  obtain ⟨Q, sf, dr, ch, na, mi, lo, di, to, lr, is⟩ := R
  have T := Q.T
  have e1 := va.l1
  have e5 := vb.fl
  have w1 := norm_md va.md1 (by omega)
  have t1 := fa.t1
  obtain ⟨x1, y1, mo1, my1⟩ := fa.t1
  obtain ⟨G, hf, other⟩ := fb.mf.hole
  rw [bR_at 17 18 rfl (by decide +kernel)]
  refine wss_cons ?_
  refine ws_if ?_
  refine wt_cmp rfl ?_
  refine we_meth Q.re (by walk_at "room") ?_
  walk_at "go"
  refine ⟨tabF_no _ (by decide +kernel), ?_⟩
  walk_at "go"
  refine we_lock hf True.intro fun od => ?_
  have hh := hf.again' (.frz od (.dK (tn nm)))
  refine x_lc [("_law_key", 12)] hX (by decide +kernel) (wi_keys ?_)
  walk_at "go"
  refine ⟨fr, od, tn nm, rfl, hh.mm, fun D1 => ⟨fun i L' => ∃ qs : List (Addr × Str × Str), qs.length = i ∧ (∀ p ∈ qs, p.2.2 = p.2.1 ∧ Nm p.2.1) ∧ L' = (qs.map sq).reverse.map pO ++ (D1, .lst (qs.map fun p => .ref p.1)) :: G (.frz od (.dK (tn nm))), ?_, ?_, ?_, ?_⟩⟩
  · exact ⟨[], rfl, fun _ h => (List.not_mem_nil h).elim, rfl⟩
  · rintro i L' _ ⟨qs, l1, l2, rfl⟩
    exact Mem.app (.tail hh.mm) _
  · rintro i v L' L'' hi ⟨qs, l1, l2, rfl⟩ ⟨rfl, k, u, hk, rfl⟩
    intro s H' Ca cl fp
    obtain ⟨p, hp, ep⟩ := map_get hk
    cases ep
    have hpn : Nm p.1 := (vb.fn p (List.mem_of_getElem? hp)).1
    have hi' : i < nm.length := (List.getElem?_eq_some_iff.mp hp).1
    have hB := hX.blk (Vb := ["_law_key"]) (Lb := ["_law_key"]) (Gb := []) (scope := ⟨.function, [(".0", .local), ("_law_key", .local)], false, false, []⟩) (by decide +kernel)
    refine x_tgt (hB s H' Ca cl fp) (by walk_at "at") (by walk_at "at") ⟨rfl, fun s H' Ca cl fp => ?_⟩
    have hX1 := hB s H' Ca cl fp
    walk_at "go"
    refine ⟨show 2 ≤ sizeLine from len_line, fun t => ?_⟩
    refine ⟨_, _, .tail (Hole.head.app _), ?_, _, Sub.refl _, qs ++ [(t, p.1, p.1)], by rw [List.length_append, l1]; rfl, ?_, ?_⟩
    · rw [List.length_map]
      exact len_lt (by omega)
    · intro u hu
      rcases List.mem_append.mp hu with h | h
      · exact l2 u h
      · rw [List.mem_singleton.mp h]
        exact ⟨rfl, hpn⟩
    · rw [List.map_append, List.map_append, List.reverse_append]
      rfl
  rintro L' ⟨qs, l1, l2, rfl⟩
  refine ⟨_, (Hole.tail hh).app _, ?_⟩
  rw [hf.self']
  walk_at "go"
  refine wc_dictP (ps := (qs.map sq).map (·.1)) hX.calm (.of (by rw [List.map_map, List.map_map]; exact Mem.head.app _)) (pairs_ok mem_rev) fun p3 => ?_
  rw [sq_kv, merge_tn]
  have hid : ∀ p ∈ mgN (qs.map (·.2)), p.2 = p.1 ∧ Nm p.1 := fun p hp => by
    obtain ⟨u, hu, rfl⟩ := List.mem_map.mp (mgN_mem _ p hp)
    exact l2 u hu
  have sl : L.Sublist ((p3, .dK (tn (mgN (qs.map (·.2))))) :: ((qs.map sq).reverse.map pO ++ (D1, .lst (qs.map fun p => .ref p.1)) :: L)) := .cons _ (List.Sublist.trans (.cons _ (.refl _)) (List.sublist_append_right _ _))
  have hql : (mgN (qs.map (·.2))).length < 1000 := by
    refine Nat.lt_of_le_of_lt (mgN_len _) ?_
    rw [List.length_map, l1]
    show (tn nm).length < 1000
    unfold tn
    rw [List.length_map]
    omega
  walk_at "go"
  refine ⟨o1, _, p3, mgN (qs.map (·.2)), rfl, t1.sl sl, w1, .head, hql, fun p hp => ⟨(hid p hp).2, by rw [(hid p hp).1]; exact (hid p hp).2⟩, fun p dx dy => ?_⟩
  rw [ren_id (fun p hp => (hid p hp).1) va.md1.nd]
  walk_at "go"
  refine wo_ownNe Q.eq (by walk_at "room") (.tail .head) (.ins (.tail (.tail (mo1.sl sl)))) Q.nfC Q.ne T.cm ⟨p, _, _, rfl, ⟨dx, dy, .tail .head, .head⟩, w1.can, .inl ⟨o1, _, rfl, (t1.sl sl).sl (.cons _ (.cons _ (.refl _))), w1.can, _, rfl, ?_⟩⟩
  rw [decide_eq_true rfl]
  refine ⟨false, rfl, fun z => Bool.noConfusion z, fun _ => nil_rest (L' := L) (.cons _ (.cons _ sl)) ?_⟩
  with_reducible_and_instances exact rest
end
end K12

set_option Elab.async false
set_option linter.all false
set_option maxRecDepth 100000
set_option maxHeartbeats 4000000
namespace K12
open PySem L2 N3
local macro_rules | `(tactic| walk_at "at") => `(tactic| with_reducible (repeat (first | exact At.head | apply At.tail)))
local macro_rules | `(tactic| walk_at "mem") => `(tactic| with_reducible (repeat (first | exact Mem.head | apply Mem.tail)))
local macro_rules | `(tactic| walk_at "boot") => `(tactic| with_reducible (first | exact boot_isi | exact boot_max | exact boot_min | exact boot_abs | exact boot_len | exact boot_repr | exact boot_divmod | exact boot_all | exact boot_int | exact boot_bool | exact boot_str | exact boot_dict | exact boot_list | exact boot_sorted))
local macro_rules | `(tactic| walk_at "room") => `(tactic| (first | assumption | exact Room.mono (by assumption) (by decide)))
local macro_rules | `(tactic| walk_at "none") => `(tactic| (refine Txt.bn (by assumption) _ ?xz; (case xz => with_reducible (repeat (first | exact InS.head | apply InS.tail)))))
local macro_rules | `(tactic| walk_at "n3") => `(tactic| first
  | with_reducible refine ws_ret ?_
  | with_reducible refine we_int ?_
  | with_reducible refine we_str ?_
  | with_reducible refine we_bool ?_
  | with_reducible refine we_none ?_
  | ((with_reducible refine' x_name ?xo ?xa ?xb ?xc ?_); (case xo => assumption); (case xa => walk_at "at"); (case xb => walk_at "at"); (case xc => rfl))
  | ((with_reducible refine' f_cnt ?xt ?_ ?xh); (case xt => assumption); (case xh => rfl))
  | ((with_reducible refine' we_prop ?xg ?xr ?_ ?xh); (case xg => assumption); (case xr => walk_at "room"); (case xh => rfl))
  | with_reducible refine we_bin ?_
  | with_reducible refine wo_add ?_
  | with_reducible refine wo_sub ?_
  | with_reducible refine wo_lt ?_
  | with_reducible refine wo_gt ?_
  | with_reducible refine wo_le ?_
  | with_reducible refine wo_ge ?_
  | with_reducible refine wu_neg ?_
  | ((with_reducible refine we_cmp ?xh ?_); (case xh => exact nomark _))
  | ((with_reducible refine wt_cmp ?xh ?_); (case xh => exact nomark _))
  | ((with_reducible refine wa_cons ?_ ?xh); (case xh => rfl))
  | with_reducible refine wa_nil ?_
  | with_reducible refine we_and ?_
  | with_reducible refine we_or ?_
  | with_reducible refine we_not ?_
  | with_reducible refine wt_not ?_
  | with_reducible refine we_un ?_
  | with_reducible refine we_one ?_
  | with_reducible refine wt_ww (ww_or ?_)
  | with_reducible refine wt_ww (ww_and ?_)
  | with_reducible refine ww_or ?_
  | with_reducible refine ww_and ?_
  | with_reducible refine ww_or1 ?_
  | with_reducible refine ww_and1 ?_
  | with_reducible refine we_ifExp ?_
  | with_reducible refine ws_if ?_
  | with_reducible refine ws_pass ?_
  | with_reducible refine we_tup ?_
  | with_reducible refine we_lst ?_
  | ((with_reducible refine' x_set ?xo ?xa ?xb ?_ ?xs); (case xo => assumption); (case xa => walk_at "at"); (case xb => walk_at "at"); (case xs => rfl))
  | ((with_reducible refine' x_setF ?_ ?xs); (case xs => rfl))
  | ((with_reducible refine' x_call ?xo ?xa ?xg ?xr ?_ ?xe ?xp); (case xo => assumption); (case xa => walk_at "at"); (case xg => assumption); (case xr => walk_at "room"); (case xe => rfl); (case xp => rfl))
  | ((with_reducible refine' x_callG ?xo ?xa ?xg ?xr ?xd ?_ ?xe ?xp); (case xo => assumption); (case xa => walk_at "at"); (case xg => assumption); (case xr => walk_at "room"); (case xd => assumption); (case xe => rfl); (case xp => rfl))
  | ((with_reducible refine' x_callB ?xo ?xa ?xg ?xr ?_ ?xe ?xp); (case xo => assumption); (case xr => walk_at "boot"); (case xa => walk_at "at"); (case xg => walk_at "none"); (case xe => rfl); (case xp => rfl))
  | ((with_reducible refine' x_callTy ?xo ?xa ?xg ?xr ?_ ?xe ?xp); (case xo => assumption); (case xr => walk_at "boot"); (case xa => walk_at "at"); (case xg => walk_at "none"); (case xe => rfl); (case xp => rfl))
  | ((with_reducible refine' x_bty ?xo ?xa ?xg ?xr ?_); (case xo => assumption); (case xr => walk_at "boot"); (case xa => walk_at "at"); (case xg => walk_at "none"))
  | ((with_reducible refine' x_cls ?xt ?xo ?xa ?_); (case xt => assumption); (case xo => assumption); (case xa => walk_at "at"))
  | ((with_reducible refine' x_make ?xo ?xa ?xg ?xr ?_ ?xe ?xp); (case xo => assumption); (case xa => walk_at "at"); (case xg => assumption); (case xr => walk_at "room"); (case xe => rfl); (case xp => rfl))
  | with_reducible refine wss_nil ?_
  | refine ⟨_, _, _, rfl, (by assumption), ?_⟩
  | refine wss_cons ?_
  | ((with_reducible refine' wt_val ?_ ?xv); (case xv => intro _; rfl)))
local macro_rules | `(tactic| walk_at "go") => `(tactic| repeat walk_at "n3")
section
variable {X : Cx} {C r q d1 d2 o1 o2 sp : Addr} {ns : List Str} {a1 a2 : SI} {ts : List Addr} {hd : V}
theorem right_15 (hX : XOk nRight (defScope sRight) vRight lRight gRight X) (hr : Room 11 X.A) (hgd : X.A.guards = some []) (R : Rl X.prog X.w X.K X.mg X.base C) {pm fr : Addr} {ms : List Str} {nm : List (Str × Str)} {L : LH} {u8 : Option V} (fa : Fa C q d1 d2 o1 o2 sp ns a1 a2 ts L) (va : Va ns a1 a2 ts) (mm : Mem pm (.lst (ms.map V.str)) L) (mf : Mem fr (.dK (tn nm)) L) (hms : ∀ y ∈ ms, Nm y) (ml : ms.length < 10) (fn : ∀ p ∈ nm, Nm p.1 ∧ Nm p.2) (fl : nm.length < 10) (nd : (nm.map (·.1)).Nodup)
    {Kk : V → LH → Prop} (k : ∀ L', L.Sublist L' → (EndOf Kk).rt (.bl true) L') : WSs X (bR 15) (sR r q d1 d2 o1 o2 sp hd u8 (some (.ref pm)) (some (.ref fr)) none) L (EndOf Kk) := by
  have T := R.Q.T
  have zl : X.mg "list" = none := by walk_at "none"
  have gl := (hX.glo (x := "list") (by walk_at "at")).1
  rw [bR_at 15 16 rfl (by decide +kernel)]
  refine wss_cons ?_
  refine x_set hX (by walk_at "at") (by walk_at "at") ?_
  refine we_listItems hX.calm gl zl boot_list ?_
  walk_at "go"
  refine ⟨fr, tn nm, rfl, mf, tn_nodup nd, fun kh us l1 => ?_⟩
  have sl : L.Sublist ((kh, .lst (us.map V.ref)) :: (tupsOf us (tn nm) ++ L)) := .cons _ (List.sublist_append_right _ _)
  have fb : Fb pm fr kh ms nm us ((kh, .lst (us.map V.ref)) :: (tupsOf us (tn nm) ++ L)) := ⟨mm.sl sl, mf.sl sl, .head, fun i t p h1 h2 => .tail (tups_mem _ _ _ i t p h1 h2)⟩
  have vb : Vb ms nm us := ⟨hms, ml, fn, fl, tn_nodup nd, l1⟩
  have fa' := fa.sl sl
  dsimp only
  show WSs X (bR 16) (sR r q d1 d2 o1 o2 sp hd u8 (some (.ref pm)) (some (.ref fr)) (some (.ref kh))) _ _
  with_reducible_and_instances refine right_16 hX hr hgd R fa' va fb vb ?_
  with_reducible_and_instances refine right_17 hX hr hgd R fa' va fb vb ?_
  with_reducible_and_instances refine ren_is hX hr hgd R fa' va fb vb ?_
  with_reducible_and_instances refine right_19 hX hr hgd R fa' va ?_
  with_reducible_and_instances refine right_20 hX hr hgd R fa' va ?_
  with_reducible_and_instances refine right_21 hX hr hgd R fa' va ?_
  exact k _ sl
theorem right_9 (hX : XOk nRight (defScope sRight) vRight lRight gRight X) (hr : Room 11 X.A) (R : Rl X.prog X.w X.K X.mg X.base C) {F : HO → LH} (hh : ∀ a b, Hole r (rl a b) (F (rl a b)) F) {a b : Int} {D : EndsL} (rest : ∀ n a' b', n.natAbs < 2 ^ 7 → WSs X (bR 10) (sR r q d1 d2 o1 o2 sp hd (some (.int n)) none none none) (F (rl a' b')) D) : WSs X (bR 9) (sR r q d1 d2 o1 o2 sp hd none none none none) (F (rl a b)) D := by
  have T := R.Q.T
  have ch := R.ch
  rw [bR_at 9 10 rfl (by decide +kernel)]
  refine wss_cons ?_
  refine x_set hX (by walk_at "at") (by walk_at "at") ?_
  walk_at "go"
  refine ⟨show 6 ≤ sizeLine from len_line, fun p => ?_⟩
  walk_at "go"
  refine ⟨r, _, a, b, _, rfl, .tail (hh a b), .inl ⟨p, _, rfl, fun o => .head, by decide, by decide, fun x a' b' hx => ?_⟩⟩
  have px : ∃ i : Int, x = .int i ∧ i.natAbs < 2 ^ 7 := by
    have all : ∀ i ∈ ([0, 1, -1, 2, -7, 100] : List Int), i.natAbs < 2 ^ 7 := by decide +kernel
    obtain ⟨i, hi, e⟩ := List.mem_map.mp (show x ∈ ([0, 1, -1, 2, -7, 100] : List Int).map V.int from hx)
    exact ⟨i, e.symm, all i hi⟩
  obtain ⟨i, rfl, hi⟩ := px
  dsimp only
  exact wss_subl (L' := F (rl a' b')) (.cons _ (.refl _)) (rest i a' b' hi)
theorem right_13 (hX : XOk nRight (defScope sRight) vRight lRight gRight X) (hfn : ∀ x, X.fn x = true) (hr : Room 11 X.A) (R : Rl X.prog X.w X.K X.mg X.base C) {F : HO → LH} (hh : ∀ a b, Hole r (rl a b) (F (rl a b)) F) (mq : ∀ o, Mem q (.lst (ns.map V.str)) (F o)) (hl : ns.length < 6) {a b : Int} {u8 : Option V} {D : EndsL} (rest : ∀ (pm : Addr) (ms : List Str) (a' b' : Int), (∀ y ∈ ms, Nm y) → ms.length < 10 → 0 < ms.length → WSs X (bR 14) (sR r q d1 d2 o1 o2 sp hd u8 (some (.ref pm)) none none) ((pm, .lst (ms.map V.str)) :: F (rl a' b')) D) : WSs X (bR 13) (sR r q d1 d2 o1 o2 sp hd u8 none none none) (F (rl a b)) D := by
  have T := R.Q.T
  have na := R.na
  rw [bR_at 13 14 rfl (by decide +kernel)]
  refine wss_cons ?_
  refine x_setC hX hfn (by walk_at "at") (by decide +kernel) ?_
  walk_at "go"
  refine ⟨show 1 ≤ sizeLine from len_line, fun p1 => ?_⟩
  refine wo_catL (.tail (mq _)) .head (by rw [List.length_map]; exact len_line (n := ns.length + 1) (by omega)) fun p2 => ?_
  rw [zs_map]
  walk_at "go"
  refine ⟨r, p2, 3, zs ns, a, b, _, rfl, .tail (.tail (hh a b)), fun o => .head, by decide, by rw [zs_len]; omega, fun pm ms a' b' hm hn => ?_⟩
  dsimp only
  exact wss_subl (L' := (pm, .lst (ms.map V.str)) :: F (rl a' b')) (.cons₂ _ (.cons _ (.cons _ (.refl _)))) (rest pm ms a' b' hn (by omega) (by omega))
theorem right_14 (hX : XOk nRight (defScope sRight) vRight lRight gRight X) (hr : Room 11 X.A) (R : Rl X.prog X.w X.K X.mg X.base C) {F : HO → LH} (hh : ∀ a b, Hole r (rl a b) (F (rl a b)) F) {pm : Addr} {ms : List Str} (mq : ∀ o, Mem q (.lst (ns.map V.str)) (F o)) (mm : ∀ o, Mem pm (.lst (ms.map V.str)) (F o)) (hn : ∀ y ∈ ns, Nm y) (hms : ∀ y ∈ ms, Nm y) (hl : ns.length < 6) (ml : ms.length < 10) (mp : 0 < ms.length) {a b : Int} {u8 : Option V} {D : EndsL}
    (rest : ∀ (fr : Addr) (nm : List (Str × Str)) (a' b' : Int), (∀ p ∈ nm, Nm p.1 ∧ Nm p.2) → nm.length < 10 → (nm.map (·.1)).Nodup → WSs X (bR 15) (sR r q d1 d2 o1 o2 sp hd u8 (some (.ref pm)) (some (.ref fr)) none) ((fr, .dK (tn nm)) :: F (rl a' b')) D) : WSs X (bR 14) (sR r q d1 d2 o1 o2 sp hd u8 (some (.ref pm)) none none) (F (rl a b)) D := by
  have T := R.Q.T
  have mi := R.mi
  have dr := R.dr
  have ch := R.ch
  rw [bR_at 14 15 rfl (by decide +kernel)]
  refine wss_cons ?_
  refine x_set hX (by walk_at "at") (by walk_at "at") ?_
  walk_at "go"
  refine x_lcI [("_law_key", 12)] hX (by decide +kernel) (wi_list ?_)
  walk_at "go"
  refine ⟨r, q, ns, a, b, F, rfl, hh a b, mq, by omega, fun m ys a1 b1 hyl hys => ?_⟩
  refine ⟨m, _, rfl, .of .head, fun D1 => ⟨fun i L' => ∃ (qs : List (Addr × Str × Str)) (a' b' : Int), qs.length ≤ i ∧ (∀ p ∈ qs, Nm p.2.1 ∧ Nm p.2.2) ∧ L' = (qs.map sq).reverse.map pO ++ (D1, .lst (qs.map fun p => .ref p.1)) :: (m, .lst (ys.map V.str)) :: F (rl a' b'), ?_, ?_, ?_, ?_⟩⟩
  · exact ⟨[], a1, b1, Nat.le_refl _, fun _ h => (List.not_mem_nil h).elim, rfl⟩
  · rintro i L' _ ⟨qs, a2, b2, l1, l2, rfl⟩
    exact .of ((Mem.tail .head).app _)
  · rintro i v L' L'' hi ⟨qs, a2, b2, l1, l2, rfl⟩ ⟨rfl, hv⟩
    intro s H' Ca cl fp
    obtain ⟨y, hy, rfl⟩ := map_get hv
    have hyn : Nm y := hn y (hys y (List.mem_of_getElem? hy))
    have hi' : i < ns.length := by rw [List.length_map, hyl] at hi; exact hi
    have hB := hX.blk (Vb := ["_law_key", "_law_rng_here", "_law_names_here", "_law_more"]) (Lb := ["_law_key"]) (Gb := ["_law_draw", "_law_choice"]) (scope := ⟨.function, [(".0", .local), ("_law_key", .local), ("_law_draw", .globalImplicit), ("_law_choice", .globalImplicit), ("_law_more", .free), ("_law_names_here", .free), ("_law_rng_here", .free)], false, false, []⟩) (by decide +kernel)
    refine x_tgt (hB s H' Ca cl fp) (by walk_at "at") (by walk_at "at") ⟨rfl, fun s H' Ca cl fp => ?_⟩
    have hX1 := hB s H' Ca cl fp
    walk_at "go"
    refine ⟨r, 2, a2, b2, _, rfl, (Hole.tail (.tail (hh a2 b2))).app _, by decide, by decide, fun d a3 b3 d0 d1 => ?_⟩
    walk_at "go"
    refine wo_eq rfl ⟨_, rfl, fun z => ?_, fun z => ?_⟩
    · intro s H' Ca cl fp
      have hX2 := hB s H' Ca cl fp
      walk_at "go"
      refine wo_catL (Mem.app (.tail (.tail (mq _))) _) (Mem.app (.tail (.tail (mm _))) _) (by rw [List.length_map, List.length_map]; exact len_line (by omega)) fun pl => ?_
      rw [← List.map_append]
      walk_at "go"
      refine ⟨r, _, a3, b3, _, rfl, .tail ((Hole.tail (.tail (hh a3 b3))).app _), .inl ⟨pl, _, rfl, fun o => .head, by rw [List.length_map, List.length_append]; omega, by rw [List.length_map, List.length_append]; omega, fun x a4 b4 hx => ?_⟩⟩
      obtain ⟨w, hw, rfl⟩ := List.mem_map.mp hx
      have hwn : Nm w := (List.mem_append.mp hw).elim (hn w) (hms w)
      walk_at "go"
      refine ⟨show 2 ≤ sizeLine from len_line, fun p => ?_⟩
      refine ⟨_, _, .tail (.tail (Hole.head.app _)), ?_, _, Sub.of_sublist (.cons₂ _ (.cons _ (.refl _))), qs ++ [(p, y, w)], a4, b4, by rw [List.length_append]; exact Nat.succ_le_succ l1, ?_, ?_⟩
      · rw [List.length_map]
        exact len_lt (by omega)
      · intro u hu
        rcases List.mem_append.mp hu with h | h
        · exact l2 u h
        · rw [List.mem_singleton.mp h]
          exact ⟨hyn, hwn⟩
      · rw [List.map_append, List.map_append, List.reverse_append]
        rfl
    · exact ⟨_, Sub.refl _, qs, a3, b3, Nat.le_succ_of_le l1, l2, rfl⟩
  rintro L' ⟨qs, a2, b2, l1, l2, rfl⟩
  rw [List.length_map, hyl] at l1
  walk_at "go"
  refine wc_dictP (ps := (qs.map sq).map (·.1)) hX.calm (.of (by rw [List.map_map, List.map_map]; exact Mem.head.app _)) (pairs_ok mem_rev) fun p => ?_
  rw [sq_kv, merge_tn]
  dsimp only
  refine wss_subl (L' := (p, .dK (tn (mgN (qs.map (·.2))))) :: F (rl a2 b2)) (.cons₂ _ (List.Sublist.trans (.cons _ (.cons _ (.refl _))) (List.sublist_append_right _ _))) (rest p _ a2 b2 (fun u hu => ?_) ?_ (mgN_nd _))
  · obtain ⟨t, ht, rfl⟩ := List.mem_map.mp (mgN_mem _ u hu)
    exact l2 t ht
  · refine Nat.lt_of_le_of_lt (mgN_len _) ?_
    rw [List.length_map]
    omega
end
end K12

set_option Elab.async false
set_option linter.all false
set_option maxRecDepth 100000
set_option maxHeartbeats 4000000
namespace K12
open PySem L2 N3
local macro_rules | `(tactic| walk_at "at") => `(tactic| with_reducible (repeat (first | exact At.head | apply At.tail)))
local macro_rules | `(tactic| walk_at "mem") => `(tactic| with_reducible (repeat (first | exact Mem.head | apply Mem.tail)))
local macro_rules | `(tactic| walk_at "boot") => `(tactic| with_reducible (first | exact boot_isi | exact boot_max | exact boot_min | exact boot_abs | exact boot_len | exact boot_repr | exact boot_divmod | exact boot_all | exact boot_int | exact boot_bool | exact boot_str | exact boot_dict | exact boot_list | exact boot_sorted))
local macro_rules | `(tactic| walk_at "room") => `(tactic| (first | assumption | exact Room.mono (by assumption) (by decide)))
local macro_rules | `(tactic| walk_at "none") => `(tactic| (refine Txt.bn (by assumption) _ ?xz; (case xz => with_reducible (repeat (first | exact InS.head | apply InS.tail)))))
local macro_rules | `(tactic| walk_at "n3") => `(tactic| first
  | with_reducible refine ws_ret ?_
  | with_reducible refine we_int ?_
  | with_reducible refine we_str ?_
  | with_reducible refine we_bool ?_
  | with_reducible refine we_none ?_
  | ((with_reducible refine' x_name ?xo ?xa ?xb ?xc ?_); (case xo => assumption); (case xa => walk_at "at"); (case xb => walk_at "at"); (case xc => rfl))
  | ((with_reducible refine' f_cnt ?xt ?_ ?xh); (case xt => assumption); (case xh => rfl))
  | ((with_reducible refine' we_prop ?xg ?xr ?_ ?xh); (case xg => assumption); (case xr => walk_at "room"); (case xh => rfl))
  | with_reducible refine we_bin ?_
  | with_reducible refine wo_add ?_
  | with_reducible refine wo_sub ?_
  | with_reducible refine wo_lt ?_
  | with_reducible refine wo_gt ?_
  | with_reducible refine wo_le ?_
  | with_reducible refine wo_ge ?_
  | with_reducible refine wu_neg ?_
  | ((with_reducible refine we_cmp ?xh ?_); (case xh => exact nomark _))
  | ((with_reducible refine wt_cmp ?xh ?_); (case xh => exact nomark _))
  | ((with_reducible refine wa_cons ?_ ?xh); (case xh => rfl))
  | with_reducible refine wa_nil ?_
  | with_reducible refine we_and ?_
  | with_reducible refine we_or ?_
  | with_reducible refine we_not ?_
  | with_reducible refine wt_not ?_
  | with_reducible refine we_un ?_
  | with_reducible refine we_one ?_
  | with_reducible refine wt_ww (ww_or ?_)
  | with_reducible refine wt_ww (ww_and ?_)
  | with_reducible refine ww_or ?_
  | with_reducible refine ww_and ?_
  | with_reducible refine ww_or1 ?_
  | with_reducible refine ww_and1 ?_
  | with_reducible refine we_ifExp ?_
  | with_reducible refine ws_if ?_
  | with_reducible refine ws_pass ?_
  | with_reducible refine we_tup ?_
  | with_reducible refine we_lst ?_
  | ((with_reducible refine' x_set ?xo ?xa ?xb ?_ ?xs); (case xo => assumption); (case xa => walk_at "at"); (case xb => walk_at "at"); (case xs => rfl))
  | ((with_reducible refine' x_setF ?_ ?xs); (case xs => rfl))
  | ((with_reducible refine' x_call ?xo ?xa ?xg ?xr ?_ ?xe ?xp); (case xo => assumption); (case xa => walk_at "at"); (case xg => assumption); (case xr => walk_at "room"); (case xe => rfl); (case xp => rfl))
  | ((with_reducible refine' x_callG ?xo ?xa ?xg ?xr ?xd ?_ ?xe ?xp); (case xo => assumption); (case xa => walk_at "at"); (case xg => assumption); (case xr => walk_at "room"); (case xd => assumption); (case xe => rfl); (case xp => rfl))
  | ((with_reducible refine' x_callB ?xo ?xa ?xg ?xr ?_ ?xe ?xp); (case xo => assumption); (case xr => walk_at "boot"); (case xa => walk_at "at"); (case xg => walk_at "none"); (case xe => rfl); (case xp => rfl))
  | ((with_reducible refine' x_callTy ?xo ?xa ?xg ?xr ?_ ?xe ?xp); (case xo => assumption); (case xr => walk_at "boot"); (case xa => walk_at "at"); (case xg => walk_at "none"); (case xe => rfl); (case xp => rfl))
  | ((with_reducible refine' x_bty ?xo ?xa ?xg ?xr ?_); (case xo => assumption); (case xr => walk_at "boot"); (case xa => walk_at "at"); (case xg => walk_at "none"))
  | ((with_reducible refine' x_cls ?xt ?xo ?xa ?_); (case xt => assumption); (case xo => assumption); (case xa => walk_at "at"))
  | ((with_reducible refine' x_make ?xo ?xa ?xg ?xr ?_ ?xe ?xp); (case xo => assumption); (case xa => walk_at "at"); (case xg => assumption); (case xr => walk_at "room"); (case xe => rfl); (case xp => rfl))
  | with_reducible refine wss_nil ?_
  | refine ⟨_, _, _, rfl, (by assumption), ?_⟩
  | refine wss_cons ?_
  | ((with_reducible refine' wt_val ?_ ?xv); (case xv => intro _; rfl)))
local macro_rules | `(tactic| walk_at "go") => `(tactic| repeat walk_at "n3")
section
variable {X : Cx} {C r : Addr}
/-- from the tables on -/
theorem right_from6 (hX : XOk nRight (defScope sRight) vRight lRight gRight X) (hfn : ∀ x, X.fn x = true) (hr : Room 11 X.A) (hgd : X.A.guards = some []) (R : Rl X.prog X.w X.K X.mg X.base C) {q d1 d2 o1 o2 sp : Addr} {ns : List Str} {a1 a2 : SI} {ts : List Addr} {hd : V} {F : HO → LH} (hh : ∀ a b, Hole r (rl a b) (F (rl a b)) F) (fa : ∀ o, Fa C q d1 d2 o1 o2 sp ns a1 a2 ts (F o)) (va : Va ns a1 a2 ts) {a b : Int}
    {Kk : V → LH → Prop} (k : ∀ L' a' b', (F (rl a' b')).Sublist L' → (EndOf Kk).rt (.bl true) L') : WSs X (bR 6) (sR r q d1 d2 o1 o2 sp hd none none none none) (F (rl a b)) (EndOf Kk) := by
  with_reducible_and_instances refine right_6 hX hr hgd R (fa _) va ?_
  with_reducible_and_instances refine right_7 hX hr hgd R (fa _) va ?_
  with_reducible_and_instances refine right_8 hX hr hgd R (fa _) va ?_
  with_reducible_and_instances refine right_9 hX hr R hh fun n a1' b1' hn => ?_
  with_reducible_and_instances refine right_10 hX hr hgd R (fa _) va hn ?_
  with_reducible_and_instances refine right_11 hX hr hgd R (fa _) va ?_
  with_reducible_and_instances refine right_12 hX hr hgd R (fa _) va ?_
  with_reducible_and_instances refine right_13 hX hfn hr R hh (fun o => (fa o).mq) va.nl fun pm ms a2' b2' hms ml mp => ?_
  with_reducible_and_instances refine right_14 hX hr R (F := fun o => (pm, .lst (ms.map V.str)) :: F o) (fun a b => .tail (hh a b)) (fun o => .tail (fa o).mq) (fun o => .head) va.nm hms va.nl ml mp fun fr nm a3 b3 fn fl nd => ?_
  have sl : (F (rl a3 b3)).Sublist ((fr, .dK (tn nm)) :: (pm, .lst (ms.map V.str)) :: F (rl a3 b3)) := .cons _ (.cons _ (.refl _))
  with_reducible_and_instances refine right_15 hX hr hgd R ((fa _).sl sl) va (.tail .head) .head hms ml fn fl nd fun L' s => ?_
  exact k L' a3 b3 (sl.trans s)
/-- from the names on -/
theorem right_from2 (hX : XOk nRight (defScope sRight) vRight lRight gRight X) (hfn : ∀ x, X.fn x = true) (hr : Room 11 X.A) (hgd : X.A.guards = some []) (R : Rl X.prog X.w X.K X.mg X.base C) {q : Addr} {ns : List Str} {F : HO → LH} (hh : ∀ a b, Hole r (rl a b) (F (rl a b)) F) (mq : ∀ o, Mem q (.lst (ns.map V.str)) (F o)) (hn : ∀ y ∈ ns, Nm y) (np : 0 < ns.length) (nl : ns.length < 6) {a b : Int}
    {Kk : V → LH → Prop} (k : ∀ L' a' b', (F (rl a' b')).Sublist L' → (EndOf Kk).rt (.bl true) L') : WSs X (bR 2) [some (.ref r), some (.ref q), none, none, none, none, none, none, none, none, none, none, none] (F (rl a b)) (EndOf Kk) := by
  have T := R.Q.T
  have di := R.di
  have mk1 := R.Q.mk1
  have zl : X.mg "list" = none := by walk_at "none"
  have gl := (hX.glo (x := "list") (by walk_at "at")).1
  rw [bR_at 2 3 rfl (by decide +kernel)]
  refine wss_cons ?_
  refine x_par hX (by walk_at "at") (by walk_at "at") (by walk_at "at") (by walk_at "at") (by decide) ?_
  walk_at "go"
  refine ⟨r, q, ns, a, b, F, rfl, hh a b, mq, by omega, hn, fun d1 m1 a1 b1 md1 s1 l1 => ?_⟩
  walk_at "go"
  refine ⟨r, q, ns, a1, b1, _, rfl, .tail (hh a1 b1), fun o => .tail (mq o), by omega, hn, fun d2 m2 a2 b2 md2 s2 l2 => ?_⟩
  dsimp only
  rw [bR_at 3 4 rfl (by decide +kernel)]
  refine wss_cons ?_
  refine x_par hX (by walk_at "at") (by walk_at "at") (by walk_at "at") (by walk_at "at") (by decide) ?_
  walk_at "go"
  refine wc_dictD (.of (.tail .head)) fun hd => ?_
  refine we_listItems hX.calm gl zl boot_list ?_
  walk_at "go"
  refine ⟨d2, tk m2, rfl, .tail .head, tk_nodup md2.nd, fun sp ts lt => ?_⟩
  dsimp only
  rw [bR_at 4 5 rfl (by decide +kernel)]
  refine wss_cons ?_
  refine x_par hX (by walk_at "at") (by walk_at "at") (by walk_at "at") (by walk_at "at") (by decide) ?_
  walk_at "go"
  intro o1 x1
  refine ⟨o1, x1, .ref hd, m1, _, rfl, rfl, .inr ⟨hd, rfl, .tail (Mem.app .head _)⟩, md1, fun y1 => ⟨rfl, ?_⟩⟩
  refine x_makeK0 hX (by walk_at "at") R.Q.mkK (by walk_at "room") (wk_cons ?_)
  walk_at "go"
  refine wk_nil ⟨rfl, fun o2 x2 => ?_⟩
  refine ⟨o2, x2, .ref d2, m2, _, rfl, rfl, .inr ⟨d2, rfl, .tail (.tail (.tail (Mem.app (.tail .head) _)))⟩, md2, fun y2 => ⟨rfl, ?_⟩⟩
  dsimp only
  rw [bR_at 5 6 rfl (by decide +kernel)]
  refine wss_cons ?_
  refine ws_expr ?_
  refine we_dclear ?_
  walk_at "go"
  refine ⟨hd, _, _, rfl, .tail (.tail (.tail (.tail (.tail (Hole.head.app _))))), ?_⟩
  dsimp only
  show WSs X (bR 6) (sR r q d1 d2 o1 o2 sp (.ref hd) none none none none) _ _
  refine right_from6 hX hfn hr hgd R (F := fun o => (y2, .dK (tk (norm m2))) :: (o2, .ins C x2 (tabF y2)) :: (y1, .dK (tk (norm m1))) :: (o1, .ins C x1 (tabF y1)) :: (sp, .lst (ts.map V.ref)) :: (tupsOf ts (tk m2) ++ (hd, .dK []) :: (d2, .dK (tk m2)) :: (d1, .dK (tk m1)) :: F o)) (fun a b => .tail (.tail (.tail (.tail (.tail (Hole.app (.tail (.tail (.tail (hh a b)))) _)))))) (fun o => ?_) ⟨hn, np, nl, md1, md2, s1, s2, by omega, by omega, lt⟩ fun L' a' b' s => k L' a' b' (.trans (.cons _ (.cons _ (.cons _ (.cons _ (.cons _ (List.Sublist.trans (.cons _ (.cons _ (.cons _ (.refl _)))) (List.sublist_append_right _ _))))))) s)
  exact ⟨.tail (.tail (.tail (.tail (.tail (Mem.app (.tail (.tail (.tail (mq o)))) _))))), .tail (.tail (.tail (.tail (.tail (Mem.app (.tail (.tail .head)) _))))), .tail (.tail (.tail (.tail (.tail (Mem.app (.tail .head) _))))), ⟨x1, y1, .tail (.tail (.tail .head)), .tail (.tail .head)⟩, ⟨x2, y2, .tail .head, .head⟩, .tail (.tail (.tail (.tail .head))), fun i t p h1 h2 => .tail (.tail (.tail (.tail (.tail (tups_mem _ _ _ i t p h1 h2)))))⟩
theorem right_start (hX : XOk nRight (defScope sRight) vRight lRight gRight X) (hfn : ∀ x, X.fn x = true) (hr : Room 11 X.A) (hgd : X.A.guards = some []) (R : Rl X.prog X.w X.K X.mg X.base C) {L : LH} {F : HO → LH} {a b : Int} (hh : Hole r (rl a b) L F)
    {Kk : V → LH → Prop} (k : ∀ L' a' b', (F (rl a' b')).Sublist L' → (EndOf Kk).rt (.bl true) L') : WSs X (bR 0) [some (.ref r), none, none, none, none, none, none, none, none, none, none, none, none] L (EndOf Kk) := by
  have T := R.Q.T
  have dr := R.dr
  have na := R.na
  have lo := R.lo
  have hq := fun (a b : Int) => hh.again' (rl a b)
  rw [bR_at 0 1 rfl (by decide +kernel)]
  refine wss_cons ?_
  refine x_setC hX hfn (by walk_at "at") (by decide +kernel) ?_
  walk_at "go"
  refine ⟨r, 5, a, b, F, rfl, hh, by decide, by decide, fun d a1 b1 d0 d1 => ?_⟩
  obtain ⟨n, rfl⟩ : ∃ n : Nat, d = n := ⟨d.toNat, by omega⟩
  walk_at "go"
  refine ⟨show 1 ≤ sizeLine from len_line, fun t => ?_⟩
  walk_at "go"
  refine ⟨r, t, 1 + n, [("zz" : Str)], a1, b1, _, by rw [Int.natCast_add]; rfl, .tail (hq a1 b1), fun o => .head, by omega, by decide, fun q ns a2 b2 hl hn => ?_⟩
  dsimp only
  refine wss_subl (L' := (q, .lst (ns.map V.str)) :: F (rl a2 b2)) (.cons₂ _ (.cons _ (.refl _))) ?_
  rw [bR_at 1 2 rfl (by decide +kernel)]
  refine wss_cons ?_
  refine ws_if ?_
  refine wt_cmp rfl ?_
  walk_at "go"
  refine ⟨r, 3, a2, b2, _, rfl, .tail (hq a2 b2), by decide, by decide, fun d a3 b3 d0 d1 => ?_⟩
  walk_at "go"
  refine wo_eq rfl ⟨_, rfl, fun z => ?_, fun z => ?_⟩
  · refine wss_cons ?_
    refine ws_asg ?_
    walk_at "go"
    refine ⟨r, a3, b3, _, rfl, .tail (hq a3 b3), fun x a4 b4 hx => ?_⟩
    refine wg_setL ?_
    walk_at "go"
    refine ⟨q, _, 0, 0, _, rfl, rfl, .head, ?_, ?_⟩
    · rw [List.length_map, hl]
      unfold ixN
      simp
      omega
    refine nil_rest (.refl _) ?_
    rw [show (ns.map V.str).set 0 (V.str x) = (ns.set 0 x).map V.str by rw [List.map_set]]
    show WSs X (bR 2) [some (.ref r), some (.ref q), none, none, none, none, none, none, none, none, none, none, none] _ _
    refine right_from2 hX hfn hr hgd R (F := fun o => (q, .lst ((ns.set 0 x).map V.str)) :: F o) (fun a b => .tail (hq a b)) (fun o => .head) (fun y hy => ?_) (by rw [List.length_set]; omega) (by rw [List.length_set]; omega) fun L' a' b' s => k L' a' b' (.trans (.cons _ (.refl _)) s)
    rcases List.mem_or_eq_of_mem_set hy with h | h
    · exact hn y h
    · rw [h]; exact hx
  · refine nil_rest (.refl _) ?_
    show WSs X (bR 2) [some (.ref r), some (.ref q), none, none, none, none, none, none, none, none, none, none, none] _ _
    exact right_from2 hX hfn hr hgd R (F := fun o => (q, .lst (ns.map V.str)) :: F o) (fun a b => .tail (hq a b)) (fun o => .head) hn (by omega) (by omega) fun L' a' b' s => k L' a' b' (.trans (.cons _ (.refl _)) s)
end
section
variable {P : Program} {w : World} {K : PySem.W.Frag} {mg : Str → Option Value} {base : Heap}
theorem okRight {f C : Addr} {fd : FuncData} (F : Fun K "_law_right" "_law_right" sRight f fd) (R : Rl P w K mg base C) : FnG P w K mg base 12 f fd ["_law_rng_here"] pRight := by
  refine fnXGCC (Vn := vRight) (Ln := lRight) (Gn := gRight) F scRight okScRight (fun vs L Kk h => ?_) (fun X e1 e2 e3 e4 e5 hX hfn hr hgd vs L Kk h => ?_)
  · obtain ⟨r, a, b, G, rfl, _⟩ := h
    rfl
  · subst e1 e2 e3 e4 e5
    obtain ⟨r, a, b, G, rfl, hh, k⟩ := h
    exact right_start hX hfn hr hgd R hh fun L' a' b' sl => ⟨_, Sub.of_sublist sl, k a' b'⟩
end
end K12

set_option Elab.async false
set_option linter.all false
set_option maxRecDepth 100000
set_option maxHeartbeats 4000000
namespace K12
open PySem L2 N3
theorem kit_self {K : PySem.W.Frag} {t : Value} : PySem.W.kitOne K t t = some true := by
  unfold PySem.W.kitOne
  rw [if_pos (beq_self_eq_true t)]
theorem kit_bt {K : PySem.W.Frag} {t : Value} {T : String} {b : Bool} (h : PySem.W.kitMeta T = true) (n : (t == .type T) = false) (u : PySem.W.subIn K t (.type T) = some b) : PySem.W.kitOne K t (.type T) = some b := by
  unfold PySem.W.kitOne PySem.W.kitCls
  rw [n]
  simp only [h, if_true]
  exact u
theorem kit_own {K : PySem.W.Frag} {t : Value} {C : Addr} {b : Bool} (i : PySem.W.isClsIn K C = true) (y : PySem.W.typeIn K (.ref C) = some (.type "type")) (n : (t == .ref C) = false) (u : PySem.W.subIn K t (.ref C) = some b) : PySem.W.kitOne K t (.ref C) = some b := by
  have i' : (PySem.W.clsIn K C).isSome = true := i
  unfold PySem.W.kitOne PySem.W.kitCls
  rw [n]
  simp [i', y, u]
theorem kit_ownR {K : PySem.W.Frag} {C D : Addr} {b : Bool} (i : PySem.W.isClsIn K C = true) (y : PySem.W.typeIn K (.ref C) = some (.type "type")) (n : D ≠ C) (u : PySem.W.subIn K (.ref D) (.ref C) = some b) : PySem.W.kitOne K (.ref D) (.ref C) = some b :=
  kit_own i y (by simpa using n) u
theorem exm_mk {K : PySem.W.Frag} {C D : Addr} {b : Bool} (e : PySem.W.subIn K (.ref C) (.type "BaseException") = some true) (i : PySem.W.isClsIn K C = true) (y : PySem.W.typeIn K (.ref C) = some (.type "type")) (u : PySem.W.subIn K (.ref D) (.ref C) = some b) : PySem.W.exmOne K (.ref D) (.ref C) = some b := by
  have i' : (PySem.W.clsIn K C).isSome = true := i
  unfold PySem.W.exmOne PySem.W.kitCls
  simp [e, i', y, u]
theorem all_mk {P : Program} {w : World} {K : PySem.W.Frag} {h : Heap} {mg : Str → Option Value} {fa C finit Tinit fat fused fcounts fadd fsub fneg ftimes fren feq flen fcon frepr pplain fplain fisn fmaps fisi fmapi frng fdraw fchoice fnames fnumber fmixed flong fdict fkept ftog flren fis fright flaw : Addr} (X : K.In h) (G : h.Ns mainGlobals mg) (hfa : mg "law" = some (.ref fa))
    {odinit aninit dTinit odat anat odused anused odcounts ancounts odadd anadd odsub ansub odneg anneg odtimes antimes odren anren odeq aneq odlen anlen odcon ancon odrepr anrepr odplain anplain odisn anisn odmaps anmaps odisi anisi odmapi anmapi odrng anrng oddraw andraw odchoice anchoice odnames annames odnumber annumber odmixed anmixed odlong anlong oddict andict odkept ankept odtog antog odlren anlren odis anis odright anright odlaw anlaw : Option Addr} {slinit sTinit slat slused slcounts sladd slsub slneg sltimes slren sleq sllen slcon slrepr slplain slisn slmaps slisi slmapi slrng sldraw slchoice slnames slnumber slmixed sllong sldict slkept sltog sllren slis slright sllaw : Array (Option Value)} {ocinit kVinit dcinit pminit cdinit ctinit oTinit ocat kVat dcat pmat cdat ctat ocused kVused dcused pmused cdused ctused occounts kVcounts dccounts pmcounts cdcounts ctcounts ocadd kVadd dcadd pmadd cdadd ctadd ocsub kVsub dcsub pmsub cdsub ctsub ocneg kVneg dcneg pmneg cdneg ctneg octimes kVtimes dctimes pmtimes cdtimes cttimes ocren kVren dcren pmren cdren ctren oceq kVeq dceq pmeq cdeq cteq oclen kVlen dclen pmlen cdlen ctlen occon kVcon dccon pmcon cdcon ctcon ocrepr kVrepr dcrepr pmrepr cdrepr ctrepr ocplain kVplain dcplain pmplain cdplain ctplain ocisn kVisn dcisn pmisn cdisn ctisn ocmaps kVmaps dcmaps pmmaps cdmaps ctmaps ocisi kVisi dcisi pmisi cdisi ctisi ocmapi kVmapi dcmapi pmmapi cdmapi ctmapi ocrng kVrng dcrng pmrng cdrng ctrng ocdraw kVdraw dcdraw pmdraw cddraw ctdraw occhoice kVchoice dcchoice pmchoice cdchoice ctchoice ocnames kVnames dcnames pmnames cdnames ctnames ocnumber kVnumber dcnumber pmnumber cdnumber ctnumber ocmixed kVmixed dcmixed pmmixed cdmixed ctmixed oclong kVlong dclong pmlong cdlong ctlong ocdict kVdict dcdict pmdict cddict ctdict ockept kVkept dckept pmkept cdkept ctkept octog kVtog dctog pmtog cdtog cttog oclren kVlren dclren pmlren cdlren ctlren ocis kVis dcis pmis cdis ctis ocright kVright dcright pmright cdright ctright oclaw kVlaw dclaw pmlaw cdlaw ctlaw : Value} {rplain : List Value} {tL tH tN nTinit : Nat}
    (aC : PySem.W.nsIn K mainGlobals "Table" = some (some (.ref C)))
    (pgC : PySem.W.plainGet K C Str.empty = true)
    (hdC : PySem.W.hasDictIn K C = true)
    (poC : PySem.W.plainOver K C = true)
    (saC : PySem.W.findIn K (.ref C) "__setattr__" = some (some (.builtin "object.__setattr__")))
    (kcC : PySem.W.keepIn K (.ref C) = true)
    (nK : PySem.W.findIn K (.ref C) "_counts" = some none)
    (ca : PySem.W.findIn K (.ref C) "__class__" = some (some (.builtin "object.__class__")))
    (cn : PySem.W.specialIn K (.builtin "object.__class__") "__get__" = some (some (.builtin "getset_descriptor.__get__")))
    (ct : PySem.W.takesIn K (.builtin "object.__class__") = some true)
    (cm : PySem.W.mroIn K C (.type "object") = some true)
    (icC : PySem.W.isClsIn K C = true)
    (tyC : PySem.W.typeIn K (.ref C) = some (.type "type"))
    (uDC : PySem.W.subIn K (.type "dict") (.ref C) = some false)
    (uSC : PySem.W.subIn K (.type "str") (.ref C) = some false)
    (gL : PySem.W.nsIn K mainGlobals "LETTERS" = some (some (.str "abcdefghijklmnopqrstuvwxyz" tL)))
    (gH : PySem.W.nsIn K mainGlobals "CHARACTERS" = some (some (.str "abcdefghijklmnopqrstuvwxyz0123456789" tH)))
    (gN : PySem.W.nsIn K mainGlobals "LONGEST" = some (some (.int 8 tN)))
    (z_isinstance : PySem.W.nsIn K mainGlobals "isinstance" = some none)
    (z_int : PySem.W.nsIn K mainGlobals "int" = some none)
    (z_bool : PySem.W.nsIn K mainGlobals "bool" = some none)
    (z_max : PySem.W.nsIn K mainGlobals "max" = some none)
    (z_min : PySem.W.nsIn K mainGlobals "min" = some none)
    (z_abs : PySem.W.nsIn K mainGlobals "abs" = some none)
    (z_len : PySem.W.nsIn K mainGlobals "len" = some none)
    (z_str : PySem.W.nsIn K mainGlobals "str" = some none)
    (z_repr : PySem.W.nsIn K mainGlobals "repr" = some none)
    (z_divmod : PySem.W.nsIn K mainGlobals "divmod" = some none)
    (z_range : PySem.W.nsIn K mainGlobals "range" = some none)
    (z_all : PySem.W.nsIn K mainGlobals "all" = some none)
    (z_dict : PySem.W.nsIn K mainGlobals "dict" = some none)
    (z_list : PySem.W.nsIn K mainGlobals "list" = some none)
    (z_sorted : PySem.W.nsIn K mainGlobals "sorted" = some none)
    (mkC : PySem.W.makesIn K C = true)
    (ainit : PySem.W.findIn K (.ref C) "__init__" = some (some (.ref finit)))
    (iinit : PySem.W.isFn K (.ref finit) = true)
    (linit : K.lookup finit = some ⟨ocinit, odinit, .func (PySem.W.fnOf "__init__" "Table.__init__" (defArgs sInit) (defBody sInit) (defScope sInit) (.ref Tinit) kVinit dcinit pminit aninit cdinit ctinit), slinit⟩)
    (cinit : PySem.W.codeIn K cdinit "Table.__init__" = true)
    (kinit : PySem.W.keepIn K (.ref finit) = true)
    (qinit : K.lookup Tinit = some ⟨oTinit, dTinit, .seq #[.none] nTinit, sTinit⟩)
    (aat : PySem.W.findIn K (.ref C) "at" = some (some (.ref fat)))
    (iat : PySem.W.isFn K (.ref fat) = true)
    (lat : K.lookup fat = some ⟨ocat, odat, .func (PySem.W.fnOf "at" "Table.at" (defArgs sAt) (defBody sAt) (defScope sAt) .none kVat dcat pmat anat cdat ctat), slat⟩)
    (cat : PySem.W.codeIn K cdat "Table.at" = true)
    (kat : PySem.W.keepIn K (.ref fat) = true)
    (aused : PySem.W.findIn K (.ref C) "used_keys" = some (some (.ref fused)))
    (iused : PySem.W.isFn K (.ref fused) = true)
    (lused : K.lookup fused = some ⟨ocused, odused, .func (PySem.W.fnOf "used_keys" "Table.used_keys" (defArgs sUsed) (defBody sUsed) (defScope sUsed) .none kVused dcused pmused anused cdused ctused), slused⟩)
    (cused : PySem.W.codeIn K cdused "Table.used_keys" = true)
    (kused : PySem.W.keepIn K (.ref fused) = true)
    (acounts : PySem.W.findIn K (.ref C) "counts" = some (some (.ref fcounts)))
    (icounts : PySem.W.isFn K (.ref fcounts) = true)
    (lcounts : K.lookup fcounts = some ⟨occounts, odcounts, .func (PySem.W.fnOf "counts" "Table.counts" (defArgs sCounts) (defBody sCounts) (defScope sCounts) .none kVcounts dccounts pmcounts ancounts cdcounts ctcounts), slcounts⟩)
    (ccounts : PySem.W.codeIn K cdcounts "Table.counts" = true)
    (kcounts : PySem.W.keepIn K (.ref fcounts) = true)
    (aadd : PySem.W.findIn K (.ref C) "__add__" = some (some (.ref fadd)))
    (iadd : PySem.W.isFn K (.ref fadd) = true)
    (ladd : K.lookup fadd = some ⟨ocadd, odadd, .func (PySem.W.fnOf "__add__" "Table.__add__" (defArgs sAdd) (defBody sAdd) (defScope sAdd) .none kVadd dcadd pmadd anadd cdadd ctadd), sladd⟩)
    (cadd : PySem.W.codeIn K cdadd "Table.__add__" = true)
    (kadd : PySem.W.keepIn K (.ref fadd) = true)
    (asub : PySem.W.findIn K (.ref C) "__sub__" = some (some (.ref fsub)))
    (isub : PySem.W.isFn K (.ref fsub) = true)
    (lsub : K.lookup fsub = some ⟨ocsub, odsub, .func (PySem.W.fnOf "__sub__" "Table.__sub__" (defArgs sSub) (defBody sSub) (defScope sSub) .none kVsub dcsub pmsub ansub cdsub ctsub), slsub⟩)
    (csub : PySem.W.codeIn K cdsub "Table.__sub__" = true)
    (ksub : PySem.W.keepIn K (.ref fsub) = true)
    (aneg : PySem.W.findIn K (.ref C) "__neg__" = some (some (.ref fneg)))
    (ineg : PySem.W.isFn K (.ref fneg) = true)
    (lneg : K.lookup fneg = some ⟨ocneg, odneg, .func (PySem.W.fnOf "__neg__" "Table.__neg__" (defArgs sNeg) (defBody sNeg) (defScope sNeg) .none kVneg dcneg pmneg anneg cdneg ctneg), slneg⟩)
    (cneg : PySem.W.codeIn K cdneg "Table.__neg__" = true)
    (kneg : PySem.W.keepIn K (.ref fneg) = true)
    (atimes : PySem.W.findIn K (.ref C) "times" = some (some (.ref ftimes)))
    (itimes : PySem.W.isFn K (.ref ftimes) = true)
    (ltimes : K.lookup ftimes = some ⟨octimes, odtimes, .func (PySem.W.fnOf "times" "Table.times" (defArgs sTimes) (defBody sTimes) (defScope sTimes) .none kVtimes dctimes pmtimes antimes cdtimes cttimes), sltimes⟩)
    (ctimes : PySem.W.codeIn K cdtimes "Table.times" = true)
    (ktimes : PySem.W.keepIn K (.ref ftimes) = true)
    (aren : PySem.W.findIn K (.ref C) "renamed" = some (some (.ref fren)))
    (iren : PySem.W.isFn K (.ref fren) = true)
    (lren : K.lookup fren = some ⟨ocren, odren, .func (PySem.W.fnOf "renamed" "Table.renamed" (defArgs sRen) (defBody sRen) (defScope sRen) .none kVren dcren pmren anren cdren ctren), slren⟩)
    (cren : PySem.W.codeIn K cdren "Table.renamed" = true)
    (kren : PySem.W.keepIn K (.ref fren) = true)
    (aeq : PySem.W.findIn K (.ref C) "__eq__" = some (some (.ref feq)))
    (ieq : PySem.W.isFn K (.ref feq) = true)
    (leq : K.lookup feq = some ⟨oceq, odeq, .func (PySem.W.fnOf "__eq__" "Table.__eq__" (defArgs sEq) (defBody sEq) (defScope sEq) .none kVeq dceq pmeq aneq cdeq cteq), sleq⟩)
    (ceq : PySem.W.codeIn K cdeq "Table.__eq__" = true)
    (keq : PySem.W.keepIn K (.ref feq) = true)
    (alen : PySem.W.findIn K (.ref C) "__len__" = some (some (.ref flen)))
    (ilen : PySem.W.isFn K (.ref flen) = true)
    (llen : K.lookup flen = some ⟨oclen, odlen, .func (PySem.W.fnOf "__len__" "Table.__len__" (defArgs sLen) (defBody sLen) (defScope sLen) .none kVlen dclen pmlen anlen cdlen ctlen), sllen⟩)
    (clen : PySem.W.codeIn K cdlen "Table.__len__" = true)
    (klen : PySem.W.keepIn K (.ref flen) = true)
    (acon : PySem.W.findIn K (.ref C) "__contains__" = some (some (.ref fcon)))
    (icon : PySem.W.isFn K (.ref fcon) = true)
    (lcon : K.lookup fcon = some ⟨occon, odcon, .func (PySem.W.fnOf "__contains__" "Table.__contains__" (defArgs sCon) (defBody sCon) (defScope sCon) .none kVcon dccon pmcon ancon cdcon ctcon), slcon⟩)
    (ccon : PySem.W.codeIn K cdcon "Table.__contains__" = true)
    (kcon : PySem.W.keepIn K (.ref fcon) = true)
    (arepr : PySem.W.findIn K (.ref C) "__repr__" = some (some (.ref frepr)))
    (irepr : PySem.W.isFn K (.ref frepr) = true)
    (lrepr : K.lookup frepr = some ⟨ocrepr, odrepr, .func (PySem.W.fnOf "__repr__" "Table.__repr__" (defArgs sRepr) (defBody sRepr) (defScope sRepr) .none kVrepr dcrepr pmrepr anrepr cdrepr ctrepr), slrepr⟩)
    (crepr : PySem.W.codeIn K cdrepr "Table.__repr__" = true)
    (krepr : PySem.W.keepIn K (.ref frepr) = true)
    (aplain : PySem.W.findIn K (.ref C) "is_plain" = some (some (.ref pplain)))
    (gplain : PySem.W.specialIn K (.ref pplain) "__get__" = some (some (.builtin "property.__get__")))
    (tplain : PySem.W.takesIn K (.ref pplain) = some true)
    (rcplain : PySem.W.recIn K pplain "property" = some (.ref fplain :: rplain))
    (lplain : K.lookup fplain = some ⟨ocplain, odplain, .func (PySem.W.fnOf "is_plain" "Table.is_plain" (defArgs sPlain) (defBody sPlain) (defScope sPlain) .none kVplain dcplain pmplain anplain cdplain ctplain), slplain⟩)
    (cplain : PySem.W.codeIn K cdplain "Table.is_plain" = true)
    (kplain : PySem.W.keepIn K (.ref fplain) = true)
    (sf : PySem.W.selfFirst K C = true)
    (nfD : PySem.W.notFirst K C (.type "dict") = true)
    (nfS : PySem.W.notFirst K C (.type "str") = true)
    (nfC : PySem.W.notFirst K C (.ref C) = true)
    (ne : PySem.W.findIn K (.ref C) "__ne__" = some (some (.builtin "object.__ne__")))
    (aisn : PySem.W.nsIn K mainGlobals "is_name" = some (some (.ref fisn)))
    (lisn : K.lookup fisn = some ⟨ocisn, odisn, .func (PySem.W.fnOf "is_name" "is_name" (defArgs sIsName) (defBody sIsName) (defScope sIsName) .none kVisn dcisn pmisn anisn cdisn ctisn), slisn⟩)
    (cisn : PySem.W.codeIn K cdisn "is_name" = true)
    (kisn : PySem.W.keepIn K (.ref fisn) = true)
    (amaps : PySem.W.nsIn K mainGlobals "maps_names" = some (some (.ref fmaps)))
    (lmaps : K.lookup fmaps = some ⟨ocmaps, odmaps, .func (PySem.W.fnOf "maps_names" "maps_names" (defArgs sMaps) (defBody sMaps) (defScope sMaps) .none kVmaps dcmaps pmmaps anmaps cdmaps ctmaps), slmaps⟩)
    (cmaps : PySem.W.codeIn K cdmaps "maps_names" = true)
    (kmaps : PySem.W.keepIn K (.ref fmaps) = true)
    (aisi : PySem.W.nsIn K mainGlobals "is_integer" = some (some (.ref fisi)))
    (lisi : K.lookup fisi = some ⟨ocisi, odisi, .func (PySem.W.fnOf "is_integer" "is_integer" (defArgs sIsInt) (defBody sIsInt) (defScope sIsInt) .none kVisi dcisi pmisi anisi cdisi ctisi), slisi⟩)
    (cisi : PySem.W.codeIn K cdisi "is_integer" = true)
    (kisi : PySem.W.keepIn K (.ref fisi) = true)
    (amapi : PySem.W.nsIn K mainGlobals "maps_to_integers" = some (some (.ref fmapi)))
    (lmapi : K.lookup fmapi = some ⟨ocmapi, odmapi, .func (PySem.W.fnOf "maps_to_integers" "maps_to_integers" (defArgs sMapsI) (defBody sMapsI) (defScope sMapsI) .none kVmapi dcmapi pmmapi anmapi cdmapi ctmapi), slmapi⟩)
    (cmapi : PySem.W.codeIn K cdmapi "maps_to_integers" = true)
    (kmapi : PySem.W.keepIn K (.ref fmapi) = true)
    (arng : PySem.W.nsIn K mainGlobals "_law_rng" = some (some (.ref frng)))
    (lrng : K.lookup frng = some ⟨ocrng, odrng, .func (PySem.W.fnOf "_law_rng" "_law_rng" (defArgs sRng) (defBody sRng) (defScope sRng) .none kVrng dcrng pmrng anrng cdrng ctrng), slrng⟩)
    (crng : PySem.W.codeIn K cdrng "_law_rng" = true)
    (krng : PySem.W.keepIn K (.ref frng) = true)
    (adraw : PySem.W.nsIn K mainGlobals "_law_draw" = some (some (.ref fdraw)))
    (ldraw : K.lookup fdraw = some ⟨ocdraw, oddraw, .func (PySem.W.fnOf "_law_draw" "_law_draw" (defArgs sDraw) (defBody sDraw) (defScope sDraw) .none kVdraw dcdraw pmdraw andraw cddraw ctdraw), sldraw⟩)
    (cdraw : PySem.W.codeIn K cddraw "_law_draw" = true)
    (kdraw : PySem.W.keepIn K (.ref fdraw) = true)
    (achoice : PySem.W.nsIn K mainGlobals "_law_choice" = some (some (.ref fchoice)))
    (lchoice : K.lookup fchoice = some ⟨occhoice, odchoice, .func (PySem.W.fnOf "_law_choice" "_law_choice" (defArgs sChoice) (defBody sChoice) (defScope sChoice) .none kVchoice dcchoice pmchoice anchoice cdchoice ctchoice), slchoice⟩)
    (cchoice : PySem.W.codeIn K cdchoice "_law_choice" = true)
    (kchoice : PySem.W.keepIn K (.ref fchoice) = true)
    (anames : PySem.W.nsIn K mainGlobals "_law_names" = some (some (.ref fnames)))
    (lnames : K.lookup fnames = some ⟨ocnames, odnames, .func (PySem.W.fnOf "_law_names" "_law_names" (defArgs sNames) (defBody sNames) (defScope sNames) .none kVnames dcnames pmnames annames cdnames ctnames), slnames⟩)
    (cnames : PySem.W.codeIn K cdnames "_law_names" = true)
    (knames : PySem.W.keepIn K (.ref fnames) = true)
    (anumber : PySem.W.nsIn K mainGlobals "_law_number" = some (some (.ref fnumber)))
    (lnumber : K.lookup fnumber = some ⟨ocnumber, odnumber, .func (PySem.W.fnOf "_law_number" "_law_number" (defArgs sNumber) (defBody sNumber) (defScope sNumber) .none kVnumber dcnumber pmnumber annumber cdnumber ctnumber), slnumber⟩)
    (cnumber : PySem.W.codeIn K cdnumber "_law_number" = true)
    (knumber : PySem.W.keepIn K (.ref fnumber) = true)
    (amixed : PySem.W.nsIn K mainGlobals "_law_mixed" = some (some (.ref fmixed)))
    (lmixed : K.lookup fmixed = some ⟨ocmixed, odmixed, .func (PySem.W.fnOf "_law_mixed" "_law_mixed" (defArgs sMixed) (defBody sMixed) (defScope sMixed) .none kVmixed dcmixed pmmixed anmixed cdmixed ctmixed), slmixed⟩)
    (cmixed : PySem.W.codeIn K cdmixed "_law_mixed" = true)
    (kmixed : PySem.W.keepIn K (.ref fmixed) = true)
    (along : PySem.W.nsIn K mainGlobals "_law_long" = some (some (.ref flong)))
    (llong : K.lookup flong = some ⟨oclong, odlong, .func (PySem.W.fnOf "_law_long" "_law_long" (defArgs sLong) (defBody sLong) (defScope sLong) .none kVlong dclong pmlong anlong cdlong ctlong), sllong⟩)
    (clong : PySem.W.codeIn K cdlong "_law_long" = true)
    (klong : PySem.W.keepIn K (.ref flong) = true)
    (adict : PySem.W.nsIn K mainGlobals "_law_dict" = some (some (.ref fdict)))
    (ldict : K.lookup fdict = some ⟨ocdict, oddict, .func (PySem.W.fnOf "_law_dict" "_law_dict" (defArgs sDict) (defBody sDict) (defScope sDict) .none kVdict dcdict pmdict andict cddict ctdict), sldict⟩)
    (cdict : PySem.W.codeIn K cddict "_law_dict" = true)
    (kdict : PySem.W.keepIn K (.ref fdict) = true)
    (akept : PySem.W.nsIn K mainGlobals "_law_kept" = some (some (.ref fkept)))
    (lkept : K.lookup fkept = some ⟨ockept, odkept, .func (PySem.W.fnOf "_law_kept" "_law_kept" (defArgs sKept) (defBody sKept) (defScope sKept) .none kVkept dckept pmkept ankept cdkept ctkept), slkept⟩)
    (ckept : PySem.W.codeIn K cdkept "_law_kept" = true)
    (kkept : PySem.W.keepIn K (.ref fkept) = true)
    (atog : PySem.W.nsIn K mainGlobals "_law_together" = some (some (.ref ftog)))
    (ltog : K.lookup ftog = some ⟨octog, odtog, .func (PySem.W.fnOf "_law_together" "_law_together" (defArgs sTog) (defBody sTog) (defScope sTog) .none kVtog dctog pmtog antog cdtog cttog), sltog⟩)
    (ctog : PySem.W.codeIn K cdtog "_law_together" = true)
    (ktog : PySem.W.keepIn K (.ref ftog) = true)
    (alren : PySem.W.nsIn K mainGlobals "_law_renamed" = some (some (.ref flren)))
    (llren : K.lookup flren = some ⟨oclren, odlren, .func (PySem.W.fnOf "_law_renamed" "_law_renamed" (defArgs sLRen) (defBody sLRen) (defScope sLRen) .none kVlren dclren pmlren anlren cdlren ctlren), sllren⟩)
    (clren : PySem.W.codeIn K cdlren "_law_renamed" = true)
    (klren : PySem.W.keepIn K (.ref flren) = true)
    (ais : PySem.W.nsIn K mainGlobals "_law_is" = some (some (.ref fis)))
    (lis : K.lookup fis = some ⟨ocis, odis, .func (PySem.W.fnOf "_law_is" "_law_is" (defArgs sIs) (defBody sIs) (defScope sIs) .none kVis dcis pmis anis cdis ctis), slis⟩)
    (cis : PySem.W.codeIn K cdis "_law_is" = true)
    (kis : PySem.W.keepIn K (.ref fis) = true)
    (aright : PySem.W.nsIn K mainGlobals "_law_right" = some (some (.ref fright)))
    (lright : K.lookup fright = some ⟨ocright, odright, .func (PySem.W.fnOf "_law_right" "_law_right" (defArgs sRight) (defBody sRight) (defScope sRight) .none kVright dcright pmright anright cdright ctright), slright⟩)
    (cright : PySem.W.codeIn K cdright "_law_right" = true)
    (kright : PySem.W.keepIn K (.ref fright) = true)
    (alaw : PySem.W.nsIn K mainGlobals "law" = some (some (.ref flaw)))
    (llaw : K.lookup flaw = some ⟨oclaw, odlaw, .func (PySem.W.fnOf "law" "law" (defArgs sLaw) (defBody sLaw) (defScope sLaw) .none kVlaw dclaw pmlaw anlaw cdlaw ctlaw), sllaw⟩)
    (claw : PySem.W.codeIn K cdlaw "law" = true)
    (klaw : PySem.W.keepIn K (.ref flaw) = true)
    : ∃ fd : FuncData, (∀ (s : Shared) (v : Value), BindsTo s fd ⟨[v], []⟩ [("_law_script", v)]) ∧ ∀ base : Heap, K.In base → base.Ns mainGlobals mg → FnG P w K mg base 13 fa fd ["_law_script"] (pLaw K) := by
  have e := hfa.symm.trans (PySem.W.mg_of X G alaw)
  cases e
  have bn : ∀ x, InS x ["isinstance", "int", "bool", "max", "min", "abs", "len", "str", "repr", "divmod", "range", "all", "dict", "list", "sorted"] → mg x = none := by
    intro x hx
    rcases hx with _ | hx
    · exact PySem.W.mg_none_of X G z_isinstance
    rcases hx with _ | hx
    · exact PySem.W.mg_none_of X G z_int
    rcases hx with _ | hx
    · exact PySem.W.mg_none_of X G z_bool
    rcases hx with _ | hx
    · exact PySem.W.mg_none_of X G z_max
    rcases hx with _ | hx
    · exact PySem.W.mg_none_of X G z_min
    rcases hx with _ | hx
    · exact PySem.W.mg_none_of X G z_abs
    rcases hx with _ | hx
    · exact PySem.W.mg_none_of X G z_len
    rcases hx with _ | hx
    · exact PySem.W.mg_none_of X G z_str
    rcases hx with _ | hx
    · exact PySem.W.mg_none_of X G z_repr
    rcases hx with _ | hx
    · exact PySem.W.mg_none_of X G z_divmod
    rcases hx with _ | hx
    · exact PySem.W.mg_none_of X G z_range
    rcases hx with _ | hx
    · exact PySem.W.mg_none_of X G z_all
    rcases hx with _ | hx
    · exact PySem.W.mg_none_of X G z_dict
    rcases hx with _ | hx
    · exact PySem.W.mg_none_of X G z_list
    rcases hx with _ | hx
    · exact PySem.W.mg_none_of X G z_sorted
    cases hx
  have T : Txt K mg C := ⟨⟨pgC, hdC, poC, saC⟩, nK, ca, cn, ct, cm, kit_self, kit_own icC tyC rfl uDC, kit_own icC tyC rfl uSC, PySem.W.mg_of X G aC, ⟨_, PySem.W.mg_of X G gL⟩, ⟨_, PySem.W.mg_of X G gH⟩, ⟨_, PySem.W.mg_of X G gN⟩, bn⟩
  have Fisn := fun_mk (st := sIsName) lisn cisn kisn
  have bisn := Fisn.binds (ps := ["value"]) fun _ _ _ _ _ _ us hl => match us, hl with | [_], _ => rfl
  have Fmaps := fun_mk (st := sMaps) lmaps cmaps kmaps
  have bmaps := Fmaps.binds (ps := ["value"]) fun _ _ _ _ _ _ us hl => match us, hl with | [_], _ => rfl
  have Fisi := fun_mk (st := sIsInt) lisi cisi kisi
  have bisi := Fisi.binds (ps := ["value"]) fun _ _ _ _ _ _ us hl => match us, hl with | [_], _ => rfl
  have Fmapi := fun_mk (st := sMapsI) lmapi cmapi kmapi
  have bmapi := Fmapi.binds (ps := ["value"]) fun _ _ _ _ _ _ us hl => match us, hl with | [_], _ => rfl
  have Frng := fun_mk (st := sRng) lrng crng krng
  have brng := Frng.binds (ps := ["_law_script", "_law_k"]) fun _ _ _ _ _ _ us hl => match us, hl with | [_, _], _ => rfl
  have Fdraw := fun_mk (st := sDraw) ldraw cdraw kdraw
  have bdraw := Fdraw.binds (ps := ["_law_rng_here", "_law_many"]) fun _ _ _ _ _ _ us hl => match us, hl with | [_, _], _ => rfl
  have Fchoice := fun_mk (st := sChoice) lchoice cchoice kchoice
  have bchoice := Fchoice.binds (ps := ["_law_rng_here", "_law_some"]) fun _ _ _ _ _ _ us hl => match us, hl with | [_, _], _ => rfl
  have Fnames := fun_mk (st := sNames) lnames cnames knames
  have bnames := Fnames.binds (ps := ["_law_rng_here", "_law_many", "_law_taken"]) fun _ _ _ _ _ _ us hl => match us, hl with | [_, _, _], _ => rfl
  have Fnumber := fun_mk (st := sNumber) lnumber cnumber knumber
  have bnumber := Fnumber.binds (ps := ["_law_rng_here"]) fun _ _ _ _ _ _ us hl => match us, hl with | [_], _ => rfl
  have Fmixed := fun_mk (st := sMixed) lmixed cmixed kmixed
  have bmixed := Fmixed.binds (ps := ["_law_rng_here", "_law_some"]) fun _ _ _ _ _ _ us hl => match us, hl with | [_, _], _ => rfl
  have Flong := fun_mk (st := sLong) llong clong klong
  have blong := Flong.binds (ps := ["_law_rng_here"]) fun _ _ _ _ _ _ us hl => match us, hl with | [_], _ => rfl
  have Fdict := fun_mk (st := sDict) ldict cdict kdict
  have bdict := Fdict.binds (ps := ["_law_rng_here", "_law_names_here"]) fun _ _ _ _ _ _ us hl => match us, hl with | [_, _], _ => rfl
  have Fkept := fun_mk (st := sKept) lkept ckept kkept
  have bkept := Fkept.binds (ps := ["_law_model"]) fun _ _ _ _ _ _ us hl => match us, hl with | [_], _ => rfl
  have Ftog := fun_mk (st := sTog) ltog ctog ktog
  have btog := Ftog.binds (ps := ["_law_one", "_law_other", "_law_times"]) fun _ _ _ _ _ _ us hl => match us, hl with | [_, _, _], _ => rfl
  have Flren := fun_mk (st := sLRen) llren clren klren
  have blren := Flren.binds (ps := ["_law_model", "_law_names_here"]) fun _ _ _ _ _ _ us hl => match us, hl with | [_, _], _ => rfl
  have Fis := fun_mk (st := sIs) lis cis kis
  have bis := Fis.binds (ps := ["_law_table", "_law_model", "_law_names_here"]) fun _ _ _ _ _ _ us hl => match us, hl with | [_, _, _], _ => rfl
  have Fright := fun_mk (st := sRight) lright cright kright
  have bright := Fright.binds (ps := ["_law_rng_here"]) fun _ _ _ _ _ _ us hl => match us, hl with | [_], _ => rfl
  have Flaw := fun_mk (st := sLaw) llaw claw klaw
  have Fat := fun_mk (st := sAt) lat cat kat
  have bat := Fat.binds (ps := ["self", "key"]) fun _ _ _ _ _ _ us hl => match us, hl with | [_, _], _ => rfl
  have Fused := fun_mk (st := sUsed) lused cused kused
  have bused := Fused.binds (ps := ["self"]) fun _ _ _ _ _ _ us hl => match us, hl with | [_], _ => rfl
  have Fcounts := fun_mk (st := sCounts) lcounts ccounts kcounts
  have bcounts := Fcounts.binds (ps := ["self"]) fun _ _ _ _ _ _ us hl => match us, hl with | [_], _ => rfl
  have Fadd := fun_mk (st := sAdd) ladd cadd kadd
  have badd := Fadd.binds (ps := ["self", "other"]) fun _ _ _ _ _ _ us hl => match us, hl with | [_, _], _ => rfl
  have Fsub := fun_mk (st := sSub) lsub csub ksub
  have bsub := Fsub.binds (ps := ["self", "other"]) fun _ _ _ _ _ _ us hl => match us, hl with | [_, _], _ => rfl
  have Fneg := fun_mk (st := sNeg) lneg cneg kneg
  have bneg := Fneg.binds (ps := ["self"]) fun _ _ _ _ _ _ us hl => match us, hl with | [_], _ => rfl
  have Ftimes := fun_mk (st := sTimes) ltimes ctimes ktimes
  have btimes := Ftimes.binds (ps := ["self", "many"]) fun _ _ _ _ _ _ us hl => match us, hl with | [_, _], _ => rfl
  have Fren := fun_mk (st := sRen) lren cren kren
  have bren := Fren.binds (ps := ["self", "names"]) fun _ _ _ _ _ _ us hl => match us, hl with | [_, _], _ => rfl
  have Feq := fun_mk (st := sEq) leq ceq keq
  have beq := Feq.binds (ps := ["self", "other"]) fun _ _ _ _ _ _ us hl => match us, hl with | [_, _], _ => rfl
  have Flen := fun_mk (st := sLen) llen clen klen
  have blen := Flen.binds (ps := ["self"]) fun _ _ _ _ _ _ us hl => match us, hl with | [_], _ => rfl
  have Fcon := fun_mk (st := sCon) lcon ccon kcon
  have bcon := Fcon.binds (ps := ["self", "x"]) fun _ _ _ _ _ _ us hl => match us, hl with | [_, _], _ => rfl
  have Frepr := fun_mk (st := sRepr) lrepr crepr krepr
  have brepr := Frepr.binds (ps := ["self"]) fun _ _ _ _ _ _ us hl => match us, hl with | [_], _ => rfl
  have Fplain := fun_mk (st := sPlain) lplain cplain kplain
  have bplain := Fplain.binds (ps := ["self"]) fun _ _ _ _ _ _ us hl => match us, hl with | [_], _ => rfl
  have Finit : FunD K "__init__" "Table.__init__" (defArgs sInit) (defBody sInit) (defScope sInit) [.non] [] finit _ := ⟨⟨_, _, _, _, _, _, _, _, _, _, rfl, linit, cinit, .inr ⟨by simp, Tinit, _, _, _, rfl, qinit, rfl, .cons rfl .nil⟩, .inl rfl⟩, kinit⟩
  obtain ⟨ds1, v1, bi1⟩ := Finit.binds1 (ps := ["self", "counts"]) 1 0 (by simp) rfl fun T kV doc pm an cdv ct us its hu hi => match us, its, hu, hi with | [_], [_], _, _ => ⟨_, rfl, rfl⟩
  obtain ⟨ds2, v2, bi2⟩ := Finit.binds1 (ps := ["self", "counts"]) 2 1 (by simp) rfl fun T kV doc pm an cdv ct us its hu hi => match us, its, hu, hi with | [_, _], [_], _, _ => ⟨_, rfl, rfl⟩
  obtain ⟨its3, bi3⟩ := Finit.kbindsD (ps := ["self", "counts"]) 1 ["counts"] (fun vs _ zs => vs ++ zs) (by simp) (fun r1 _ r3 => r1.append r3) fun T kV doc pm an cdv ct us its ws hu hi hw => match us, its, ws, hu, hi, hw with | [_], [_], [_], _, _, _ => ⟨_, rfl, rfl⟩
  have gx : ∀ {x : Str} {v : Value}, PySem.W.nsIn K mainGlobals x = some (some v) → mg x = some v := fun q => PySem.W.mg_of X G q
  refine ⟨PySem.W.fnOf "law" "law" (defArgs sLaw) (defBody sLaw) (defScope sLaw) .none kVlaw dclaw pmlaw anlaw cdlaw ctlaw, fun s v => .of_eq rfl, fun base _ _ => ?_⟩
  have cl : Cls K C := ⟨pgC, hdC, poC, saC⟩
  have GN : GFn P w K mg base "is_name" 1 ["value"] [] (pIsName K) := ⟨⟨_, _, [], okIsName Fisn T, gx aisn, kisn, bisn, .nil⟩⟩
  have GM : GFn P w K mg base "maps_names" 2 ["value"] [] pMaps := ⟨⟨_, _, [], okMaps Fmaps T GN, gx amaps, kmaps, bmaps, .nil⟩⟩
  have GI : GFn P w K mg base "is_integer" 1 ["value"] [] (pIsInt K) := ⟨⟨_, _, [], okIsInt Fisi T, gx aisi, kisi, bisi, .nil⟩⟩
  have GMI : GFn P w K mg base "maps_to_integers" 2 ["value"] [] pMapsI := ⟨⟨_, _, [], okMapsI Fmapi T GN GI, gx amapi, kmapi, bmapi, .nil⟩⟩
  have oI := okInit (P := P) (w := w) (base := base) Finit T GMI
  have M0 : GMk P w K mg base "Table" C 3 ["self", "counts"] [.non] (pInit C) := ⟨⟨_, _, ds1, oI, gx aC, ⟨mkC, ainit, iinit, kcC⟩, bi1, v1⟩⟩
  have M1 : GMk P w K mg base "Table" C 3 ["self", "counts"] [] (pInit C) := ⟨⟨_, _, ds2, oI, gx aC, ⟨mkC, ainit, iinit, kcC⟩, bi2, v2⟩⟩
  have MK : GMkK P w K mg base "Table" C 3 ["self", "counts"] ["counts"] (fun v k => v ++ k) (pInit C) := ⟨⟨_, _, _, oI, gx aC, ⟨mkC, ainit, iinit, kcC⟩, bi3⟩⟩
  have GA : GMe P w K mg base C "at" 2 ["self", "key"] [] (pAt C) := ⟨⟨_, _, [], okAt Fat T GN, cl, ⟨aat, iat, kat⟩, bat, .nil⟩⟩
  have GU : GMe P w K mg base C "used_keys" 1 ["self"] [] (pUsed C) := ⟨⟨_, _, [], okUsed Fused T, cl, ⟨aused, iused, kused⟩, bused, .nil⟩⟩
  have GC : GMe P w K mg base C "counts" 1 ["self"] [] (pCounts C) := ⟨⟨_, _, [], okCounts Fcounts T, cl, ⟨acounts, icounts, kcounts⟩, bcounts, .nil⟩⟩
  have GT : GMe P w K mg base C "times" 5 ["self", "many"] [] (pTimes C) := ⟨⟨_, _, [], okTimes Ftimes T GI M1, cl, ⟨atimes, itimes, ktimes⟩, btimes, .nil⟩⟩
  have GRe : GMe P w K mg base C "renamed" 5 ["self", "names"] [] (pRen C) := ⟨⟨_, _, [], okRen Fren T GM M1, cl, ⟨aren, iren, kren⟩, bren, .nil⟩⟩
  have GP : GPr P w K mg base C "is_plain" 1 ["self"] (pPlain C) := ⟨⟨_, _, _, okPlain Fplain T, cl, ⟨aplain, gplain, tplain, _, rcplain⟩, bplain⟩⟩
  have KE : GFn P w K mg base "_law_kept" 1 ["_law_model"] [] pKept := ⟨⟨_, _, [], okKept Fkept T, gx akept, kkept, bkept, .nil⟩⟩
  have Q : Rg P w K mg base C := ⟨T, GA, GU, GC, GP, GT, GRe, ⟨⟨_, _, okAdd Fadd T GA M1, aadd, iadd, badd⟩⟩, ⟨⟨_, _, okSub Fsub T GA M1, asub, isub, bsub⟩⟩, ⟨⟨_, _, okNeg Fneg T GT, aneg, ineg, bneg⟩⟩, ⟨⟨_, _, okEq Feq T, aeq, ieq, beq⟩⟩, ⟨⟨_, _, okLen Flen T, alen, ilen, blen⟩⟩, ⟨⟨_, _, okCon Fcon T GN, acon, icon, bcon⟩⟩, ⟨⟨_, _, okRepr Frepr T, arepr, irepr, brepr⟩⟩, M1, M0, MK, nfS, nfD, nfC, ne, KE⟩
  have GD : GFn P w K mg base "_law_draw" 1 ["_law_rng_here", "_law_many"] [] pDraw := ⟨⟨_, _, [], okDraw Fdraw T, gx adraw, kdraw, bdraw, .nil⟩⟩
  have GH : GFn P w K mg base "_law_choice" 2 ["_law_rng_here", "_law_some"] [] pChoice := ⟨⟨_, _, [], okChoice Fchoice T GD, gx achoice, kchoice, bchoice, .nil⟩⟩
  have GNa : GFn P w K mg base "_law_names" 2 ["_law_rng_here", "_law_many", "_law_taken"] [] pNames := ⟨⟨_, _, [], okNames Fnames T GD, gx anames, knames, bnames, .nil⟩⟩
  have GNu : GFn P w K mg base "_law_number" 3 ["_law_rng_here"] [] pNumber := ⟨⟨_, _, [], okNumber Fnumber T GH, gx anumber, knumber, bnumber, .nil⟩⟩
  have GMi : GFn P w K mg base "_law_mixed" 2 ["_law_rng_here", "_law_some"] [] pMixed := ⟨⟨_, _, [], okMixed Fmixed T GD, gx amixed, kmixed, bmixed, .nil⟩⟩
  have GLo : GFn P w K mg base "_law_long" 3 ["_law_rng_here"] [] pLong := ⟨⟨_, _, [], okLong Flong T GH, gx along, klong, blong, .nil⟩⟩
  have GDi : GFn P w K mg base "_law_dict" 4 ["_law_rng_here", "_law_names_here"] [] pDict := ⟨⟨_, _, [], okDict Fdict T GD GMi GNu, gx adict, kdict, bdict, .nil⟩⟩
  have GTo : GFn P w K mg base "_law_together" 1 ["_law_one", "_law_other", "_law_times"] [] pTog := ⟨⟨_, _, [], okTog Ftog T, gx atog, ktog, btog, .nil⟩⟩
  have GLR : GFn P w K mg base "_law_renamed" 1 ["_law_model", "_law_names_here"] [] pLRen := ⟨⟨_, _, [], okLRen Flren T, gx alren, klren, blren, .nil⟩⟩
  have GIs : GFg P w K mg base "_law_is" 5 ["_law_table", "_law_model", "_law_names_here"] [] (pIs C) := ⟨⟨_, _, [], okIs Fis Q, gx ais, kis, bis, .nil⟩⟩
  have GR : GFn P w K mg base "_law_rng" 1 ["_law_script", "_law_k"] [] (pRng K) := ⟨⟨_, _, [], okRng Frng T, gx arng, krng, brng, .nil⟩⟩
  have GRi : GFg P w K mg base "_law_right" 12 ["_law_rng_here"] [] pRight := ⟨⟨_, _, [], okRight Fright ⟨Q, sf, GD, GH, GNa, GMi, GLo, GDi, GTo, GLR, GIs⟩, gx aright, kright, bright, .nil⟩⟩
  exact okLaw Flaw T GR GRi
end K12

set_option Elab.async false
open PySem PySem.W PyProof.Rows
set_option maxRecDepth 100000 in
set_option maxHeartbeats 0 in
theorem PySem.Challenge.cw_notesums_k12_tables_by_dicts_holds : PySem.Challenge.rw_notesums_k12_tables_by_dicts.Holds := by
  w_on; o_law; k_head; (case hw => w_witness2)
  k_fill
  refine N3.walk_G (l := PySem.Challenge.rw_notesums_k12_tables_by_dicts) (n := 63) (k := 13) (x := "_law_script") (pre := K12.pLaw) rfl (by decide) rfl ⟨rfl, by decide, by decide⟩ (fun w h Y => PySem.W.kIn_of Y) ?F (fun w L a ns hl hS => ⟨a, ns, rfl, hS, hl, rfl⟩)
  case F =>
    intro w mg fa h KX G hmg
    refine' K12.all_mk KX G hmg ?aC ?pgC ?hdC ?poC ?saC ?kcC ?nK ?ca ?cn ?ct ?cm ?icC ?tyC ?uDC ?uSC ?gL ?gH ?gN ?z_isinstance ?z_int ?z_bool ?z_max ?z_min ?z_abs ?z_len ?z_str ?z_repr ?z_divmod ?z_range ?z_all ?z_dict ?z_list ?z_sorted ?mkC ?ainit ?iinit ?linit ?cinit ?kinit ?qinit ?aat ?iat ?lat ?cat ?kat ?aused ?iused ?lused ?cused ?kused ?acounts ?icounts ?lcounts ?ccounts ?kcounts ?aadd ?iadd ?ladd ?cadd ?kadd ?asub ?isub ?lsub ?csub ?ksub ?aneg ?ineg ?lneg ?cneg ?kneg ?atimes ?itimes ?ltimes ?ctimes ?ktimes ?aren ?iren ?lren ?cren ?kren ?aeq ?ieq ?leq ?ceq ?keq ?alen ?ilen ?llen ?clen ?klen ?acon ?icon ?lcon ?ccon ?kcon ?arepr ?irepr ?lrepr ?crepr ?krepr ?aplain ?gplain ?tplain ?rcplain ?lplain ?cplain ?kplain ?sf ?nfD ?nfS ?nfC ?ne ?aisn ?lisn ?cisn ?kisn ?amaps ?lmaps ?cmaps ?kmaps ?aisi ?lisi ?cisi ?kisi ?amapi ?lmapi ?cmapi ?kmapi ?arng ?lrng ?crng ?krng ?adraw ?ldraw ?cdraw ?kdraw ?achoice ?lchoice ?cchoice ?kchoice ?anames ?lnames ?cnames ?knames ?anumber ?lnumber ?cnumber ?knumber ?amixed ?lmixed ?cmixed ?kmixed ?along ?llong ?clong ?klong ?adict ?ldict ?cdict ?kdict ?akept ?lkept ?ckept ?kkept ?atog ?ltog ?ctog ?ktog ?alren ?llren ?clren ?klren ?ais ?lis ?cis ?kis ?aright ?lright ?cright ?kright ?alaw ?llaw ?claw ?klaw
    (case aC => k_is)
    (case pgC => k_is)
    (case hdC => k_is)
    (case poC => k_is)
    (case saC => k_is)
    (case kcC => k_is)
    (case nK => k_is)
    (case ca => k_is)
    (case cn => k_is)
    (case ct => k_is)
    (case cm => k_is)
    (case icC => k_is)
    (case tyC => k_is)
    (case uDC => k_is)
    (case uSC => k_is)
    (case gL => k_is)
    (case gH => k_is)
    (case gN => k_is)
    (case z_isinstance => k_is)
    (case z_int => k_is)
    (case z_bool => k_is)
    (case z_max => k_is)
    (case z_min => k_is)
    (case z_abs => k_is)
    (case z_len => k_is)
    (case z_str => k_is)
    (case z_repr => k_is)
    (case z_divmod => k_is)
    (case z_range => k_is)
    (case z_all => k_is)
    (case z_dict => k_is)
    (case z_list => k_is)
    (case z_sorted => k_is)
    (case mkC => k_is)
    (case ainit => k_is)
    (case iinit => k_is)
    (case linit => k_is)
    (case cinit => k_is)
    (case kinit => k_is)
    (case qinit => k_is)
    (case aat => k_is)
    (case iat => k_is)
    (case lat => k_is)
    (case cat => k_is)
    (case kat => k_is)
    (case aused => k_is)
    (case iused => k_is)
    (case lused => k_is)
    (case cused => k_is)
    (case kused => k_is)
    (case acounts => k_is)
    (case icounts => k_is)
    (case lcounts => k_is)
    (case ccounts => k_is)
    (case kcounts => k_is)
    (case aadd => k_is)
    (case iadd => k_is)
    (case ladd => k_is)
    (case cadd => k_is)
    (case kadd => k_is)
    (case asub => k_is)
    (case isub => k_is)
    (case lsub => k_is)
    (case csub => k_is)
    (case ksub => k_is)
    (case aneg => k_is)
    (case ineg => k_is)
    (case lneg => k_is)
    (case cneg => k_is)
    (case kneg => k_is)
    (case atimes => k_is)
    (case itimes => k_is)
    (case ltimes => k_is)
    (case ctimes => k_is)
    (case ktimes => k_is)
    (case aren => k_is)
    (case iren => k_is)
    (case lren => k_is)
    (case cren => k_is)
    (case kren => k_is)
    (case aeq => k_is)
    (case ieq => k_is)
    (case leq => k_is)
    (case ceq => k_is)
    (case keq => k_is)
    (case alen => k_is)
    (case ilen => k_is)
    (case llen => k_is)
    (case clen => k_is)
    (case klen => k_is)
    (case acon => k_is)
    (case icon => k_is)
    (case lcon => k_is)
    (case ccon => k_is)
    (case kcon => k_is)
    (case arepr => k_is)
    (case irepr => k_is)
    (case lrepr => k_is)
    (case crepr => k_is)
    (case krepr => k_is)
    (case aplain => k_is)
    (case gplain => k_is)
    (case tplain => k_is)
    (case rcplain => k_is)
    (case lplain => k_is)
    (case cplain => k_is)
    (case kplain => k_is)
    (case sf => k_is)
    (case nfD => k_is)
    (case nfS => k_is)
    (case nfC => k_is)
    (case ne => k_is)
    (case aisn => k_is)
    (case lisn => k_is)
    (case cisn => k_is)
    (case kisn => k_is)
    (case amaps => k_is)
    (case lmaps => k_is)
    (case cmaps => k_is)
    (case kmaps => k_is)
    (case aisi => k_is)
    (case lisi => k_is)
    (case cisi => k_is)
    (case kisi => k_is)
    (case amapi => k_is)
    (case lmapi => k_is)
    (case cmapi => k_is)
    (case kmapi => k_is)
    (case arng => k_is)
    (case lrng => k_is)
    (case crng => k_is)
    (case krng => k_is)
    (case adraw => k_is)
    (case ldraw => k_is)
    (case cdraw => k_is)
    (case kdraw => k_is)
    (case achoice => k_is)
    (case lchoice => k_is)
    (case cchoice => k_is)
    (case kchoice => k_is)
    (case anames => k_is)
    (case lnames => k_is)
    (case cnames => k_is)
    (case knames => k_is)
    (case anumber => k_is)
    (case lnumber => k_is)
    (case cnumber => k_is)
    (case knumber => k_is)
    (case amixed => k_is)
    (case lmixed => k_is)
    (case cmixed => k_is)
    (case kmixed => k_is)
    (case along => k_is)
    (case llong => k_is)
    (case clong => k_is)
    (case klong => k_is)
    (case adict => k_is)
    (case ldict => k_is)
    (case cdict => k_is)
    (case kdict => k_is)
    (case akept => k_is)
    (case lkept => k_is)
    (case ckept => k_is)
    (case kkept => k_is)
    (case atog => k_is)
    (case ltog => k_is)
    (case ctog => k_is)
    (case ktog => k_is)
    (case alren => k_is)
    (case llren => k_is)
    (case clren => k_is)
    (case klren => k_is)
    (case ais => k_is)
    (case lis => k_is)
    (case cis => k_is)
    (case kis => k_is)
    (case aright => k_is)
    (case lright => k_is)
    (case cright => k_is)
    (case kright => k_is)
    (case alaw => k_is)
    (case llaw => k_is)
    (case claw => k_is)
    (case klaw => k_is)

