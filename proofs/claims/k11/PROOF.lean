import PyProof.Rows.All
import Wide.All
import OpenK.AllK
import Wide.FinOn
import HandS.ForMost
import HandS.Exc
import HandS.WordsExc
import HandS.Gcd
import HandS.FStr
import HandS.Property
import HandS.Wide
import HandS.Zip
import HandS.IsInst
import HandS.SlotsOwn
import KE.KOpsOwn
import KE.KCallOwn
import PyProof.InstEq
import HandS.Defaults
import HandS.ClsMeth
import HandS.Star
import HandS.ExcIs
import HandS.ExcOwn
import HandS.ExcBuiltin
import PyProof.ReprNest
import HandS.OwnEq
import HandS.Walk
import PySem.Challenge.RW_notesums_k11_ratios_by_integers
set_option Elab.async false
set_option linter.all false
set_option maxRecDepth 100000
set_option maxHeartbeats 4000000
namespace N3
open PySem PySem.Spec L2

/-! ### what is known of the heap: a list of objects by their addresses -/
abbrev LH := List (Addr × HO)
structure Holds (L : LH) (H : Hp) : Prop where
  nd : (L.map (·.1)).Nodup
  at_ : ∀ a o, (a, o) ∈ L → H a = some o
inductive Mem (a : Addr) (o : HO) : LH → Prop where
  | head {L : LH} : Mem a o ((a, o) :: L)
  | tail {p : Addr × HO} {L : LH} : Mem a o L → Mem a o (p :: L)
theorem Mem.mem {a : Addr} {o : HO} {L : LH} (h : Mem a o L) : (a, o) ∈ L := by
  induction h with
  | head => exact List.mem_cons_self
  | tail _ ih => exact List.mem_cons_of_mem _ ih
theorem Holds.get {L : LH} {H : Hp} {a : Addr} {o : HO} (h : Holds L H) (m : Mem a o L) : H a = some o := h.at_ a o m.mem
/-- the place of a in L: what L is with another object there -/
inductive Hole (a : Addr) (o : HO) : LH → (HO → LH) → Prop where
  | head {L : LH} : Hole a o ((a, o) :: L) (fun o' => (a, o') :: L)
  | tail {p : Addr × HO} {L : LH} {F : HO → LH} : Hole a o L F → Hole a o (p :: L) (fun o' => p :: F o')
theorem Hole.mem {a : Addr} {o : HO} {L : LH} {F : HO → LH} (h : Hole a o L F) : (a, o) ∈ L := by
  induction h with
  | head => exact List.mem_cons_self
  | tail _ ih => exact List.mem_cons_of_mem _ ih
theorem Hole.keys {a : Addr} {o : HO} {L : LH} {F : HO → LH} (h : Hole a o L F) (o' : HO) : (F o').map (·.1) = L.map (·.1) := by
  induction h with
  | head => rfl
  | tail _ ih => exact congrArg (_ :: ·) ih
theorem Hole.mem' {a : Addr} {o : HO} {L : LH} {F : HO → LH} (h : Hole a o L F) (o' : HO) (nd : (L.map (·.1)).Nodup) : ∀ b u, (b, u) ∈ F o' → (b = a ∧ u = o') ∨ (b ≠ a ∧ (b, u) ∈ L) := by
  induction h with
  | head =>
    rename_i L
    intro b u hm
    rw [List.map_cons, List.nodup_cons] at nd
    rcases List.mem_cons.mp hm with e | hm2
    · cases e
      exact .inl ⟨rfl, rfl⟩
    · refine .inr ⟨fun e => nd.1 ?_, List.mem_cons_of_mem _ hm2⟩
      subst e
      exact List.mem_map.mpr ⟨_, hm2, rfl⟩
  | tail hh ih =>
    rename_i p L F
    intro b u hm
    rw [List.map_cons, List.nodup_cons] at nd
    rcases List.mem_cons.mp hm with e | hm
    · refine .inr ⟨fun e' => nd.1 ?_, by rw [e]; exact List.mem_cons_self⟩
      subst e
      rw [e']
      exact List.mem_map.mpr ⟨_, hh.mem, rfl⟩
    · rcases ih nd.2 b u hm with h | ⟨h1, h2⟩
      · exact .inl h
      · exact .inr ⟨h1, List.mem_cons_of_mem _ h2⟩
theorem Holds.new {L : LH} {H : Hp} {p : Addr} {o : HO} (h : Holds L H) (hp : H p = none) : Holds ((p, o) :: L) (upd H p o) := by
  have nm : ∀ b u, (b, u) ∈ L → b ≠ p := fun b u hm e => by
    have := h.at_ b u hm
    rw [e, hp] at this
    cases this
  refine ⟨?_, fun a u hm => ?_⟩
  · rw [List.map_cons, List.nodup_cons]
    refine ⟨fun hm => ?_, h.nd⟩
    obtain ⟨q, hq, e⟩ := List.mem_map.mp hm
    exact nm q.1 q.2 hq e
  · rcases List.mem_cons.mp hm with e | hm
    · cases e
      exact upd_same
    · rw [upd_ne (nm a u hm)]
      exact h.at_ a u hm
theorem Holds.put {L : LH} {H : Hp} {a : Addr} {o o' : HO} {F : HO → LH} (h : Holds L H) (f : Hole a o L F) : Holds (F o') (upd H a o') := by
  refine ⟨by rw [f.keys o']; exact h.nd, fun b u hm => ?_⟩
  rcases f.mem' o' h.nd b u hm with ⟨e1, e2⟩ | ⟨h1, h2⟩
  · subst e1 e2
    exact upd_same
  · rw [upd_ne h1]
    exact h.at_ b u h2
/-- what is forgotten -/
theorem Holds.drop {p : Addr × HO} {L : LH} {H : Hp} (h : Holds (p :: L) H) : Holds L H :=
  ⟨(List.nodup_cons.mp (by rw [← List.map_cons]; exact h.nd)).2, fun a o m => h.at_ a o (List.mem_cons_of_mem _ m)⟩
theorem Holds.drop1 {p q : Addr × HO} {L : LH} {H : Hp} (h : Holds (p :: q :: L) H) : Holds (p :: L) H := by
  have n := h.nd
  rw [List.map_cons, List.map_cons, List.nodup_cons, List.nodup_cons] at n
  refine ⟨?_, fun a o m => h.at_ a o ?_⟩
  · rw [List.map_cons, List.nodup_cons]
    exact ⟨fun z => n.1 (List.mem_cons_of_mem _ z), n.2.2⟩
  · rcases List.mem_cons.mp m with e | m
    · rw [e]
      exact List.mem_cons_self
    · exact List.mem_cons_of_mem _ (List.mem_cons_of_mem _ m)
/-- L' holds wherever L does -/
def Sub (L L' : LH) : Prop := ∀ H, Holds L H → Holds L' H
theorem Sub.refl (L : LH) : Sub L L := fun _ h => h

/-! ### readings that every piece of syntax has -/
def SemE (X : Cx) (e : Expr) : TE := fun σ H Q => ∀ pins s, Inv X pins σ H s → wpAny (model X.prog X.w) X.A (eval e X.env) (EP X pins σ Q) X.xe s
def SemT (X : Cx) (e : Expr) : TT := fun σ H Q => ∀ pins s, Inv X pins σ H s → wpAny (model X.prog X.w) X.A (isTrue e X.env (eval e X.env)) (TP X pins σ Q) X.xe s
def SemW (X : Cx) (e : Expr) : TT := fun σ H Q => ∀ (whole : Sem Value) pins s, Inv X pins σ H s → wpAny (model X.prog X.w) X.A (isTrue e X.env whole) (TP X pins σ Q) X.xe s
def SemA (X : Cx) (es : List Expr) : TA := fun σ H Q => ∀ (pos : Pos) pins s, Inv X pins σ H s → wpAny (model X.prog X.w) X.A (spliced (backTo pos (starEach es X.env))) (AP X pins σ Q) X.xe s
def SemS (X : Cx) (st : Stmt) : TS := fun D σ H => ∀ pins s, Inv X pins σ H s → wpAny (model X.prog X.w) X.A (exec st X.env) (SP X pins D) X.xe s
def SemSs (X : Cx) (st : List Stmt) : TS := fun D σ H => ∀ pins s, Inv X pins σ H s → wpAny (model X.prog X.w) X.A (execs st X.env) (SP X pins D) X.xe s
def SemG (X : Cx) (tg : Expr) : TG := fun v σ H Q => ∀ pins s u, Inv X pins σ H s → RelV v u → wpAny (model X.prog X.w) X.A (assign tg X.env u) (fun _ s' => ∃ σ' H', Inv X pins σ' H' s' ∧ Q σ' H') X.xe s
def SemGs (X : Cx) (ts : List Expr) : TGs := fun vs σ H Q => ∀ pins s us, Inv X pins σ H s → Vals vs us → wpAny (model X.prog X.w) X.A (assignInOrder ((assignEach ts X.env).map (·.2)) us) (fun _ s' => ∃ σ' H', Inv X pins σ' H' s' ∧ Q σ' H') X.xe s
def SemO (X : Cx) (f : Value → Value → Sem Value) : R2 := fun x y H Q => ∀ pins s σ v u, Inv X pins σ H s → RelV x v → RelV y u → wpAny (model X.prog X.w) X.A (f v u) (EP X pins σ Q) X.xe s
def SemU (X : Cx) (f : Value → Sem Value) : V → Hp → VK → Prop := fun x H Q => ∀ pins s σ v, Inv X pins σ H s → RelV x v → wpAny (model X.prog X.w) X.A (f v) (EP X pins σ Q) X.xe s
def SemC (X : Cx) (f : Value) : List V → Hp → VK → Prop := fun xs H Q => ∀ pins s σ us, Inv X pins σ H s → Vals xs us → wpAny (model X.prog X.w) X.A (call f us) (EP X pins σ Q) X.xe s
section
variable {X : Cx} {e : Expr} {es : List Expr} {st : Stmt} {sts : List Stmt}
theorem pe_sem : PE X e (SemE X e) := ⟨fun pins s _ _ _ I h => h pins s I⟩
theorem pt_sem : PT X e (SemT X e) := ⟨fun pins s _ _ _ I h => h pins s I⟩
theorem pw_sem : PW X e (SemW X e) := ⟨fun wh pins s _ _ _ I h => h wh pins s I⟩
theorem pa_sem : PA X es (SemA X es) := ⟨fun pos pins s _ _ _ I h => h pos pins s I⟩
theorem ps_sem : PS X st (SemS X st) := ⟨fun pins s _ _ _ I h => h pins s I⟩
theorem pss_sem : PSs X sts (SemSs X sts) := ⟨fun pins s _ _ _ I h => h pins s I⟩
theorem pg_sem : PG X e (SemG X e) := ⟨fun pins s _ _ _ u _ I r h => h pins s u I r⟩
theorem pgs_sem : PGs X es (SemGs X es) := ⟨fun pins s _ _ _ us _ I r h => h pins s us I r⟩
theorem op_sem {f : Value → Value → Sem Value} : OpR X f (SemO X f) := fun pins s σ _ _ _ v u _ I r1 r2 h => h pins s σ v u I r1 r2
theorem un_sem {f : Value → Sem Value} : UnR X f (SemU X f) := fun pins s σ _ _ v _ I r h => h pins s σ v I r
theorem call_sem {f : Value} : CallR X f (SemC X f) := fun pins s σ _ _ us _ I r h => h pins s σ us I r
variable {σ : St} {H : Hp}
theorem SemE.mono {Q Q' : VK} (h : SemE X e σ H Q) (k : ∀ v H, Q v H → Q' v H) : SemE X e σ H Q' := fun pins s I => thn (h pins s I) fun _ _ ⟨v, H1, I1, r1, q⟩ => ⟨v, H1, I1, r1, k _ _ q⟩
theorem SemT.mono {Q Q' : Bool → Hp → Prop} (h : SemT X e σ H Q) (k : ∀ v H, Q v H → Q' v H) : SemT X e σ H Q' := fun pins s I => thn (h pins s I) fun _ _ ⟨H1, I1, q⟩ => ⟨H1, I1, k _ _ q⟩
theorem SemW.mono {Q Q' : Bool → Hp → Prop} (h : SemW X e σ H Q) (k : ∀ v H, Q v H → Q' v H) : SemW X e σ H Q' := fun wh pins s I => thn (h wh pins s I) fun _ _ ⟨H1, I1, q⟩ => ⟨H1, I1, k _ _ q⟩
theorem SemA.mono {Q Q' : List V → Hp → Prop} (h : SemA X es σ H Q) (k : ∀ v H, Q v H → Q' v H) : SemA X es σ H Q' := fun pos pins s I => thn (h pos pins s I) fun _ _ ⟨v, H1, I1, r1, q⟩ => ⟨v, H1, I1, r1, k _ _ q⟩
theorem SemO.mono {f : Value → Value → Sem Value} {x y : V} {Q Q' : VK} (h : SemO X f x y H Q) (k : ∀ v H, Q v H → Q' v H) : SemO X f x y H Q' := fun pins s σ v u I r1 r2 => thn (h pins s σ v u I r1 r2) fun _ _ ⟨v, H1, I1, r1, q⟩ => ⟨v, H1, I1, r1, k _ _ q⟩
theorem SemG.mono {v : V} {Q Q' : St → Hp → Prop} (h : SemG X e v σ H Q) (k : ∀ v H, Q v H → Q' v H) : SemG X e v σ H Q' := fun pins s u I r => thn (h pins s u I r) fun _ _ ⟨v, H1, I1, q⟩ => ⟨v, H1, I1, k _ _ q⟩
theorem SemGs.mono {v : List V} {Q Q' : St → Hp → Prop} (h : SemGs X es v σ H Q) (k : ∀ v H, Q v H → Q' v H) : SemGs X es v σ H Q' := fun pins s u I r => thn (h pins s u I r) fun _ _ ⟨v, H1, I1, q⟩ => ⟨v, H1, I1, k _ _ q⟩
def Ends.Le (D D' : Ends) : Prop := (∀ σ H, D.nx σ H → D'.nx σ H) ∧ (∀ v H, D.rt v H → D'.rt v H) ∧ (∀ σ H, D.bk σ H → D'.bk σ H) ∧ (∀ σ H, D.ct σ H → D'.ct σ H)
theorem sp_mono {pins : List (Addr × Obj)} {D D' : Ends} (k : Ends.Le D D') : ∀ f s, SP X pins D f s → SP X pins D' f s := by
  intro f s h
  cases f with
  | next => obtain ⟨σ, H, I, q⟩ := h; exact ⟨σ, H, I, k.1 _ _ q⟩
  | brk => obtain ⟨σ, H, I, q⟩ := h; exact ⟨σ, H, I, k.2.2.1 _ _ q⟩
  | cont => obtain ⟨σ, H, I, q⟩ := h; exact ⟨σ, H, I, k.2.2.2 _ _ q⟩
  | ret u => obtain ⟨v, σ, H, I, r, q⟩ := h; exact ⟨v, σ, H, I, r, k.2.1 _ _ q⟩
theorem SemS.mono {D D' : Ends} (h : SemS X st D σ H) (k : Ends.Le D D') : SemS X st D' σ H := fun pins s I => thn (h pins s I) (sp_mono k)
theorem SemSs.mono {D D' : Ends} (h : SemSs X sts D σ H) (k : Ends.Le D D') : SemSs X sts D' σ H := fun pins s I => thn (h pins s I) (sp_mono k)
end

/-! ### the goals -/
def QE (K : V → LH → Prop) : VK := fun v H => ∃ L, Holds L H ∧ K v L
def QT (K : Bool → LH → Prop) : Bool → Hp → Prop := fun b H => ∃ L, Holds L H ∧ K b L
def QA (K : List V → LH → Prop) : List V → Hp → Prop := fun vs H => ∃ L, Holds L H ∧ K vs L
def QS (K : St → LH → Prop) : St → Hp → Prop := fun σ H => ∃ L, Holds L H ∧ K σ L
structure EndsL where
  nx : St → LH → Prop
  rt : V → LH → Prop
  bk : St → LH → Prop := fun _ _ => False
  ct : St → LH → Prop := fun _ _ => False
def EndsL.to (D : EndsL) : Ends := ⟨QS D.nx, QE D.rt, QS D.bk, QS D.ct⟩
def WE (X : Cx) (e : Expr) (σ : St) (L : LH) (K : V → LH → Prop) : Prop := ∀ H, Holds L H → SemE X e σ H (QE K)
def WT (X : Cx) (e : Expr) (σ : St) (L : LH) (K : Bool → LH → Prop) : Prop := ∀ H, Holds L H → SemT X e σ H (QT K)
def WW (X : Cx) (e : Expr) (σ : St) (L : LH) (K : Bool → LH → Prop) : Prop := ∀ H, Holds L H → SemW X e σ H (QT K)
def WA (X : Cx) (es : List Expr) (σ : St) (L : LH) (K : List V → LH → Prop) : Prop := ∀ H, Holds L H → SemA X es σ H (QA K)
def WG (X : Cx) (tg : Expr) (v : V) (σ : St) (L : LH) (K : St → LH → Prop) : Prop := ∀ H, Holds L H → SemG X tg v σ H (QS K)
def WGs (X : Cx) (tgs : List Expr) (vs : List V) (σ : St) (L : LH) (K : St → LH → Prop) : Prop := ∀ H, Holds L H → SemGs X tgs vs σ H (QS K)
def WO (X : Cx) (f : Value → Value → Sem Value) (x y : V) (L : LH) (K : V → LH → Prop) : Prop := ∀ H, Holds L H → SemO X f x y H (QE K)
def WU (X : Cx) (f : Value → Sem Value) (x : V) (L : LH) (K : V → LH → Prop) : Prop := ∀ H, Holds L H → SemU X f x H (QE K)
def WC (X : Cx) (f : Value) (vs : List V) (L : LH) (K : V → LH → Prop) : Prop := ∀ H, Holds L H → SemC X f vs H (QE K)
def WS (X : Cx) (st : Stmt) (σ : St) (L : LH) (D : EndsL) : Prop := ∀ H, Holds L H → SemS X st D.to σ H
def WSs (X : Cx) (sts : List Stmt) (σ : St) (L : LH) (D : EndsL) : Prop := ∀ H, Holds L H → SemSs X sts D.to σ H

section
variable {X : Cx} {e a b : Expr} {es : List Expr} {st : Stmt} {sts : List Stmt} {σ : St} {L : LH} {K : V → LH → Prop} {KT : Bool → LH → Prop} {KA : List V → LH → Prop} {KS : St → LH → Prop} {D : EndsL} {pos : Pos}
theorem we_of {te : TE} (h : PE X e te) (q : ∀ H, Holds L H → te σ H (QE K)) : WE X e σ L K := fun H hL pins s I => h.run pins s σ H _ I (q H hL)
theorem wt_of {te : TT} (h : PT X e te) (q : ∀ H, Holds L H → te σ H (QT KT)) : WT X e σ L KT := fun H hL pins s I => h.run pins s σ H _ I (q H hL)
theorem ww_of {te : TT} (h : PW X e te) (q : ∀ H, Holds L H → te σ H (QT KT)) : WW X e σ L KT := fun H hL wh pins s I => h.run wh pins s σ H _ I (q H hL)
theorem wa_of {te : TA} (h : PA X es te) (q : ∀ H, Holds L H → te σ H (QA KA)) : WA X es σ L KA := fun H hL pos pins s I => h.run pos pins s σ H _ I (q H hL)
theorem wg_of {v : V} {te : TG} (h : PG X e te) (q : ∀ H, Holds L H → te v σ H (QS KS)) : WG X e v σ L KS := fun H hL pins s u I r => h.run pins s σ H v u _ I r (q H hL)
theorem wgs_of {vs : List V} {te : TGs} (h : PGs X es te) (q : ∀ H, Holds L H → te vs σ H (QS KS)) : WGs X es vs σ L KS := fun H hL pins s u I r => h.run pins s σ H vs u _ I r (q H hL)
theorem wo_of {f : Value → Value → Sem Value} {r : R2} {x y : V} (h : OpR X f r) (q : ∀ H, Holds L H → r x y H (QE K)) : WO X f x y L K := fun H hL pins s σ v u I r1 r2 => h pins s σ H x y v u _ I r1 r2 (q H hL)
theorem wu_of {f : Value → Sem Value} {r : V → Hp → VK → Prop} {x : V} (h : UnR X f r) (q : ∀ H, Holds L H → r x H (QE K)) : WU X f x L K := fun H hL pins s σ v I r1 => h pins s σ H x v _ I r1 (q H hL)
theorem wc_of {f : Value} {r : List V → Hp → VK → Prop} {vs : List V} (h : CallR X f r) (q : ∀ H, Holds L H → r vs H (QE K)) : WC X f vs L K := fun H hL pins s σ us I r1 => h pins s σ H vs us _ I r1 (q H hL)
theorem ws_of {t : TS} (h : PS X st t) (q : ∀ H, Holds L H → t D.to σ H) : WS X st σ L D := fun H hL pins s I => h.run pins s σ H _ I (q H hL)
theorem wss_of {t : TS} (h : PSs X sts t) (q : ∀ H, Holds L H → t D.to σ H) : WSs X sts σ L D := fun H hL pins s I => h.run pins s σ H _ I (q H hL)
/-- then -/
theorem e_then {H : Hp} {Q : VK} (h : WE X e σ L K) (hL : Holds L H) (k : ∀ v L' H', Holds L' H' → K v L' → Q v H') : SemE X e σ H Q := (h H hL).mono fun v H' ⟨L', h', q⟩ => k v L' H' h' q
theorem t_then {H : Hp} {Q : Bool → Hp → Prop} (h : WT X e σ L KT) (hL : Holds L H) (k : ∀ v L' H', Holds L' H' → KT v L' → Q v H') : SemT X e σ H Q := (h H hL).mono fun v H' ⟨L', h', q⟩ => k v L' H' h' q
theorem w_then {H : Hp} {Q : Bool → Hp → Prop} (h : WW X e σ L KT) (hL : Holds L H) (k : ∀ v L' H', Holds L' H' → KT v L' → Q v H') : SemW X e σ H Q := (h H hL).mono fun v H' ⟨L', h', q⟩ => k v L' H' h' q
theorem a_then {H : Hp} {Q : List V → Hp → Prop} (h : WA X es σ L KA) (hL : Holds L H) (k : ∀ v L' H', Holds L' H' → KA v L' → Q v H') : SemA X es σ H Q := (h H hL).mono fun v H' ⟨L', h', q⟩ => k v L' H' h' q
theorem g_then {v : V} {H : Hp} {Q : St → Hp → Prop} (h : WG X e v σ L KS) (hL : Holds L H) (k : ∀ v L' H', Holds L' H' → KS v L' → Q v H') : SemG X e v σ H Q := (h H hL).mono fun v H' ⟨L', h', q⟩ => k v L' H' h' q
theorem gs_then {v : List V} {H : Hp} {Q : St → Hp → Prop} (h : WGs X es v σ L KS) (hL : Holds L H) (k : ∀ v L' H', Holds L' H' → KS v L' → Q v H') : SemGs X es v σ H Q := (h H hL).mono fun v H' ⟨L', h', q⟩ => k v L' H' h' q
theorem o_then {f : Value → Value → Sem Value} {x y : V} {H : Hp} {Q : VK} (h : WO X f x y L K) (hL : Holds L H) (k : ∀ v L' H', Holds L' H' → K v L' → Q v H') : SemO X f x y H Q := (h H hL).mono fun v H' ⟨L', h', q⟩ => k v L' H' h' q
/-- forgetting -/
theorem we_sub {L' : LH} (s : Sub L L') (h : WE X e σ L' K) : WE X e σ L K := fun H hL => h H (s H hL)
theorem wss_sub {L' : LH} (s : Sub L L') (h : WSs X sts σ L' D) : WSs X sts σ L D := fun H hL => h H (s H hL)

/-! ### expressions -/
theorem we_int {i : Int} {j : Nat} (k : K (.int i) L) : WE X (.Constant (.int i) j pos) σ L K := we_of pe_int fun _ hL => ⟨L, hL, k⟩
theorem we_bool {i : Bool} {j : Nat} (k : K (.bl i) L) : WE X (.Constant (.bool i) j pos) σ L K := we_of pe_bl fun _ hL => ⟨L, hL, k⟩
theorem we_str {i : Str} {j : Nat} (k : K (.str i) L) : WE X (.Constant (.str i) j pos) σ L K := we_of pe_str fun _ hL => ⟨L, hL, k⟩
theorem we_none {j : Nat} (k : K .non L) : WE X (.Constant .none j pos) σ L K := we_of pe_non fun _ hL => ⟨L, hL, k⟩
theorem we_name (i : Nat) {x : Str} {v : V} (hN : X.N[i]? = some x) (hv : Vis X.env.scope x) (hσ : σ[i]? = some (some v)) (k : K v L) (hd : (x == ("__debug__" : Str)) = false := by decide) (hcd : (x == ("__classdict__" : Str)) = false := by decide) :
    WE X (.Name x pos) σ L K := we_of (pe_var hN hv hd hcd) fun _ hL => ⟨v, hσ, L, hL, k⟩
theorem we_glob {x : Str} {v : V} {u : Value} (hm : X.mg x = some u) (r : RelV v u) (k : K v L) (hg : Gl X x := by rfl) (hd : (x == ("__debug__" : Str)) = false := by decide) : WE X (.Name x pos) σ L K := we_of (pe_glob hg hm r hd) fun _ hL => ⟨L, hL, k⟩
theorem we_bin {op : Operator} (h : WE X a σ L fun x L1 => WE X b σ L1 fun y L2 => WO X (binaryOp op) x y L2 K) : WE X (.BinOp a op b pos) σ L K :=
  we_of (pe_op op_sem pe_sem pe_sem) fun _ hL => e_then h hL fun _ _ _ h1 k1 => e_then k1 h1 fun _ _ H2 h2 k2 => k2 H2 h2
theorem we_un {op : UnaryOp} (h : WE X a σ L fun x L1 => WU X (unaryOp op) x L1 K) : WE X (.UnaryOp op a pos) σ L K :=
  we_of (pe_un un_sem pe_sem) fun _ hL => e_then h hL fun _ _ H1 h1 k1 => k1 H1 h1
theorem we_cmp {op : CmpOp} (hm : behindInMarks op b = false) (h : WE X a σ L fun x L1 => WE X b σ L1 fun y L2 => WO X (compareOp op) x y L2 K) : WE X (.Compare a [op] [b] pos) σ L K :=
  we_of (pe_cmpR op_sem pe_sem pe_sem hm) fun _ hL => e_then h hL fun _ _ _ h1 k1 => e_then k1 h1 fun _ _ H2 h2 k2 => k2 H2 h2
/-- what a bool value leads to -/
def KB (KT : Bool → LH → Prop) (v : V) (L : LH) : Prop := ∃ c, v = .bl c ∧ KT c L
theorem wt_cmp {op : CmpOp} (hm : behindInMarks op b = false) (h : WE X a σ L fun x L1 => WE X b σ L1 fun y L2 => WO X (compareOp op) x y L2 (KB KT)) : WT X (.Compare a [op] [b] pos) σ L KT :=
  wt_of (pt_cmpR op_sem pe_sem pe_sem hm) fun _ hL => e_then h hL fun _ _ _ h1 k1 => e_then k1 h1 fun _ _ _ h2 k2 => o_then k2 h2 fun _ L3 _ h3 ⟨c, ev, k3⟩ => ⟨c, ev, L3, h3, k3⟩
theorem wt_val (h : WE X e σ L (KB KT)) (he : ∀ whole, isTrue e X.env whole = (do let v ← whole; standAt e.pos; holding [v] (truthy v)) := by intro _; rfl) : WT X e σ L KT :=
  wt_of (pt_val pe_sem he) fun _ hL => e_then h hL fun _ L1 _ h1 ⟨c, ev, k⟩ => ⟨c, ev, L1, h1, k⟩
theorem wt_not (h : WT X a σ L fun c L1 => KT (!c) L1) : WT X (.UnaryOp .Not a pos) σ L KT := wt_of (pt_not pt_sem) fun _ hL => t_then h hL fun _ L1 _ h1 k => ⟨L1, h1, k⟩
theorem ww_and1 (h : WT X a σ L KT) : WW X (.BoolOp .And [a] pos) σ L KT := ww_of (pw_and1 pt_sem) fun H hL => h H hL
theorem ww_or1 (h : WT X a σ L KT) : WW X (.BoolOp .Or [a] pos) σ L KT := ww_of (pw_or1 pt_sem) fun H hL => h H hL
theorem ww_and (h : WT X a σ L fun c L1 => (c = true → WW X (.BoolOp .And (b :: es) pos) σ L1 KT) ∧ (c = false → KT false L1)) : WW X (.BoolOp .And (a :: b :: es) pos) σ L KT :=
  ww_of (pw_and pt_sem pw_sem) fun _ hL => t_then h hL fun c L1 H1 h1 k => by
    cases c with
    | true => exact iteT (k.1 rfl H1 h1)
    | false => exact iteF ⟨L1, h1, k.2 rfl⟩
theorem ww_or (h : WT X a σ L fun c L1 => (c = false → WW X (.BoolOp .Or (b :: es) pos) σ L1 KT) ∧ (c = true → KT true L1)) : WW X (.BoolOp .Or (a :: b :: es) pos) σ L KT :=
  ww_of (pw_or pt_sem pw_sem) fun _ hL => t_then h hL fun c L1 H1 h1 k => by
    cases c with
    | true => exact iteT ⟨L1, h1, k.2 rfl⟩
    | false => exact iteF (k.1 rfl H1 h1)
theorem wt_ww (h : WW X e σ L KT) : WT X e σ L KT := fun H hL pins s I => h H hL _ pins s I
theorem we_one {op} (h : WE X a σ L K) : WE X (.BoolOp op [a] pos) σ L K := we_of (pe_one pe_sem) fun H hL => h H hL
theorem we_and (h : WE X a σ L (KB fun c L1 => (c = true → WE X (.BoolOp .And (b :: es) pos) σ L1 K) ∧ (c = false → K (.bl false) L1))) : WE X (.BoolOp .And (a :: b :: es) pos) σ L K :=
  we_of (pe_and pe_sem pe_sem) fun _ hL => e_then h hL fun _ L1 H1 h1 ⟨c, ev, k⟩ => ⟨c, ev, by
    cases c with
    | true => exact iteT (k.1 rfl H1 h1)
    | false => exact iteF ⟨L1, h1, k.2 rfl⟩⟩
theorem we_or (h : WE X a σ L (KB fun c L1 => (c = false → WE X (.BoolOp .Or (b :: es) pos) σ L1 K) ∧ (c = true → K (.bl true) L1))) : WE X (.BoolOp .Or (a :: b :: es) pos) σ L K :=
  we_of (pe_or pe_sem pe_sem) fun _ hL => e_then h hL fun _ L1 H1 h1 ⟨c, ev, k⟩ => ⟨c, ev, by
    cases c with
    | true => exact iteT ⟨L1, h1, k.2 rfl⟩
    | false => exact iteF (k.1 rfl H1 h1)⟩
theorem we_not (h : WE X a σ L (KB fun c L1 => K (.bl (!c)) L1)) : WE X (.UnaryOp .Not a pos) σ L K := we_of (pe_not pe_sem) fun _ hL => e_then h hL fun _ L1 _ h1 ⟨c, ev, k⟩ => ⟨c, ev, L1, h1, k⟩
theorem we_ifExp {c : Expr} (h : WT X c σ L fun t L1 => (t = true → WE X a σ L1 K) ∧ (t = false → WE X b σ L1 K)) : WE X (.IfExp c a b pos) σ L K :=
  we_of (pe_ifExp pt_sem pe_sem pe_sem) fun _ hL => t_then h hL fun t _ H1 h1 k => by
    cases t with
    | true => exact iteT (k.1 rfl H1 h1)
    | false => exact iteF (k.2 rfl H1 h1)
theorem wa_nil (k : KA [] L) : WA X [] σ L KA := wa_of pa_nil fun _ hL => ⟨L, hL, k⟩
theorem wa_cons (h : WE X e σ L fun v L1 => WA X es σ L1 fun vs L2 => KA (v :: vs) L2) (hs : starEach (e :: es) X.env = (false, eval e X.env) :: starEach es X.env := by rfl) : WA X (e :: es) σ L KA :=
  wa_of (pa_cons pe_sem pa_sem hs) fun _ hL => e_then h hL fun _ _ _ h1 k1 => a_then k1 h1 fun _ L2 _ h2 k2 => ⟨L2, h2, k2⟩
theorem we_tup {j} (h : WA X es σ L fun vs L1 => vs.length ≤ sizeLine ∧ ∀ p, K (.ref p) ((p, .tup vs) :: L1)) : WE X (.Tuple es j pos) σ L K :=
  we_of (pe_tup pa_sem) fun _ hL => a_then h hL fun _ L1 _ h1 k => ⟨k.1, fun p hp => ⟨_, h1.new hp, k.2 p⟩⟩
theorem we_lst (h : WA X es σ L fun vs L1 => vs.length ≤ sizeLine ∧ ∀ p, K (.ref p) ((p, .lst vs) :: L1)) : WE X (.List es pos) σ L K :=
  we_of (pe_lst pa_sem) fun _ hL => a_then h hL fun _ L1 _ h1 k => ⟨k.1, fun p hp => ⟨_, h1.new hp, k.2 p⟩⟩
theorem we_fld {f : Str} (h : WE X e σ L fun x L1 => ∃ a C dx fs v, x = .ref a ∧ Mem a (.ins C dx fs) L1 ∧ Cls X.K C ∧ NoAttr X.K C f ∧ fs.lookup f = some v ∧ K v L1) (hb : attributeBase e f X.env (eval e X.env) = eval e X.env := by rfl) :
    WE X (.Attribute e f pos) σ L K := we_of (pe_fld pe_sem hb) fun _ hL => e_then h hL fun _ L1 _ h1 ⟨a, C, dx, fs, v, e1, m, c, n, l, k⟩ => ⟨a, C, dx, fs, v, e1, h1.get m, c, n, l, L1, h1, k⟩

/-! ### statements -/
theorem wss_nil (k : D.nx σ L) : WSs X [] σ L D := wss_of pss_nil fun _ hL => ⟨L, hL, k⟩
theorem to_nx {D : EndsL} {N : St → LH → Prop} : ({ D with nx := N } : EndsL).to = { D.to with nx := QS N } := rfl
theorem wss_cons (h : WS X st σ L { D with nx := fun σ' L' => WSs X sts σ' L' D }) : WSs X (st :: sts) σ L D :=
  wss_of (pss_cons ps_sem pss_sem) fun H hL => (h H hL).mono ⟨fun _ H' ⟨_, h1, k⟩ => k H' h1, fun _ _ q => q, fun _ _ q => q, fun _ _ q => q⟩
theorem ws_expr (h : WE X e σ L fun _ L1 => D.nx σ L1) (hs : swapsWith e none pos.line X.env = pure false := by rfl) : WS X (.Expr e pos) σ L D :=
  ws_of (ps_expr pe_sem hs) fun _ hL => e_then h hL fun _ L1 _ h1 k => ⟨L1, h1, k⟩
theorem ws_ret (h : WE X e σ L D.rt) : WS X (.Return (some e) pos) σ L D := ws_of (ps_ret pe_sem) fun H hL => h H hL
theorem ws_pass (k : D.nx σ L) : WS X (.Pass pos) σ L D := ws_of ps_pass fun _ hL => ⟨L, hL, k⟩
theorem ws_if {c : Expr} {ss ts : List Stmt} (h : WT X c σ L fun t L1 => (t = true → WSs X ss σ L1 D) ∧ (t = false → WSs X ts σ L1 D)) : WS X (.If c ss ts pos) σ L D :=
  ws_of (ps_if pt_sem pss_sem pss_sem) fun _ hL => t_then h hL fun t _ H1 h1 k => by
    cases t with
    | true => exact iteT (k.1 rfl H1 h1)
    | false => exact iteF (k.2 rfl H1 h1)
theorem ws_asg {tg : Expr} (h : WE X e σ L fun v L1 => WG X tg v σ L1 D.nx) (hs : swapsWithSole [tg] e pos.line X.env = pure false := by rfl) (hw : swappedStores [tg] e X.env = pure none := by rfl) (h1 : (assignEach [tg] X.env).map (·.2) = [assign tg X.env] := by rfl) : WS X (.Assign [tg] e pos) σ L D :=
  ws_of (ps_asg pe_sem pg_sem hs hw h1) fun _ hL => e_then h hL fun _ _ H1 h1 k => k H1 h1
theorem ws_set (i : Nat) {x : Str} {pos' : Pos} (h : WE X e σ L fun v L1 => D.nx (σ.set i (some v)) L1) (hN : X.N.Nodup) (hi : X.N[i]? = some x) (hx : Loc X.env.scope x) (hs : swapsWith e (some (.Name x pos')) pos.line X.env = pure false := by rfl)
    (hf : X.fn x = true ∨ X.env.scope.names.lookup x = some .local := by first | exact .inl rfl | exact .inr rfl | assumption) : WS X (.Assign [.Name x pos'] e pos) σ L D :=
  ws_of (ps_set hN hi hx pe_sem hs hf) fun _ hL => e_then h hL fun _ L1 _ h1 k => ⟨L1, h1, k⟩
theorem wg_name (i : Nat) {x : Str} {v : V} (k : KS (σ.set i (some v)) L) (hN : X.N.Nodup) (hi : X.N[i]? = some x) (hx : Loc X.env.scope x) (hf : X.fn x = true ∨ X.env.scope.names.lookup x = some .local := by first | exact .inl rfl | exact .inr rfl | assumption) :
    WG X (.Name x pos) v σ L KS := wg_of (pg_name hN hi hx hf) fun _ hL => ⟨L, hL, k⟩
theorem wgs_nil (k : KS σ L) : WGs X [] [] σ L KS := wgs_of pgs_nil fun _ hL => ⟨rfl, L, hL, k⟩
theorem wgs_cons {v : V} {vs : List V} (h : WG X e v σ L fun σ1 L1 => WGs X es vs σ1 L1 KS) (hs : (assignEach (e :: es) X.env).map (·.2) = assign e X.env :: (assignEach es X.env).map (·.2) := by rfl) : WGs X (e :: es) (v :: vs) σ L KS :=
  wgs_of (pgs_cons pg_sem pgs_sem hs) fun _ hL => ⟨v, vs, rfl, g_then h hL fun _ _ H1 h1 k => k H1 h1⟩
theorem wg_tup {a : Addr} {vs : List V} {j : Nat} (hc : X.calm = true) (m : Mem a (.tup vs) L) (h : WGs X es vs σ L KS) (hl : vs.length = es.length) (hn : (assignEach es X.env).length = es.length := by rfl) (hst : (assignEach es X.env).findIdx? (·.1) = none := by rfl) :
    WG X (.Tuple es j pos) (.ref a) σ L KS := wg_of (pg_tup (n := es.length) hc pgs_sem hn hst) fun H hL => ⟨a, vs, rfl, SqT.of (hL.get m), hl, h H hL⟩
end
end N3

set_option Elab.async false
set_option linter.all false
set_option maxRecDepth 100000
set_option maxHeartbeats 4000000
namespace N3
open PySem PySem.Spec L2
open PyProof.Rows (envOfC)
/-! ### forgetting -/
theorem Sub.of_sublist {L L' : LH} (h : L'.Sublist L) : Sub L L' := fun _ hL => ⟨(h.map _).nodup hL.nd, fun a o m => hL.at_ a o (h.mem m)⟩
theorem Sub.trans {L L' L2 : LH} (a : Sub L L') (b : Sub L' L2) : Sub L L2 := fun H h => b H (a H h)
theorem Mem.app {a : Addr} {o : HO} {L : LH} (h : Mem a o L) : ∀ J : LH, Mem a o (J ++ L)
  | [] => h
  | _ :: J => .tail (Mem.app h J)
theorem Hole.app {a : Addr} {o : HO} {L : LH} {F : HO → LH} (h : Hole a o L F) : ∀ J : LH, Hole a o (J ++ L) (fun o' => J ++ F o')
  | [] => h
  | _ :: J => .tail (Hole.app h J)
/-- a written-part or tracked list, tuple -/
def SqLL (K : PySem.W.Frag) (a : Addr) (xs : List V) (L : LH) : Prop := ∀ H, Holds L H → SqL K H a xs
theorem SqLL.of {K : PySem.W.Frag} {a : Addr} {xs : List V} {L : LH} (m : Mem a (.lst xs) L) : SqLL K a xs L := fun _ h => SqL.of (h.get m)
theorem SqLL.fz {K : PySem.W.Frag} {a : Addr} {xs : List V} {L : LH} {ob : Obj} (m : Mem a (.frz ob (.lst xs)) L) : SqLL K a xs L := fun _ h => .inl (.inr ⟨ob, h.get m⟩)

/-! ### promises -/
/-- a promise by what is known: the arguments, what is known, what is to follow -/
abbrev Pre := List V → LH → (V → LH → Prop) → Prop
def SpL (pre : Pre) : Sp := fun vs H Q _ => ∃ L K, Holds L H ∧ pre vs L K ∧ ∀ v H', QE K v H' → Q v H'
/-- what a body is to reach: the promise's end, some things forgotten -/
def EndOf (K : V → LH → Prop) : EndsL := ⟨fun _ L => ∃ L', Sub L L' ∧ K .non L', fun v L => ∃ L', Sub L L' ∧ K v L', fun _ _ => False, fun _ _ => False⟩
theorem QE.sub {K : V → LH → Prop} {v : V} {H : Hp} (h : QE (fun v L => ∃ L', Sub L L' ∧ K v L') v H) : QE K v H := by
  obtain ⟨L, hL, L', s, k⟩ := h
  exact ⟨L', s H hL, k⟩
section
variable {P : Program} {w : World} {K : PySem.W.Frag} {mg : Str → Option Value} {base : Heap}
theorem fnL {x qual : Str} {st : Stmt} {f : Addr} {fd : FuncData} {N ps : List Str} {k : Nat} {pre : Pre} (F : Fun K x qual st f fd) (S : FnScope N ps (defScope st)) (len : ∀ vs L Kk, pre vs L Kk → vs.length = ps.length)
    (body : ∀ (cdv : Value) (A : Around) (outer : List Env) (s : Shared) (H : Hp) (vs : List V) (E : XK) (L : LH) (Kk : V → LH → Prop), Room k (A.deeper (envOfC qual (defScope st) s.heap.objs.size f cdv)) → pre vs L Kk →
      WSs (cxOf CX0 P w K mg base N qual (defScope st) f cdv A outer s H E).nox (defBody st) (start N vs) L (EndOf Kk)) : FnOk P w K mg base CX0 (k + 1) f fd ps (SpL pre) := by
  refine F.ok S (fun vs H Q E h => ?_) (fun cdv A outer s H vs Q E hr h => ?_)
  · obtain ⟨L, Kk, _, hp, _⟩ := h
    exact len vs L Kk hp
  · obtain ⟨L, Kk, hL, hp, hk⟩ := h
    refine ⟨_, pss_sem, (body cdv A outer s H vs E L Kk hr hp H hL).mono ⟨fun σ H' q => ?_, fun v H' q => hk v H' q.sub, fun _ _ q => ?_, fun _ _ q => ?_⟩⟩
    · obtain ⟨L1, h1, L2, s2, k2⟩ := q
      exact hk _ _ ⟨L2, s2 _ h1, k2⟩
    · obtain ⟨_, _, q⟩ := q
      exact q.elim
    · obtain ⟨_, _, q⟩ := q
      exact q.elim
/-- a def of the module, with what is known of it -/
structure GFn (P : Program) (w : World) (K : PySem.W.Frag) (mg : Str → Option Value) (base : Heap) (x : Str) (k : Nat) (ps : List Str) (dvs : List V) (pre : Pre) : Prop where
  ex : ∃ f fd ds, FnOk P w K mg base CX0 k f fd ps (SpL pre) ∧ mg x = some (.ref f) ∧ PySem.W.keepIn K (.ref f) = true ∧ Binds K fd ps ds ∧ Vals dvs ds
/-- a method of the class at C -/
structure GMe (P : Program) (w : World) (K : PySem.W.Frag) (mg : Str → Option Value) (base : Heap) (C : Addr) (m : Str) (k : Nat) (ps : List Str) (dvs : List V) (pre : Pre) : Prop where
  ex : ∃ f fd ds, FnOk P w K mg base CX0 k f fd ps (SpL pre) ∧ Cls K C ∧ Meth K C m f ∧ Binds K fd ps ds ∧ Vals dvs ds
/-- a property -/
structure GPr (P : Program) (w : World) (K : PySem.W.Frag) (mg : Str → Option Value) (base : Heap) (C : Addr) (m : Str) (k : Nat) (ps : List Str) (pre : Pre) : Prop where
  ex : ∃ p f fd, FnOk P w K mg base CX0 k f fd ps (SpL pre) ∧ Cls K C ∧ PropOf K C m p f ∧ Binds K fd ps []
/-- a class by its name, made -/
structure GMk (P : Program) (w : World) (K : PySem.W.Frag) (mg : Str → Option Value) (base : Heap) (x : Str) (C : Addr) (k : Nat) (ps : List Str) (dvs : List V) (pre : Pre) : Prop where
  ex : ∃ f fd ds, FnOk P w K mg base CX0 k f fd ps (SpL pre) ∧ mg x = some (.ref C) ∧ Mk K C f ∧ Binds K fd ps ds ∧ Vals dvs ds
end
section
variable {X : Cx} {e a b l : Expr} {es : List Expr} {st : Stmt} {sts body : List Stmt} {σ : St} {L : LH} {K : V → LH → Prop} {KT : Bool → LH → Prop} {KA : List V → LH → Prop} {KS : St → LH → Prop} {D : EndsL} {pos apos p : Pos} {x m f : Str} {C : Addr} {k : Nat} {ps : List Str} {dvs : List V} {pre : Pre}
theorem we_call (G : GFn X.prog X.w X.K X.mg X.base x k ps dvs pre) (hr : Room k X.A) (h : WA X (e :: es) σ L fun vs L1 => pre (vs ++ dvs) L1 K) (hg : Gl X x := by rfl) (hdb : (x == ("__debug__" : Str)) = false := by decide)
    (he : starEach (e :: es) X.env = (false, eval e X.env) :: starEach es X.env := by rfl) (hpl : (backTo pos (starEach es X.env)).any (·.1) = false := by rfl) : WE X (.Call (.Name x p) (e :: es) [] pos) σ L K := by
  obtain ⟨f, fd, ds, F, hm, hk, hb, hd⟩ := G.ex
  exact we_of (pe_call (E := E0) F hr hg hm hk hb hd pass0 pa_sem hdb he hpl) fun _ hL => a_then h hL fun vs L1 _ h1 k1 => ⟨L1, K, h1, k1, fun _ _ q => q⟩
theorem we_call0 (G : GFn X.prog X.w X.K X.mg X.base x k ps dvs pre) (hr : Room k X.A) (h : pre dvs L K) (hg : Gl X x := by rfl) (hdb : (x == ("__debug__" : Str)) = false := by decide) : WE X (.Call (.Name x p) [] [] pos) σ L K := by
  obtain ⟨f, fd, ds, F, hm, hk, hb, hd⟩ := G.ex
  exact we_of (pe_call0 (E := E0) F hr hg hm hk hb hd pass0 hdb) fun _ hL => ⟨L, K, hL, h, fun _ _ q => q⟩
/-- o.m(e, ..): the object's own attributes don't hide m -/
theorem we_meth {pl : Sem Bool} (G : GMe X.prog X.w X.K X.mg X.base C m k ps dvs pre) (hr : Room k X.A) (h : WE X a σ L fun x L1 => ∃ o dx fs, x = .ref o ∧ Mem o (.ins C dx fs) L1 ∧ fs.lookup m = none ∧ WA X (e :: es) σ L1 fun vs L2 => pre (.ref o :: (vs ++ dvs)) L2 K)
    (hst : starEach (e :: es) X.env = (false, eval e X.env) :: starEach es X.env := by rfl) (hpl : (backTo pos (starEach es X.env)).any (·.1) = false := by rfl)
    (ht : eval (.Call (.Attribute a m apos) (e :: es) [] pos) X.env = (do
      let ov ← eval a X.env
      standAt apos.atName
      let (f, first) ← holding [ov] (getMethod ov m pl)
      callWith pos f first (backTo pos (starEach (e :: es) X.env)) (backToKw pos (keywordEach [] X.env))) := by rfl) : WE X (.Call (.Attribute a m apos) (e :: es) [] pos) σ L K := by
  obtain ⟨f, fd, ds, F, hc, hm, hb, hd⟩ := G.ex
  exact we_of (pe_meth (E := E0) (pl := pl) pe_sem hc hm F hr hb hd pass0 pa_sem hst hpl ht) fun _ hL => e_then h hL fun x L1 _ h1 ⟨o, dx, fs, ex, mm, hl, k1⟩ => by
    subst ex
    exact ⟨o, dx, fs, rfl, h1.get mm, hl, a_then k1 h1 fun vs L2 _ h2 k2 => ⟨L2, K, h2, k2, fun _ _ q => q⟩⟩
theorem we_meth0 {pl : Sem Bool} (G : GMe X.prog X.w X.K X.mg X.base C m k ps dvs pre) (hr : Room k X.A) (h : WE X a σ L fun x L1 => ∃ o dx fs, x = .ref o ∧ Mem o (.ins C dx fs) L1 ∧ fs.lookup m = none ∧ pre (.ref o :: dvs) L1 K)
    (ht : eval (.Call (.Attribute a m apos) [] [] pos) X.env = (do
      let ov ← eval a X.env
      standAt apos.atName
      let (f, first) ← holding [ov] (getMethod ov m pl)
      callWith pos f first (backTo pos (starEach [] X.env)) (backToKw pos (keywordEach [] X.env))) := by rfl) : WE X (.Call (.Attribute a m apos) [] [] pos) σ L K := by
  obtain ⟨f, fd, ds, F, hc, hm, hb, hd⟩ := G.ex
  exact we_of (pe_meth0 (E := E0) (pl := pl) pe_sem hc hm F hr hb hd pass0 ht) fun _ hL => e_then h hL fun x L1 _ h1 ⟨o, dx, fs, ex, mm, hl, k1⟩ => by
    subst ex
    exact ⟨o, dx, fs, rfl, h1.get mm, hl, L1, K, h1, k1, fun _ _ q => q⟩
theorem we_prop (G : GPr X.prog X.w X.K X.mg X.base C m k ps pre) (hr : Room (k + 1) X.A) (h : WE X e σ L fun x L1 => ∃ o dx fs, x = .ref o ∧ Mem o (.ins C dx fs) L1 ∧ pre [.ref o] L1 K) (hab : attributeBase e m X.env (eval e X.env) = eval e X.env := by rfl) :
    WE X (.Attribute e m pos) σ L K := by
  obtain ⟨p, f, fd, F, hc, hp, hb⟩ := G.ex
  exact we_of (pe_prop (E := E0) (dvs := []) pe_sem hc hp F hr hb .nil (fun _ _ _ _ _ _ _ h => h.elim) hab) fun _ hL => e_then h hL fun x L1 _ h1 ⟨o, dx, fs, ex, mm, k1⟩ => by
    subst ex
    exact ⟨o, dx, fs, rfl, h1.get mm, L1, K, h1, k1, fun _ _ q => q⟩
/-- X(e, ..): a new instance; its __init__ is told with the instance ahead of what is known -/
theorem we_make (G : GMk X.prog X.w X.K X.mg X.base x C k ps dvs pre) (hr : Room (k + 1) X.A)
    (h : WA X (e :: es) σ L fun vs L1 => ∀ o dx, pre (.ref o :: (vs ++ dvs)) ((o, .ins C dx []) :: L1) fun v L2 => v = .non ∧ K (.ref o) L2) (hg : Gl X x := by rfl) (hdb : (x == ("__debug__" : Str)) = false := by decide)
    (he : starEach (e :: es) X.env = (false, eval e X.env) :: starEach es X.env := by rfl) (hpl : (backTo pos (starEach es X.env)).any (·.1) = false := by rfl) : WE X (.Call (.Name x p) (e :: es) [] pos) σ L K := by
  obtain ⟨f, fd, ds, F, hm, M, hb, hd⟩ := G.ex
  exact we_of (pe_make (E := E0) M F hr hg hm hb hd pass0 pa_sem hdb he hpl) fun _ hL => a_then h hL fun vs L1 H1 h1 k1 o dx ho hdx ne => by
    have hh : Holds ((o, HO.ins C dx []) :: L1) (upd (upd H1 dx (.own o)) o (.ins C dx [])) := by
      have z := h1.new (o := .own o) hdx
      have z2 := z.new (p := o) (o := .ins C dx []) (by rw [upd_ne ne.symm]; exact ho)
      exact z2.drop1
    refine ⟨_, fun v L2 => v = .non ∧ K (.ref o) L2, hh, k1 o dx, fun v H' q => ?_⟩
    obtain ⟨L2, h2, ev, q⟩ := q
    exact ⟨ev, L2, h2, q⟩
/-- built-ins by their names -/
theorem we_callB {id : String} (hm : X.mg x = none) (hv : bootBuiltins x = some (.builtin id)) (h : WA X (e :: es) σ L fun vs L1 => WC X (.builtin id) vs L1 K) (hg : Gl X x := by rfl) (hn : x ≠ "__name__" := by decide) (hdb : (x == ("__debug__" : Str)) = false := by decide)
    (he : starEach (e :: es) X.env = (false, eval e X.env) :: starEach es X.env := by rfl) (hpl : (backTo pos (starEach es X.env)).any (·.1) = false := by rfl) : WE X (.Call (.Name x p) (e :: es) [] pos) σ L K :=
  we_of (pe_callB call_sem hg hm hv pa_sem hn hdb he hpl) fun _ hL => a_then h hL fun _ _ H1 h1 k1 => k1 H1 h1
theorem we_callTy {T : String} (hm : X.mg x = none) (hv : bootBuiltins x = some (.type T)) (h : WA X (e :: es) σ L fun vs L1 => WC X (.type T) vs L1 K) (hg : Gl X x := by rfl) (hn : x ≠ "__name__" := by decide) (hdb : (x == ("__debug__" : Str)) = false := by decide)
    (he : starEach (e :: es) X.env = (false, eval e X.env) :: starEach es X.env := by rfl) (hpl : (backTo pos (starEach es X.env)).any (·.1) = false := by rfl) : WE X (.Call (.Name x p) (e :: es) [] pos) σ L K :=
  we_of (pe_callTy call_sem hg hm hv pa_sem hn hdb he hpl) fun _ hL => a_then h hL fun _ _ H1 h1 k1 => k1 H1 h1
theorem we_bltn {v : V} {u : Value} (hm : X.mg x = none) (hv : bootBuiltins x = some u) (r : RelV v u) (k : K v L) (hg : Gl X x := by rfl) (hn : x ≠ "__name__" := by decide) (hdb : (x == ("__debug__" : Str)) = false := by decide) : WE X (.Name x pos) σ L K :=
  we_of (pe_bltn hg hm hv r hn hdb) fun _ hL => ⟨L, hL, k⟩
/-- a module's name for a built-in function -/
theorem we_callFn {id : String} (hm : X.mg x = some (.builtin id)) (h : WA X (e :: es) σ L fun vs L1 => WC X (.builtin id) vs L1 K) (hg : Gl X x := by rfl) (hdb : (x == ("__debug__" : Str)) = false := by decide)
    (he : starEach (e :: es) X.env = (false, eval e X.env) :: starEach es X.env := by rfl) (hpl : (backTo pos (starEach es X.env)).any (·.1) = false := by rfl) : WE X (.Call (.Name x p) (e :: es) [] pos) σ L K :=
  we_of (pe_callBfun call_sem hg hm pa_sem hdb he hpl) fun _ hL => a_then h hL fun _ _ H1 h1 k1 => k1 H1 h1

/-! ### operations on values -/
theorem wo_I0 {g : Int → Int → V} {fo : Value → Value → Sem Value} {i j : Int} (ho : OpR X fo (rI0 g)) (k : K (g i j) L) : WO X fo (.int i) (.int j) L K := wo_of ho fun _ hL => ⟨i, j, rfl, rfl, L, hL, k⟩
theorem wo_I {g : Int → Int → V} {Cc : Int → Int → Prop} {fo : Value → Value → Sem Value} {i j : Int} (ho : OpR X fo (rI Cc g)) (hc : Cc i j) (k : K (g i j) L) : WO X fo (.int i) (.int j) L K := wo_of ho fun _ hL => ⟨i, j, rfl, rfl, hc, L, hL, k⟩
theorem wo_add {i j : Int} (k : K (.int (i + j)) L) : WO X (binaryOp .Add) (.int i) (.int j) L K := wo_I0 op_add k
theorem wo_sub {i j : Int} (k : K (.int (i - j)) L) : WO X (binaryOp .Sub) (.int i) (.int j) L K := wo_I0 op_sub k
theorem wo_lt {i j : Int} (k : K (.bl (decide (i < j))) L) : WO X (compareOp .Lt) (.int i) (.int j) L K := wo_I0 op_lt k
theorem wo_le {i j : Int} (k : K (.bl (decide (i ≤ j))) L) : WO X (compareOp .LtE) (.int i) (.int j) L K := wo_I0 op_le k
theorem wo_gt {i j : Int} (k : K (.bl (decide (j < i))) L) : WO X (compareOp .Gt) (.int i) (.int j) L K := wo_I0 op_gt k
theorem wo_ge {i j : Int} (k : K (.bl (decide (j ≤ i))) L) : WO X (compareOp .GtE) (.int i) (.int j) L K := wo_I0 op_ge k
theorem wo_mod {i j : Int} (hj : 0 < j) (k : K (.int (i % j)) L) : WO X (binaryOp .Mod) (.int i) (.int j) L K := wo_I op_mod hj k
theorem wo_pow {i j : Int} (hc : CPow i j) (k : K (.int (i ^ j.toNat)) L) : WO X (binaryOp .Pow) (.int i) (.int j) L K := wo_I op_pow hc k
theorem wo_mul {i j : Int} (hc : CMul i j) (k : K (.int (i * j)) L) : WO X (binaryOp .Mult) (.int i) (.int j) L K := wo_I op_mul hc k
theorem wo_fdiv {i j : Int} (hc : CDiv i j) (k : K (.int (i / j)) L) : WO X (binaryOp .FloorDiv) (.int i) (.int j) L K := wo_I op_fdiv hc k
theorem wo_cat {i j : Str} (hl : i.length + j.length ≤ sizeLine) (k : K (.str (i ++ j)) L) : WO X (binaryOp .Add) (.str i) (.str j) L K := wo_of op_add_str fun _ hL => ⟨i, j, rfl, rfl, hl, L, hL, k⟩
theorem wo_eq {v u : V} (hs : scal v u = true) (k : K (.bl (decide (v = u))) L) : WO X (compareOp .Eq) v u L K := wo_of op_eq fun _ hL => ⟨hs, L, hL, k⟩
theorem wo_ne {v u : V} (hs : scal v u = true) (k : K (.bl (!decide (v = u))) L) : WO X (compareOp .NotEq) v u L K := wo_of op_ne fun _ hL => ⟨hs, L, hL, k⟩
theorem wu_neg {i : Int} (k : K (.int (-i)) L) : WU X (unaryOp .USub) (.int i) L K := wu_of un_neg fun _ hL => ⟨i, rfl, L, hL, k⟩
theorem wc_abs {i : Int} (k : K (.int (if i < 0 then -i else i)) L) : WC X (.builtin "abs") [.int i] L K := wc_of call_abs fun _ hL => ⟨i, rfl, L, hL, k⟩
theorem wc_max {i j : Int} (hc : X.calm = true) (k : K (.int (if j > i then j else i)) L) : WC X (.builtin "max") [.int i, .int j] L K := wc_of (call_max2 hc) fun _ hL => ⟨i, j, rfl, L, hL, k⟩
theorem wc_min {i j : Int} (hc : X.calm = true) (k : K (.int (if j < i then j else i)) L) : WC X (.builtin "min") [.int i, .int j] L K := wc_of (call_min2 hc) fun _ hL => ⟨i, j, rfl, L, hL, k⟩
theorem wc_int {i : Int} (k : K (.int i) L) : WC X (.type "int") [.int i] L K := wc_of call_int1 fun _ hL => .inl ⟨i, rfl, L, hL, k⟩
theorem wc_intB {i : Bool} (k : K (.int (if i then 1 else 0)) L) : WC X (.type "int") [.bl i] L K := wc_of call_int1 fun _ hL => .inr ⟨i, rfl, L, hL, k⟩
theorem wc_strI {i : Int} (hi : i.natAbs.log2 < 1920) (k : K (.str (toString i)) L) : WC X (.type "str") [.int i] L K := wc_of call_str_int fun _ hL => ⟨i, rfl, hi, L, hL, k⟩
theorem wc_gcd {i j : Int} (k : K (.int ((Nat.gcd i.natAbs j.natAbs : Nat) : Int)) L) : WC X (.builtin "math.gcd") [.int i, .int j] L K := wc_of cr_gcd fun _ hL => ⟨i, j, rfl, L, hL, k⟩
theorem wc_divmod {i j : Int} (hc : CDiv i j) (k : ∀ p, K (.ref p) ((p, .tup [.int (i / j), .int (i % j)]) :: L)) : WC X (.builtin "divmod") [.int i, .int j] L K := wc_of call_divmod fun _ hL => ⟨i, j, rfl, hc, fun p hp => ⟨_, hL.new hp, k p⟩⟩
theorem wc_len {q : Addr} {xs : List V} (h : SqLL X.K q xs L) (k : K (.int (xs.length : Int)) L) : WC X (.builtin "len") [.ref q] L K := wc_of call_len_seq fun H hL => ⟨q, xs, rfl, .inl (h H hL), L, hL, k⟩
/-- what type a value has, as isinstance asks -/
def TyL (K : PySem.W.Frag) (v : V) (t : Value) (L : LH) : Prop := ∀ H, Holds L H → TyX K H v t
theorem wc_isi {v c : V} {t u : Value} {r : Bool} (hc : ClsV c u) (ht : TyL X.K v t L) (hk : PySem.W.kitOne X.K t u = some r) (k : K (.bl r) L) : WC X (.builtin "isinstance") [v, c] L K :=
  wc_of call_isi fun H hL => ⟨v, c, t, u, r, rfl, hc, ht H hL, hk, L, hL, k⟩
end
end N3

set_option Elab.async false
set_option linter.all false
set_option maxRecDepth 100000
set_option maxHeartbeats 4000000
namespace PySem.W
open PySem PySem.Calls PyProof.Rows Builtin
section
variable {prog : Program} {w : World} {A : Around} {E : Value → Shared → Prop} {s : Shared} {K : Frag} {x C f : Addr} {ox : Obj} {od : Option Obj} {b tb : Value}
theorem n3_ifBoundB {M : Model} {name : Str} {id : String} {args : List Value} {Q : Option Value → Shared → Prop} (X : K.In s.heap) (I : InstAt s.heap x ox C od) (hs : findIn K (.ref C) name = some (some (.builtin id)))
    (hb : ∀ self, bindSpecial (.builtin id) self = pure (.builtin id, [self])) (h : wpAny M A (call (.builtin id) (.ref x :: args)) (fun v => Q (some v)) E s) : wpAny M A (callSpecialIfBound? (.ref x) name args) Q E s := by
  simp only [callSpecialIfBound?, bindSpecialIfBound?]
  refine wpAny_holding (wpAny_bind (wpAny_bind (wpAny_bind (I.type.here ((looks_findIn X hs).here ?_)))))
  refine wpAny_bind (wpAny_askSetting (wpAny_ite ?_))
  have fin : wpAny M A (call (.builtin id) ([.ref x] ++ args) >>= fun v => pure (some v)) Q E s := wpAny_bind (wpAny_mono h (fun v s' h' => wpAny_pure h') fun _ _ h' => h')
  split
  · exact wpAny_bind ((Looks.of_pure (hb _)).here (wpAny_pure (by exact fin)))
  · exact wpAny_tryCatch (wpAny_bind ((Looks.of_pure (hb _)).here (wpAny_pure (by exact fin))))
theorem n3_objNe (hu : A.units < cLine) (X : K.In s.heap) (I : InstAt s.heap x ox C od) (hs : findIn K (.ref C) "__eq__" = some (some (.ref f))) (hf : isFn K (.ref f) = true) {Q : Fin → Shared → Prop}
    (h : wpAny (model prog w) A (call (.ref f) [.ref x, b]) (fun v s' => ∃ r, v = .bool r ∧ Q (.done (.ret (.bool (!r)))) s') E s) : wpAny (model prog w) A (Builtin.«object.__ne__» ⟨[.ref x, b], []⟩) Q E s := by
  unfold Builtin.«object.__ne__»
  repeat (first
    | with_reducible refine wpAny_cRoomFor hu ?_
    | (refine wpAny_bind (m := callSpecialIfBound? (.ref x) (Str.ofString "__eq__") [b])
        (ifBound_K X I hs hf (wpAny_mono h (fun r s' hr => by
          obtain ⟨b, rfl, hq⟩ := hr
          repeat (first | exact hq | exact wpAny_pure hq | exact wpAny_truthy_bool hq | (refine wpAny_bind (m := truthy (.bool _)) (wpAny_truthy_bool ?_)) | wp_step)) fun _ _ e => e)))
    | wp_step)
theorem n3_tryNe (hu : A.units + 1 < cLine) (X : K.In s.heap) (I : InstAt s.heap x ox C od) (hne : findIn K (.ref C) "__ne__" = some (some (.builtin "object.__ne__"))) (hm : mroIn K C (.type "object") = some true)
    (hs : findIn K (.ref C) "__eq__" = some (some (.ref f))) (hf : isFn K (.ref f) = true) {Q : Option Value → Shared → Prop}
    (h : wpAny (model prog w) A.in1 (call (.ref f) [.ref x, b]) (fun v s' => ∃ r, v = .bool r ∧ Q (some (.bool (!r))) s') E s) : wpAny (model prog w) A (tryCompare (.ref x) "__ne__" b) Q E s := by
  simp only [tryCompare]
  refine wpAny_bind (n3_ifBoundB X I hne PySem.F.slot_object_ne.bind (wpAny_call (codeAny_call_builtin PySem.F.slot_object_ne.plain F.cmpEntry_ne
    (check_slot (i := "object.__ne__") (owner := "object") (n := "__ne__") (by decide +kernel) (by decide +kernel) (I.type.andThen (looks_mroIn X hm)) (F.cmpArgs_ne _ _)
      (n3_objNe (A := A.in1) hu X I hs hf (wpAny_mono h (fun v s' hv => ?_) fun _ _ e => e))))))
  obtain ⟨b, rfl, hq⟩ := hv
  first | exact ⟨b, rfl, wpAny_pure hq⟩ | exact ⟨b, rfl, wpAny_pure (wpAny_pure hq)⟩ | exact ⟨b, rfl, hq⟩
theorem n3_cmpNe {Q : Value → Shared → Prop} (hu : A.units + 1 < cLine) (X : K.In s.heap) (I : InstAt s.heap x ox C od) (hb : Looks (model prog w) s.heap (typeOf b) tb) (hn : notFirst K C tb = true)
    (hne : findIn K (.ref C) "__ne__" = some (some (.builtin "object.__ne__"))) (hm : mroIn K C (.type "object") = some true)
    (hs : findIn K (.ref C) "__eq__" = some (some (.ref f))) (hf : isFn K (.ref f) = true)
    (h : wpAny (model prog w) A.in1 (call (.ref f) [.ref x, b]) (fun v s' => ∃ r, v = .bool r ∧ Q (.bool (!r)) s') E s) : wpAny (model prog w) A (richCompare .NotEq (.ref x) b) Q E s := by
  have one : wpAny (model prog w) A (tryCompare (.ref x) (cmpInfo .NotEq).2.1 b) (fun r s' => ∃ v, r = some v ∧ Q v s') E s :=
    n3_tryNe hu X I hne hm hs hf (wpAny_mono h (fun v s' hv => by
      obtain ⟨r, e, q⟩ := hv
      exact ⟨r, e, _, rfl, q⟩) fun _ _ e => e)
  unfold richCompare
  simp only [oneThing_ref]
  refine wpAny_holding (wpAny_bind (wpAny_cRoomFor (Nat.lt_of_succ_lt hu) ?_))
  refine wpAny_bind (I.type.here (wpAny_bind (hb.here ?_)))
  split
  · rename_i q
    have e : subIn K tb (.ref C) = some false := by
      rcases Bool.or_eq_true_iff.mp hn with e | e
      · rw [beq_iff_eq.mp e] at q; simp at q
      · exact beq_iff_eq.mp e
    refine wpAny_bind ((looks_subIn X e).here ?_)
    simp only [Bool.false_eq_true, if_false]
    refine wpAny_bind (wpAny_mono one (fun r s' z => ?_) fun _ _ e => e)
    obtain ⟨v, rfl, hq⟩ := z
    exact wpAny_pure hq
  · refine wpAny_bind (wpAny_pure ?_)
    simp only [Bool.false_eq_true, if_false]
    refine wpAny_bind (wpAny_mono one (fun r s' z => ?_) fun _ _ e => e)
    obtain ⟨v, rfl, hq⟩ := z
    exact wpAny_pure hq
end
end PySem.W
namespace N3
open PySem PySem.Spec L2
/-- an own operator of the class at C -/
structure GOp (P : Program) (w : World) (K : PySem.W.Frag) (mg : Str → Option Value) (base : Heap) (C : Addr) (x : Str) (k : Nat) (ps : List Str) (pre : Pre) : Prop where
  ex : ∃ f fd, FnOk P w K mg base CX0 k f fd ps (SpL pre) ∧ PySem.W.findIn K (.ref C) x = some (some (.ref f)) ∧ PySem.W.isFn K (.ref f) = true ∧ Binds K fd ps []
/-- the type of the other operand -/
inductive Rhs (L : LH) : V → Value → Prop where
  | int (i : Int) : Rhs L (.int i) (.type "int")
  | str (i : Str) : Rhs L (.str i) (.type "str")
  | tup {p : Addr} {xs : List V} (m : Mem p (.tup xs) L) : Rhs L (.ref p) (.type "tuple")
  | ins {p C dx : Addr} {fs : List (Str × V)} (m : Mem p (.ins C dx fs) L) : Rhs L (.ref p) (.ref C)
  | dK {p : Addr} {kvs : List (Key × V)} (m : Mem p (.dK kvs) L) : Rhs L (.ref p) (.type "dict")
section
variable {X : Cx} {σ : St} {L : LH} {K : V → LH → Prop} {C o p dx dy : Addr} {fs gs : List (Str × V)} {k : Nat} {ps : List Str} {pre : Pre}
theorem rhs_looks {pins : List (Addr × Obj)} {H : Hp} {s : Shared} {v : V} {u t : Value} (hL : Holds L H) (I : Inv X pins σ H s) (h : Rhs L v t) (r : RelV v u) : PySem.W.Looks (model X.prog X.w) s.heap (typeOf u) t := by
  cases h with
  | int i => obtain ⟨tk, e⟩ := (show ∃ tk, u = Value.int i tk from r); cases e; exact PySem.W.Looks.of_pure rfl
  | str i => obtain ⟨tk, e⟩ := (show ∃ tk, u = Value.str i tk from r); cases e; exact PySem.W.Looks.of_pure rfl
  | tup m =>
    cases r
    obtain ⟨_, its, _, ob, ho, hc, _⟩ := I.hok _ _ (hL.get m)
    have h2 : PySem.W.Looks (model X.prog X.w) s.heap (typeOf (.ref _)) ob.cls := fun A Q E s' k q => wpAny_typeOf_ref (k _ _ ho) q
    rw [hc] at h2
    exact h2
  | ins m =>
    cases r
    obtain ⟨mB, J, _⟩ := ins_get I.hok (hL.get m)
    obtain ⟨od, J, _⟩ := J.look
    exact J.type
  | dK m =>
    cases r
    obtain ⟨_, _, vs, _, ob, es, ep, ho, hc, _⟩ := I.hok _ _ (hL.get m)
    have h2 : PySem.W.Looks (model X.prog X.w) s.heap (typeOf (.ref _)) ob.cls := fun A Q E s' k q => wpAny_typeOf_ref (k _ _ ho) q
    rw [hc.1] at h2
    exact h2
/-- the call of an own operator's def -/
theorem run_op {pins : List (Addr × Obj)} {H : Hp} {s : Shared} {x : Str} {us : List Value} {vs : List V} {L : LH} {K : V → LH → Prop} (G : GOp X.prog X.w X.K X.mg X.base C x k ps pre) {A : Around} (hr : Room k A) (he : A.frames = X.A.frames)
    (hL : Holds L H) (I : Inv X pins σ H s) (r : Vals vs us) (h : pre vs L K) : ∃ f, PySem.W.findIn X.K (.ref C) x = some (some (.ref f)) ∧ PySem.W.isFn X.K (.ref f) = true ∧ wpAny (model X.prog X.w) A (call (.ref f) us) (EP X pins σ (QE K)) X.xe s := by
  obtain ⟨f, fd, F, hs, hf, hb⟩ := G.ex
  refine ⟨f, hs, hf, ?_⟩
  have hsp : SpL pre vs H (QE K) E0 := ⟨L, K, hL, h, fun _ _ q => q⟩
  have e0 : Env0 X.prog X.w X.K X.mg X.base A X.stack s H := by
    have e := I.env0
    exact ⟨by rw [he]; exact e.frames, e.mod, e.bs, e.bsz, e.funs, e.frf, e.hok, e.bare⟩
  have hl := F.len _ _ _ _ hsp
  refine wpAny_call (codeAny_mono (F.run A X.stack s H ⟨us, []⟩ us vs _ E0 hr e0 (by
    have := hb s us I.kIn (by rw [List.append_nil, ← r.length]; exact hl)
    simpa using this) r hsp) fun r s' hq => ?_)
  cases r with
  | error e => exact (hq : False).elim
  | ok fl =>
    cases fl with
    | ret w => exact I.after hq
    | next => exact False.elim hq
    | brk => exact False.elim hq
    | cont => exact False.elim hq
/-- o op o', both of the class -/
theorem wo_own {op : Operator} (G : GOp X.prog X.w X.K X.mg X.base C (PySem.dunder op.info.2) k ps pre) (hc : PySem.W.selfFirst X.K C = true) (hr : Room k X.A) (m : Mem o (.ins C dx fs) L) (m2 : Mem p (.ins C dy gs) L) (h : pre [.ref o, .ref p] L K) :
    WO X (binaryOp op) (.ref o) (.ref p) L K := by
  intro H hL pins s σ v u I r1 r2
  cases r1
  cases r2
  obtain ⟨mA, J, _⟩ := ins_get I.hok (hL.get m)
  obtain ⟨mB, J', _⟩ := ins_get I.hok (hL.get m2)
  obtain ⟨od, J, _⟩ := J.look
  obtain ⟨od', J', _⟩ := J'.look
  obtain ⟨mm, hF⟩ := I.fr
  obtain ⟨f, hs, hf, hrun⟩ := run_op (us := [.ref o, .ref p]) (vs := [.ref o, .ref p]) G hr rfl hL I (.cons rfl (.cons rfl .nil)) h
  refine PySem.W.binop_K hF I.ok.mod.kin J J'.type hc hs hf (wpAny_mono hrun (fun w s' z => ?_) fun _ _ x => x)
  obtain ⟨z', H', I', rz, qz⟩ := z
  exact SlX.cmpback rz ⟨z', H', I', rz, qz⟩
/-- what a class lacks in reflected operators -/
structure NoRefl (K : PySem.W.Frag) (C : Addr) (T : String) (nm : String) : Prop where
  sf : PySem.W.selfFirst K C = true
  nr : PySem.W.findIn K (.ref C) (dunderR nm) = some none
  f1 : ∃ fo, PySem.W.findIn K (.type T) (PySem.dunder nm) = some fo
  f2 : ∃ ro, PySem.W.findIn K (.type T) (dunderR nm) = some ro
  sub : PySem.W.subIn K (.type T) (.ref C) = some false
/-- o op an int -/
theorem wo_ownI {op : Operator} {i : Int} (G : GOp X.prog X.w X.K X.mg X.base C (PySem.dunder op.info.2) k ps pre) (hc : NoRefl X.K C "int" op.info.2) (hr : Room k X.A) (m : Mem o (.ins C dx fs) L) (h : pre [.ref o, .int i] L K) :
    WO X (binaryOp op) (.ref o) (.int i) L K := by
  intro H hL pins s σ v u I r1 r2
  cases r1
  obtain ⟨t, e⟩ := (show ∃ t, u = Value.int i t from r2)
  cases e
  obtain ⟨mA, J, _⟩ := ins_get I.hok (hL.get m)
  obtain ⟨od, J, _⟩ := J.look
  obtain ⟨mm, hF⟩ := I.fr
  obtain ⟨f, hs, hf, hrun⟩ := run_op (us := [.ref o, .int i t]) (vs := [.ref o, .int i]) G hr rfl hL I (.cons rfl (.cons ⟨t, rfl⟩ .nil)) h
  obtain ⟨sf, nr, ⟨fo, f1⟩, ⟨ro, f2⟩, sb⟩ := hc
  refine PySem.W.ksp_binT (T := "int") hF I.ok.mod.kin J (by rfl) sf hs hf nr (.inl rfl) f1 f2 sb (wpAny_mono hrun (fun w s' z => ?_) fun _ _ x => x)
  obtain ⟨z', H', I', rz, qz⟩ := z
  exact SlX.cmpback rz ⟨z', H', I', rz, qz⟩
/-- -o -/
theorem wu_own (G : GOp X.prog X.w X.K X.mg X.base C "__neg__" k ps pre) (hr : Room k X.A) (m : Mem o (.ins C dx fs) L) (h : pre [.ref o] L K) : WU X (unaryOp .USub) (.ref o) L K := by
  intro H hL pins s σ v I r1
  cases r1
  obtain ⟨mA, J, _⟩ := ins_get I.hok (hL.get m)
  obtain ⟨od, J, _⟩ := J.look
  obtain ⟨mm, hF⟩ := I.fr
  obtain ⟨f, hs, hf, hrun⟩ := run_op (us := [.ref o]) (vs := [.ref o]) G hr rfl hL I (.cons rfl .nil) h
  exact PySem.W.ksp_neg hF I.ok.mod.kin J hs hf hrun
/-- o == v, by the own __eq__ -/
theorem wo_ownEq {v : V} {t : Value} (G : GOp X.prog X.w X.K X.mg X.base C "__eq__" k ps pre) (hr : Room k X.A) (m : Mem o (.ins C dx fs) L) (ht : Rhs L v t) (hn : PySem.W.notFirst X.K C t = true) (h : pre [.ref o, v] L K) :
    WO X (compareOp .Eq) (.ref o) v L K := by
  intro H hL pins s σ v1 u I r1 r2
  cases r1
  obtain ⟨mA, J, _⟩ := ins_get I.hok (hL.get m)
  obtain ⟨od, J, _⟩ := J.look
  obtain ⟨mm, hF⟩ := I.fr
  obtain ⟨f, hs, hf, hrun⟩ := run_op (us := [.ref o, u]) (vs := [.ref o, v]) G hr rfl hL I (.cons rfl (.cons r2 .nil)) h
  show wpAny _ _ (richCompare .Eq (.ref o) u) _ _ _
  refine PySem.W.cmp_K (op := .Eq) hr.units0 hF I.ok.mod.kin J (rhs_looks hL I ht r2) hn hs hf (wpAny_mono hrun (fun w s' z => ?_) fun _ _ x => x)
  obtain ⟨z', H', I', rz, qz⟩ := z
  exact SlX.cmpback rz ⟨z', H', I', rz, qz⟩
/-- o != v, by the own __eq__ -/
theorem wo_ownNe {v : V} {t : Value} (G : GOp X.prog X.w X.K X.mg X.base C "__eq__" k ps pre) (hr : Room (k + 1) X.A) (m : Mem o (.ins C dx fs) L) (ht : Rhs L v t) (hn : PySem.W.notFirst X.K C t = true)
    (hne : PySem.W.findIn X.K (.ref C) "__ne__" = some (some (.builtin "object.__ne__"))) (hm : PySem.W.mroIn X.K C (.type "object") = some true) (h : pre [.ref o, v] L (KB fun b L1 => K (.bl (!b)) L1)) :
    WO X (compareOp .NotEq) (.ref o) v L K := by
  intro H hL pins s σ v1 u I r1 r2
  cases r1
  obtain ⟨mA, J, _⟩ := ins_get I.hok (hL.get m)
  obtain ⟨od, J, _⟩ := J.look
  obtain ⟨f, hs, hf, hrun⟩ := run_op (A := X.A.in1) (us := [.ref o, u]) (vs := [.ref o, v]) G hr.in1 rfl hL I (.cons rfl (.cons r2 .nil)) h
  show wpAny _ _ (richCompare .NotEq (.ref o) u) _ _ _
  refine PySem.W.n3_cmpNe (by have := hr.units; omega) I.kIn J (rhs_looks hL I ht r2) hn hne hm hs hf (wpAny_mono hrun (fun w s' z => ?_) fun _ _ x => x)
  obtain ⟨z', H', I', rz, L2, h2, b, ez, qz⟩ := z
  subst ez
  cases rz
  exact ⟨b, rfl, .bl (!b), H', I', rfl, L2, h2, qz⟩
/-- repr(o), str(o) -/
def KStr (K : V → LH → Prop) (v : V) (L : LH) : Prop := ∃ y, v = .str y ∧ K (.str y) L
theorem wc_ownRepr (G : GOp X.prog X.w X.K X.mg X.base C "__repr__" k ps pre) (hr : Room (k + 1) X.A) (m : Mem o (.ins C dx fs) L) (h : pre [.ref o] L (KStr K)) : WC X (.builtin "repr") [.ref o] L K := by
  intro H hL pins s σ us I r1
  cases r1 with
  | cons r rr =>
    cases rr
    cases r
    obtain ⟨mA, J, _⟩ := ins_get I.hok (hL.get m)
    obtain ⟨od, J, _⟩ := J.look
    obtain ⟨mm, hF⟩ := I.fr
    obtain ⟨f, hs, hf, hrun⟩ := run_op (A := X.A.in1) (us := [.ref o]) (vs := [.ref o]) G hr.in1 rfl hL I (.cons rfl .nil) h
    refine PySem.W.repr_K hr.in1.units0 hF I.ok.mod.kin J hs hf (wpAny_mono hrun (fun w s' z => ?_) fun _ _ x => x)
    obtain ⟨z', H', I', rz, L2, h2, y, ez, qz⟩ := z
    subst ez
    obtain ⟨t, rfl⟩ := rz
    exact ⟨.str y, H', I', ⟨t, rfl⟩, L2, h2, qz⟩
theorem wc_ownStr (G : GOp X.prog X.w X.K X.mg X.base C "__str__" k ps pre) (hr : Room (k + 2) X.A) (m : Mem o (.ins C dx fs) L) (h : pre [.ref o] L (KStr K)) : WC X (.type "str") [.ref o] L K := by
  intro H hL pins s σ us I r1
  cases r1 with
  | cons r rr =>
    cases rr
    cases r
    obtain ⟨mA, J, _⟩ := ins_get I.hok (hL.get m)
    obtain ⟨od, J, _⟩ := J.look
    obtain ⟨f, hs, hf, hrun⟩ := run_op (A := X.A.in1.in1) (us := [.ref o]) (vs := [.ref o]) G hr.in1.in1 rfl hL I (.cons rfl .nil) h
    refine PySem.W.kso_call hr.in1.in1.units0 I.kIn J hs hf (wpAny_mono hrun (fun w s' z => ?_) fun _ _ x => x)
    obtain ⟨z', H', I', rz, L2, h2, y, ez, qz⟩ := z
    subst ez
    obtain ⟨t, rfl⟩ := rz
    exact ⟨.str y, H', I', ⟨t, rfl⟩, L2, h2, qz⟩
end
end N3

set_option Elab.async false
set_option linter.all false
set_option maxRecDepth 100000
set_option maxHeartbeats 4000000
namespace N3
open PySem PySem.Spec L2 PySem.W PySem.Calls
open PyProof.Rows hiding St
/-- a promise that holds where no container is being shown (so that repr of a list can't meet itself) -/
structure FnG (P : Program) (w : World) (K : PySem.W.Frag) (mg : Str → Option Value) (base : Heap) (k : Nat) (f : Addr) (fd : FuncData) (ps : List Str) (pre : Pre) : Prop where
  len : ∀ vs L Kk, pre vs L Kk → vs.length = ps.length
  run : ∀ (A : Around) (outer : List Env) (s : Shared) (H : Hp) (args : Args) (us : List Value) (vs : List V) (L : LH) (Kk : V → LH → Prop), Room k A → A.guards = some [] → Env0 P w K mg base A outer s H → BindsTo s fd args (ps.zip us) → Vals vs us → Holds L H →
    pre vs L Kk → codeAny (model P w) A (.call (.ref f) args) (CR CX0 outer P w H s (QE Kk) E0) s
section
variable {P : Program} {w : World} {K : PySem.W.Frag} {mg : Str → Option Value} {base : Heap}
theorem FnG.of {k : Nat} {f : Addr} {fd : FuncData} {ps : List Str} {pre : Pre} (F : FnOk P w K mg base CX0 k f fd ps (SpL pre)) (len : ∀ vs L Kk, pre vs L Kk → vs.length = ps.length) : FnG P w K mg base k f fd ps pre :=
  ⟨len, fun A outer s H args us vs L Kk hr _ e0 hb r hL h => F.run A outer s H args us vs (QE Kk) E0 hr e0 hb r ⟨L, Kk, hL, h, fun _ _ q => q⟩⟩
theorem fnG {x qual : Str} {st : Stmt} {f : Addr} {fd : FuncData} {N ps : List Str} {k : Nat} {pre : Pre} (F : Fun K x qual st f fd) (S : FnScope N ps (defScope st)) (len : ∀ vs L Kk, pre vs L Kk → vs.length = ps.length)
    (body : ∀ (cdv : Value) (A : Around) (outer : List Env) (s : Shared) (H : Hp) (vs : List V) (E : XK) (L : LH) (Kk : V → LH → Prop), Room k (A.deeper (envOfC qual (defScope st) s.heap.objs.size f cdv)) → A.guards = some [] → pre vs L Kk →
      WSs (cxOf CX0 P w K mg base N qual (defScope st) f cdv A outer s H E).nox (defBody st) (start N vs) L (EndOf Kk)) : FnG P w K mg base (k + 1) f fd ps pre := by
  refine ⟨len, fun A outer s H args us vs L Kk hr hg e0 hb r hL hp => ?_⟩
  obtain ⟨oc, od, kV, doc, pm, an, cdv, ct, osl, rfl, lk, hcd⟩ := F.ex
  have hvl := len vs L Kk hp
  have kept : ∀ b o, base.get? b = some o → s.heap.get? b = some o := fun b o e => (e0.bs b o e).1
  have inK : K.In s.heap := e0.mod.kin.keeps kept
  have kinds : ∀ y ∈ ps.zip us, (defScope st).names.lookup y.1 = some .local ∨ ((defScope st).names.lookup y.1 = some .cell ∧ ((cellsFrom (s.heap.objs.size + 1) (defScope st).names []).lookup y.1).isSome = true) := by
    rintro ⟨n, v⟩ hy
    rcases S.par n (List.of_mem_zip hy).1 with q | q
    · exact .inl q
    · exact .inr ⟨q, PySem.W.cellsFrom_some _ _ _ (.inl q)⟩
  refine codeAny_call_function hr.depth (inK _ _ lk) rfl S.co S.gen rfl (PySem.W.codeRec_of inK hcd) (hb _ _ _ _ (wpAny_newFunctionEnv_cells S.kind kinds fun env he s1 x => ?_))
  subst he
  refine ⟨(e0.mod.nolimit.keeps kept).keeps x.toInCall.keep, codeAny_func ?_⟩
  have I := inv_start (CX := CX0) (E := E0) S hr.hd e0 hvl r x
  have q := (body cdv A outer s H vs E0 L Kk (hr.deeper _) hg hp H hL).mono (D' := ⟨fun _ H' => QE Kk .non H', QE Kk, fun _ _ => False, fun _ _ => False⟩) ⟨fun _ _ z => QE.sub z, fun _ _ z => QE.sub z, fun _ _ ⟨_, _, z⟩ => z.elim, fun _ _ ⟨_, _, z⟩ => z.elim⟩
  refine wpAny_mono (q [] s1 (I.wish _)) (fun fl s' hs => ?_) fun _ _ z => z.elim
  have done : ∀ {σ' : L2.St} {H' : Hp} {v : V} {u : Value}, Inv (cxOf CX0 P w K mg base N qual (defScope st) f cdv A outer s H E0).nox [] σ' H' s' → RelV v u → QE Kk v H' → CE outer P w H s (QE Kk) u s' :=
    fun {_ H' v _} J rv z => ⟨v, H', J.os, J.bare, J.base, J.hok, rv, z⟩
  cases fl with
  | ret u => obtain ⟨v, σ', H', J, rv, z⟩ := hs; exact done J rv z
  | next => obtain ⟨σ', H', J, z⟩ := hs; exact done (v := V.non) (u := Value.none) J rfl z
  | brk => obtain ⟨_, _, _, z⟩ := hs; exact z.elim
  | cont => obtain ⟨_, _, _, z⟩ := hs; exact z.elim
/-- a def of the module, where nothing is being shown -/
structure GFg (P : Program) (w : World) (K : PySem.W.Frag) (mg : Str → Option Value) (base : Heap) (x : Str) (k : Nat) (ps : List Str) (dvs : List V) (pre : Pre) : Prop where
  ex : ∃ f fd ds, FnG P w K mg base k f fd ps pre ∧ mg x = some (.ref f) ∧ PySem.W.keepIn K (.ref f) = true ∧ Binds K fd ps ds ∧ Vals dvs ds
end
section
variable {X : Cx} {e : Expr} {es : List Expr} {σ : L2.St} {L : LH} {K : V → LH → Prop} {pos p : Pos} {x : Str} {k : Nat} {ps : List Str} {dvs : List V} {pre : Pre}
theorem we_callG (G : GFg X.prog X.w X.K X.mg X.base x k ps dvs pre) (hr : Room k X.A) (hgd : X.A.guards = some []) (h : WA X (e :: es) σ L fun vs L1 => pre (vs ++ dvs) L1 K) (hg : Gl X x := by rfl) (hdb : (x == ("__debug__" : Str)) = false := by decide)
    (he : starEach (e :: es) X.env = (false, eval e X.env) :: starEach es X.env := by rfl) (hpl : (backTo pos (starEach es X.env)).any (·.1) = false := by rfl) : WE X (.Call (.Name x p) (e :: es) [] pos) σ L K := by
  obtain ⟨f, fd, ds, F, hm, hk, hb, hd⟩ := G.ex
  intro H hL pins s I
  refine wpAny_Call_Name_kw (ld_glob I hg hm ?_ hdb)
  refine PySem.W.callWith_K (h₀ := X.base) I.ok.mod.kin hk (thn (h H hL pos pins s I) fun us s1 ⟨vs, H1, I1, r, L1, h1, q⟩ => ⟨I1.kIn, ?_⟩) he hpl
  have r2 : Vals (vs ++ dvs) (us ++ ds) := r.append hd
  have hl : (us ++ ds).length = ps.length := by rw [← r2.length]; exact F.len _ _ _ q
  refine wpAny_call (codeAny_mono (F.run X.A X.stack s1 H1 ⟨us, []⟩ (us ++ ds) (vs ++ dvs) L1 K hr hgd I1.env0 (hb s1 us I1.kIn hl) r2 h1 q) fun r s' hq => ?_)
  cases r with
  | error e => exact (hq : False).elim
  | ok fl =>
    cases fl with
    | ret u => exact I1.after hq
    | next => exact False.elim hq
    | brk => exact False.elim hq
    | cont => exact False.elim hq
/-- repr of data -/
def DpL (K : PySem.W.Frag) (v : V) (d : PyData) (L : LH) : Prop := ∀ H, Holds L H → Dp K H v d
theorem noDict_of : ∀ {K : PySem.W.Frag} {H : Hp} (d : PyData) {v : V}, Dp K H v d → d.hasDict = false
  | _, _, .none, _, _ => rfl
  | _, _, .bool _, _, _ => rfl
  | _, _, .int _, _, _ => rfl
  | _, _, .str _, _, _ => rfl
  | K, H, .list ds, v, h => by
    cases h with
    | lst _ hd => exact noDictAll ds hd
  | K, H, .tuple ds, v, h => by
    cases h with
    | tup _ hd => exact noDictAll ds hd
  | _, _, .dict _, _, h => nomatch h
where noDictAll : ∀ {K : PySem.W.Frag} {H : Hp} (ds : List PyData) {vs : List V}, DpAll K H vs ds → PyData.hasDictAll ds = false
  | _, _, [], _, _ => rfl
  | K, H, d :: ds, _, .cons h hs => by
    show (d.hasDict || PyData.hasDictAll ds) = false
    rw [noDict_of d h, noDictAll ds hs]
    rfl
theorem wc_reprD {v : V} {d : PyData} (hgd : X.A.guards = some []) (hu : X.A.units + (d.depth + 1) < cLine) (hd : DpL X.K v d L) (hs : d.showable = true) (hz : d.shown.length ≤ sizeLine) (k : K (.str d.shown) L) : WC X (.builtin "repr") [v] L K := by
  intro H hL pins s σ us I r1
  cases r1 with
  | cons r rr =>
    cases rr
    have h := hd H hL
    have fin : ∀ (s' : Shared) (tk : Tok), Inv X pins σ H s' → EP X pins σ (QE K) (.str d.shown tk) s' := fun s' tk J => ⟨.str d.shown, H, J, ⟨tk, rfl⟩, L, hL, k⟩
    obtain ⟨as, rd⟩ := Dp.reads I d v _ h r
    have nd := noDict_of d h
    cases h with
    | non => cases r; exact PySem.P.repr_of_none (fin _ _ (I.tok _))
    | bl b => cases r; exact PySem.P.repr_of_bool (by have := fin _ s.toks (I.tok (s.toks + 1)); rw [PyData.shown_bool] at this; exact this)
    | int i => obtain ⟨t, rfl⟩ := r; exact PySem.P.repr_of_int (by simpa [PyData.showable] using hs) (by have := fin _ s.toks (I.tok (s.toks + 1)); rw [PyData.shown_int] at this; exact this)
    | str x => obtain ⟨t, rfl⟩ := r; exact PySem.P.repr_of_str (by have := fin _ s.toks (I.tok (s.toks + 1)); rw [PyData.shown_str] at this; exact this) (by rw [PyData.shown_str] at hz; exact hz)
    | lst _ _ => cases r; exact repr_of_reads' rd hs (fun z => by rw [nd] at z; cases z) hgd hu (fun _ _ z => z) (fun h' u tk kp => fin _ _ (I.kept kp)) hz
    | tup _ _ => cases r; exact repr_of_reads' rd hs (fun z => by rw [nd] at z; cases z) hgd hu (fun _ _ z => z) (fun h' u tk kp => fin _ _ (I.kept kp)) hz
end
end N3

set_option Elab.async false
set_option linter.all false
set_option maxRecDepth 100000
set_option maxHeartbeats 4000000
namespace N3
open PySem PySem.Spec L2
section
variable {X : Cx} {e a b l tg iter : Expr} {es : List Expr} {st : Stmt} {sts body : List Stmt} {σ : L2.St} {L : LH} {K : V → LH → Prop} {KT : Bool → LH → Prop} {KA : List V → LH → Prop} {KS : L2.St → LH → Prop} {D : EndsL} {pos apos p : Pos} {x m f : Str}
def SqTL (K : PySem.W.Frag) (a : Addr) (xs : List V) (L : LH) : Prop := ∀ H, Holds L H → SqT K H a xs
theorem SqTL.of {K : PySem.W.Frag} {a : Addr} {xs : List V} {L : LH} (m : Mem a (.tup xs) L) : SqTL K a xs L := fun _ h => SqT.of (h.get m)
/-! ### items -/
theorem we_ixL (h : WE X a σ L fun x L1 => WE X b σ L1 fun y L2 => ∃ q xs i v, x = .ref q ∧ y = .int i ∧ SqLL X.K q xs L2 ∧ atI xs i = some v ∧ K v L2) (hs : PlainIx b := by intro _ _; rfl) : WE X (.Subscript a b pos) σ L K :=
  we_of (pe_ix ix_list pe_sem pe_sem hs) fun _ hL => e_then h hL fun _ _ _ h1 k1 => e_then k1 h1 fun _ L2 H2 h2 ⟨q, xs, i, v, ex, ey, sq, ha, k⟩ => ⟨q, xs, i, v, ex, ey, sq H2 h2, ha, L2, h2, k⟩
theorem we_ixT (h : WE X a σ L fun x L1 => WE X b σ L1 fun y L2 => ∃ q xs i v, x = .ref q ∧ y = .int i ∧ SqTL X.K q xs L2 ∧ atI xs i = some v ∧ K v L2) (hs : PlainIx b := by intro _ _; rfl) : WE X (.Subscript a b pos) σ L K :=
  we_of (pe_ix ix_tup pe_sem pe_sem hs) fun _ hL => e_then h hL fun _ _ _ h1 k1 => e_then k1 h1 fun _ L2 H2 h2 ⟨q, xs, i, v, ex, ey, sq, ha, k⟩ => ⟨q, xs, i, v, ex, ey, sq H2 h2, ha, L2, h2, k⟩
/-- o[i] = v of a list -/
theorem wg_setL {v : V} (h : WE X a σ L fun x L1 => WE X b σ L1 fun y L2 => ∃ q xs k j F, x = .ref q ∧ y = .int k ∧ Hole q (.lst xs) L2 F ∧ ixN xs.length k = some j ∧ KS σ (F (.lst (xs.set j v))))
    (ha : ∀ v, assign (.Subscript a b pos) X.env v = (do
      let ov ← holding [v] (eval a X.env)
      let iv ← holding [v, ov] (eval b X.env)
      standAt pos
      holding [v, ov, iv] (setItem ov iv v)
      release [v, ov, iv] []) := by intro _; rfl) : WG X (.Subscript a b pos) v σ L KS :=
  wg_of (pg_sub pe_sem pe_sem set_list ha) fun _ hL => e_then h hL fun _ _ _ h1 k1 => e_then k1 h1 fun _ L2 H2 h2 ⟨q, xs, k, j, F, ex, ey, hf, hj, kk⟩ =>
    ⟨q, xs, k, j, ex, ey, h2.at_ _ _ hf.mem, hj, _, h2.put hf, kk⟩
/-! ### lists -/
theorem wo_catL {p q : Addr} {xs ys : List V} (m : Mem p (.lst xs) L) (m2 : Mem q (.lst ys) L) (hl : xs.length + ys.length ≤ sizeLine) (k : ∀ r, K (.ref r) ((r, .lst (xs ++ ys)) :: L)) : WO X (binaryOp .Add) (.ref p) (.ref q) L K :=
  wo_of op_cat fun _ hL => ⟨p, q, xs, ys, rfl, rfl, hL.get m, hL.get m2, hl, fun r hr => ⟨_, hL.new hr, k r⟩⟩
theorem wc_all {q : Addr} {bs : List Bool} (hc : X.calm = true) (h : SqLL X.K q (bs.map V.bl) L) (k : K (.bl (bs.all id)) L) : WC X (.builtin "all") [.ref q] L K := wc_of (cr_all hc) fun H hL => ⟨q, bs, rfl, h H hL, L, hL, k⟩
theorem wo_eqD {v u : V} {d d' : PyData} (hu : X.A.units + 64 < cLine) (h1 : DpL X.K v d L) (h2 : DpL X.K u d' L) (s1 : SeqAt.shaped d = true) (s2 : SeqAt.shaped d' = true) (k : K (.bl (PyData.eqv d d')) L) : WO X (compareOp .Eq) v u L K :=
  wo_of (op_eqD hu) fun H hL => ⟨d, d', h1 H hL, h2 H hL, s1, s2, L, hL, k⟩
theorem wo_neD {v u : V} {d d' : PyData} (hu : X.A.units + 64 < cLine) (h1 : DpL X.K v d L) (h2 : DpL X.K u d' L) (s1 : SeqAt.shaped d = true) (s2 : SeqAt.shaped d' = true) (k : K (.bl (!PyData.eqv d d')) L) : WO X (compareOp .NotEq) v u L K :=
  wo_of (op_neD hu) fun H hL => ⟨d, d', h1 H hL, h2 H hL, s1, s2, L, hL, k⟩
/-! ### texts with braces -/
/-- the parts of an f-string, one behind the other -/
inductive WJ (X : Cx) (σ : L2.St) : List Expr → Str → LH → (Str → LH → Prop) → Prop where
  | nil {acc : Str} {L : LH} {Kj : Str → LH → Prop} (k : Kj acc L) : WJ X σ [] acc L Kj
  | cons {e : Expr} {es : List Expr} {acc : Str} {L : LH} {Kj : Str → LH → Prop} (y : Str) (L1 : LH) (h : WE X e σ L fun v L' => v = .str y ∧ L' = L1) (hl : (acc ++ y).length ≤ sizeLine) (r : WJ X σ es (acc ++ y) L1 Kj) : WJ X σ (e :: es) acc L Kj
theorem wj_pj {es : List Expr} {acc : Str} {Kj : Str → LH → Prop} (h : WJ X σ es acc L Kj) : PJ X es (es.map (SemE X)) ∧ ∀ H, Holds L H → tJs (es.map (SemE X)) acc σ H (fun y H' => ∃ L', Holds L' H' ∧ Kj y L') := by
  induction h with
  | nil k => exact ⟨.nil, fun H hL => ⟨_, hL, k⟩⟩
  | cons y L1 h hl _ ih => exact ⟨.cons pe_sem ih.1, fun H hL => e_then h hL fun v L' H' h' ⟨ev, el⟩ => by
      subst ev el
      exact ⟨y, rfl, hl, ih.2 H' h'⟩⟩
theorem we_joined {v1 v2 : Expr} (h : WJ X σ (v1 :: v2 :: es) Str.empty L fun y L' => K (.str y) L') : WE X (.JoinedStr (v1 :: v2 :: es) pos) σ L K :=
  we_of (pe_joined (wj_pj h).1) fun H hL => (wj_pj h).2 H hL
theorem we_fmtI (h : WE X e σ L fun v L1 => ∃ i : Int, v = .int i ∧ i.natAbs.log2 < 1920 ∧ K (.str (toString i)) L1) : WE X (.FormattedValue e (-1) none pos) σ L K :=
  we_of (pe_fmt pe_sem) fun _ hL => e_then h hL fun _ L1 _ h1 ⟨i, ev, hi, k⟩ => .inr ⟨i, ev, hi, L1, h1, k⟩
/-! ### loops -/
/-- where the loop's word stands: things may be forgotten on the way -/
def LoopNx (I : Nat → L2.St → LH → Prop) (i : Nat) : L2.St → LH → Prop := fun σ L => ∃ L', Sub L L' ∧ I i σ L'
theorem LoopNx.qs {I : Nat → L2.St → LH → Prop} {i : Nat} {σ : L2.St} {H : Hp} (h : QS (LoopNx I i) σ H) : QS (I i) σ H := by
  obtain ⟨L, hL, L', s, k⟩ := h
  exact ⟨L', s H hL, k⟩
def loopEnds (D : EndsL) (I : Nat → L2.St → LH → Prop) (i : Nat) : EndsL := ⟨LoopNx I i, D.rt, D.nx, LoopNx I i⟩
theorem loop_le {D : EndsL} {I : Nat → L2.St → LH → Prop} {i : Nat} : Ends.Le (loopEnds D I i).to { D.to with nx := QS (I i), ct := QS (I i), bk := D.to.nx } :=
  ⟨fun _ _ q => LoopNx.qs q, fun _ _ q => q, fun _ _ q => q, fun _ _ q => LoopNx.qs q⟩
theorem ws_forL (hc : X.calm = true) (hp : PassesOwn (model X.prog X.w) X.A X.env X.xe)
    (h : WE X l σ L fun x L1 => ∃ q xs, x = .ref q ∧ SqLL X.K q xs L1 ∧ ∃ I : Nat → L2.St → LH → Prop, I 0 σ L1 ∧ (∀ i σ' L', I i σ' L' → SqLL X.K q xs L') ∧
      (∀ i y σ' L', xs[i]? = some y → I i σ' L' → WG X tg y σ' L' fun σ2 L2 => WSs X body σ2 L2 (loopEnds D I (i + 1))) ∧ (∀ σ' L', I xs.length σ' L' → D.nx σ' L'))
    (hs : ∀ x, foldedSetIterable l X.env x = pure x := by intro _; rfl) : WS X (.For tg l body [] pos) σ L D :=
  ws_of (ps_for hp hc (pi_list pe_sem) pg_sem pss_sem hs) fun _ hL => e_then h hL fun _ L1 H1 h1 ⟨q, xs, ex, sq, I, i0, st, turn, fin⟩ =>
    ⟨q, ex, ⟨xs, sq H1 h1⟩, for_list (K := X.K) (a := q) (xs := xs) (fun i => QS (I i)) ⟨L1, h1, i0⟩ (fun i σ' H' _ ⟨L', h', k⟩ => st i σ' L' k H' h')
      (fun i y σ' H' hy ⟨L', h', k⟩ => g_then (turn i y σ' L' hy k) h' fun σ2 L2 H2 h2 k2 => (k2 H2 h2).mono loop_le) (fun σ' H' ⟨L', h', k⟩ => ⟨L', h', fin σ' L' k⟩)⟩
theorem ws_forT (hc : X.calm = true) (hp : PassesOwn (model X.prog X.w) X.A X.env X.xe)
    (h : WE X l σ L fun x L1 => ∃ q xs, x = .ref q ∧ SqTL X.K q xs L1 ∧ ∃ I : Nat → L2.St → LH → Prop, I 0 σ L1 ∧ (∀ i σ' L', I i σ' L' → SqTL X.K q xs L') ∧
      (∀ i y σ' L', xs[i]? = some y → I i σ' L' → WG X tg y σ' L' fun σ2 L2 => WSs X body σ2 L2 (loopEnds D I (i + 1))) ∧ (∀ σ' L', I xs.length σ' L' → D.nx σ' L'))
    (hs : ∀ x, foldedSetIterable l X.env x = pure x := by intro _; rfl) : WS X (.For tg l body [] pos) σ L D :=
  ws_of (ps_for hp hc (pi_tup pe_sem) pg_sem pss_sem hs) fun _ hL => e_then h hL fun _ L1 H1 h1 ⟨q, xs, ex, sq, I, i0, st, turn, fin⟩ =>
    ⟨q, ex, ⟨xs, sq H1 h1⟩, for_tup (K := X.K) (a := q) (xs := xs) (fun i => QS (I i)) ⟨L1, h1, i0⟩ (fun i σ' H' _ ⟨L', h', k⟩ => st i σ' L' k H' h')
      (fun i y σ' H' hy ⟨L', h', k⟩ => g_then (turn i y σ' L' hy k) h' fun σ2 L2 H2 h2 k2 => (k2 H2 h2).mono loop_le) (fun σ' H' ⟨L', h', k⟩ => ⟨L', h', fin σ' L' k⟩)⟩
theorem ws_forR (hc : X.calm = true) (hp : PassesOwn (model X.prog X.w) X.A X.env X.xe) (hm : X.mg "range" = none)
    (h : WA X [a] σ L fun vs L1 => ∃ j : Int, vs = [.int j] ∧ -(2 ^ 62) ≤ j ∧ j < 2 ^ 62 ∧ ∃ I : Nat → L2.St → LH → Prop, I 0 σ L1 ∧
      (∀ i σ' L', i < j.toNat → I i σ' L' → WG X tg (.int (0 + (i : Int))) σ' L' fun σ2 L2 => WSs X body σ2 L2 (loopEnds D I (i + 1))) ∧ (∀ σ' L', I j.toNat σ' L' → D.nx σ' L'))
    (hg : Gl X "range" := by rfl) (hst : starEach [a] X.env = [(false, eval a X.env)] := by rfl)
    (hs : ∀ x, foldedSetIterable (.Call (.Name "range" p) [a] [] apos) X.env x = pure x := by intro _; rfl) : WS X (.For tg (.Call (.Name "range" p) [a] [] apos) body [] pos) σ L D :=
  ws_of (ps_for hp hc (pi_range1 hg hm pa_sem hst) pg_sem pss_sem hs) fun _ hL => a_then h hL fun _ L1 H1 h1 ⟨j, ev, j0, j1, I, i0, turn, fin⟩ =>
    ⟨j, ev, j0, j1, for_range (lo := 0) (n := j.toNat) (fun i => QS (I i)) ⟨L1, h1, i0⟩
      (fun i σ' H' hi ⟨L', h', k⟩ => g_then (turn i σ' L' hi k) h' fun σ2 L2 H2 h2 k2 => (k2 H2 h2).mono loop_le) (fun σ' H' ⟨L', h', k⟩ => ⟨L', h', fin σ' L' k⟩)⟩
theorem ws_forZ {t : List Expr} {kk : Nat} {tpos : Pos} (hc : X.calm = true) (hp : PassesOwn (model X.prog X.w) X.A X.env X.xe) (hm : X.mg "zip" = none)
    (h : WA X [a, b] σ L fun vs L1 => ∃ q r xs ys, vs = [.ref q, .ref r] ∧ SqLL X.K q xs L1 ∧ SqLL X.K r ys L1 ∧ xs.length = ys.length ∧ ∃ I : Nat → L2.St → LH → Prop, I 0 σ L1 ∧ (∀ i σ' L', I i σ' L' → SqLL X.K q xs L' ∧ SqLL X.K r ys L') ∧
      (∀ i y z T σ' L', xs[i]? = some y → ys[i]? = some z → I i σ' L' → WG X (.Tuple t kk tpos) (.ref T) σ' ((T, .tup [y, z]) :: L') fun σ2 L2 => WSs X body σ2 L2 (loopEnds D I (i + 1))) ∧ (∀ σ' L', I xs.length σ' L' → D.nx σ' L'))
    (hg : Gl X "zip" := by rfl) (hst : starEach [a, b] X.env = (false, eval a X.env) :: starEach [b] X.env := by rfl) (hpl : (backTo apos (starEach [b] X.env)).any (·.1) = false := by rfl)
    (hs : ∀ x, foldedSetIterable (.Call (.Name "zip" p) [a, b] [] apos) X.env x = pure x := by intro _; rfl) : WS X (.For (.Tuple t kk tpos) (.Call (.Name "zip" p) [a, b] [] apos) body [] pos) σ L D :=
  ws_of (ps_for hp hc (pi_zip hg hm pa_sem hst hpl) pg_sem pss_sem hs) fun _ hL => a_then h hL fun _ L1 H1 h1 ⟨q, r, xs, ys, ev, s1, s2, hl, I, i0, st, turn, fin⟩ =>
    ⟨q, r, xs, ys, ev, s1 H1 h1, s2 H1 h1, RZ.for_zipL (K := X.K) hl (fun i => QS (I i)) ⟨L1, h1, i0⟩ (fun i σ' H' ⟨L', h', k⟩ => ⟨(st i σ' L' k).1 H' h', (st i σ' L' k).2 H' h'⟩)
      (fun i y z T σ' H' hy hz ⟨L', h', k⟩ hT => g_then (turn i y z T σ' L' hy hz k) (h'.new hT) fun σ2 L2 H2 h2 k2 => (k2 H2 h2).mono loop_le) (fun σ' H' ⟨L', h', k⟩ => ⟨L', h', fin σ' L' k⟩)⟩
/-- while: a word and a number that falls -/
theorem ws_while {c : Expr} (hp : PassesOwn (model X.prog X.w) X.A X.env X.xe) (I : Nat → L2.St → LH → Prop) {n : Nat} (h0 : I n σ L)
    (h : ∀ n σ' L', I n σ' L' → WT X c σ' L' fun t L1 => (t = true → WSs X body σ' L1 ⟨fun σ2 L2 => ∃ m, m < n ∧ LoopNx I m σ2 L2, D.rt, D.nx, fun σ2 L2 => ∃ m, m < n ∧ LoopNx I m σ2 L2⟩) ∧ (t = false → D.nx σ' L1)) :
    WS X (.While c body [] pos) σ L D :=
  ws_of (ps_while hp pt_sem pss_sem) fun H hL => ⟨fun n σ' H' => QS (I n) σ' H', ⟨n, L, hL, h0⟩, fun n σ' H' ⟨L', h', k⟩ => t_then (h n σ' L' k) h' fun t L1 H1 h1 kk => by
    cases t with
    | true => exact iteT ⟨fun σ2 H2 => ∃ m, m < n ∧ QS (I m) σ2 H2, fun _ _ q => q, (kk.1 rfl H1 h1).mono ⟨fun _ _ ⟨L2, h2, m, hm, q⟩ => ⟨m, hm, LoopNx.qs ⟨L2, h2, q⟩⟩, fun _ _ q => q, fun _ _ q => q, fun _ _ ⟨L2, h2, m, hm, q⟩ => ⟨m, hm, LoopNx.qs ⟨L2, h2, q⟩⟩⟩⟩
    | false => exact iteF ⟨L1, h1, kk.2 rfl⟩⟩
end
end N3

set_option Elab.async false
set_option linter.all false
set_option maxRecDepth 100000
set_option maxHeartbeats 4000000
namespace N3
open PySem PySem.Spec L2
section
variable {X : Cx} {e a b l tg elt : Expr} {es : List Expr} {σ : L2.St} {L : LH} {K : V → LH → Prop} {D : EndsL} {pos apos p : Pos} {x : Str} {scope : Scope} {own : List (Str × Nat)}
/-- the inner of a comprehension: in whatever block it runs -/
def SemEB (X : Cx) (scope : Scope) (e : Expr) : TE := fun σ H Q => ∀ (s : Shared) (H' : Hp) (C : Addr) (cl : List (Str × Addr)) (fp : List Addr), SemE (X.blk s H' scope (compEnvC scope cl C X.env) fp) e σ H Q
def SemGB (X : Cx) (scope : Scope) (e : Expr) : TG := fun v σ H Q => ∀ (s : Shared) (H' : Hp) (C : Addr) (cl : List (Str × Addr)) (fp : List Addr), SemG (X.blk s H' scope (compEnvC scope cl C X.env) fp) e v σ H Q
/-- one item's turn -/
def Turn1 (X : Cx) (scope : Scope) (own : List (Str × Nat)) (tg elt : Expr) (σ : L2.St) (D : Addr) (y : V) (L' : LH) (Nx : LH → Prop) : Prop :=
  ∀ (s : Shared) (H' : Hp) (C : Addr) (cl : List (Str × Addr)) (fp : List Addr), WG (X.blk s H' scope (compEnvC scope cl C X.env) fp) tg y (wipe σ (own.map (·.2))) L' fun σ2 L2 =>
    wipe σ2 (own.map (·.2)) = wipe σ (own.map (·.2)) ∧ ∀ (s : Shared) (H' : Hp) (C : Addr) (cl : List (Str × Addr)) (fp : List Addr), WE (X.blk s H' scope (compEnvC scope cl C X.env) fp) elt σ2 L2 fun z L3 =>
      ∃ acc F, Hole D (.lst acc) L3 F ∧ acc.length < sizeLine ∧ ∃ L4, Sub (F (.lst (acc ++ [z]))) L4 ∧ Nx L4
def QL (N : LH → Prop) : Hp → Prop := fun H => ∃ L, Holds L H ∧ N L
theorem turn1 {D : Addr} {y : V} {L' : LH} {Nx : LH → Prop} {H : Hp} (h : Turn1 X scope own tg elt σ D y L' Nx) (hL : Holds L' H) :
    SemGB X scope tg y (wipe σ (own.map (·.2))) H fun σ2 H2 => wipe σ2 (own.map (·.2)) = wipe σ (own.map (·.2)) ∧ tYes σ2 H2 fun b H3 =>
      if b = true then SemEB X scope elt σ2 H3 fun z H4 => ∃ acc, H4 D = some (.lst acc) ∧ acc.length < sizeLine ∧ QL Nx (upd H4 D (.lst (acc ++ [z]))) else QL Nx H3 := by
  intro s H' C cl fp
  refine g_then (h s H' C cl fp) hL fun σ2 L2 H2 h2 ⟨hw, k2⟩ => ⟨hw, ?_⟩
  show if true = true then SemEB X scope elt σ2 H2 (fun z H4 => ∃ acc, H4 D = some (.lst acc) ∧ acc.length < sizeLine ∧ QL Nx (upd H4 D (.lst (acc ++ [z])))) else QL Nx H2
  rw [if_pos rfl]
  intro s H' C cl fp
  refine e_then (k2 s H' C cl fp) h2 fun z L3 H3 h3 ⟨acc, F, hf, hl, L4, sb, nx⟩ => ?_
  exact ⟨acc, h3.at_ _ _ hf.mem, hl, L4, sb _ (h3.put hf), nx⟩
def LcL (X : Cx) (scope : Scope) (own : List (Str × Nat)) (tg elt : Expr) (σ : L2.St) (K : V → LH → Prop) (x : V) (L1 : LH) : Prop :=
  ∃ q xs, x = .ref q ∧ SqLL X.K q xs L1 ∧ ∀ D, ∃ I : Nat → LH → Prop, I 0 ((D, .lst []) :: L1) ∧ (∀ i L', I i L' → SqLL X.K q xs L') ∧ (∀ i y L', xs[i]? = some y → I i L' → Turn1 X scope own tg elt σ D y L' (I (i + 1))) ∧ (∀ L', I xs.length L' → K (.ref D) L')
theorem lcL (h : WE X l σ L (LcL X scope own tg elt σ K)) : ∀ H, Holds L H → tLc (iList X.K (SemE X l)) (SemGB X scope tg) tYes (SemEB X scope elt) (own.map (·.2)) σ H (QE K) := fun _ hL =>
  e_then h hL fun _ L1 H1 h1 ⟨q, xs, ex, sq, g⟩ => ⟨q, ex, ⟨xs, sq H1 h1⟩, fun D hD => by
    obtain ⟨I, i0, st, turn, fin⟩ := g D
    exact lc_list (K := X.K) (a := q) (xs := xs) (fun i => QL (I i)) ⟨_, h1.new hD, i0⟩ (fun i H' _ ⟨L', h', k⟩ => st i L' k H' h') (fun i y H' hy ⟨L', h', k⟩ => turn1 (turn i y L' hy k) h') (fun H' ⟨L', h', k⟩ => ⟨L', h', fin L' k⟩)⟩
def LcR (X : Cx) (scope : Scope) (own : List (Str × Nat)) (tg elt : Expr) (σ : L2.St) (K : V → LH → Prop) (vs : List V) (L1 : LH) : Prop :=
  ∃ j : Int, vs = [.int j] ∧ -(2 ^ 62) ≤ j ∧ j < 2 ^ 62 ∧ ∀ D, ∃ I : Nat → LH → Prop, I 0 ((D, .lst []) :: L1) ∧ (∀ i L', i < j.toNat → I i L' → Turn1 X scope own tg elt σ D (.int (0 + (i : Int))) L' (I (i + 1))) ∧ (∀ L', I j.toNat L' → K (.ref D) L')
theorem lcR (h : WA X [a] σ L (LcR X scope own tg elt σ K)) : ∀ H, Holds L H → tLc (iRng1 (SemA X [a])) (SemGB X scope tg) tYes (SemEB X scope elt) (own.map (·.2)) σ H (QE K) := fun _ hL =>
  a_then h hL fun _ L1 H1 h1 ⟨j, ev, j0, j1, g⟩ => ⟨j, ev, j0, j1, fun D hD => by
    obtain ⟨I, i0, turn, fin⟩ := g D
    exact lc_range (lo := 0) (n := j.toNat) (fun i => QL (I i)) ⟨_, h1.new hD, i0⟩ (fun i H' hi ⟨L', h', k⟩ => turn1 (turn i L' hi k) h') (fun H' ⟨L', h', k⟩ => ⟨L', h', fin L' k⟩)⟩
theorem peB {s : Shared} {H' : Hp} {C : Addr} {cl : List (Str × Addr)} {fp : List Addr} : PE (X.blk s H' scope (compEnvC scope cl C X.env) fp) e (SemEB X scope e) := ⟨fun pins s1 _ _ _ I h => h s H' C cl fp pins s1 I⟩
theorem pgB {s : Shared} {H' : Hp} {C : Addr} {cl : List (Str × Addr)} {fp : List Addr} : PG (X.blk s H' scope (compEnvC scope cl C X.env) fp) e (SemGB X scope e) := ⟨fun pins s1 _ _ _ u _ I r h => h s H' C cl fp pins s1 u I r⟩
theorem we_lcL (own : List (Str × Nat)) (hc : X.calm = true) (hN : X.N.Nodup) (ok : BlkOk X.N X.env.scope scope own) (h : WE X l σ L (LcL X scope own tg elt σ K)) (hs : ∀ x, foldedSetIterable l X.env x = pure x := by intro _; rfl) :
    WE X (.ListComp elt [⟨tg, l, [], 0⟩] scope pos) σ L K := we_of (pe_lc hc hN (pi_list pe_sem) ok (fun _ _ _ _ _ => pgB) (fun _ _ _ _ _ => pts_nil) (fun _ _ _ _ _ => peB) hs) (lcL h)
theorem we_lcR (own : List (Str × Nat)) (hc : X.calm = true) (hN : X.N.Nodup) (ok : BlkOk X.N X.env.scope scope own) (hm : X.mg "range" = none) (h : WA X [a] σ L (LcR X scope own tg elt σ K)) (hg : Gl X "range" := by rfl)
    (hst : starEach [a] X.env = [(false, eval a X.env)] := by rfl) (hs : ∀ x, foldedSetIterable (.Call (.Name "range" p) [a] [] apos) X.env x = pure x := by intro _; rfl) :
    WE X (.ListComp elt [⟨tg, .Call (.Name "range" p) [a] [] apos, [], 0⟩] scope pos) σ L K := we_of (pe_lc hc hN (pi_range1 hg hm pa_sem hst) ok (fun _ _ _ _ _ => pgB) (fun _ _ _ _ _ => pts_nil) (fun _ _ _ _ _ => peB) hs) (lcR h)
/-- y = [..] -/
theorem ws_setLcL (own : List (Str × Nat)) (i : Nat) {y : Str} {py : Pos} {cpos : Pos} (hc : X.calm = true) (hN : X.N.Nodup) (hy : X.N[i]? = some y) (hyl : X.env.scope.names.lookup y = some .local) (ok : BlkOk X.N X.env.scope scope own)
    (hsw : swapsWith (.ListComp elt [⟨tg, l, [], 0⟩] scope cpos) (some (.Name y py)) pos.line X.env = pure true) (h : WE X l σ L (LcL X scope own tg elt σ fun v L' => D.nx (σ.set i (some v)) L')) (hs : ∀ x, foldedSetIterable l X.env x = pure x := by intro _; rfl) :
    WS X (.Assign [.Name y py] (.ListComp elt [⟨tg, l, [], 0⟩] scope cpos) pos) σ L D :=
  ws_of (ps_setLc hc hN hy hyl hsw (pi_list pe_sem) ok (fun _ _ _ _ _ => pgB) (fun _ _ _ _ _ => pts_nil) (fun _ _ _ _ _ => peB) hs) (lcL h)
theorem ws_setLcR (own : List (Str × Nat)) (i : Nat) {y : Str} {py : Pos} {cpos : Pos} (hc : X.calm = true) (hN : X.N.Nodup) (hy : X.N[i]? = some y) (hyl : X.env.scope.names.lookup y = some .local) (ok : BlkOk X.N X.env.scope scope own)
    (hsw : swapsWith (.ListComp elt [⟨tg, .Call (.Name "range" p) [a] [] apos, [], 0⟩] scope cpos) (some (.Name y py)) pos.line X.env = pure true) (hm : X.mg "range" = none) (h : WA X [a] σ L (LcR X scope own tg elt σ fun v L' => D.nx (σ.set i (some v)) L')) (hg : Gl X "range" := by rfl)
    (hst : starEach [a] X.env = [(false, eval a X.env)] := by rfl) (hs : ∀ x, foldedSetIterable (.Call (.Name "range" p) [a] [] apos) X.env x = pure x := by intro _; rfl) :
    WS X (.Assign [.Name y py] (.ListComp elt [⟨tg, .Call (.Name "range" p) [a] [] apos, [], 0⟩] scope cpos) pos) σ L D :=
  ws_of (ps_setLc hc hN hy hyl hsw (pi_range1 hg hm pa_sem hst) ok (fun _ _ _ _ _ => pgB) (fun _ _ _ _ _ => pts_nil) (fun _ _ _ _ _ => peB) hs) (lcR h)
end
end N3

set_option Elab.async false
set_option linter.all false
set_option maxRecDepth 100000
set_option maxHeartbeats 4000000
namespace N3
open PySem PySem.Spec L2 PySem.W PySem.Calls
open PyProof.Rows hiding St
/-- what is known at the law's entry: the script alone -/
def ScriptOf (K : PySem.W.Frag) (a : Addr) (ns : List Int) (L : LH) : Prop := (L = [] ∧ ∀ H, SqL K H a (ns.map V.int)) ∨ ∃ ob, L = [(a, .frz ob (.lst (ns.map V.int)))]
theorem law_callG {P : Program} {w : World} {K : PySem.W.Frag} {mg mb : Str → Option Value} {k : Nat} {fa a : Addr} {fd : FuncData} {x : Str} {pre : Pre} {s₁ : Shared} {vs : List Value} {ns : List Int}
    (KX : K.In s₁.heap) (hns : s₁.heap.Ns mainGlobals mg) (hb : s₁.heap.Ns builtinsNs mb) (hbb : ∀ x : Str, x ≠ "__name__" → mb x = bootBuiltins x) (hlim : s₁.heap.NoLimit) (hg : s₁.gens = #[])
    (ha : s₁.heap.get? a = some { cls := .type "list", data := .seq vs.toArray }) (hi : IntsAre vs ns) (hl : ns.length ≤ sizeLine) (hr : Room k callerA)
    (F : ∀ base : Heap, K.In base → base.Ns mainGlobals mg → FnG P w K mg base k fa fd [x] pre) (hbind : ∀ (s : Shared) (u : Value), BindsTo s fd ⟨[u], []⟩ [(x, u)])
    (hsp : ∀ L, ScriptOf K a ns L → pre [.ref a] L fun v _ => v = .bl true) :
    codeAny (model P w) callerA (.call (.ref fa) ⟨[.ref a], []⟩) (fun r s' => r = .ok (.ret (.bool true)) ∧ OldK s₁.heap s'.heap ∧ s'.os = s₁.os ∧ AllBare s'.gens) s₁ := by
  have rv := vals_ints hi
  -- H tracks at most the script, which never changes; L is that
  have main : ∀ (H : Hp) (L : LH), Holds L H → ScriptOf K a ns L → (∀ b, H b ≠ none → b = a ∧ K.lookup a = none ∧ ∃ o xs, H b = some (.frz o (.lst xs))) → HOk P w H s₁.heap →
      codeAny (model P w) callerA (.call (.ref fa) ⟨[.ref a], []⟩) (fun r s' => r = .ok (.ret (.bool true)) ∧ OldK s₁.heap s'.heap ∧ s'.os = s₁.os ∧ AllBare s'.gens) s₁ := by
    intro H L hL hS only ok
    have free : ∀ b, b ≠ a → H b = none := fun b n => by
      cases q : H b with
      | none => rfl
      | some u => exact absurd (only b (by rw [q]; exact fun z => by cases z)).1 n
    have hid : ∀ {b : Addr} {o : Obj}, b ≠ a → s₁.heap.get? b = some o → (hidT s₁.heap H).get? b = some o := fun n e => hidT_get e (free _ n)
    have dictNe : ∀ {b : Addr} {o : Obj} {es : Array DictEntry} {ep : Nat}, s₁.heap.get? b = some o → o.data = .dict es ep → b ≠ a := fun {b o es ep} e d z => by
      subst z
      rw [ha] at e
      cases e
      cases d
    have nsOf : ∀ {b : Addr} {m : Str → Option Value}, s₁.heap.Ns b m → (hidT s₁.heap H).Ns b m := fun ⟨o, es, ep, e, d, r⟩ => ⟨o, es, ep, hid (dictNe e d) e, d, r⟩
    have inK : K.In (hidT s₁.heap H) := fun b o e => by
      cases q : H b with
      | none => exact hidT_get (KX b o e) q
      | some u =>
        obtain ⟨e1, e2, _⟩ := only b (by rw [q]; exact fun z => by cases z)
        subst e1
        rw [e2] at e
        cases e
    have md : Mod K mg (hidT s₁.heap H) := ⟨inK, nsOf hns, ⟨mb, nsOf hb, hbb⟩, by
      obtain ⟨mc, h1, h2⟩ := hlim
      exact ⟨mc, nsOf h1, h2⟩⟩
    have e0 : Env0 P w K mg (hidT s₁.heap H) callerA [] s₁ H := ⟨rfl, md, fun b o e => of_hidT e, Nat.le_of_eq (hidT_size _ _), trivial, fun b z => (List.not_mem_nil z).elim, ok, .of_eq hg⟩
    have run := (F _ inK (nsOf hns)).run callerA [] s₁ H ⟨[.ref a], []⟩ [.ref a] [.ref a] L _ hr rfl e0 (hbind s₁ (.ref a)) (.cons rfl .nil) hL (hsp L hS)
    refine codeAny_mono run fun r s' h => ?_
    cases r with
    | error e => exact (h : False).elim
    | ok fl =>
      cases fl with
      | next => exact False.elim h
      | brk => exact False.elim h
      | cont => exact False.elim h
      | ret u =>
        obtain ⟨v, H', os, bare, un, ok', r', _, _, e⟩ := h
        subst e
        cases r'
        refine ⟨rfl, OldK.of_keep fun b o e => ?_, os, bare⟩
        cases q : H b with
        | none => exact un.keep b o e q (fun z => (List.not_mem_nil z).elim) (fun z => (List.not_mem_nil z).elim)
        | some u =>
          obtain ⟨_, _, ob, xs, z⟩ := only b (by rw [q]; exact fun z => by cases z)
          obtain ⟨e1, _⟩ := ok b _ z
          obtain ⟨e2, _⟩ := ok' b _ (un.frzs b ob _ z)
          rw [e1] at e
          cases e
          exact e2
  cases hk : K.lookup a with
  | some o =>
    have e := KX a o hk
    rw [ha] at e
    cases e
    have hs : ∀ H, SqL K H a (ns.map V.int) := fun H => .inr ⟨_, vs.toArray, _, hk, rfl, rfl, rfl, by rw [List.size_toArray, hi.length]; exact hl, by simpa using rv⟩
    exact main (fun _ => none) [] ⟨List.nodup_nil, fun _ _ z => (List.not_mem_nil z).elim⟩ (.inl ⟨rfl, hs⟩) (fun b z => absurd rfl z) fun b u z => by cases (show (none : Option HO) = some u from z)
  | none =>
    let ob : Obj := { cls := .type "list", data := .seq vs.toArray }
    have at_a : ∀ (H : Hp), H = (fun b => if b = a then some (.frz ob (.lst (ns.map V.int))) else none) → H a = some (.frz ob (.lst (ns.map V.int))) := fun H e => by rw [e]; exact if_pos rfl
    refine main (fun b => if b = a then some (.frz ob (.lst (ns.map V.int))) else none) [(a, .frz ob (.lst (ns.map V.int)))] ⟨List.nodup_cons.mpr ⟨List.not_mem_nil, List.nodup_nil⟩, fun b o m => ?_⟩ (.inr ⟨ob, rfl⟩) (fun b z => ?_) fun b u z => ?_
    · cases m with
      | head => exact if_pos rfl
      | tail _ m => exact (List.not_mem_nil m).elim
    · by_cases n : b = a
      · exact ⟨n, hk, ob, _, if_pos n⟩
      · exact absurd (if_neg n) z
    · by_cases n : b = a
      · subst n
        have z2 := (if_pos rfl).symm.trans z
        cases z2
        exact ⟨ha, by rw [List.length_map]; exact hl, vs, _, rv, ha⟩
      · have z2 := (if_neg n).symm.trans z
        cases z2
theorem walk_G {l : PySem.W.OpenLaw} {n k : Nat} {q : Program} {loose : List Str} {XP : (Str → Option Value) → Heap → Prop} {YP : World → Heap → Prop} {d : DefRec} {K : Params → PySem.W.Frag} {pre : PySem.W.Frag → Pre} {x : Str}
    (hn : l.most = some n) (hn2 : n ≤ sizeLine) (hdf : d.params.defaults = []) (hr : Room k callerA) (hY : ∀ (w : World) (h : Heap), YP w h → (K w.params).In h)
    (F : ∀ (w : World) (mg : Str → Option Value) (fa : Addr) (h : Heap), (K w.params).In h → h.Ns mainGlobals mg → mg d.name = some (.ref fa) →
      ∃ fd : FuncData, (∀ (s : Shared) (u : Value), BindsTo s fd ⟨[u], []⟩ [(x, u)]) ∧ ∀ base : Heap, (K w.params).In base → base.Ns mainGlobals mg → FnG l.prog w (K w.params) mg base k fa fd [x] (pre (K w.params)))
    (hsp : ∀ (w : World) (L : LH) (a : Addr) (ns : List Int), ns.length ≤ n → ScriptOf (K w.params) a ns L → pre (K w.params) [.ref a] L fun v _ => v = .bl true) :
    PySem.W.WalkO q loose XP YP l.row.toRowW d [] (fun f vs => PySem.call f vs) := by
  refine Att.attach_call hn hdf fun w s₀ s₁ mg mb fa o pm cd doc a vs ns G Y ho hd hcd hmg hobj hints hlen hg => ?_
  obtain ⟨fd, hb, hF⟩ := F w mg fa _ (hY w _ Y) G.T.g hmg
  exact law_callG (hY w _ Y) G.T.g G.T.b G.T.builtins G.T.nolimit hg hobj hints (Nat.le_trans hlen hn2) hr hF hb fun L hS => hsp w L a ns hlen hS
end N3

set_option Elab.async false
set_option linter.all false
set_option maxRecDepth 100000
set_option maxHeartbeats 4000000
namespace N3
open PySem PySem.Spec L2
open PyProof.Rows (envOfC)
/-! ### what is asked of a body's names, once -/
inductive At (x : Str) : List Str → Nat → Prop where
  | head {l : List Str} : At x (x :: l) 0
  | tail {y : Str} {l : List Str} {i : Nat} : At x l i → At x (y :: l) (i + 1)
inductive InS (x : Str) : List Str → Prop where
  | head {l : List Str} : InS x (x :: l)
  | tail {y : Str} {l : List Str} : InS x l → InS x (y :: l)
theorem At.get {x : Str} {l : List Str} {i : Nat} (h : At x l i) : l[i]? = some x := by
  induction h with
  | head => rfl
  | tail _ ih => rw [List.getElem?_cons_succ]; exact ih
theorem At.mem {x : Str} {l : List Str} {i : Nat} (h : At x l i) : x ∈ l := List.mem_of_getElem? h.get
def visB (sc : Scope) (x : Str) : Bool := (match sc.names.lookup x with | some .local => true | some .cell => true | some .free => true | _ => false) && !(x == "__debug__") && !(x == "__classdict__")
def locB (sc : Scope) (x : Str) : Bool := match sc.names.lookup x with | some .local => true | _ => false
def gloB (sc : Scope) (x : Str) : Bool := (match sc.names.lookup x with | some .globalImplicit => true | _ => false) && decide (x ≠ "__name__") && !(x == "__debug__")
def scopeB (N : List Str) (sc : Scope) (Vn Ln Gn : List Str) : Bool := decide N.Nodup && Vn.all (visB sc) && Ln.all (locB sc) && Gn.all (gloB sc)
structure XOk (N : List Str) (sc : Scope) (Vn Ln Gn : List Str) (X : Cx) : Prop where
  hN : X.N = N
  hsc : X.env.scope = sc
  ok : scopeB N sc Vn Ln Gn = true
  calm : X.calm = true
  pas : PassesOwn (model X.prog X.w) X.A X.env X.xe
section
variable {N Vn Ln Gn : List Str} {sc : Scope} {X : Cx} {x : Str} {i j : Nat}
theorem XOk.all (h : XOk N sc Vn Ln Gn X) : N.Nodup ∧ (∀ x ∈ Vn, visB sc x = true) ∧ (∀ x ∈ Ln, locB sc x = true) ∧ ∀ x ∈ Gn, gloB sc x = true := by
  have o := h.ok
  unfold scopeB at o
  simp only [Bool.and_eq_true, decide_eq_true_eq, List.all_eq_true] at o
  obtain ⟨⟨⟨a, b⟩, c⟩, d⟩ := o
  exact ⟨a, b, c, d⟩
theorem XOk.nd (h : XOk N sc Vn Ln Gn X) : X.N.Nodup := by rw [h.hN]; exact h.all.1
theorem XOk.ix (h : XOk N sc Vn Ln Gn X) (a : At x N i) : X.N[i]? = some x := by rw [h.hN]; exact a.get
theorem XOk.vis (h : XOk N sc Vn Ln Gn X) (a : At x Vn j) : Vis X.env.scope x ∧ (x == ("__debug__" : Str)) = false ∧ (x == ("__classdict__" : Str)) = false := by
  have v := h.all.2.1 x a.mem
  rw [h.hsc]
  unfold visB at v
  simp only [Bool.and_eq_true, Bool.not_eq_true'] at v
  obtain ⟨⟨v, d1⟩, d2⟩ := v
  refine ⟨?_, d1, d2⟩
  unfold Vis
  split at v
  · rename_i e; exact .inl e
  · rename_i e; exact .inr (.inl e)
  · rename_i e; exact .inr (.inr e)
  · cases v
theorem XOk.loc (h : XOk N sc Vn Ln Gn X) (a : At x Ln j) : X.env.scope.names.lookup x = some .local := by
  have v := h.all.2.2.1 x a.mem
  rw [h.hsc]
  unfold locB at v
  split at v
  · rename_i e; exact e
  · cases v
theorem XOk.glo (h : XOk N sc Vn Ln Gn X) (a : At x Gn j) : Gl X x ∧ x ≠ "__name__" ∧ (x == ("__debug__" : Str)) = false := by
  have v := h.all.2.2.2 x a.mem
  unfold gloB at v
  simp only [Bool.and_eq_true, Bool.not_eq_true', decide_eq_true_eq] at v
  obtain ⟨⟨v, d1⟩, d2⟩ := v
  refine ⟨?_, d1, d2⟩
  show X.env.scope.names.lookup x = some .globalImplicit
  rw [h.hsc]
  split at v
  · rename_i e; exact e
  · cases v
theorem XOk.blk {scope : Scope} {Vb Lb Gb : List Str} (h : XOk N sc Vn Ln Gn X) (hb : scopeB N (relS scope sc) Vb Lb Gb = true) (s : Shared) (H : Hp) (C : Addr) (cl : List (Str × Addr)) (fp : List Addr) :
    XOk N (relS scope sc) Vb Lb Gb (X.blk s H scope (compEnvC scope cl C X.env) fp) := ⟨h.hN, by rw [← h.hsc]; rfl, hb, h.calm, PassesOwn.never⟩
end
section
variable {P : Program} {w : World} {K : PySem.W.Frag} {mg : Str → Option Value} {base : Heap}
theorem fnX {x qual : Str} {st : Stmt} {f : Addr} {fd : FuncData} {N ps Gn : List Str} {k : Nat} {pre : Pre} (F : Fun K x qual st f fd) (S : FnScope N ps (defScope st)) (ok : scopeB N (defScope st) N N Gn = true) (len : ∀ vs L Kk, pre vs L Kk → vs.length = ps.length)
    (body : ∀ (X : Cx), X.prog = P → X.w = w → X.K = K → X.mg = mg → X.base = base → XOk N (defScope st) N N Gn X → Room k X.A → ∀ vs L Kk, pre vs L Kk → WSs X (defBody st) (start N vs) L (EndOf Kk)) : FnOk P w K mg base CX0 (k + 1) f fd ps (SpL pre) :=
  fnL F S len fun cdv A outer s H vs E L Kk hr hp => body _ rfl rfl rfl rfl rfl ⟨rfl, rfl, ok, rfl, PassesOwn.never⟩ hr vs L Kk hp
theorem fnXG {x qual : Str} {st : Stmt} {f : Addr} {fd : FuncData} {N ps Gn : List Str} {k : Nat} {pre : Pre} (F : Fun K x qual st f fd) (S : FnScope N ps (defScope st)) (ok : scopeB N (defScope st) N N Gn = true) (len : ∀ vs L Kk, pre vs L Kk → vs.length = ps.length)
    (body : ∀ (X : Cx), X.prog = P → X.w = w → X.K = K → X.mg = mg → X.base = base → XOk N (defScope st) N N Gn X → Room k X.A → X.A.guards = some [] → ∀ vs L Kk, pre vs L Kk → WSs X (defBody st) (start N vs) L (EndOf Kk)) : FnG P w K mg base (k + 1) f fd ps pre :=
  fnG F S len fun cdv A outer s H vs E L Kk hr hg hp => body _ rfl rfl rfl rfl rfl ⟨rfl, rfl, ok, rfl, PassesOwn.never⟩ hr hg vs L Kk hp
end
/-! ### the rules, over XOk -/
section
variable {N Vn Ln Gn : List Str} {sc : Scope} {X : Cx} {i j : Nat} {e a b l tg elt : Expr} {es : List Expr} {sts body : List Stmt} {σ : L2.St} {L : LH} {K : V → LH → Prop} {KS : L2.St → LH → Prop} {D : EndsL} {pos apos p : Pos} {x m f : Str} {C : Addr} {k : Nat} {ps : List Str} {dvs : List V} {pre : Pre}
theorem x_name {v : V} (h : XOk N sc Vn Ln Gn X) (a : At x N i) (c : At x Vn j) (hσ : σ[i]? = some (some v)) (k : K v L) : WE X (.Name x pos) σ L K := we_name i (h.ix a) (h.vis c).1 hσ k (h.vis c).2.1 (h.vis c).2.2
theorem x_glob {v : V} {u : Value} (h : XOk N sc Vn Ln Gn X) (a : At x Gn i) (hm : X.mg x = some u) (r : RelV v u) (k : K v L) : WE X (.Name x pos) σ L K := we_glob hm r k (h.glo a).1 (h.glo a).2.2
theorem x_bltn {v : V} {u : Value} (h : XOk N sc Vn Ln Gn X) (a : At x Gn i) (hm : X.mg x = none) (hv : bootBuiltins x = some u) (r : RelV v u) (k : K v L) : WE X (.Name x pos) σ L K := we_bltn hm hv r k (h.glo a).1 (h.glo a).2.1 (h.glo a).2.2
theorem x_set {pos' : Pos} (h : XOk N sc Vn Ln Gn X) (a : At x N i) (c : At x Ln j) (q : WE X e σ L fun v L1 => D.nx (σ.set i (some v)) L1) (hs : swapsWith e (some (.Name x pos')) pos.line X.env = pure false := by rfl) : WS X (.Assign [.Name x pos'] e pos) σ L D :=
  ws_set i q h.nd (h.ix a) (.inl (h.loc c)) hs (.inr (h.loc c))
theorem x_tgt {v : V} (h : XOk N sc Vn Ln Gn X) (a : At x N i) (c : At x Ln j) (k : KS (σ.set i (some v)) L) : WG X (.Name x pos) v σ L KS := wg_name i k h.nd (h.ix a) (.inl (h.loc c)) (.inr (h.loc c))
theorem x_tup {q : Addr} {vs : List V} {kk : Nat} (h : XOk N sc Vn Ln Gn X) (m : Mem q (.tup vs) L) (g : WGs X es vs σ L KS) (hl : vs.length = es.length := by rfl) (hn : (assignEach es X.env).length = es.length := by rfl) (hst : (assignEach es X.env).findIdx? (·.1) = none := by rfl) :
    WG X (.Tuple es kk pos) (.ref q) σ L KS := wg_tup h.calm m g hl hn hst
theorem x_call (h : XOk N sc Vn Ln Gn X) (g : At x Gn i) (G : GFn X.prog X.w X.K X.mg X.base x k ps dvs pre) (hr : Room k X.A) (q : WA X (e :: es) σ L fun vs L1 => pre (vs ++ dvs) L1 K)
    (he : starEach (e :: es) X.env = (false, eval e X.env) :: starEach es X.env := by rfl) (hpl : (backTo pos (starEach es X.env)).any (·.1) = false := by rfl) : WE X (.Call (.Name x p) (e :: es) [] pos) σ L K := we_call G hr q (h.glo g).1 (h.glo g).2.2 he hpl
theorem x_callG (h : XOk N sc Vn Ln Gn X) (g : At x Gn i) (G : GFg X.prog X.w X.K X.mg X.base x k ps dvs pre) (hr : Room k X.A) (hgd : X.A.guards = some []) (q : WA X (e :: es) σ L fun vs L1 => pre (vs ++ dvs) L1 K)
    (he : starEach (e :: es) X.env = (false, eval e X.env) :: starEach es X.env := by rfl) (hpl : (backTo pos (starEach es X.env)).any (·.1) = false := by rfl) : WE X (.Call (.Name x p) (e :: es) [] pos) σ L K := we_callG G hr hgd q (h.glo g).1 (h.glo g).2.2 he hpl
theorem x_make (h : XOk N sc Vn Ln Gn X) (g : At x Gn i) (G : GMk X.prog X.w X.K X.mg X.base x C k ps dvs pre) (hr : Room (k + 1) X.A) (q : WA X (e :: es) σ L fun vs L1 => ∀ o dx, pre (.ref o :: (vs ++ dvs)) ((o, .ins C dx []) :: L1) fun v L2 => v = .non ∧ K (.ref o) L2)
    (he : starEach (e :: es) X.env = (false, eval e X.env) :: starEach es X.env := by rfl) (hpl : (backTo pos (starEach es X.env)).any (·.1) = false := by rfl) : WE X (.Call (.Name x p) (e :: es) [] pos) σ L K := we_make G hr q (h.glo g).1 (h.glo g).2.2 he hpl
theorem x_callB {id : String} (h : XOk N sc Vn Ln Gn X) (g : At x Gn i) (hm : X.mg x = none) (hv : bootBuiltins x = some (.builtin id)) (q : WA X (e :: es) σ L fun vs L1 => WC X (.builtin id) vs L1 K)
    (he : starEach (e :: es) X.env = (false, eval e X.env) :: starEach es X.env := by rfl) (hpl : (backTo pos (starEach es X.env)).any (·.1) = false := by rfl) : WE X (.Call (.Name x p) (e :: es) [] pos) σ L K := we_callB hm hv q (h.glo g).1 (h.glo g).2.1 (h.glo g).2.2 he hpl
theorem x_callTy {T : String} (h : XOk N sc Vn Ln Gn X) (g : At x Gn i) (hm : X.mg x = none) (hv : bootBuiltins x = some (.type T)) (q : WA X (e :: es) σ L fun vs L1 => WC X (.type T) vs L1 K)
    (he : starEach (e :: es) X.env = (false, eval e X.env) :: starEach es X.env := by rfl) (hpl : (backTo pos (starEach es X.env)).any (·.1) = false := by rfl) : WE X (.Call (.Name x p) (e :: es) [] pos) σ L K := we_callTy hm hv q (h.glo g).1 (h.glo g).2.1 (h.glo g).2.2 he hpl
theorem x_callFn {id : String} (h : XOk N sc Vn Ln Gn X) (g : At x Gn i) (hm : X.mg x = some (.builtin id)) (q : WA X (e :: es) σ L fun vs L1 => WC X (.builtin id) vs L1 K)
    (he : starEach (e :: es) X.env = (false, eval e X.env) :: starEach es X.env := by rfl) (hpl : (backTo pos (starEach es X.env)).any (·.1) = false := by rfl) : WE X (.Call (.Name x p) (e :: es) [] pos) σ L K := we_callFn hm q (h.glo g).1 (h.glo g).2.2 he hpl
theorem x_setF {f : Str} {pos' : Pos} (h : WE X b σ L fun y L1 => WE X a σ L1 fun z L2 => ∃ o C dx fs F, z = .ref o ∧ Hole o (.ins C dx fs) L2 F ∧ Cls X.K C ∧ NoAttr X.K C f ∧ fs.length < 1000 ∧ D.nx σ (F (.ins C dx (putF f y fs))))
    (hs : swapsWith b (some (.Attribute a f pos')) pos.line X.env = pure false := by rfl) : WS X (.Assign [.Attribute a f pos'] b pos) σ L D :=
  ws_of (ps_fld pe_sem pe_sem hs) fun _ hL => e_then h hL fun _ _ _ h1 k1 => e_then k1 h1 fun _ _ _ h2 ⟨o, C, dx, fs, F, ez, hf, c, n, hl, k⟩ => ⟨o, C, dx, fs, ez, h2.at_ _ _ hf.mem, c, n, hl, _, h2.put hf, k⟩
end
end N3
namespace N3
open PySem PySem.Spec L2
section
variable {P : Program} {w : World} {K : PySem.W.Frag} {mg : Str → Option Value} {base : Heap}
/-- a def with defaults -/
theorem fnXD {x qual : Str} {st : Stmt} {f : Addr} {fd : FuncData} {N ps Gn : List Str} {k : Nat} {pre : Pre} {dvs : List V} (F : FunD K x qual (defArgs st) (defBody st) (defScope st) dvs [] f fd) (S : FnScope N ps (defScope st)) (ok : scopeB N (defScope st) N N Gn = true)
    (len : ∀ vs L Kk, pre vs L Kk → vs.length = ps.length)
    (body : ∀ (X : Cx), X.prog = P → X.w = w → X.K = K → X.mg = mg → X.base = base → XOk N (defScope st) N N Gn X → Room k X.A → ∀ vs L Kk, pre vs L Kk → WSs X (defBody st) (start N vs) L (EndOf Kk)) : FnOk P w K mg base CX0 (k + 1) f fd ps (SpL pre) := by
  refine F.ok S (fun vs H Q E h => ?_) (fun cdv A outer s H vs Q E hr h => ?_)
  · obtain ⟨L, Kk, _, hp, _⟩ := h
    exact len vs L Kk hp
  · obtain ⟨L, Kk, hL, hp, hk⟩ := h
    have b := body (cxOf CX0 P w K mg base N qual (defScope st) f cdv A outer s H E).nox rfl rfl rfl rfl rfl ⟨rfl, rfl, ok, rfl, PassesOwn.never⟩ hr vs L Kk hp
    refine ⟨_, PSs.nox pss_sem, (b H hL).mono ⟨fun σ H' q => ?_, fun v H' q => hk v H' q.sub, fun _ _ q => ?_, fun _ _ q => ?_⟩⟩
    · obtain ⟨L1, h1, L2, s2, k2⟩ := q
      exact hk _ _ ⟨L2, s2 _ h1, k2⟩
    · obtain ⟨_, _, q⟩ := q
      exact q.elim
    · obtain ⟨_, _, q⟩ := q
      exact q.elim
end
/-! ### steps, by the syntax -/
theorem ret_sub {v : V} {L L' : LH} {K : V → LH → Prop} (k : K v L') (s : Sub L L') : (EndOf K).rt v L := ⟨L', s, k⟩
theorem nx_sub {σ : L2.St} {L L' : LH} {K : V → LH → Prop} (k : K .non L') (s : Sub L L') : (EndOf K).nx σ L := ⟨L', s, k⟩
end N3

set_option Elab.async false
set_option linter.all false
set_option maxRecDepth 100000
set_option maxHeartbeats 4000000
namespace N3
open PySem PySem.Spec L2 ClX StX
section
variable {P : Program} {w : World} {K : PySem.W.Frag} {mg : Str → Option Value} {base : Heap}
/-- def f(a, .., *v) -/
def preStar (n : Nat) (pre : Pre) : Pre := fun vs L Kk => ∃ ws rest, vs = ws ++ rest ∧ ws.length = n ∧ rest.length ≤ sizeLine ∧ ∀ p, pre (ws ++ [.ref p]) ((p, .tup rest) :: L) Kk
theorem fnStar {x qual pv : Str} {st : Stmt} {f : Addr} {fd : FuncData} {N ps Gn : List Str} {k : Nat} {pre : Pre} (F : Fun K x qual st f fd) (S : FnScope N (ps ++ [pv]) (defScope st)) (ok : scopeB N (defScope st) N N Gn = true)
    (hb : ∀ (kV doc pm : Value) (an : Option Addr) (cdv ct : Value) (us rest : List Value), us.length = ps.length → bindArgs (PySem.W.fnOf x qual (defArgs st) (defBody st) (defScope st) .none kV doc pm an cdv ct) ⟨us ++ rest, []⟩ = (newTuple rest >>= fun t => pure (ps.zip us ++ [(pv, t)])))
    (body : ∀ (X : Cx), X.prog = P → X.w = w → X.K = K → X.mg = mg → X.base = base → XOk N (defScope st) N N Gn X → Room k X.A → ∀ vs L Kk, pre vs L Kk → WSs X (defBody st) (start N vs) L (EndOf Kk)) :
    FnR P w K mg base CX0 (k + 1) f (SpL (preStar ps.length pre)) := by
  obtain ⟨oc, od, kV, doc, pm, an, cdv, ct, osl, rfl, lk, hcd⟩ := F.ex
  refine (fn_star (sp := SpL pre) lk hcd S cxUp_none (hb kV doc pm an cdv ct) (fun A outer s H vs Q E hr h => ?_)).imp fun vs H Q E h => ?_
  · obtain ⟨L, Kk, hL, hp, hk⟩ := h
    have b := body (cxOf CX0 P w K mg base N qual (defScope st) f cdv A outer s H E).nox rfl rfl rfl rfl rfl ⟨rfl, rfl, ok, rfl, PassesOwn.never⟩ hr vs L Kk hp
    refine ⟨_, PSs.nox pss_sem, (b H hL).mono ⟨fun σ H' q => ?_, fun v H' q => hk v H' q.sub, fun _ _ q => ?_, fun _ _ q => ?_⟩⟩
    · obtain ⟨L1, h1, L2, s2, k2⟩ := q
      exact hk _ _ ⟨L2, s2 _ h1, k2⟩
    · obtain ⟨_, _, q⟩ := q
      exact q.elim
    · obtain ⟨_, _, q⟩ := q
      exact q.elim
  · obtain ⟨L, Kk, hL, ⟨ws, rest, ev, hl, hz, hp⟩, hk⟩ := h
    exact ⟨ws, rest, ev, hl, hz, fun p hp' => ⟨_, Kk, hL.new hp', hp p, hk⟩⟩
/-- a classmethod of the class at C, called off the class -/
structure GCm (P : Program) (w : World) (K : PySem.W.Frag) (mg : Str → Option Value) (base : Heap) (C : Addr) (m : Str) (k : Nat) (pre : Pre) : Prop where
  ex : ∃ mc p g, CRead K C mc ∧ CMet K C mc m p g ∧ FnR P w K mg base CX0 k g (SpL pre)
end
section
variable {N Vn Ln Gn : List Str} {sc : Scope} {X : Cx} {i j : Nat} {e a b : Expr} {es : List Expr} {σ : L2.St} {L : LH} {K : V → LH → Prop} {pos apos p : Pos} {x m : Str} {C : Addr} {k : Nat} {ps : List Str} {dvs : List V} {pre : Pre}
theorem we_cmeth {pl : Sem Bool} (G : GCm X.prog X.w X.K X.mg X.base C m k pre) (hr : Room k X.A) (h : WE X a σ L fun x L1 => x = .ref C ∧ WA X (e :: es) σ L1 fun vs L2 => pre (.ref C :: vs) L2 K)
    (hst : starEach (e :: es) X.env = (false, eval e X.env) :: starEach es X.env := by rfl) (hpl : (backTo pos (starEach es X.env)).any (·.1) = false := by rfl)
    (ht : eval (.Call (.Attribute a m apos) (e :: es) [] pos) X.env = (do
      let ov ← eval a X.env
      standAt apos.atName
      let (f, first) ← holding [ov] (getMethod ov m pl)
      callWith pos f first (backTo pos (starEach (e :: es) X.env)) (backToKw pos (keywordEach [] X.env))) := by rfl) : WE X (.Call (.Attribute a m apos) (e :: es) [] pos) σ L K := by
  obtain ⟨mc, p, g, r, c, F⟩ := G.ex
  exact we_of (pe_cmeth (E := E0) (pl := pl) pe_sem r c F hr pass0 pa_sem hst hpl ht) fun _ hL => e_then h hL fun _ _ _ h1 ⟨ex, k1⟩ => ⟨ex, a_then k1 h1 fun vs L2 _ h2 k2 => ⟨L2, K, h2, k2, fun _ _ q => q⟩⟩
theorem we_cmeth0 {pl : Sem Bool} (G : GCm X.prog X.w X.K X.mg X.base C m k pre) (hr : Room k X.A) (h : WE X a σ L fun x L1 => x = .ref C ∧ pre [.ref C] L1 K)
    (ht : eval (.Call (.Attribute a m apos) [] [] pos) X.env = (do
      let ov ← eval a X.env
      standAt apos.atName
      let (f, first) ← holding [ov] (getMethod ov m pl)
      callWith pos f first (backTo pos (starEach [] X.env)) (backToKw pos (keywordEach [] X.env))) := by rfl) : WE X (.Call (.Attribute a m apos) [] [] pos) σ L K := by
  obtain ⟨mc, p, g, r, c, F⟩ := G.ex
  intro H hL pins s I
  refine PySem.W.methodCall_KW (pl := pl) (thn (h H hL pins s I) fun u s1 ⟨x, H1, I1, rx, L1, h1, ex, q⟩ => ?_) ht
  subst ex
  cases rx
  refine getmethcm_ok I1 r c fun s2 I2 => ?_
  refine PySem.W.callWith_M0 (first := []) ⟨pin_at I2, I2.kIn⟩ c.fi ?_
  exact run_cm (vs := []) (us := []) F hr pass0 I2 .nil ⟨L1, K, h1, q, fun _ _ z => z⟩
/-- x(e, ..), x a local name that holds a class -/
theorem x_makeL {cn : Str} (h : XOk N sc Vn Ln Gn X) (g : At x N i) (c : At x Vn j) (hσ : σ[i]? = some (some (.ref C))) (G : GMk X.prog X.w X.K X.mg X.base cn C k ps dvs pre) (hr : Room (k + 1) X.A)
    (q : WA X (e :: es) σ L fun vs L1 => ∀ o dx, pre (.ref o :: (vs ++ dvs)) ((o, .ins C dx []) :: L1) fun v L2 => v = .non ∧ K (.ref o) L2)
    (he : starEach (e :: es) X.env = (false, eval e X.env) :: starEach es X.env := by rfl) (hpl : (backTo pos (starEach es X.env)).any (·.1) = false := by rfl) : WE X (.Call (.Name x p) (e :: es) [] pos) σ L K := by
  obtain ⟨f, fd, ds, F, hm, M, hb, hd⟩ := G.ex
  intro H hL pins s I
  refine wpAny_Call_Name_kw (thn ((pe_var (pos := p) (h.ix g) (h.vis c).1 (h.vis c).2.1 (h.vis c).2.2).run pins s σ H (fun v H1 => v = .ref C ∧ H1 = H) I ⟨.ref C, hσ, rfl, rfl⟩) fun u s1 ⟨v, H1, I1, r1, q1⟩ => ?_)
  obtain ⟨rfl, rfl⟩ := q1
  cases r1
  refine PySem.W.callWith_K (h₀ := X.base) I.ok.mod.kin M.kp (thn (q _ hL pos pins s1 I1) fun us s2 ⟨vs, H2, I2, r, L1, h1, k1⟩ => ⟨I2.kIn, ?_⟩) he hpl
  refine run_make (E := E0) M F hr hb hd pass0 I2 r fun o dx ho hdx ne => ?_
  have z2 := (h1.new (o := .own o) hdx).new (p := o) (o := .ins C dx []) (by rw [upd_ne ne.symm]; exact ho)
  exact ⟨_, fun v L2 => v = .non ∧ K (.ref o) L2, z2.drop1, k1 o dx, fun v H' ⟨L2, h2, ev, qq⟩ => ⟨ev, L2, h2, qq⟩⟩
end
end N3

set_option Elab.async false
set_option linter.all false
set_option maxRecDepth 100000
set_option maxHeartbeats 4000000
namespace N3
open PySem PySem.Spec L2
theorem Hole.self {a : Addr} {o : HO} {L : LH} {F : HO → LH} (h : Hole a o L F) : F o = L := by
  induction h with
  | head => rfl
  | tail _ ih => exact congrArg (_ :: ·) ih
theorem Hole.again {a : Addr} {o : HO} {L : LH} {F : HO → LH} (h : Hole a o L F) (o' : HO) : Hole a o' (F o') F := by
  induction h with
  | head => exact .head
  | tail _ ih => exact .tail ih
section
variable {N Vn Ln Gn : List Str} {sc : Scope} {X : Cx} {i j i' j' : Nat} {a b : Expr} {σ : L2.St} {L : LH} {D : EndsL} {pos : Pos} {x y : Str}
/-- x, y = a, b -/
theorem x_par {px py pt : Pos} {kt k2 : Nat} {pt2 : Pos} (h : XOk N sc Vn Ln Gn X) (a1 : At x N i) (c1 : At x Ln i') (a2 : At y N j) (c2 : At y Ln j') (hij : i ≠ j)
    (q : WE X a σ L fun v L1 => WE X b σ L1 fun w L2 => D.nx ((σ.set i (some v)).set j (some w)) L2)
    (hw : ∀ env : Env, env.scope = sc → swappedStores [.Tuple [.Name x px, .Name y py] kt pt] (.Tuple [a, b] k2 pt2) env = pure (some [x, y]) := by intro env e; cases env with | mk => dsimp only at e; subst e; rfl)
    (e1 : starEach [a, b] X.env = (false, eval a X.env) :: starEach [b] X.env := by rfl) (e2 : starEach [b] X.env = (false, eval b X.env) :: starEach [] X.env := by rfl)
    (hs : swapsWithSole [.Tuple [.Name x px, .Name y py] kt pt] (.Tuple [a, b] k2 pt2) pos.line X.env = pure false := by rfl) : WS X (.Assign [.Tuple [.Name x px, .Name y py] kt pt] (.Tuple [a, b] k2 pt2) pos) σ L D :=
  ws_of (ps_par h.calm h.nd (h.ix a1) (h.ix a2) hij (h.loc c1) (h.loc c2) (pa_cons pe_sem (pa_cons pe_sem pa_nil e2) e1) (hw X.env h.hsc) hs) fun _ hL => e_then q hL fun v _ _ h1 k1 => e_then k1 h1 fun w L2 _ h2 k2 => ⟨v, w, rfl, L2, h2, k2⟩
end
end N3

set_option Elab.async false
set_option linter.all false
set_option maxRecDepth 100000
set_option maxHeartbeats 4000000
namespace L2
open PySem PySem.Spec PyProof.Rows
/-- X() of an own class without own __init__ -/
theorem n3_pmk_own0 {X : Cx} {C : Addr} {bmB : List Value} {B newId initId : String} {x : Str} {p pos : Pos} (F : ExcBaseFacts B newId initId bmB) (q : PySem.W.excIn X.K C bmB newId = true) (gC : X.mg x = some (.ref C)) (kC : PySem.W.keepIn X.K (.ref C) = true) (r : Raises X (.ref C)) (hg : Gl X x)
    (hdb : (x == ("__debug__" : Str)) = false) : PMk X (.Call (.Name x p) [] [] pos) (fun _ H Q => Q (.ref C) none H) := by
  intro pins s σ H Q I h
  refine wpAny_Call_Name_kw (ld_glob I hg gC ?_ hdb)
  refine PySem.W.callWith_K0 I.kIn kC ?_
  obtain ⟨bm, N, nm, qn, bs, hdct, sn, sub, ab, col, dd, k0, k1, k2, k3, k5, mN, hC, hN, hni, T⟩ := exc_obj I.kIn q
  refine wpAny_call_exc_subT F T hC hN hni (fun h' e hm => ?_) (Nat.zero_le _)
  exact mk_of I hm r h (I.hok.gone hm.new)
end L2
namespace N3
open PySem PySem.Spec L2
open PyProof.Rows (envOfC)
/-- a promise with what it may let out: the class, and what is known then -/
abbrev PreX := List V → LH → (V → LH → Prop) → (Value → Option Addr → LH → Prop) → Prop
def SpXL (pre : PreX) : Sp := fun vs H Q E => ∃ L K KX, Holds L H ∧ pre vs L K KX ∧ (∀ v H', QE K v H' → Q v H') ∧ ∀ cls d L' H', Holds L' H' → KX cls d L' → E cls d H'
/-- what is let out, as a wish -/
def OutW (KX : Value → Option Addr → LH → Prop) : WX := fun cls d _ H => ∃ L, Holds L H ∧ KX cls d L
section
variable {P : Program} {w : World} {K : PySem.W.Frag} {mg : Str → Option Value} {base : Heap}
theorem fnXE {x qual : Str} {st : Stmt} {f : Addr} {fd : FuncData} {N ps Gn : List Str} {k : Nat} {pre : PreX} (F : Fun K x qual st f fd) (S : FnScope N ps (defScope st)) (ok : scopeB N (defScope st) N N Gn = true) (len : ∀ vs L Kk KX, pre vs L Kk KX → vs.length = ps.length)
    (body : ∀ (X : Cx), X.prog = P → X.w = w → X.K = K → X.mg = mg → X.base = base → XOk N (defScope st) N N Gn X → Room k X.A → ∀ vs L Kk KX, Takes X (OutW KX) → pre vs L Kk KX → WSs X (defBody st) (start N vs) L (EndOf Kk)) :
    FnOk P w K mg base (L2.CX P w) (k + 1) f fd ps (SpXL pre) := by
  refine F.okX S (fun vs H Q E h => ?_) (fun cdv A outer s H vs Q E hr h => ?_)
  · obtain ⟨L, Kk, KX, _, hp, _⟩ := h
    exact len vs L Kk KX hp
  · obtain ⟨L, Kk, KX, hL, hp, hk, hx⟩ := h
    have tk : Takes (cxOf (L2.CX P w) P w K mg base N qual (defScope st) f cdv A outer s H E) (OutW KX) := (takes_of (E := E) rfl rfl rfl rfl).imp fun c d _ H' ⟨L', h', q⟩ => hx c d L' H' h' q
    refine ⟨_, pss_sem, ((body (cxOf (L2.CX P w) P w K mg base N qual (defScope st) f cdv A outer s H E) rfl rfl rfl rfl rfl ⟨rfl, rfl, ok, rfl, passes_of rfl⟩ hr vs L Kk KX tk hp) H hL).mono ⟨fun σ H' q => ?_, fun v H' q => hk v H' q.sub, fun _ _ q => ?_, fun _ _ q => ?_⟩⟩
    · obtain ⟨L1, h1, L2, s2, k2⟩ := q
      exact hk _ _ ⟨L2, s2 _ h1, k2⟩
    · obtain ⟨_, _, q⟩ := q
      exact q.elim
    · obtain ⟨_, _, q⟩ := q
      exact q.elim
/-- a method that may let something out -/
structure GMX (P : Program) (w : World) (K : PySem.W.Frag) (mg : Str → Option Value) (base : Heap) (C : Addr) (m : Str) (k : Nat) (ps : List Str) (pre : PreX) : Prop where
  ex : ∃ f fd, FnOk P w K mg base (L2.CX P w) k f fd ps (SpXL pre) ∧ Cls K C ∧ Meth K C m f ∧ Binds K fd ps []
/-- what a try asks of its place -/
structure Tries (X : Cx) : Prop where
  st : X.stack = X.env :: X.outer
  fr : X.env.frame = some X.env.locals
theorem fnXGT {x qual : Str} {st : Stmt} {f : Addr} {fd : FuncData} {N ps Gn : List Str} {k : Nat} {pre : Pre} (F : Fun K x qual st f fd) (S : FnScope N ps (defScope st)) (ok : scopeB N (defScope st) N N Gn = true) (len : ∀ vs L Kk, pre vs L Kk → vs.length = ps.length)
    (body : ∀ (X : Cx), X.prog = P → X.w = w → X.K = K → X.mg = mg → X.base = base → XOk N (defScope st) N N Gn X → Room k X.A → X.A.guards = some [] → Tries X → ∀ vs L Kk, pre vs L Kk → WSs X (defBody st) (start N vs) L (EndOf Kk)) : FnG P w K mg base (k + 1) f fd ps pre :=
  fnG F S len fun cdv A outer s H vs E L Kk hr hg hp => body _ rfl rfl rfl rfl rfl ⟨rfl, rfl, ok, rfl, PassesOwn.never⟩ hr hg ⟨rfl, rfl⟩ vs L Kk hp
end
section
variable {X : Cx} {e a b : Expr} {es : List Expr} {st : Stmt} {sts body : List Stmt} {σ : L2.St} {L : LH} {K : V → LH → Prop} {KT : Bool → LH → Prop} {D : EndsL} {pos apos p np pos' : Pos} {x m n : Str} {C : Addr} {k i : Nat} {ps : List Str} {pre : PreX} {W : WX}
/-- o.m(e, ..), what it lets out told -/
theorem we_methX {pl : Sem Bool} {KX : Value → Option Addr → LH → Prop} (tk : Takes X W) (G : GMX X.prog X.w X.K X.mg X.base C m k ps pre) (hr : Room k X.A) (hx : ∀ cls d L' H', Holds L' H' → KX cls d L' → W cls d σ H')
    (h : WE X a σ L fun x L1 => ∃ o dx fs, x = .ref o ∧ Mem o (.ins C dx fs) L1 ∧ fs.lookup m = none ∧ WA X (e :: es) σ L1 fun vs L2 => pre (.ref o :: vs) L2 K KX)
    (hst : starEach (e :: es) X.env = (false, eval e X.env) :: starEach es X.env := by rfl) (hpl : (backTo pos (starEach es X.env)).any (·.1) = false := by rfl)
    (ht : eval (.Call (.Attribute a m apos) (e :: es) [] pos) X.env = (do
      let ov ← eval a X.env
      standAt apos.atName
      let (f, first) ← holding [ov] (getMethod ov m pl)
      callWith pos f first (backTo pos (starEach (e :: es) X.env)) (backToKw pos (keywordEach [] X.env))) := by rfl) : WE X (.Call (.Attribute a m apos) (e :: es) [] pos) σ L K := by
  obtain ⟨f, fd, F, hc, hm, hb⟩ := G.ex
  intro H hL pins s I
  refine PySem.W.methodCall_KW (pl := pl) (thn (h H hL pins s I) fun u s1 ⟨x, H1, I1, rx, L1, h1, o, dx, fs, ex, mm, hl, q⟩ => ?_) ht
  subst ex
  obtain rfl : u = Value.ref o := rx
  refine getmeth_ok I1 (h1.get mm) hc hm hl ?_
  refine PySem.W.callWith_K (first := [.ref o]) (h₀ := X.base) I.ok.mod.kin hm.kp (thn (q H1 h1 pos pins s1 I1) fun us s2 ⟨vs, H2, I2, r, L2', h2, q2⟩ => ⟨I2.kIn, ?_⟩) hst hpl
  exact run_fnS (us := .ref o :: us) (vs := .ref o :: vs) F hr hb (passAt tk σ) I2 (.cons rfl r) ⟨L2', K, _, h2, q2, fun _ _ z => z, fun cls d L' H' h' z => hx cls d L' H' h' z⟩
theorem takes_never {X : Cx} : Takes X (fun _ _ _ _ => False) := fun _ _ ⟨_, _, _, _, _, _, _, _, _, _, _, _, _, _, _, _, z⟩ => z.elim
/-- raise X(), X an own class -/
theorem ws_raise0 {B newId initId : String} {bmB : List Value} {KX : Value → Option Addr → LH → Prop} (hc : X.calm = true) (tk : Takes X (OutW KX)) (F : ExcBaseFacts B newId initId bmB) (q : PySem.W.excIn X.K C bmB newId = true) (gC : X.mg x = some (.ref C)) (kC : PySem.W.keepIn X.K (.ref C) = true) (r : Raises X (.ref C))
    (hg : Gl X x) (hdb : (x == ("__debug__" : Str)) = false) (k : KX (.ref C) none L) : WS X (.Raise (some (.Call (.Name x p) [] [] pos)) none pos') σ L D :=
  ws_of (ps_raise hc tk (n3_pmk_own0 F q gC kC r hg hdb)) fun _ hL => ⟨L, hL, k⟩
/-- what the clause 'except x as n' wishes, as it is met -/
def WAs (X : Cx) (c : Value) (i : Nat) (suite : List Stmt) (D : EndsL) (Wout : WX) : WX := wAs X.K c i (fun a cls d D' σ' H' => ∀ oe pn, Zc cls d oe → (∃ vs, oe.data = .fields vs) → SemSs (X.suite a ((a, oe) :: pn)) suite D' σ' H') Wout D.to
def unset (D : EndsL) (i : Nat) : EndsL := ⟨fun σ L => D.nx (σ.set i none) L, D.rt, fun σ L => D.bk (σ.set i none) L, fun σ L => D.ct (σ.set i none) L⟩
theorem wAs_ok {c : Value} {suite : List Stmt} {Wout : WX} {cls : Value} {d : Option Addr} {H : Hp} (hL : Holds L H) (hb : PySem.W.exmOne X.K cls c = some true)
    (h : ∀ a oe pn, Zc cls d oe → (∃ vs, oe.data = .fields vs) → WSs (X.suite a ((a, oe) :: pn)) suite (σ.set i (some (.ref a))) L (unset D i)) : WAs X c i suite D Wout cls d σ H :=
  ⟨true, hb, fun _ a _ oe pn hz hf => (h a oe pn hz hf H hL).mono ⟨fun _ _ q => q, fun _ _ q => q, fun _ _ q => q, fun _ _ q => q⟩, fun z => Bool.noConfusion z⟩
/-- try: body, except x as n: suite -/
theorem ws_tryAs {c : Value} {b₀ : Stmt} {suite : List Stmt} {Wout : WX} (T : Tries X) (hN : X.N.Nodup) (hi : X.N[i]? = some n) (hln : X.env.kindOf n = some .local) (hc : Names X x c) (tk : Takes X Wout)
    (hb : ∀ (pn : List (Addr × Obj)) (xe : Value → Shared → Prop), Takes (X.tr pn xe) (WAs X c i (b₀ :: suite) D Wout) → PassesOwn (model X.prog X.w) X.A X.env xe → WSs (X.tr pn xe) body σ L D) :
    WS X (.Try body [.ExceptHandler (some (.Name x np)) (some n) (b₀ :: suite) pos'] [] [] pos) σ L D :=
  ws_of (ps_try_as (tb := fun W D' σ' H' => ∀ (pn : List (Addr × Obj)) (xe : Value → Shared → Prop), Takes (X.tr pn xe) W → PassesOwn (model X.prog X.w) X.A X.env xe → SemSs (X.tr pn xe) body D' σ' H')
      (ts := fun a cls d D' σ' H' => ∀ oe pn, Zc cls d oe → (∃ vs, oe.data = .fields vs) → SemSs (X.suite a ((a, oe) :: pn)) (b₀ :: suite) D' σ' H') T.st T.fr hN hi hln hc tk
      (fun W pn xe t p => ⟨fun pins s σ' H' D' I h => h pn xe t p pins s I⟩) fun a oe cls d pn hz hf => ⟨fun pins s σ' H' D' I h => h oe pn hz hf pins s I⟩)
    fun H hL pn xe t p => hb pn xe t p H hL
end
end N3

set_option Elab.async false
set_option linter.all false
set_option maxRecDepth 100000
set_option maxHeartbeats 4000000
namespace PySem.W
open PySem PySem.Calls PyProof.Rows
section
variable {prog : Program} {w : World} {A : Around} {E : Value → Shared → Prop} {s : Shared} {K : Frag} {x C f : Addr} {ox : Obj} {od : Option Obj} {b : Nat}
/-- an item's own __repr__, below a list's -/
theorem n3_under {Q : Str → Shared → Prop} (hb : b ≤ sizeLine) (hu : A.units < cLine) (X : K.In s.heap) (I : InstAt s.heap x ox C od) (hs : findIn K (.ref C) "__repr__" = some (some (.ref f))) (hf : isFn K (.ref f) = true)
    (h : wpAny (model prog w) A (call (.ref f) [.ref x]) (fun v s' => ∃ y u, v = .str y u ∧ Q y s') E s) : wpAny (model prog w) A (pyReprUnder b (.ref x)) Q E s := by
  refine wpAny_pyReprUnder_ref hb ?_
  unfold pyReprObjUnder pyReprObjBy
  refine wpAny_bind (wpAny_cRoomFor hu ?_)
  refine wpAny_bind (wpAny_bind (I.type.here ((looks_findIn X hs).here ?_)))
  show wpAny _ _ (if (some (Value.ref f)).isNone = true then _ else _) _ _ _
  rw [if_neg (by simp)]
  have inner : wpAny (model prog w) A (callSpecialIfBoundBy? (fun g first => match reprUnder? g, first with | some twin, [self] => call twin [self, rawInt b] | _, _ => call g (first ++ [])) (.ref x) "__repr__")
      (fun r s' => ∃ y u, r = some (.str y u) ∧ Q y s') E s := by
    simp only [callSpecialIfBoundBy?, bindSpecialIfBound?]
    refine wpAny_holding (wpAny_bind (wpAny_bind (wpAny_bind (I.type.here ((looks_findIn X hs).here ?_)))))
    refine wpAny_bind (wpAny_askSetting (wpAny_ite ?_))
    have fin : wpAny (model prog w) A (call (.ref f) [.ref x] >>= fun v => pure (some v)) (fun r s' => ∃ y u, r = some (.str y u) ∧ Q y s') E s := wpAny_bind (wpAny_mono h (fun v s' ⟨y, u, e, q⟩ => wpAny_pure ⟨y, u, by rw [e], q⟩) fun _ _ h' => h')
    split
    · exact wpAny_bind ((bind_fn X _ (beq_iff_eq.mp hf)).here (wpAny_pure (by exact fin)))
    · exact wpAny_tryCatch (wpAny_bind ((bind_fn X _ (beq_iff_eq.mp hf)).here (wpAny_pure (by exact fin))))
  refine wpAny_bind (wpAny_mono inner (fun r s' hr => ?_) fun _ _ y => y)
  obtain ⟨y, u, rfl, q⟩ := hr
  exact wpAny_bind (wpAny_isInstance (T := "str") (b := true) rfl isSubtype_str_str (wpAny_pure ⟨y, u, rfl, q⟩))
end
end PySem.W
namespace N3
open PySem PySem.Spec L2
theorem room_loop {k : Nat} {A : Around} (r : Room (k + 1) A) (args : Args) : Room k (A.under (.builtin "list.__repr__.loop" args)) := by
  have d : (A.under (.builtin "list.__repr__.loop" args)).depth = A.depth + 1 := by first | rfl | simp [Around.under, Code.weight, Code.isCreation, Code.isGuard, Code.isCaller, Code.frames, Code.isFrame, guardIds]
  have u := units_under_list_loop A args
  refine ⟨r.hd, ?_, ?_⟩
  · have := r.dp
    rw [d]
    omega
  · have := r.un
    rw [u]
    omega
theorem strs_of : ∀ {l : List Str} {its : List Value}, Vals (l.map V.str) its → ∃ done : List (Str × Tok), its = strValues done ∧ done.map (·.1) = l
  | [], _, .nil => ⟨[], rfl, rfl⟩
  | x :: l, _, .cons r t => by
    obtain ⟨tk, rfl⟩ := r
    obtain ⟨done, e1, e2⟩ := strs_of t
    exact ⟨(x, tk) :: done, by rw [e1]; rfl, by rw [List.map_cons, e2]⟩
/-- where the loop of a list's repr stands -/
def LoopR (X : Cx) (pins : List (Addr × Obj)) (σ : L2.St) (L : LH) (P : Addr) (ts : List Str) (i : Nat) (s : Shared) : Prop := ∃ H, Inv X pins σ H s ∧ Holds ((P, .lst ((ts.take i).map V.str)) :: L) H
/-- the items: instances with an own __repr__ -/
def Shows (X : Cx) (C : Addr) (pre : Pre) (L : LH) (xs : List V) (ts : List Str) : Prop :=
  xs.length = ts.length ∧ ∀ (i : Nat) (x : V), xs[i]? = some x → ∃ o dx fs t, x = .ref o ∧ Mem o (.ins C dx fs) L ∧ ts[i]? = some t ∧ ∀ p, pre [.ref o] (p :: L) fun v L1 => v = .str t ∧ L1 = p :: L
theorem repr_loop {X : Cx} {pins : List (Addr × Obj)} {σ : L2.St} {L : LH} {a P C : Addr} {xs : List V} {ts : List Str} {k : Nat} {ps : List Str} {pre : Pre} {A : Around} {R : Result → Shared → Prop}
    (G : GOp X.prog X.w X.K X.mg X.base C "__repr__" k ps pre) (hr : Room (k + 1) A) (hA : A.frames = X.A.frames) (m : Mem a (.lst xs) L) (sh : Shows X C pre L xs ts) (hsz : (listText ts).length ≤ sizeLine)
    (hRe : ∀ e s', X.xe e s' → R (.error e) s') (fin : ∀ s' u, LoopR X pins σ L P ts ts.length s' → R (.ok (.ret (.str (listText ts) u))) s') :
    ∀ (n i : Nat) (s : Shared), ts.length - i = n → i ≤ ts.length → LoopR X pins σ L P ts i s →
      codeAny (model X.prog X.w) A (.builtin "list.__repr__.loop" ⟨[.ref a, rawInt i, .ref P, rawInt ((piled (ts.take i) : Nat) : Int)], []⟩) R s := by
  have hp3 := piled_le_listText ts
  have hsz2 : ∀ t ∈ ts, t.length ≤ sizeLine := fun t ht => Nat.le_trans (listText_mem_le ht) hsz
  have hsz1 : ts.length ≤ sizeLine := by
    have h1 := (textFrom_len ts 0 "[").1
    rw [if_neg (Nat.lt_irrefl 0)] at h1
    have hX : (listText ts).length = (textFrom 0 "[" ts).length + 1 := by
      show (textFrom 0 "[" ts ++ "]").length = _
      rw [strLen_append]; rfl
    omega
  intro n
  induction n with
  | zero =>
    intro i s hn hi ⟨H, I, hL⟩
    have hin : i = ts.length := by omega
    subst hin
    obtain ⟨za, its, na, ra, ea⟩ := I.hok a _ (hL.get (.tail m))
    obtain ⟨zP, itp, np, rp, eP⟩ := I.hok P _ (hL.get .head)
    obtain ⟨done, e1, e2⟩ := strs_of rp
    refine codeAny_builtin F.entry_list_repr_loop ?_
    show wpAny _ _ (Builtin.«list.__repr__.loop» ⟨[.ref a, .int ts.length 0, .ref P, .int ((piled (ts.take ts.length) : Nat) : Int) 0], []⟩) _ _ s
    rw [repr_loop_tree]
    refine wpAny_bind (wpAny_listItems ea rfl ?_)
    have hnone : its.toArray[((ts.length : Nat) : Int).toNat]? = none := by
      have := ra.length
      have := sh.1
      simp
      omega
    simp only [hnone]
    unfold reprEnd
    refine wpAny_bind (wpAny_listItems eP rfl ?_)
    have e3 : itp.toArray.toList = strValues done := by rw [← e1]
    rw [e3, repr_fold]
    refine wpAny_bind (wpAny_pure ?_)
    have hall : done.map (·.1) = ts := by rw [e2, List.take_length]
    rw [hall]
    refine wpAny_bind (wpAny_mkStr (wpAny_pure ?_) hsz)
    exact fin _ _ ⟨H, I.tok _, hL⟩
  | succ n ih =>
    intro i s hn hi ⟨H, I, hL⟩
    have hlt : i < ts.length := by omega
    have hlx : i < xs.length := by rw [sh.1]; exact hlt
    obtain ⟨o, dx, fs, t, ex, mo, ht, hp⟩ := sh.2 i _ (List.getElem?_eq_getElem hlx)
    obtain ⟨za, its, na, ra, ea⟩ := I.hok a _ (hL.get (.tail m))
    have hp1 := piled_take_succ ht
    have hp2 := piled_take_le ts (i + 1)
    obtain ⟨u, hu, ru⟩ := ra.get (List.getElem?_eq_getElem hlx)
    rw [ex] at ru
    cases ru
    refine codeAny_builtin F.entry_list_repr_loop ?_
    show wpAny _ _ (Builtin.«list.__repr__.loop» ⟨[.ref a, .int i 0, .ref P, .int ((piled (ts.take i) : Nat) : Int) 0], []⟩) _ _ s
    rw [repr_loop_tree]
    refine wpAny_bind (wpAny_listItems ea rfl ?_)
    have hsome : its.toArray[(i : Int).toNat]? = some (.ref o) := by simpa using hu
    simp only [hsome]
    rw [Int.toNat_natCast]
    obtain ⟨mA, J, _⟩ := ins_get I.hok (hL.get (.tail mo))
    obtain ⟨od, J, _⟩ := J.look
    have rm := room_loop hr ⟨[.ref a, rawInt i, .ref P, rawInt ((piled (ts.take i) : Nat) : Int)], []⟩
    obtain ⟨f, hs, hf, hrun⟩ := run_op (A := A.under (.builtin "list.__repr__.loop" ⟨[.ref a, rawInt i, .ref P, rawInt ((piled (ts.take i) : Nat) : Int)], []⟩)) (us := [.ref o]) (vs := [.ref o]) G rm hA hL I (.cons rfl .nil) (hp _)
    refine wpAny_bind (wpAny_holding (PySem.W.n3_under (by have := hsz2 t (List.mem_of_getElem? ht); omega) rm.units0 I.kIn J hs hf (wpAny_mono hrun (fun v s1 hv => ?_) fun e s1 he => hRe e s1 he)))
    obtain ⟨z, H1, I1, rz, L1, h1, ez, eL⟩ := hv
    subst ez eL
    obtain ⟨tk1, rfl⟩ := rz
    refine ⟨t, tk1, rfl, ?_⟩
    refine wpAny_bind (wpAny_mkStr ?_ (hsz2 t (List.mem_of_getElem? ht)))
    refine wpAny_bind ?_
    show wpAny _ _ (updateSeq P _) _ _ _
    obtain ⟨zP, itp, np, rp, eP⟩ := I1.hok P _ (h1.get .head)
    have lp := rp.length
    rw [List.length_map, List.length_take] at lp
    refine wpAny_updateSeq (o := { cls := .type "list", data := .seq itp.toArray np }) eP rfl (wpAny_pure ⟨F.quiet_list_repr_loop _, ?_⟩) (by rw [List.size_toArray]; omega)
    have e1 : ((i : Int) + 1) = ((i + 1 : Nat) : Int) := by omega
    rw [e1]
    have e2 : piled (ts.take i) + (t.length + 2) = piled (ts.take (i + 1)) := by omega
    rw [e2]
    have hts : (ts.take (i + 1)).map V.str = (ts.take i).map V.str ++ [V.str t] := by
      rw [List.take_add_one, ht, List.map_append]
      rfl
    refine ih (i + 1) _ (by omega) hlt ⟨upd H1 P (.lst ((ts.take (i + 1)).map V.str)), ?_, h1.put .head⟩
    refine I1.write (e := P) (by rw [h1.get .head]; trivial) (.inl rfl) (fun b u hb e => (Heap.get?_update_other _ _ (fun h => hb h.symm)).trans e) ⟨_, Heap.get?_update_self _ eP rfl⟩ ?_
    have hv : Vals ((ts.take (i + 1)).map V.str) (itp ++ [Value.str t s1.toks]) := by
      rw [hts]
      exact rp.append (.cons ⟨_, rfl⟩ .nil)
    have hq : ∃ c, (s1.heap.update P (Obj.mapSeq fun x => x.push (Value.str t s1.toks))).get? P = some { cls := .type "list", data := .seq (itp ++ [Value.str t s1.toks]).toArray c } := by
      rw [Heap.get?_update_self (o := { cls := .type "list", data := .seq itp.toArray np }) _ eP rfl]
      exact ⟨_, by simp only [Obj.mapSeq, List.push_toArray]; rfl⟩
    obtain ⟨c, hq⟩ := hq
    exact ⟨by rw [List.length_map, List.length_take]; omega, _, c, hv, hq⟩
/-- repr(q), q a list of instances with an own __repr__ -/
theorem wc_reprL {X : Cx} {L : LH} {a C : Addr} {xs : List V} {ts : List Str} {k : Nat} {ps : List Str} {pre : Pre} {Kk : V → LH → Prop}
    (G : GOp X.prog X.w X.K X.mg X.base C "__repr__" k ps pre) (hr : Room (k + 2) X.A) (hgd : X.A.guards = some []) (m : Mem a (.lst xs) L) (hne : 0 < ts.length) (sh : Shows X C pre L xs ts) (hsz : (listText ts).length ≤ sizeLine)
    (kk : Kk (.str (listText ts)) L) : WC X (.builtin "repr") [.ref a] L Kk := by
  intro H hL pins s σ us I r1
  cases r1 with
  | cons r rr =>
    cases rr
    cases r
    obtain ⟨za, its, na, ra, ea⟩ := I.hok a _ (hL.get m)
    have hlen := ra.length
    have hsh := sh.1
    cases its with
    | nil =>
      have h0 : xs.length = 0 := hlen
      omega
    | cons y l =>
      refine call_repr_slot (by have := hr.units; omega) ⟨_, ea, rfl⟩ PySem.F.slot_list_repr.toG ?_
      refine wpAny_call (codeAny_call_builtin PySem.F.slot_list_repr.plain PySem.F.entry_list_repr (PySem.F.slot_list_repr.check _ _ _ _ _ _ _ _ ⟨_, ea, rfl⟩ (PySem.F.args_list_repr_1 _) ?_))
      refine wpAny_list_repr_head (b := 0) (A := X.A.in1.in1) (g := []) hgd (fun v rest kw hm => (List.not_mem_nil hm).elim) ea rfl ?_
      refine wpAny_bind (m := newList []) (wpAny_newObj_type ?_)
      refine wpAny_pure ⟨PySem.F.quiet_list_repr_loop _, ?_⟩
      have hn : H s.heap.objs.size = none := I.hok.fresh (Nat.le_refl _)
      refine repr_loop (k := k) (σ := σ) (pins := pins) G hr.in1 rfl m sh hsz (fun e s' he => he) ?fin ts.length 0 _ (by omega) (Nat.zero_le _) ⟨upd H s.heap.objs.size (.lst []), ?inv, hL.new hn⟩
      case inv => exact I.laid (o := .lst []) (fun b o e => Heap.get?_push_of_some _ e) (Nat.le_refl _) ⟨Nat.zero_le _, [], _, .nil, Heap.get?_push_size _ rfl⟩
      case fin =>
        rintro s' u ⟨H', I', hL'⟩
        exact ⟨_, u, rfl, .str (listText ts), H', I', ⟨u, rfl⟩, L, hL'.drop, kk⟩
end N3

set_option Elab.async false
set_option linter.all false
set_option maxRecDepth 100000
set_option maxHeartbeats 4000000
namespace N3
open PySem PySem.SeqAt PySem.Spec PySem.Calls PyProof.Rows Builtin L2
open AutoSeq1 (wpAny_loadPart')
open MeetsSeq MeetsSeq2 MeetsSeq3 SeqRoads2
section
variable {X : Cx} {L : LH} {C l b : Addr} {k : Nat} {ps : List Str} {pre : Pre}
/-- two instances that the own == finds equal -/
def SameI (C : Addr) (pre : Pre) (L : LH) (x y : V) : Prop := ∃ o p dx dy fs gs, x = .ref o ∧ y = .ref p ∧ Mem o (.ins C dx fs) L ∧ Mem p (.ins C dy gs) L ∧ pre [.ref o, .ref p] L fun v L1 => v = .bl true ∧ L1 = L
def StandL (X : Cx) (pins : List (Addr × Obj)) (σ : L2.St) (L : LH) (s : Shared) : Prop := ∃ H, L2.Inv X pins σ H s ∧ Holds L H
theorem same_turn {pins : List (Addr × Obj)} {σ : L2.St} {A : Around} {s : Shared} {x y : V} {u v : Value} (G : GOp X.prog X.w X.K X.mg X.base C "__eq__" k ps pre) (hr : Room k A) (hA : A.frames = X.A.frames) (h : SameI C pre L x y) (rx : RelV x u) (ry : RelV y v)
    (I : StandL X pins σ L s) : wpAny (model X.prog X.w) A (eqBool u v) (fun r s' => r = true ∧ StandL X pins σ L s') X.xe s := by
  obtain ⟨o, p, dx, dy, fs, gs, rfl, rfl, mo, mp, hp⟩ := h
  cases rx
  cases ry
  by_cases ho : o = p
  · subst ho
    exact SeqAt.EqAt.same (A := A) (s := s) (.ref o) X.prog X.w X.xe _ ⟨rfl, I⟩
  · refine GQ.eqBool_refG ho ?_
    obtain ⟨H, I, hL⟩ := I
    obtain ⟨_, J, _⟩ := ins_get I.hok (hL.get mo)
    obtain ⟨_, J', _⟩ := ins_get I.hok (hL.get mp)
    obtain ⟨_, J, _⟩ := J.look
    obtain ⟨_, J', _⟩ := J'.look
    obtain ⟨m, hF⟩ := I.fr
    obtain ⟨f, hs, hf, hrun⟩ := run_op (us := [.ref o, .ref p]) (vs := [.ref o, .ref p]) G hr hA hL I (.cons rfl (.cons rfl .nil)) hp
    refine PySem.W.cmp_K (op := .Eq) (tb := .ref C) hr.units0 hF I.ok.mod.kin J J'.type (by simp [PySem.W.notFirst]) hs hf (wpAny_mono hrun (fun w s' z => ?_) fun _ _ x => x)
    obtain ⟨z', H', I', rz, L', h', ez, eL⟩ := z
    subst ez eL
    cases rz
    exact ⟨true, rfl, rfl, H', I', h'⟩
theorem ne_loop {pins : List (Addr × Obj)} {σ : L2.St} {xs ys : List V} {A : Around} {R : Result → Shared → Prop} (G : GOp X.prog X.w X.K X.mg X.base C "__eq__" k ps pre) (hr : Room (k + 1) A) (hA : A.frames = X.A.frames)
    (ml : Mem l (.lst xs) L) (mb : Mem b (.lst ys) L) (hn : xs.length = ys.length) (hs : ∀ (i : Nat) (x y : V), xs[i]? = some x → ys[i]? = some y → SameI C pre L x y) (he : ∀ e s', X.xe e s' → R (.error e) s')
    (fin : ∀ s, StandL X pins σ L s → R (.ok (.ret (.bool false))) s) : ∀ (n i : Nat) (s : Shared), xs.length - i = n → i ≤ xs.length → StandL X pins σ L s →
      wpAny (model X.prog X.w) A.in1 (Builtin.«list.__eq__.loop» ⟨[.ref l, .ref b, rawInt i, rawInt 3], []⟩) (GQ.FinOf X.prog X.w A R) (fun e s' => R (.error e) s') s := by
  intro n
  induction n with
  | zero =>
    intro i s hk hi h
    obtain ⟨H, I, hL⟩ := id h
    obtain ⟨_, its, c1, r1, e1⟩ := I.hok l _ (hL.get ml)
    obtain ⟨_, its2, c2, r2, e2⟩ := I.hok b _ (hL.get mb)
    have n1 := r1.length
    have n2 := r2.length
    have done := fin s h
    obtain ⟨hp, g, d, tk, os⟩ := s
    wp_walk using wpAny_loadPart' e1, wpAny_loadPart' e2
    have i1 : its.toArray[((i : Nat) : Int).toNat]? = none := by simp; omega
    have i2 : its2.toArray[((i : Nat) : Int).toNat]? = none := by simp; omega
    rw [i1, i2]
    wp_walk using wpAny_loadPart' e1, wpAny_loadPart' e2
    show R (.ok (.ret (.bool (its.toArray.size != its2.toArray.size)))) _
    rw [show (its.toArray.size != its2.toArray.size) = false by simp; omega]
    exact done
  | succ n ih =>
    intro i s hk hi h
    obtain ⟨H, I, hL⟩ := id h
    obtain ⟨_, its, c1, r1, e1⟩ := I.hok l _ (hL.get ml)
    obtain ⟨_, its2, c2, r2, e2⟩ := I.hok b _ (hL.get mb)
    have g1 := List.getElem?_eq_getElem (l := xs) (i := i) (by omega)
    have g2 := List.getElem?_eq_getElem (l := ys) (i := i) (by omega)
    obtain ⟨u, hu, ru⟩ := r1.get g1
    obtain ⟨v, hv, rv⟩ := r2.get g2
    have turn := same_turn G hr.in1 hA (hs i _ _ g1 g2) ru rv h
    obtain ⟨hp, g, d, tk, os⟩ := s
    wp_walk using wpAny_loadPart' e1, wpAny_loadPart' e2
    have i1 : its.toArray[((i : Nat) : Int).toNat]? = some u := by simpa using hu
    have i2 : its2.toArray[((i : Nat) : Int).toNat]? = some v := by simpa using hv
    have hc : ((i : Int) + 1) = ((i + 1 : Nat) : Int) := by omega
    rw [i1, i2]
    refine wpAny_bind (wpAny_mono turn (fun r s2 h2 => ?_) fun _ _ x => he _ _ x)
    obtain ⟨rfl, h2⟩ := h2
    have again := ih (i + 1) s2 (by omega) (by omega) h2
    obtain ⟨hp2, g2, d2, tk2, os2⟩ := s2
    wp_walk
    rw [hc]
    exact ⟨plainId_quiet plain_eq_loop _, codeAny_builtin entry_eq_loop (by
      rw [Around.under_plainId plain_eq_loop _]
      exact again)⟩
/-- l != b, item by item equal -/
theorem wo_neLG {xs ys : List V} {Kk : V → LH → Prop} (G : GOp X.prog X.w X.K X.mg X.base C "__eq__" k ps pre) (hr : Room (k + 1) X.A) (ml : Mem l (.lst xs) L) (mb : Mem b (.lst ys) L) (hn : xs.length = ys.length)
    (hs : ∀ (i : Nat) (x y : V), xs[i]? = some x → ys[i]? = some y → SameI C pre L x y) (kk : Kk (.bl false) L) : WO X (compareOp .NotEq) (.ref l) (.ref b) L Kk := by
  intro H hL pins s σ v u I r1 r2
  cases r1
  cases r2
  obtain ⟨_, its, c1, q1, e1⟩ := I.hok l _ (hL.get ml)
  obtain ⟨_, its2, c2, q2, e2⟩ := I.hok b _ (hL.get mb)
  have n1 := q1.length
  have n2 := q2.length
  show wpAny _ _ (richCompare .NotEq (.ref l) (.ref b)) _ _ _
  refine wpAny_richCompare_same_room (op := .NotEq) ⟨_, e1, rfl⟩ ⟨_, e2, rfl⟩ F.slot_list_ne (GQ.call_here F.slot_list_ne ⟨_, e1, rfl⟩ F.entry_list_ne (F.args_list_ne_2 _ _) ?_) hr.units0
  have again := ne_loop (σ := σ) (pins := pins) (A := X.A) (R := wants (fun v s' => v ≠ .notImplemented ∧ EP X pins σ (QE Kk) v s') X.xe) G hr rfl ml mb hn hs (fun e s' h => h) (fun s' ⟨H', I', h'⟩ => ⟨(fun x => nomatch x), .bl false, H', I', rfl, L, h', kk⟩) _ 0 s rfl (Nat.zero_le _) ⟨H, I, hL⟩
  obtain ⟨hp, g, d, tk, os⟩ := s
  have f3 := AutoSeq1.sub_list_list
  have hne : (its.toArray.size != its2.toArray.size) = false := by simp; omega
  wp_walk using wpAny_loadPart' e1, wpAny_loadPart' e2
  rw [hne]
  wp_walk
  exact ⟨plainId_quiet plain_eq_loop _, codeAny_builtin entry_eq_loop (by
    rw [Around.under_plainId plain_eq_loop _]
    exact again)⟩
end
end N3

set_option Elab.async false
set_option linter.all false
set_option maxRecDepth 100000
set_option maxHeartbeats 4000000
namespace N3
open PySem PySem.Spec L2
open PyProof.Rows (envOfC)
/-! ### [.. for a, b in zip(x, y)] -/
section
variable {X : Cx} {e a b l elt : Expr} {es t : List Expr} {σ : L2.St} {L : LH} {K : V → LH → Prop} {D : EndsL} {pos apos p tpos : Pos} {x : Str} {scope : Scope} {own : List (Str × Nat)} {kk : Nat}
def LcZ (X : Cx) (scope : Scope) (own : List (Str × Nat)) (tg elt : Expr) (σ : L2.St) (K : V → LH → Prop) (vs : List V) (L1 : LH) : Prop :=
  ∃ q r xs ys, vs = [.ref q, .ref r] ∧ SqLL X.K q xs L1 ∧ SqLL X.K r ys L1 ∧ xs.length = ys.length ∧ ∀ D, ∃ I : Nat → LH → Prop, I 0 ((D, .lst []) :: L1) ∧ (∀ i L', I i L' → SqLL X.K q xs L' ∧ SqLL X.K r ys L') ∧
    (∀ i y z T L', xs[i]? = some y → ys[i]? = some z → I i L' → Turn1 X scope own tg elt σ D (.ref T) ((T, .tup [y, z]) :: L') (I (i + 1))) ∧ (∀ L', I xs.length L' → K (.ref D) L')
theorem lcZ {tg : Expr} (h : WA X [a, b] σ L (LcZ X scope own tg elt σ K)) : ∀ H, Holds L H → tLc (iZip X.K (SemA X [a, b])) (SemGB X scope tg) tYes (SemEB X scope elt) (own.map (·.2)) σ H (QE K) := fun _ hL =>
  a_then h hL fun _ L1 H1 h1 ⟨q, r, xs, ys, ev, s1, s2, hl, g⟩ => ⟨q, r, xs, ys, ev, s1 H1 h1, s2 H1 h1, fun D hD => by
    obtain ⟨I, i0, st, turn, fin⟩ := g D
    have wz := walk_zip (K := X.K) (a := q) (b := r) (xs := xs) (ys := ys) (n := xs.length) (by omega)
    refine lc_it wz (fun i => QL (I i)) ⟨_, h1.new hD, i0⟩ (fun i H _ ⟨L', h', k⟩ => ⟨(st i L' k).1 H h', (st i L' k).2 H h'⟩) (fun i v H H' hi ⟨L', h', k⟩ ⟨T, y, z, e1, e2, e3, f1, f2⟩ => ?_) (fun H ⟨L', h', k⟩ => ⟨L', h', fin L' k⟩)
    subst e1 e3
    exact turn1 (turn i y z T L' f1 f2 k) (h'.new e2)⟩
theorem we_lcZ (own : List (Str × Nat)) (hc : X.calm = true) (hN : X.N.Nodup) (ok : BlkOk X.N X.env.scope scope own) (hm : X.mg "zip" = none) (h : WA X [a, b] σ L (LcZ X scope own (.Tuple t kk tpos) elt σ K)) (hg : Gl X "zip")
    (hst : starEach [a, b] X.env = (false, eval a X.env) :: starEach [b] X.env := by rfl) (hpl : (backTo apos (starEach [b] X.env)).any (·.1) = false := by rfl)
    (hs : ∀ x, foldedSetIterable (.Call (.Name "zip" p) [a, b] [] apos) X.env x = pure x := by intro _; rfl) : WE X (.ListComp elt [⟨.Tuple t kk tpos, .Call (.Name "zip" p) [a, b] [] apos, [], 0⟩] scope pos) σ L K :=
  we_of (pe_lc hc hN (pi_zip hg hm pa_sem hst hpl) ok (fun _ _ _ _ _ => pgB) (fun _ _ _ _ _ => pts_nil) (fun _ _ _ _ _ => peB) hs) (lcZ h)
end
section
variable {P : Program} {w : World} {K : PySem.W.Frag} {mg : Str → Option Value} {base : Heap}
/-- as fnXG, for a def with cells, and with the names of its comprehensions among N -/
theorem fnXGC {x qual : Str} {st : Stmt} {f : Addr} {fd : FuncData} {N ps Vn Ln Gn : List Str} {k : Nat} {pre : Pre} (F : Fun K x qual st f fd) (S : FnScope N ps (defScope st)) (ok : scopeB N (defScope st) Vn Ln Gn = true) (len : ∀ vs L Kk, pre vs L Kk → vs.length = ps.length)
    (body : ∀ (X : Cx), X.prog = P → X.w = w → X.K = K → X.mg = mg → X.base = base → XOk N (defScope st) Vn Ln Gn X → Room k X.A → X.A.guards = some [] → ∀ vs L Kk, pre vs L Kk → WSs X (defBody st) (start N vs) L (EndOf Kk)) : FnG P w K mg base (k + 1) f fd ps pre :=
  fnG F S len fun cdv A outer s H vs E L Kk hr hg hp => body _ rfl rfl rfl rfl rfl ⟨rfl, rfl, ok, rfl, PassesOwn.never⟩ hr hg vs L Kk hp
end
end N3

set_option Elab.async false
set_option linter.all false
set_option maxRecDepth 100000
set_option maxHeartbeats 4000000
namespace N3
open PySem PySem.Spec L2
/-! ### comprehensions, over XOk -/
section
variable {N Vn Ln Gn : List Str} {sc : Scope} {X : Cx} {i j g : Nat} {a b l tg elt : Expr} {t : List Expr} {σ : L2.St} {L : LH} {K : V → LH → Prop} {D : EndsL} {pos apos p tpos : Pos} {x y : Str} {scope : Scope} {own : List (Str × Nat)} {py cpos : Pos} {kk : Nat}
theorem x_setLcR (own : List (Str × Nat)) (h : XOk N sc Vn Ln Gn X) (ay : At y N i) (cy : At y Ln j) (ag : At "range" Gn g) (hm : X.mg "range" = none) (ok : blkC N sc scope own = true) (hk : sc.kind = .function)
    (ha : (scope.names.any fun (n, k) => n == y && (k == .local || k == .cell)) = false) (hl : (py.line == cpos.line) = true) (q : WA X [a] σ L (LcR X scope own tg elt σ fun v L' => D.nx (σ.set i (some v)) L'))
    (hst : starEach [a] X.env = [(false, eval a X.env)] := by rfl) (hs : ∀ x, foldedSetIterable (.Call (.Name "range" p) [a] [] apos) X.env x = pure x := by intro _; rfl) :
    WS X (.Assign [.Name y py] (.ListComp elt [⟨tg, .Call (.Name "range" p) [a] [] apos, [], 0⟩] scope cpos) pos) σ L D :=
  ws_setLcR own i h.calm h.nd (h.ix ay) (h.loc cy) (blkOk_by (by rw [h.hN, h.hsc]; exact ok)) (sw_true (by rw [h.hsc]; exact hk) (h.loc cy) hl ha) hm q (h.glo ag).1 hst hs
theorem x_setLcL (own : List (Str × Nat)) (h : XOk N sc Vn Ln Gn X) (ay : At y N i) (cy : At y Ln j) (ok : blkC N sc scope own = true) (hk : sc.kind = .function)
    (ha : (scope.names.any fun (n, k) => n == y && (k == .local || k == .cell)) = false) (hl : (py.line == cpos.line) = true) (q : WE X l σ L (LcL X scope own tg elt σ fun v L' => D.nx (σ.set i (some v)) L'))
    (hs : ∀ x, foldedSetIterable l X.env x = pure x := by intro _; rfl) :
    WS X (.Assign [.Name y py] (.ListComp elt [⟨tg, l, [], 0⟩] scope cpos) pos) σ L D :=
  ws_setLcL own i h.calm h.nd (h.ix ay) (h.loc cy) (blkOk_by (by rw [h.hN, h.hsc]; exact ok)) (sw_true (by rw [h.hsc]; exact hk) (h.loc cy) hl ha) q hs
theorem x_lcR (own : List (Str × Nat)) (h : XOk N sc Vn Ln Gn X) (ag : At "range" Gn g) (hm : X.mg "range" = none) (ok : blkC N sc scope own = true) (q : WA X [a] σ L (LcR X scope own tg elt σ K))
    (hst : starEach [a] X.env = [(false, eval a X.env)] := by rfl) (hs : ∀ x, foldedSetIterable (.Call (.Name "range" p) [a] [] apos) X.env x = pure x := by intro _; rfl) :
    WE X (.ListComp elt [⟨tg, .Call (.Name "range" p) [a] [] apos, [], 0⟩] scope pos) σ L K :=
  we_lcR own h.calm h.nd (blkOk_by (by rw [h.hN, h.hsc]; exact ok)) hm q (h.glo ag).1 hst hs
theorem x_lcL (own : List (Str × Nat)) (h : XOk N sc Vn Ln Gn X) (ok : blkC N sc scope own = true) (q : WE X l σ L (LcL X scope own tg elt σ K)) (hs : ∀ x, foldedSetIterable l X.env x = pure x := by intro _; rfl) :
    WE X (.ListComp elt [⟨tg, l, [], 0⟩] scope pos) σ L K := we_lcL own h.calm h.nd (blkOk_by (by rw [h.hN, h.hsc]; exact ok)) q hs
theorem x_lcZ (own : List (Str × Nat)) (h : XOk N sc Vn Ln Gn X) (ag : At "zip" Gn g) (hm : X.mg "zip" = none) (ok : blkC N sc scope own = true) (q : WA X [a, b] σ L (LcZ X scope own (.Tuple t kk tpos) elt σ K))
    (hst : starEach [a, b] X.env = (false, eval a X.env) :: starEach [b] X.env := by rfl) (hpl : (backTo apos (starEach [b] X.env)).any (·.1) = false := by rfl)
    (hs : ∀ x, foldedSetIterable (.Call (.Name "zip" p) [a, b] [] apos) X.env x = pure x := by intro _; rfl) : WE X (.ListComp elt [⟨.Tuple t kk tpos, .Call (.Name "zip" p) [a, b] [] apos, [], 0⟩] scope pos) σ L K :=
  we_lcZ own h.calm h.nd (blkOk_by (by rw [h.hN, h.hsc]; exact ok)) hm q (h.glo ag).1 hst hpl hs
end
end N3

set_option Elab.async false
set_option linter.all false
set_option maxRecDepth 100000
set_option maxHeartbeats 4000000
namespace K11
open PySem L2 N3
/-! ### the text by places -/
def top (i : Nat) : Stmt := PySem.Challenge.pw_notesums_k11_ratios_by_integers.main.body.getD i (.Pass ⟨0, 0, 0, 0⟩)
abbrev sIsInt : Stmt := top 7
abbrev sIsNum : Stmt := top 8
abbrev sAs : Stmt := top 9
abbrev sInit : Stmt := inClass (top 10) 0
abbrev sTotal : Stmt := inClass (top 10) 1
abbrev sTop : Stmt := inClass (top 10) 2
abbrev sBot : Stmt := inClass (top 10) 3
abbrev sSign : Stmt := inClass (top 10) 4
abbrev sAdd : Stmt := inClass (top 10) 5
abbrev sSub : Stmt := inClass (top 10) 6
abbrev sMul : Stmt := inClass (top 10) 7
abbrev sNeg : Stmt := inClass (top 10) 8
abbrev sOver : Stmt := inClass (top 10) 9
abbrev sBelow : Stmt := inClass (top 10) 10
abbrev sEq : Stmt := inClass (top 10) 11
abbrev sStr : Stmt := inClass (top 10) 12
abbrev sRepr : Stmt := inClass (top 10) 13
abbrev sRng : Stmt := top 12
abbrev sDraw : Stmt := top 13
abbrev sChoice : Stmt := top 14
abbrev sCommon : Stmt := top 15
abbrev sPair : Stmt := top 16
abbrev sLowest : Stmt := top 17
abbrev sSgn : Stmt := top 18
abbrev sIs : Stmt := top 19
abbrev sDiv : Stmt := top 20
abbrev sTwo : Stmt := top 21
abbrev sRight : Stmt := top 22
abbrev sLaw : Stmt := top 23
/-! ### the data -/
def ratF (n d : Int) : List (Str × V) := putF "_bottom" (.int d) (putF "_top" (.int n) [])
theorem bt : ¬ (("_bottom" : Str) = "_top") := by decide +kernel
theorem tb : ¬ (("_top" : Str) = "_bottom") := by decide +kernel
theorem ratF_top (n d : Int) : (ratF n d).lookup ("_top" : Str) = some (.int n) := by
  unfold ratF
  rw [lookup_putF, if_neg tb, lookup_putF, if_pos rfl]
theorem ratF_bot (n d : Int) : (ratF n d).lookup ("_bottom" : Str) = some (.int d) := by
  unfold ratF
  rw [lookup_putF, if_pos rfl]
theorem ratF_no (n d : Int) {m : Str} (h1 : ¬ m = "_bottom") (h2 : ¬ m = "_top") : (ratF n d).lookup m = none := by
  unfold ratF
  rw [lookup_putF, if_neg h1, lookup_putF, if_neg h2]
  rfl
/-- what is known of the written part -/
structure Txt (K : PySem.W.Frag) (mg : Str → Option Value) (C : Addr) : Prop where
  cl : Cls K C
  nT : NoAttr K C "_top"
  nB : NoAttr K C "_bottom"
  ca : PySem.W.findIn K (.ref C) "__class__" = some (some (.builtin "object.__class__"))
  cn : PySem.W.specialIn K (.builtin "object.__class__") "__get__" = some (some (.builtin "getset_descriptor.__get__"))
  ct : PySem.W.takesIn K (.builtin "object.__class__") = some true
  cm : PySem.W.mroIn K C (.type "object") = some true
  iCI : PySem.W.kitOne K (.ref C) (.type "int") = some false
  iCC : PySem.W.kitOne K (.ref C) (.ref C) = some true
  iIC : PySem.W.kitOne K (.type "int") (.ref C) = some false
  iSC : PySem.W.kitOne K (.type "str") (.ref C) = some false
  iTC : PySem.W.kitOne K (.type "tuple") (.ref C) = some false
  mgC : mg "Ratio" = some (.ref C)
  mgcd : mg "gcd" = some (.builtin "math.gcd")
  bn : ∀ x, InS x ["isinstance", "int", "bool", "max", "min", "abs", "len", "str", "repr", "divmod", "range", "zip", "all"] → mg x = none
theorem Txt.ty {K : PySem.W.Frag} {mg : Str → Option Value} {C a dx : Addr} {fs : List (Str × V)} {L : LH} (T : Txt K mg C) (m : Mem a (.ins C dx fs) L) : TyL K (.ref a) (.ref C) L := fun _ hL => .base (.ins (hL.get m) T.cl T.ca T.cn T.ct T.cm)
theorem ty_int {K : PySem.W.Frag} {i : Int} {L : LH} : TyL K (.int i) (.type "int") L := fun _ _ => .base (.int i)
theorem boot_isi : bootBuiltins "isinstance" = some (.builtin "isinstance") := by decide +kernel
theorem boot_max : bootBuiltins "max" = some (.builtin "max") := by decide +kernel
theorem boot_min : bootBuiltins "min" = some (.builtin "min") := by decide +kernel
theorem boot_abs : bootBuiltins "abs" = some (.builtin "abs") := by decide +kernel
theorem boot_len : bootBuiltins "len" = some (.builtin "len") := by decide +kernel
theorem boot_repr : bootBuiltins "repr" = some (.builtin "repr") := by decide +kernel
theorem boot_divmod : bootBuiltins "divmod" = some (.builtin "divmod") := by decide +kernel
theorem boot_all : bootBuiltins "all" = some (.builtin "all") := by decide +kernel
theorem boot_int : bootBuiltins "int" = some (.type "int") := by decide +kernel
theorem boot_bool : bootBuiltins "bool" = some (.type "bool") := by decide +kernel
theorem boot_str : bootBuiltins "str" = some (.type "str") := by decide +kernel
section
variable {N Vn Ln Gn : List Str} {sc : Scope} {X : Cx} {e : Expr} {σ : L2.St} {L : LH} {K : V → LH → Prop} {pos : Pos} {mg : Str → Option Value} {C : Addr} {i : Nat} {x : Str}
theorem x_bty {ty : String} (h : XOk N sc Vn Ln Gn X) (a : At x Gn i) (hm : X.mg x = none) (hv : bootBuiltins x = some (.type ty)) (k : K (.ty ty) L) : WE X (.Name x pos) σ L K := x_bltn (v := .ty ty) h a hm hv rfl k
theorem x_cls (T : Txt X.K X.mg C) (h : XOk N sc Vn Ln Gn X) (a : At "Ratio" Gn i) (k : K (.ref C) L) : WE X (.Name "Ratio" pos) σ L K := x_glob (v := .ref C) h a T.mgC rfl k
theorem f_top (T : Txt X.K X.mg C) (h : WE X e σ L fun x L1 => ∃ a dx n d, x = .ref a ∧ Mem a (.ins C dx (ratF n d)) L1 ∧ K (.int n) L1) (hb : attributeBase e "_top" X.env (eval e X.env) = eval e X.env := by rfl) : WE X (.Attribute e "_top" pos) σ L K :=
  we_fld (fun H hL => e_then h hL fun x L1 H1 h1 ⟨a, dx, n, d, ex, m, k⟩ => ⟨L1, h1, a, C, dx, _, _, ex, m, T.cl, T.nT, ratF_top n d, k⟩) hb
theorem f_bot (T : Txt X.K X.mg C) (h : WE X e σ L fun x L1 => ∃ a dx n d, x = .ref a ∧ Mem a (.ins C dx (ratF n d)) L1 ∧ K (.int d) L1) (hb : attributeBase e "_bottom" X.env (eval e X.env) = eval e X.env := by rfl) : WE X (.Attribute e "_bottom" pos) σ L K :=
  we_fld (fun H hL => e_then h hL fun x L1 H1 h1 ⟨a, dx, n, d, ex, m, k⟩ => ⟨L1, h1, a, C, dx, _, _, ex, m, T.cl, T.nB, ratF_bot n d, k⟩) hb
end
/-! numbers -/
def sg (t b : Int) : Int := if b < 0 then -((Nat.gcd t.natAbs b.natAbs : Nat) : Int) else ((Nat.gcd t.natAbs b.natAbs : Nat) : Int)
def nT (t b : Int) : Int := t.fdiv (sg t b)
def nB (t b : Int) : Int := b.fdiv (sg t b)
theorem sg_ne {t b : Int} (h : b ≠ 0) : sg t b ≠ 0 := by
  have g : 0 < Nat.gcd t.natAbs b.natAbs := Nat.gcd_pos_of_pos_right _ (by omega)
  unfold sg
  split <;> omega
theorem sg_le {t b : Int} (h : b ≠ 0) : (sg t b).natAbs ≤ b.natAbs := by
  have g : Nat.gcd t.natAbs b.natAbs ≤ b.natAbs := Nat.gcd_le_right _ (by omega)
  unfold sg
  split <;> omega
/-- // by any divisor below 2 ^ 9000 -/
def CDivZ (_ j : Int) : Prop := j ≠ 0 ∧ j.natAbs.log2 < 9000
theorem op_fdivZ {X : Cx} : OpR X (binaryOp .FloorDiv) (rI CDivZ fun i j => .int (i.fdiv j)) := opI fun _ _ _ _ _ _ _ hc q => PyProof.Rows.floordiv_int hc.1 q (.inl (PyProof.noPylong_of_log2 hc.2))
theorem wo_fdivZ {X : Cx} {i j : Int} {L : LH} {Kk : V → LH → Prop} (hc : CDivZ i j) (k : Kk (.int (i.fdiv j)) L) : WO X (binaryOp .FloorDiv) (.int i) (.int j) L Kk := wo_I op_fdivZ hc k
theorem wo_mulW {X : Cx} {i j : Int} {L : LH} {Kk : V → LH → Prop} (hc : CMulW i j) (k : Kk (.int (i * j)) L) : WO X (binaryOp .Mult) (.int i) (.int j) L Kk := wo_I op_mulW hc k
/-- small enough for all that is asked -/
def Sm (n : Nat) (x : Int) : Prop := x.natAbs < 2 ^ n
theorem Sm.mul {m n : Nat} {x y : Int} (a : Sm m x) (b : Sm n y) : Sm (m + n) (x * y) := wide_lt a b
theorem Sm.add {m n : Nat} {x y : Int} (a : Sm m x) (b : Sm n y) (l : m ≤ n) : Sm (n + 1) (x + y) := by
  have h : 2 ^ m ≤ 2 ^ n := Nat.pow_le_pow_right (by decide) l
  have e : 2 ^ (n + 1) = 2 ^ n + 2 ^ n := by rw [Nat.pow_succ]; omega
  unfold Sm at *
  omega
theorem Sm.neg {n : Nat} {x : Int} (a : Sm n x) : Sm n (-x) := by
  unfold Sm at *
  omega
theorem Sm.sub {m n : Nat} {x y : Int} (a : Sm m x) (b : Sm n y) (l : m ≤ n) : Sm (n + 1) (x - y) := by
  rw [Int.sub_eq_add_neg]
  exact a.add b.neg l
theorem Sm.mono {m n : Nat} {x : Int} (a : Sm m x) (l : m ≤ n) : Sm n x := Nat.lt_of_lt_of_le a (Nat.pow_le_pow_right (by decide) l)
theorem Sm.cm {m n : Nat} {x y : Int} (a : Sm m x) (b : Sm n y) (h0 : 0 < m := by decide) (h1 : 0 < n := by decide) (h : m + n ≤ 1000000 := by decide) : CMulW x y := wide_mul a b h0 h1 h
theorem Sm.one {n : Nat} (h : 0 < n := by decide) : Sm n 1 := by
  unfold Sm
  exact Nat.one_lt_two_pow (by omega)
theorem Sm.log {n : Nat} {x : Int} (a : Sm n x) (h0 : 0 < n := by decide) : x.natAbs.log2 < n := PySem.Flt.log2_lt_of h0 a
/-- what is known grows: facts stay -/
theorem Mem.of_mem {a : Addr} {o : HO} : ∀ {L : LH}, (a, o) ∈ L → Mem a o L
  | p :: L, h => by
    rcases List.mem_cons.mp h with e | h
    · rw [← e]
      exact .head
    · exact .tail (Mem.of_mem h)
theorem mem_sl {a : Addr} {o : HO} {L L' : LH} (h : Mem a o L) (s : L.Sublist L') : Mem a o L' := Mem.of_mem (s.mem h.mem)
/-- a NUMBER: a Ratio with its parts, or an int -/
inductive NumL (C : Addr) (L : LH) : V → Int → Int → Prop where
  | rat {a dx : Addr} {n d : Int} (m : Mem a (.ins C dx (ratF n d)) L) : NumL C L (.ref a) n d
  | int (n : Int) : NumL C L (.int n) n 1
theorem NumL.sl {C : Addr} {L L' : LH} {v : V} {n d : Int} (h : NumL C L v n d) (s : L.Sublist L') : NumL C L' v n d := by
  cases h with
  | rat m => exact .rat (mem_sl m s)
  | int n => exact .int n

/-! ### steps -/
local macro_rules | `(tactic| walk_at "at") => `(tactic| with_reducible (repeat (first | exact At.head | apply At.tail)))
local macro_rules | `(tactic| walk_at "mem") => `(tactic| with_reducible (repeat (first | exact Mem.head | apply Mem.tail)))
local macro_rules | `(tactic| walk_at "boot") => `(tactic| with_reducible (first | exact boot_isi | exact boot_max | exact boot_min | exact boot_abs | exact boot_len | exact boot_repr | exact boot_divmod | exact boot_all | exact boot_int | exact boot_bool | exact boot_str))
local macro_rules | `(tactic| walk_at "room") => `(tactic| (first | assumption | exact Room.mono (by assumption) (by decide)))
local macro_rules | `(tactic| walk_at "none") => `(tactic| (refine Txt.bn (by assumption) _ ?xz; (case xz => with_reducible (repeat (first | exact InS.head | apply InS.tail)))))
local macro_rules | `(tactic| walk_at "n3") => `(tactic| first
  | with_reducible refine ws_ret ?_
  | with_reducible refine we_int ?_
  | with_reducible refine we_str ?_
  | with_reducible refine we_bool ?_
  | with_reducible refine we_none ?_
  | ((with_reducible refine' x_name ?xo ?xa ?xb ?xc ?_); (case xo => assumption); (case xa => walk_at "at"); (case xb => walk_at "at"); (case xc => rfl))
  | ((with_reducible refine' f_top ?xt ?_ ?xh); (case xt => assumption); (case xh => rfl))
  | ((with_reducible refine' f_bot ?xt ?_ ?xh); (case xt => assumption); (case xh => rfl))
  | ((with_reducible refine' we_prop ?xg ?xr ?_ ?xh); (case xg => assumption); (case xr => walk_at "room"); (case xh => rfl))
  | with_reducible refine we_bin ?_
  | ((with_reducible refine wo_mulW ?xm ?_); (case xm => exact Sm.cm (by assumption) (by assumption)))
  | with_reducible refine wo_add ?_
  | with_reducible refine wo_sub ?_
  | with_reducible refine wo_lt ?_
  | with_reducible refine wo_gt ?_
  | with_reducible refine wo_le ?_
  | with_reducible refine wo_ge ?_
  | with_reducible refine wu_neg ?_
  | ((with_reducible refine we_cmp ?xh ?_); (case xh => exact nomark _))
  | ((with_reducible refine wt_cmp ?xh ?_); (case xh => exact nomark _))
  | ((with_reducible refine wa_cons ?_ ?xh); (case xh => rfl))
  | with_reducible refine wa_nil ?_
  | with_reducible refine we_and ?_
  | with_reducible refine we_or ?_
  | with_reducible refine we_not ?_
  | with_reducible refine wt_not ?_
  | with_reducible refine we_un ?_
  | with_reducible refine we_one ?_
  | with_reducible refine wt_ww (ww_or ?_)
  | with_reducible refine wt_ww (ww_and ?_)
  | with_reducible refine ww_or ?_
  | with_reducible refine ww_and ?_
  | with_reducible refine ww_or1 ?_
  | with_reducible refine ww_and1 ?_
  | with_reducible refine we_ifExp ?_
  | with_reducible refine ws_if ?_
  | with_reducible refine ws_pass ?_
  | with_reducible refine we_tup ?_
  | with_reducible refine we_lst ?_
  | ((with_reducible refine' x_set ?xo ?xa ?xb ?_ ?xs); (case xo => assumption); (case xa => walk_at "at"); (case xb => walk_at "at"); (case xs => rfl))
  | ((with_reducible refine' x_setF ?_ ?xs); (case xs => rfl))
  | ((with_reducible refine' x_call ?xo ?xa ?xg ?xr ?_ ?xe ?xp); (case xo => assumption); (case xa => walk_at "at"); (case xg => assumption); (case xr => walk_at "room"); (case xe => rfl); (case xp => rfl))
  | ((with_reducible refine' x_callB ?xo ?xa ?xg ?xr ?_ ?xe ?xp); (case xo => assumption); (case xr => walk_at "boot"); (case xa => walk_at "at"); (case xg => walk_at "none"); (case xe => rfl); (case xp => rfl))
  | ((with_reducible refine' x_callTy ?xo ?xa ?xg ?xr ?_ ?xe ?xp); (case xo => assumption); (case xr => walk_at "boot"); (case xa => walk_at "at"); (case xg => walk_at "none"); (case xe => rfl); (case xp => rfl))
  | ((with_reducible refine' x_callFn ?xo ?xa ?xg ?_ ?xe ?xp); (case xo => assumption); (case xg => with_reducible exact Txt.mgcd (by assumption)); (case xa => walk_at "at"); (case xe => rfl); (case xp => rfl))
  | ((with_reducible refine' x_bty ?xo ?xa ?xg ?xr ?_); (case xo => assumption); (case xr => walk_at "boot"); (case xa => walk_at "at"); (case xg => walk_at "none"))
  | ((with_reducible refine' x_cls ?xt ?xo ?xa ?_); (case xt => assumption); (case xo => assumption); (case xa => walk_at "at"))
  | ((with_reducible refine' x_make ?xo ?xa ?xg ?xr ?_ ?xe ?xp); (case xo => assumption); (case xa => walk_at "at"); (case xg => assumption); (case xr => walk_at "room"); (case xe => rfl); (case xp => rfl))
  | with_reducible refine wss_nil ?_
  | refine ⟨_, _, _, _, rfl, (by assumption), ?_⟩
  | refine ⟨_, _, _, rfl, (by assumption), ?_⟩
  | refine wss_cons ?_)
local macro_rules | `(tactic| walk_at "go") => `(tactic| repeat walk_at "n3")
section
variable {P : Program} {w : World} {K : PySem.W.Frag} {mg : Str → Option Value} {base : Heap}
/-! is_integer -/
def pIsInt (C : Addr) : Pre := fun vs L Kk => ∃ v, vs = [v] ∧ ((∃ i, v = .int i ∧ Kk (.bl true) L) ∨ ∃ a dx fs, v = .ref a ∧ Mem a (.ins C dx fs) L ∧ Kk (.bl false) L)
theorem scIsInt : FnScope ["value"] ["value"] (defScope sIsInt) := ⟨rfl, rfl, rfl, by decide +kernel, rfl, by decide +kernel, by decide +kernel⟩
theorem okIsInt {f C : Addr} {fd : FuncData} (F : Fun K "is_integer" "is_integer" sIsInt f fd) (T : Txt K mg C) : FnOk P w K mg base CX0 1 f fd ["value"] (SpL (pIsInt C)) := by
  refine fnX (Gn := ["isinstance", "int", "bool"]) F scIsInt (by decide +kernel) (fun vs L Kk h => ?_) (fun X e1 e2 e3 e4 e5 hX hr vs L Kk h => ?_)
  · obtain ⟨v, rfl, _⟩ := h
    rfl
  · subst e1 e2 e3 e4 e5
    obtain ⟨v, rfl, h⟩ := h
    walk_at "go"
    rcases h with ⟨i, rfl, k⟩ | ⟨a, dx, fs, rfl, m, k⟩
    · refine wc_isi (r := true) (.ty _) ty_int (kit_ty (by decide +kernel)) ⟨true, rfl, fun _ => ?_, fun z => Bool.noConfusion z⟩
      walk_at "go"
      refine wc_isi (r := false) (.ty _) ty_int (kit_ty (by decide +kernel)) ⟨false, rfl, ?_⟩
      exact ret_sub k (Sub.refl _)
    · refine wc_isi (r := false) (.ty _) (T.ty m) T.iCI ⟨false, rfl, (fun z => Bool.noConfusion z), fun _ => ?_⟩
      exact ret_sub k (Sub.refl _)
/-! __init__ -/
def pInit (C : Addr) : Pre := fun vs L Kk => ∃ o dx t b L0, vs = [.ref o, .int t, .int b] ∧ L = (o, .ins C dx []) :: L0 ∧ b ≠ 0 ∧ b.natAbs.log2 < 9000 ∧ Kk .non ((o, .ins C dx (ratF (nT t b) (nB t b))) :: L0)
theorem scInit : FnScope ["self", "top", "bottom", "common"] ["self", "top", "bottom"] (defScope sInit) := ⟨rfl, rfl, rfl, by decide +kernel, rfl, by decide +kernel, by decide +kernel⟩
theorem okInit {f C : Addr} {fd : FuncData} (F : FunD K "__init__" "Ratio.__init__" (defArgs sInit) (defBody sInit) (defScope sInit) [.int 1] [] f fd) (T : Txt K mg C) (GI : GFn P w K mg base "is_integer" 1 ["value"] [] (pIsInt C)) :
    FnOk P w K mg base CX0 2 f fd ["self", "top", "bottom"] (SpL (pInit C)) := by
  refine fnXD (Gn := ["is_integer", "gcd"]) F scInit (by decide +kernel) (fun vs L Kk h => ?_) (fun X e1 e2 e3 e4 e5 hX hr vs L Kk h => ?_)
  · obtain ⟨o, dx, t, b, L0, rfl, _⟩ := h
    rfl
  · subst e1 e2 e3 e4 e5
    obtain ⟨o, dx, t, b, L0, rfl, rfl, hb, hl, k⟩ := h
    have h0 : decide (V.int b = V.int 0) = false := decide_eq_false fun z => hb (V.int.inj z)
    have hd : CDivZ t (sg t b) := ⟨sg_ne hb, Nat.lt_of_le_of_lt (by
      by_cases z : (sg t b).natAbs = 0
      · rw [z]; exact Nat.zero_le _
      · exact (Nat.le_log2 (by omega)).mpr (Nat.le_trans (Nat.log2_self_le z) (sg_le hb))) hl⟩
    walk_at "go"
    refine wt_val ?_
    walk_at "go"
    refine ⟨_, rfl, .inl ⟨_, rfl, true, rfl, (fun z => Bool.noConfusion z), fun _ => ?_⟩⟩
    walk_at "go"
    refine wt_val ?_
    walk_at "go"
    refine ⟨_, rfl, .inl ⟨_, rfl, true, rfl, fun _ => ?_, fun z => Bool.noConfusion z⟩⟩
    walk_at "go"
    refine wo_eq rfl ⟨_, rfl, (fun z => ?_), fun _ => ?_⟩
    · rw [h0] at z
      cases z
    walk_at "go"
    refine wc_gcd ?_
    walk_at "go"
    refine ⟨_, rfl, fun z => ?_, fun z => ?_⟩
    · have e : sg t b = -((Nat.gcd t.natAbs b.natAbs : Nat) : Int) := if_pos (of_decide_eq_true z)
      rw [e] at hd
      walk_at "go"
      refine wo_fdivZ hd ?_
      walk_at "go"
      refine ⟨_, _, _, _, _, rfl, .head, T.cl, T.nT, by decide, ?_⟩
      walk_at "go"
      refine wo_fdivZ ⟨hd.1, hd.2⟩ ?_
      walk_at "go"
      refine ⟨_, _, _, _, _, rfl, .head, T.cl, T.nB, (show 1 < 1000 by decide), ?_⟩
      walk_at "go"
      unfold nT nB at k
      rw [e] at k
      exact nx_sub k (Sub.refl _)
    · have e : sg t b = ((Nat.gcd t.natAbs b.natAbs : Nat) : Int) := if_neg (of_decide_eq_false z)
      rw [e] at hd
      walk_at "go"
      refine wo_fdivZ hd ?_
      walk_at "go"
      refine ⟨_, _, _, _, _, rfl, .head, T.cl, T.nT, by decide, ?_⟩
      walk_at "go"
      refine wo_fdivZ ⟨hd.1, hd.2⟩ ?_
      walk_at "go"
      refine ⟨_, _, _, _, _, rfl, .head, T.cl, T.nB, (show 1 < 1000 by decide), ?_⟩
      walk_at "go"
      unfold nT nB at k
      rw [e] at k
      exact nx_sub k (Sub.refl _)
/-! is_number -/
def pIsNum (C : Addr) : Pre := fun vs L Kk => ∃ a dx fs, vs = [.ref a] ∧ Mem a (.ins C dx fs) L ∧ Kk (.bl true) L
theorem scIsNum : FnScope ["value"] ["value"] (defScope sIsNum) := ⟨rfl, rfl, rfl, by decide +kernel, rfl, by decide +kernel, by decide +kernel⟩
theorem okIsNum {f C : Addr} {fd : FuncData} (F : Fun K "is_number" "is_number" sIsNum f fd) (T : Txt K mg C) (GI : GFn P w K mg base "is_integer" 1 ["value"] [] (pIsInt C)) : FnOk P w K mg base CX0 2 f fd ["value"] (SpL (pIsNum C)) := by
  refine fnX (Gn := ["isinstance", "is_integer", "Ratio"]) F scIsNum (by decide +kernel) (fun vs L Kk h => ?_) (fun X e1 e2 e3 e4 e5 hX hr vs L Kk h => ?_)
  · obtain ⟨a, dx, fs, rfl, _⟩ := h
    rfl
  · subst e1 e2 e3 e4 e5
    obtain ⟨a, dx, fs, rfl, m, k⟩ := h
    walk_at "go"
    refine ⟨_, rfl, .inr ⟨_, _, _, rfl, m, false, rfl, fun _ => ?_, fun z => Bool.noConfusion z⟩⟩
    walk_at "go"
    refine wc_isi (r := true) (.own _) (T.ty m) T.iCC ?_
    exact ret_sub k (Sub.refl _)
/-! as_ratio -/
def pAs (C : Addr) : Pre := fun vs L Kk => ∃ v n d, vs = [v] ∧ NumL C L v n d ∧ ∀ p dx L', L.Sublist L' → Mem p (.ins C dx (ratF n d)) L' → Kk (.ref p) L'
theorem sg_one (n : Int) : sg n 1 = 1 := by
  unfold sg
  rw [if_neg (by decide)]
  show ((Nat.gcd n.natAbs 1 : Nat) : Int) = 1
  rw [Nat.gcd_one_right]
  rfl
theorem nT_one (n : Int) : nT n 1 = n := by unfold nT; rw [sg_one, Int.fdiv_one]
theorem nB_one (n : Int) : nB n 1 = 1 := by unfold nB; rw [sg_one, Int.fdiv_one]
theorem scAs : FnScope ["value"] ["value"] (defScope sAs) := ⟨rfl, rfl, rfl, by decide +kernel, rfl, by decide +kernel, by decide +kernel⟩
theorem okAs {f C : Addr} {fd : FuncData} (F : Fun K "as_ratio" "as_ratio" sAs f fd) (T : Txt K mg C) (GM : GMk P w K mg base "Ratio" C 2 ["self", "top", "bottom"] [.int 1] (pInit C)) : FnOk P w K mg base CX0 4 f fd ["value"] (SpL (pAs C)) := by
  refine fnX (Gn := ["isinstance", "Ratio"]) F scAs (by decide +kernel) (fun vs L Kk h => ?_) (fun X e1 e2 e3 e4 e5 hX hr vs L Kk h => ?_)
  · obtain ⟨v, n, d, rfl, _⟩ := h
    rfl
  · subst e1 e2 e3 e4 e5
    obtain ⟨v, n, d, rfl, hn, k⟩ := h
    walk_at "go"
    refine wt_val ?_
    walk_at "go"
    cases hn with
    | rat m =>
      refine wc_isi (r := true) (.own _) (T.ty m) T.iCC ⟨_, rfl, fun _ => ?_, fun z => Bool.noConfusion z⟩
      walk_at "go"
      exact ret_sub (k _ _ _ (.refl _) m) (Sub.refl _)
    | int n =>
      refine wc_isi (r := false) (.own _) ty_int T.iIC ⟨_, rfl, (fun z => Bool.noConfusion z), fun _ => ?_⟩
      walk_at "go"
      intro o dx
      refine ⟨_, _, _, _, _, rfl, rfl, (by decide), (by decide), rfl, ?_⟩
      refine ret_sub (k o dx _ (.cons _ (.refl _)) ?_) (Sub.refl _)
      rw [nT_one, nB_one]
      exact .head
/-! top -/
def pTop (C : Addr) : Pre := fun vs L Kk => ∃ a dx n d, vs = [.ref a] ∧ Mem a (.ins C dx (ratF n d)) L ∧ Kk (.int n) L
theorem scTop : FnScope ["self"] ["self"] (defScope sTop) := ⟨rfl, rfl, rfl, by decide +kernel, rfl, by decide +kernel, by decide +kernel⟩
theorem okTop {f C : Addr} {fd : FuncData} (F : Fun K "top" "Ratio.top" sTop f fd) (T : Txt K mg C) : FnOk P w K mg base CX0 1 f fd ["self"] (SpL (pTop C)) := by
  refine fnX (Gn := []) F scTop (by decide +kernel) (fun vs L Kk h => ?_) (fun X e1 e2 e3 e4 e5 hX hr vs L Kk h => ?_)
  · obtain ⟨a, dx, n, d, rfl, _⟩ := h
    rfl
  · subst e1 e2 e3 e4 e5
    obtain ⟨a, dx, n, d, rfl, m, k⟩ := h
    walk_at "go"
    exact ret_sub k (Sub.refl _)
/-! bottom -/
def pBot (C : Addr) : Pre := fun vs L Kk => ∃ a dx n d, vs = [.ref a] ∧ Mem a (.ins C dx (ratF n d)) L ∧ Kk (.int d) L
theorem scBot : FnScope ["self"] ["self"] (defScope sBot) := ⟨rfl, rfl, rfl, by decide +kernel, rfl, by decide +kernel, by decide +kernel⟩
theorem okBot {f C : Addr} {fd : FuncData} (F : Fun K "bottom" "Ratio.bottom" sBot f fd) (T : Txt K mg C) : FnOk P w K mg base CX0 1 f fd ["self"] (SpL (pBot C)) := by
  refine fnX (Gn := []) F scBot (by decide +kernel) (fun vs L Kk h => ?_) (fun X e1 e2 e3 e4 e5 hX hr vs L Kk h => ?_)
  · obtain ⟨a, dx, n, d, rfl, _⟩ := h
    rfl
  · subst e1 e2 e3 e4 e5
    obtain ⟨a, dx, n, d, rfl, m, k⟩ := h
    walk_at "go"
    exact ret_sub k (Sub.refl _)
def sgn (n : Int) : Int := if n < 0 then -1 else if n = 0 then 0 else 1
/-! sign -/
def pSign (C : Addr) : Pre := fun vs L Kk => ∃ a dx n d, vs = [.ref a] ∧ Mem a (.ins C dx (ratF n d)) L ∧ Kk (.int (sgn n)) L
theorem scSign : FnScope ["self"] ["self"] (defScope sSign) := ⟨rfl, rfl, rfl, by decide +kernel, rfl, by decide +kernel, by decide +kernel⟩
theorem okSign {f C : Addr} {fd : FuncData} (F : Fun K "sign" "Ratio.sign" sSign f fd) (T : Txt K mg C) : FnOk P w K mg base CX0 1 f fd ["self"] (SpL (pSign C)) := by
  refine fnX (Gn := []) F scSign (by decide +kernel) (fun vs L Kk h => ?_) (fun X e1 e2 e3 e4 e5 hX hr vs L Kk h => ?_)
  · obtain ⟨a, dx, n, d, rfl, _⟩ := h
    rfl
  · subst e1 e2 e3 e4 e5
    obtain ⟨a, dx, n, d, rfl, m, k⟩ := h
    walk_at "go"
    refine ⟨_, rfl, fun z => ?_, fun z => ?_⟩
    · have z2 : n < 0 := of_decide_eq_true z
      walk_at "go"
      unfold sgn at k
      rw [if_pos z2] at k
      exact ret_sub k (Sub.refl _)
    · have z2 : ¬ n < 0 := of_decide_eq_false z
      unfold sgn at k
      rw [if_neg z2] at k
      walk_at "go"
      refine wo_eq rfl ⟨_, rfl, fun y => ?_, fun y => ?_⟩
      · have y2 : n = 0 := V.int.inj (of_decide_eq_true y)
        rw [if_pos y2] at k
        walk_at "go"
        exact ret_sub k (Sub.refl _)
      · have y2 : ¬ n = 0 := fun q => of_decide_eq_false y (by rw [q])
        rw [if_neg y2] at k
        walk_at "go"
        exact ret_sub k (Sub.refl _)
/-! arithmetic -/
theorem log_mul {x y : Int} (a : Sm 1000 x) (b : Sm 1000 y) : (x * y).natAbs.log2 < 9000 := Nat.lt_of_lt_of_le (Sm.log (Sm.mul a b)) (by decide)
theorem mul_ne {x y : Int} (a : x ≠ 0) (b : y ≠ 0) : x * y ≠ 0 := Int.mul_ne_zero a b
def pAdd (C : Addr) : Pre := fun vs L Kk => ∃ a dx v n d m e, vs = [.ref a, v] ∧ Mem a (.ins C dx (ratF n d)) L ∧ NumL C L v m e ∧ Sm 1000 n ∧ Sm 1000 d ∧ Sm 1000 m ∧ Sm 1000 e ∧ d ≠ 0 ∧ e ≠ 0 ∧ ∀ p dx, Kk (.ref p) ((p, .ins C dx (ratF (nT (n * e + m * d) (d * e)) (nB (n * e + m * d) (d * e)))) :: L)
theorem scAdd : FnScope ["self", "other", "right", "top"] ["self", "other"] (defScope sAdd) := ⟨rfl, rfl, rfl, by decide +kernel, rfl, by decide +kernel, by decide +kernel⟩
theorem okAdd {f C : Addr} {fd : FuncData} (F : Fun K "__add__" "Ratio.__add__" sAdd f fd) (T : Txt K mg C) (GM : GMk P w K mg base "Ratio" C 2 ["self", "top", "bottom"] [] (pInit C)) (GA : GFn P w K mg base "as_ratio" 4 ["value"] [] (pAs C))
    (G1 : GPr P w K mg base C "top" 1 ["self"] (pTop C)) (G2 : GPr P w K mg base C "bottom" 1 ["self"] (pBot C)) : FnOk P w K mg base CX0 5 f fd ["self", "other"] (SpL (pAdd C)) := by
  refine fnX (Gn := ["as_ratio", "Ratio"]) F scAdd (by decide +kernel) (fun vs L Kk h => ?_) (fun X e1 e2 e3 e4 e5 hX hr vs L Kk h => ?_)
  · obtain ⟨a, dx, v, n, d, m, e, rfl, _⟩ := h
    rfl
  · subst e1 e2 e3 e4 e5
    obtain ⟨a, dx, v, n, d, m, e, rfl, ma, hv, sn, sd, sm, se, hd, he, k⟩ := h
    walk_at "go"
    intro r dr L' sl mr
    have ma' := mem_sl ma sl
    walk_at "go"
    intro o dx
    refine ⟨_, _, _, _, _, rfl, rfl, mul_ne hd he, log_mul sd se, rfl, ?_⟩
    exact ret_sub (k o dx) (Sub.of_sublist (sl.cons₂ _))
def pSub (C : Addr) : Pre := fun vs L Kk => ∃ a dx v n d m e, vs = [.ref a, v] ∧ Mem a (.ins C dx (ratF n d)) L ∧ NumL C L v m e ∧ Sm 1000 n ∧ Sm 1000 d ∧ Sm 1000 m ∧ Sm 1000 e ∧ d ≠ 0 ∧ e ≠ 0 ∧ ∀ p dx, Kk (.ref p) ((p, .ins C dx (ratF (nT (n * e - m * d) (d * e)) (nB (n * e - m * d) (d * e)))) :: L)
theorem scSub : FnScope ["self", "other", "right", "top"] ["self", "other"] (defScope sSub) := ⟨rfl, rfl, rfl, by decide +kernel, rfl, by decide +kernel, by decide +kernel⟩
theorem okSub {f C : Addr} {fd : FuncData} (F : Fun K "__sub__" "Ratio.__sub__" sSub f fd) (T : Txt K mg C) (GM : GMk P w K mg base "Ratio" C 2 ["self", "top", "bottom"] [] (pInit C)) (GA : GFn P w K mg base "as_ratio" 4 ["value"] [] (pAs C))
    (G1 : GPr P w K mg base C "top" 1 ["self"] (pTop C)) (G2 : GPr P w K mg base C "bottom" 1 ["self"] (pBot C)) : FnOk P w K mg base CX0 5 f fd ["self", "other"] (SpL (pSub C)) := by
  refine fnX (Gn := ["as_ratio", "Ratio"]) F scSub (by decide +kernel) (fun vs L Kk h => ?_) (fun X e1 e2 e3 e4 e5 hX hr vs L Kk h => ?_)
  · obtain ⟨a, dx, v, n, d, m, e, rfl, _⟩ := h
    rfl
  · subst e1 e2 e3 e4 e5
    obtain ⟨a, dx, v, n, d, m, e, rfl, ma, hv, sn, sd, sm, se, hd, he, k⟩ := h
    walk_at "go"
    intro r dr L' sl mr
    have ma' := mem_sl ma sl
    walk_at "go"
    intro o dx
    refine ⟨_, _, _, _, _, rfl, rfl, mul_ne hd he, log_mul sd se, rfl, ?_⟩
    exact ret_sub (k o dx) (Sub.of_sublist (sl.cons₂ _))
def pMul (C : Addr) : Pre := fun vs L Kk => ∃ a dx v n d m e, vs = [.ref a, v] ∧ Mem a (.ins C dx (ratF n d)) L ∧ NumL C L v m e ∧ Sm 1000 n ∧ Sm 1000 d ∧ Sm 1000 m ∧ Sm 1000 e ∧ d ≠ 0 ∧ e ≠ 0 ∧ ∀ p dx, Kk (.ref p) ((p, .ins C dx (ratF (nT (n * m) (d * e)) (nB (n * m) (d * e)))) :: L)
theorem scMul : FnScope ["self", "other", "right"] ["self", "other"] (defScope sMul) := ⟨rfl, rfl, rfl, by decide +kernel, rfl, by decide +kernel, by decide +kernel⟩
theorem okMul {f C : Addr} {fd : FuncData} (F : Fun K "__mul__" "Ratio.__mul__" sMul f fd) (T : Txt K mg C) (GM : GMk P w K mg base "Ratio" C 2 ["self", "top", "bottom"] [] (pInit C)) (GA : GFn P w K mg base "as_ratio" 4 ["value"] [] (pAs C))
    (G1 : GPr P w K mg base C "top" 1 ["self"] (pTop C)) (G2 : GPr P w K mg base C "bottom" 1 ["self"] (pBot C)) : FnOk P w K mg base CX0 5 f fd ["self", "other"] (SpL (pMul C)) := by
  refine fnX (Gn := ["as_ratio", "Ratio"]) F scMul (by decide +kernel) (fun vs L Kk h => ?_) (fun X e1 e2 e3 e4 e5 hX hr vs L Kk h => ?_)
  · obtain ⟨a, dx, v, n, d, m, e, rfl, _⟩ := h
    rfl
  · subst e1 e2 e3 e4 e5
    obtain ⟨a, dx, v, n, d, m, e, rfl, ma, hv, sn, sd, sm, se, hd, he, k⟩ := h
    walk_at "go"
    intro r dr L' sl mr
    have ma' := mem_sl ma sl
    walk_at "go"
    intro o dx
    refine ⟨_, _, _, _, _, rfl, rfl, mul_ne hd he, log_mul sd se, rfl, ?_⟩
    exact ret_sub (k o dx) (Sub.of_sublist (sl.cons₂ _))
def pNeg (C : Addr) : Pre := fun vs L Kk => ∃ a dx n d, vs = [.ref a] ∧ Mem a (.ins C dx (ratF n d)) L ∧ Sm 1000 d ∧ d ≠ 0 ∧ ∀ p dx, Kk (.ref p) ((p, .ins C dx (ratF (nT (-n) d) (nB (-n) d))) :: L)
theorem scNeg : FnScope ["self"] ["self"] (defScope sNeg) := ⟨rfl, rfl, rfl, by decide +kernel, rfl, by decide +kernel, by decide +kernel⟩
theorem okNeg {f C : Addr} {fd : FuncData} (F : Fun K "__neg__" "Ratio.__neg__" sNeg f fd) (T : Txt K mg C) (GM : GMk P w K mg base "Ratio" C 2 ["self", "top", "bottom"] [] (pInit C)) : FnOk P w K mg base CX0 4 f fd ["self"] (SpL (pNeg C)) := by
  refine fnX (Gn := ["Ratio"]) F scNeg (by decide +kernel) (fun vs L Kk h => ?_) (fun X e1 e2 e3 e4 e5 hX hr vs L Kk h => ?_)
  · obtain ⟨a, dx, n, d, rfl, _⟩ := h
    rfl
  · subst e1 e2 e3 e4 e5
    obtain ⟨a, dx, n, d, rfl, ma, sd, hd, k⟩ := h
    walk_at "go"
    intro o dx
    refine ⟨_, _, _, _, _, rfl, rfl, hd, Nat.lt_of_lt_of_le (Sm.log sd) (by decide), rfl, ?_⟩
    exact ret_sub (k o dx) (Sub.refl _)
def pBelow (C : Addr) : Pre := fun vs L Kk => ∃ a dx v n d m e, vs = [.ref a, v] ∧ Mem a (.ins C dx (ratF n d)) L ∧ NumL C L v m e ∧ Sm 1000 n ∧ Sm 1000 d ∧ Sm 1000 m ∧ Sm 1000 e ∧ Kk (.bl (decide (n * e < m * d))) L
theorem scBelow : FnScope ["self", "other", "right"] ["self", "other"] (defScope sBelow) := ⟨rfl, rfl, rfl, by decide +kernel, rfl, by decide +kernel, by decide +kernel⟩
theorem okBelow {f C : Addr} {fd : FuncData} (F : Fun K "is_below" "Ratio.is_below" sBelow f fd) (T : Txt K mg C) (GA : GFn P w K mg base "as_ratio" 4 ["value"] [] (pAs C))
    (G1 : GPr P w K mg base C "top" 1 ["self"] (pTop C)) (G2 : GPr P w K mg base C "bottom" 1 ["self"] (pBot C)) : FnOk P w K mg base CX0 5 f fd ["self", "other"] (SpL (pBelow C)) := by
  refine fnX (Gn := ["as_ratio"]) F scBelow (by decide +kernel) (fun vs L Kk h => ?_) (fun X e1 e2 e3 e4 e5 hX hr vs L Kk h => ?_)
  · obtain ⟨a, dx, v, n, d, m, e, rfl, _⟩ := h
    rfl
  · subst e1 e2 e3 e4 e5
    obtain ⟨a, dx, v, n, d, m, e, rfl, ma, hv, sn, sd, sm, se, k⟩ := h
    walk_at "go"
    intro r dr L' sl mr
    have ma' := mem_sl ma sl
    walk_at "go"
    exact ret_sub k (Sub.of_sublist sl)
/-- any value that is no Ratio, as == meets it -/
def NoRat (K : PySem.W.Frag) (C : Addr) (L : LH) (v : V) : Prop := ∃ t, TyL K v t L ∧ PySem.W.kitOne K t (.ref C) = some false
def pEq (K : PySem.W.Frag) (C : Addr) : Pre := fun vs L Kk => ∃ a dx n d v, vs = [.ref a, v] ∧ Mem a (.ins C dx (ratF n d)) L ∧ ((∃ b dy m e, v = .ref b ∧ Mem b (.ins C dy (ratF m e)) L ∧ Kk (.bl (decide (n = m ∧ d = e))) L) ∨ (NoRat K C L v ∧ Kk (.bl false) L))
theorem scEq : FnScope ["self", "other"] ["self", "other"] (defScope sEq) := ⟨rfl, rfl, rfl, by decide +kernel, rfl, by decide +kernel, by decide +kernel⟩
theorem okEq {f C : Addr} {fd : FuncData} (F : Fun K "__eq__" "Ratio.__eq__" sEq f fd) (T : Txt K mg C) : FnOk P w K mg base CX0 2 f fd ["self", "other"] (SpL (pEq K C)) := by
  refine fnX (Gn := ["isinstance", "Ratio"]) F scEq (by decide +kernel) (fun vs L Kk h => ?_) (fun X e1 e2 e3 e4 e5 hX hr vs L Kk h => ?_)
  · obtain ⟨a, dx, n, d, v, rfl, _⟩ := h
    rfl
  · subst e1 e2 e3 e4 e5
    obtain ⟨a, dx, n, d, v, rfl, ma, h⟩ := h
    walk_at "go"
    rcases h with ⟨b, dy, m, e, rfl, mb, k⟩ | ⟨⟨t, ht, hk⟩, k⟩
    · refine wc_isi (r := true) (.own _) (T.ty mb) T.iCC ⟨_, rfl, fun _ => ?_, fun z => Bool.noConfusion z⟩
      walk_at "go"
      refine wo_eq rfl ⟨_, rfl, fun z => ?_, fun z => ?_⟩
      · have e1 : n = m := V.int.inj (of_decide_eq_true z)
        walk_at "go"
        refine wo_eq rfl ?_
        have e2 : decide (V.int d = V.int e) = decide (n = m ∧ d = e) := by
          by_cases q : d = e
          · rw [decide_eq_true (by rw [q]), decide_eq_true ⟨e1, q⟩]
          · rw [decide_eq_false (fun y => q (V.int.inj y)), decide_eq_false (fun y => q y.2)]
        rw [e2]
        exact ret_sub k (Sub.refl _)
      · have e1 : ¬ n = m := fun q => of_decide_eq_false z (by rw [q])
        have e2 : decide (n = m ∧ d = e) = false := decide_eq_false fun q => e1 q.1
        rw [e2] at k
        exact ret_sub k (Sub.refl _)
    · refine wc_isi (r := false) (.own _) ht hk ⟨_, rfl, (fun z => Bool.noConfusion z), fun _ => ?_⟩
      exact ret_sub k (Sub.refl _)
/-! __str__, __repr__ -/
def itx (n : Int) : Str := ((toString n : String) : Str)
def rstr (n d : Int) : Str := if d = 1 then itx n else itx n ++ "/" ++ itx d
def rrep (n d : Int) : Str := ("Ratio(" : Str) ++ itx n ++ ", " ++ itx d ++ ")"
theorem itx_len {n : Int} (h : n.natAbs.log2 < 1920) : (itx n).length ≤ 1921 := PyProof.Rows.int_text_len_1921 h
theorem line_big : 10000 ≤ sizeLine := by rw [sizeLine_eq]; decide
theorem empty_app (x : Str) : Str.empty ++ x = x := Str.empty_append x
theorem len_app (a b : Str) : (a ++ b).length = a.length + b.length := Str.length_append a b
theorem rrep_len {n d : Int} (hn : n.natAbs.log2 < 1920) (hd : d.natAbs.log2 < 1920) : (rrep n d).length ≤ 10000 := by
  have a := itx_len hn
  have b := itx_len hd
  unfold rrep
  rw [len_app, len_app, len_app, len_app, show ("Ratio(" : Str).length = 6 by decide +kernel, show (", " : Str).length = 2 by decide +kernel, show (")" : Str).length = 1 by decide +kernel]
  omega
theorem rstr_len {n d : Int} (hn : n.natAbs.log2 < 1920) (hd : d.natAbs.log2 < 1920) : (rstr n d).length ≤ 10000 := by
  have a := itx_len hn
  have b := itx_len hd
  unfold rstr
  split
  · omega
  · rw [len_app, len_app, show ("/" : Str).length = 1 by decide +kernel]
    omega
def pStr (C : Addr) : Pre := fun vs L Kk => ∃ a dx n d, vs = [.ref a] ∧ Mem a (.ins C dx (ratF n d)) L ∧ n.natAbs.log2 < 1920 ∧ d.natAbs.log2 < 1920 ∧ Kk (.str (rstr n d)) L
theorem scStr : FnScope ["self"] ["self"] (defScope sStr) := ⟨rfl, rfl, rfl, by decide +kernel, rfl, by decide +kernel, by decide +kernel⟩
theorem okStr {f C : Addr} {fd : FuncData} (F : Fun K "__str__" "Ratio.__str__" sStr f fd) (T : Txt K mg C) : FnOk P w K mg base CX0 1 f fd ["self"] (SpL (pStr C)) := by
  refine fnX (Gn := ["str"]) F scStr (by decide +kernel) (fun vs L Kk h => ?_) (fun X e1 e2 e3 e4 e5 hX hr vs L Kk h => ?_)
  · obtain ⟨a, dx, n, d, rfl, _⟩ := h
    rfl
  · subst e1 e2 e3 e4 e5
    obtain ⟨a, dx, n, d, rfl, m, hn, hd, k⟩ := h
    have ln := itx_len hn
    have ld := itx_len hd
    have lb := line_big
    walk_at "go"
    refine wo_eq rfl ⟨_, rfl, fun z => ?_, fun z => ?_⟩
    · have e : d = 1 := V.int.inj (of_decide_eq_true z)
      unfold rstr at k
      rw [if_pos e] at k
      walk_at "go"
      refine wc_strI hn ?_
      exact ret_sub k (Sub.refl _)
    · have e : ¬ d = 1 := fun q => of_decide_eq_false z (by rw [q])
      unfold rstr at k
      rw [if_neg e] at k
      walk_at "go"
      refine we_joined (.cons (itx n) L ?_ ?_ (.cons "/" L ?_ ?_ (.cons (itx d) L ?_ ?_ (.nil ?_))))
      · refine we_fmtI ?_
        walk_at "go"
        exact ⟨_, rfl, hn, rfl, rfl⟩
      · rw [empty_app]
        omega
      · exact we_str ⟨rfl, rfl⟩
      · rw [empty_app, len_app, show ("/" : Str).length = 1 by decide +kernel]
        omega
      · refine we_fmtI ?_
        walk_at "go"
        exact ⟨_, rfl, hd, rfl, rfl⟩
      · rw [empty_app, len_app, len_app, show ("/" : Str).length = 1 by decide +kernel]
        omega
      · rw [empty_app]
        exact ret_sub k (Sub.refl _)
def pRepr (C : Addr) : Pre := fun vs L Kk => ∃ a dx n d, vs = [.ref a] ∧ Mem a (.ins C dx (ratF n d)) L ∧ n.natAbs.log2 < 1920 ∧ d.natAbs.log2 < 1920 ∧ Kk (.str (rrep n d)) L
theorem scRepr : FnScope ["self"] ["self"] (defScope sRepr) := ⟨rfl, rfl, rfl, by decide +kernel, rfl, by decide +kernel, by decide +kernel⟩
theorem okRepr {f C : Addr} {fd : FuncData} (F : Fun K "__repr__" "Ratio.__repr__" sRepr f fd) (T : Txt K mg C) : FnOk P w K mg base CX0 1 f fd ["self"] (SpL (pRepr C)) := by
  refine fnX (Gn := []) F scRepr (by decide +kernel) (fun vs L Kk h => ?_) (fun X e1 e2 e3 e4 e5 hX hr vs L Kk h => ?_)
  · obtain ⟨a, dx, n, d, rfl, _⟩ := h
    rfl
  · subst e1 e2 e3 e4 e5
    obtain ⟨a, dx, n, d, rfl, m, hn, hd, k⟩ := h
    have ln := itx_len hn
    have ld := itx_len hd
    have lb := line_big
    have l6 : ("Ratio(" : Str).length = 6 := by decide +kernel
    have l2 : (", " : Str).length = 2 := by decide +kernel
    have l1 : (")" : Str).length = 1 := by decide +kernel
    walk_at "go"
    refine we_joined (.cons "Ratio(" L ?_ ?_ (.cons (itx n) L ?_ ?_ (.cons ", " L ?_ ?_ (.cons (itx d) L ?_ ?_ (.cons ")" L ?_ ?_ (.nil ?_))))))
    · exact we_str ⟨rfl, rfl⟩
    · rw [empty_app]
      omega
    · refine we_fmtI ?_
      walk_at "go"
      exact ⟨_, rfl, hn, rfl, rfl⟩
    · simp only [empty_app, len_app]
      omega
    · exact we_str ⟨rfl, rfl⟩
    · simp only [empty_app, len_app]
      omega
    · refine we_fmtI ?_
      walk_at "go"
      exact ⟨_, rfl, hd, rfl, rfl⟩
    · simp only [empty_app, len_app]
      omega
    · exact we_str ⟨rfl, rfl⟩
    · simp only [empty_app, len_app]
      omega
    · rw [empty_app]
      exact ret_sub k (Sub.refl _)
/-! total -/
def tAdd (a b : Int × Int) : Int × Int := (nT (a.1 * b.2 + b.1 * a.2) (a.2 * b.2), nB (a.1 * b.2 + b.1 * a.2) (a.2 * b.2))
def tot (qs : List (Int × Int)) : Int × Int := qs.foldl tAdd (0, 1)
def OkQ (q : Int × Int) : Prop := Sm 1000 q.1 ∧ Sm 1000 q.2 ∧ q.2 ≠ 0
def pTotB (C : Addr) : Pre := fun vs L Kk => ∃ q rest qs, vs = [.ref C, .ref q] ∧ Mem q (.tup rest) L ∧ Paired (fun v p => NumL C L v p.1 p.2 ∧ OkQ p) rest qs ∧ (∀ i, OkQ (tot (qs.take i))) ∧ ∀ p dx, Kk (.ref p) ((p, .ins C dx (ratF (tot qs).1 (tot qs).2)) :: L)
theorem nT_zero : nT 0 1 = 0 := nT_one 0
theorem take_succ {α : Type} {l : List α} {i : Nat} {x : α} (h : l[i]? = some x) : l.take (i + 1) = l.take i ++ [x] := by
  rw [List.take_succ, h]
  rfl
theorem tot_snoc (qs : List (Int × Int)) (q : Int × Int) : tot (qs ++ [q]) = tAdd (tot qs) q := by
  unfold tot
  rw [List.foldl_append]
  rfl
theorem dun_add : PySem.dunder Operator.Add.info.2 = "__add__" := by decide +kernel
theorem dun_sub : PySem.dunder Operator.Sub.info.2 = "__sub__" := by decide +kernel
theorem dun_mul : PySem.dunder Operator.Mult.info.2 = "__mul__" := by decide +kernel
/-- the operators of a Ratio with a NUMBER -/
structure Ops (P : Program) (w : World) (K : PySem.W.Frag) (mg : Str → Option Value) (base : Heap) (C : Addr) : Prop where
  add : GOp P w K mg base C "__add__" 5 ["self", "other"] (pAdd C)
  sub : GOp P w K mg base C "__sub__" 5 ["self", "other"] (pSub C)
  mul : GOp P w K mg base C "__mul__" 5 ["self", "other"] (pMul C)
  na : NoRefl K C "int" "add"
  ns : NoRefl K C "int" "sub"
  nm : NoRefl K C "int" "mul"
section
variable {X : Cx} {L : LH} {Kk : V → LH → Prop} {C a dx : Addr} {n d m e : Int} {v : V}
theorem wo_addR (O : Ops X.prog X.w X.K X.mg X.base C) (hr : Room 5 X.A) (ma : Mem a (.ins C dx (ratF n d)) L) (hv : NumL C L v m e) (q1 : OkQ (n, d)) (q2 : OkQ (m, e)) (k : ∀ p dx, Kk (.ref p) ((p, .ins C dx (ratF (nT (n * e + m * d) (d * e)) (nB (n * e + m * d) (d * e)))) :: L)) :
    WO X (binaryOp .Add) (.ref a) v L Kk := by
  have z : pAdd C [.ref a, v] L Kk := ⟨a, dx, v, n, d, m, e, rfl, ma, hv, q1.1, q1.2.1, q2.1, q2.2.1, q1.2.2, q2.2.2, k⟩
  cases hv with
  | rat mb => exact wo_own (op := .Add) (by rw [dun_add]; exact O.add) O.na.sf hr ma mb z
  | int m => exact wo_ownI (op := .Add) (by rw [dun_add]; exact O.add) O.na hr ma z
theorem wo_subR (O : Ops X.prog X.w X.K X.mg X.base C) (hr : Room 5 X.A) (ma : Mem a (.ins C dx (ratF n d)) L) (hv : NumL C L v m e) (q1 : OkQ (n, d)) (q2 : OkQ (m, e)) (k : ∀ p dx, Kk (.ref p) ((p, .ins C dx (ratF (nT (n * e - m * d) (d * e)) (nB (n * e - m * d) (d * e)))) :: L)) :
    WO X (binaryOp .Sub) (.ref a) v L Kk := by
  have z : pSub C [.ref a, v] L Kk := ⟨a, dx, v, n, d, m, e, rfl, ma, hv, q1.1, q1.2.1, q2.1, q2.2.1, q1.2.2, q2.2.2, k⟩
  cases hv with
  | rat mb => exact wo_own (op := .Sub) (by rw [dun_sub]; exact O.sub) O.ns.sf hr ma mb z
  | int m => exact wo_ownI (op := .Sub) (by rw [dun_sub]; exact O.sub) O.ns hr ma z
theorem wo_mulR (O : Ops X.prog X.w X.K X.mg X.base C) (hr : Room 5 X.A) (ma : Mem a (.ins C dx (ratF n d)) L) (hv : NumL C L v m e) (q1 : OkQ (n, d)) (q2 : OkQ (m, e)) (k : ∀ p dx, Kk (.ref p) ((p, .ins C dx (ratF (nT (n * m) (d * e)) (nB (n * m) (d * e)))) :: L)) :
    WO X (binaryOp .Mult) (.ref a) v L Kk := by
  have z : pMul C [.ref a, v] L Kk := ⟨a, dx, v, n, d, m, e, rfl, ma, hv, q1.1, q1.2.1, q2.1, q2.2.1, q1.2.2, q2.2.2, k⟩
  cases hv with
  | rat mb => exact wo_own (op := .Mult) (by rw [dun_mul]; exact O.mul) O.nm.sf hr ma mb z
  | int m => exact wo_ownI (op := .Mult) (by rw [dun_mul]; exact O.mul) O.nm hr ma z
end
theorem paired_get {α β : Type} {R : α → β → Prop} : ∀ {xs : List α} {ys : List β} {i : Nat} {x : α}, Paired R xs ys → xs[i]? = some x → ∃ y, ys[i]? = some y ∧ R x y
  | _, _, _, _, .nil, e => by simp at e
  | _, _, 0, _, .cons r _, e => by simp at e; subst e; exact ⟨_, rfl, r⟩
  | _, _, i + 1, x, .cons _ t, e => by
    obtain ⟨y, h1, h2⟩ := paired_get (i := i) (x := x) t (by simpa using e)
    exact ⟨y, by simpa using h1, h2⟩
theorem paired_len {α β : Type} {R : α → β → Prop} : ∀ {xs : List α} {ys : List β}, Paired R xs ys → xs.length = ys.length
  | _, _, .nil => rfl
  | _, _, .cons _ t => by simp [paired_len t]
theorem scTotal : FnScope ["cls", "numbers", "result", "number"] ["cls", "numbers"] (defScope sTotal) := ⟨rfl, rfl, rfl, by decide +kernel, rfl, by decide +kernel, by decide +kernel⟩
theorem okTotal {f C : Addr} {fd : FuncData} (F : Fun K "total" "Ratio.total" sTotal f fd) (T : Txt K mg C) (GM : GMk P w K mg base "Ratio" C 2 ["self", "top", "bottom"] [.int 1] (pInit C))
    (O : Ops P w K mg base C) : FnR P w K mg base CX0 6 f (SpL (preStar 1 (pTotB C))) := by
  refine fnStar (ps := ["cls"]) (pv := "numbers") (Gn := []) F scTotal (by decide +kernel) (fun kV doc pm an cdv ct us rest hl => StX.bind_star1 (B := fun us => bindArgs (PySem.W.fnOf "total" "Ratio.total" (defArgs sTotal) (defBody sTotal) (defScope sTotal) .none kV doc pm an cdv ct) ⟨us, []⟩) (p1 := "cls") (pv := "numbers") (fun a => rfl) (fun a r rs => rfl) us rest hl) (fun X e1 e2 e3 e4 e5 hX hr vs L Kk h => ?_)
  subst e1 e2 e3 e4 e5
  obtain ⟨q, rest, qs, rfl, mq, hp, hb, k⟩ := h
  refine wss_cons (x_set (by assumption) (by walk_at "at") (by walk_at "at") (x_makeL (by assumption) (by walk_at "at") (by walk_at "at") rfl GM (by walk_at "room") ?_))
  walk_at "go"
  intro o dx
  refine ⟨_, _, _, _, _, rfl, rfl, (by decide), (by decide), rfl, ?_⟩
  rw [nT_one, nB_one]
  refine wss_cons (ws_forT hX.calm hX.pas ?_)
  walk_at "go"
  refine ⟨q, rest, rfl, .of (.tail mq), fun i σ' L' => ∃ p dx v, σ' = [some (.ref C), some (.ref q), some (.ref p), v] ∧ L' = (p, .ins C dx (ratF (tot (qs.take i)).1 (tot (qs.take i)).2)) :: L, ?_, ?_, ?_, ?_⟩
  · exact ⟨o, dx, none, rfl, rfl⟩
  · rintro i σ' L' ⟨p, dx, v, rfl, rfl⟩
    exact .of (.tail mq)
  · rintro i y σ' L' hy ⟨p, dx, v, rfl, rfl⟩
    obtain ⟨pq, hq, hn, ok⟩ := paired_get hp hy
    refine x_tgt (by assumption) (by walk_at "at") (by walk_at "at") ?_
    walk_at "go"
    refine wo_addR O hr .head (hn.sl (.cons _ (.refl _))) (hb i) ok fun p2 dx2 => ?_
    refine wss_nil ⟨_, Sub.of_sublist (.cons₂ _ (.cons _ (.refl _))), p2, dx2, some y, rfl, ?_⟩
    rw [take_succ hq, tot_snoc]
    rfl
  · rintro σ' L' ⟨p, dx, v, rfl, rfl⟩
    rw [paired_len hp, List.take_length]
    walk_at "go"
    exact ret_sub (k p dx) (Sub.refl _)
end
end K11

set_option Elab.async false
set_option linter.all false
set_option maxRecDepth 100000
set_option maxHeartbeats 4000000
namespace K11
open PySem L2 N3
local macro_rules | `(tactic| walk_at "at") => `(tactic| with_reducible (repeat (first | exact At.head | apply At.tail)))
local macro_rules | `(tactic| walk_at "mem") => `(tactic| with_reducible (repeat (first | exact Mem.head | apply Mem.tail)))
local macro_rules | `(tactic| walk_at "boot") => `(tactic| with_reducible (first | exact boot_isi | exact boot_max | exact boot_min | exact boot_abs | exact boot_len | exact boot_repr | exact boot_divmod | exact boot_all | exact boot_int | exact boot_bool | exact boot_str))
local macro_rules | `(tactic| walk_at "room") => `(tactic| (first | assumption | exact Room.mono (by assumption) (by decide)))
local macro_rules | `(tactic| walk_at "none") => `(tactic| (refine Txt.bn (by assumption) _ ?xz; (case xz => with_reducible (repeat (first | exact InS.head | apply InS.tail)))))
local macro_rules | `(tactic| walk_at "n3") => `(tactic| first
  | with_reducible refine ws_ret ?_
  | with_reducible refine we_int ?_
  | with_reducible refine we_str ?_
  | with_reducible refine we_bool ?_
  | with_reducible refine we_none ?_
  | ((with_reducible refine' x_name ?xo ?xa ?xb ?xc ?_); (case xo => assumption); (case xa => walk_at "at"); (case xb => walk_at "at"); (case xc => rfl))
  | ((with_reducible refine' f_top ?xt ?_ ?xh); (case xt => assumption); (case xh => rfl))
  | ((with_reducible refine' f_bot ?xt ?_ ?xh); (case xt => assumption); (case xh => rfl))
  | ((with_reducible refine' we_prop ?xg ?xr ?_ ?xh); (case xg => assumption); (case xr => walk_at "room"); (case xh => rfl))
  | with_reducible refine we_bin ?_
  | ((with_reducible refine wo_mulW ?xm ?_); (case xm => exact Sm.cm (by assumption) (by assumption)))
  | with_reducible refine wo_add ?_
  | with_reducible refine wo_sub ?_
  | with_reducible refine wo_lt ?_
  | with_reducible refine wo_gt ?_
  | with_reducible refine wo_le ?_
  | with_reducible refine wo_ge ?_
  | with_reducible refine wu_neg ?_
  | ((with_reducible refine we_cmp ?xh ?_); (case xh => exact nomark _))
  | ((with_reducible refine wt_cmp ?xh ?_); (case xh => exact nomark _))
  | ((with_reducible refine wa_cons ?_ ?xh); (case xh => rfl))
  | with_reducible refine wa_nil ?_
  | with_reducible refine we_and ?_
  | with_reducible refine we_or ?_
  | with_reducible refine we_not ?_
  | with_reducible refine wt_not ?_
  | with_reducible refine we_un ?_
  | with_reducible refine we_one ?_
  | with_reducible refine wt_ww (ww_or ?_)
  | with_reducible refine wt_ww (ww_and ?_)
  | with_reducible refine ww_or ?_
  | with_reducible refine ww_and ?_
  | with_reducible refine ww_or1 ?_
  | with_reducible refine ww_and1 ?_
  | with_reducible refine we_ifExp ?_
  | with_reducible refine ws_if ?_
  | with_reducible refine ws_pass ?_
  | with_reducible refine we_tup ?_
  | with_reducible refine we_lst ?_
  | ((with_reducible refine' x_set ?xo ?xa ?xb ?_ ?xs); (case xo => assumption); (case xa => walk_at "at"); (case xb => walk_at "at"); (case xs => rfl))
  | ((with_reducible refine' x_setF ?_ ?xs); (case xs => rfl))
  | ((with_reducible refine' x_call ?xo ?xa ?xg ?xr ?_ ?xe ?xp); (case xo => assumption); (case xa => walk_at "at"); (case xg => assumption); (case xr => walk_at "room"); (case xe => rfl); (case xp => rfl))
  | ((with_reducible refine' x_callB ?xo ?xa ?xg ?xr ?_ ?xe ?xp); (case xo => assumption); (case xr => walk_at "boot"); (case xa => walk_at "at"); (case xg => walk_at "none"); (case xe => rfl); (case xp => rfl))
  | ((with_reducible refine' x_callTy ?xo ?xa ?xg ?xr ?_ ?xe ?xp); (case xo => assumption); (case xr => walk_at "boot"); (case xa => walk_at "at"); (case xg => walk_at "none"); (case xe => rfl); (case xp => rfl))
  | ((with_reducible refine' x_callFn ?xo ?xa ?xg ?_ ?xe ?xp); (case xo => assumption); (case xg => with_reducible exact Txt.mgcd (by assumption)); (case xa => walk_at "at"); (case xe => rfl); (case xp => rfl))
  | ((with_reducible refine' x_bty ?xo ?xa ?xg ?xr ?_); (case xo => assumption); (case xr => walk_at "boot"); (case xa => walk_at "at"); (case xg => walk_at "none"))
  | ((with_reducible refine' x_cls ?xt ?xo ?xa ?_); (case xt => assumption); (case xo => assumption); (case xa => walk_at "at"))
  | ((with_reducible refine' x_make ?xo ?xa ?xg ?xr ?_ ?xe ?xp); (case xo => assumption); (case xa => walk_at "at"); (case xg => assumption); (case xr => walk_at "room"); (case xe => rfl); (case xp => rfl))
  | with_reducible refine wss_nil ?_
  | refine ⟨_, _, _, _, rfl, (by assumption), ?_⟩
  | refine ⟨_, _, _, rfl, (by assumption), ?_⟩
  | refine wss_cons ?_)
local macro_rules | `(tactic| walk_at "go") => `(tactic| repeat walk_at "n3")
local macro_rules | `(tactic| walk_at "hole") => `(tactic| with_reducible (repeat (first | assumption | exact Hole.head | apply Hole.tail)))
section
variable {P : Program} {w : World} {K : PySem.W.Frag} {mg : Str → Option Value} {base : Heap}
abbrev rl (a b : Int) : HO := .lst [.int a, .int b]
theorem len_line {n : Nat} (h : n ≤ 1000 := by decide) : n ≤ sizeLine := Nat.le_trans h (by rw [sizeLine_eq]; decide)
theorem atI0 {x y : V} : atI [x, y] 0 = some x := rfl
theorem atI1 {x y : V} : atI [x, y] 1 = some y := rfl
theorem small_of {i : Int} {m : Int} (h0 : 0 ≤ i) (h1 : i < m) (hm : m ≤ 2 ^ 64 := by decide) : -(2 ^ 64) < i ∧ i < 2 ^ 64 := by
  have : -(2 ^ 64 : Int) < 0 := by decide
  exact ⟨by omega, by omega⟩
/-! draw -/
def pDraw : Pre := fun vs L Kk => ∃ r m a b F, vs = [.ref r, .int m] ∧ Hole r (rl a b) L F ∧ 0 < m ∧ m < 1073741824 ∧ ∀ d a' b', 0 ≤ d → d < m → Kk (.int d) (F (rl a' b'))
theorem scDraw : FnScope ["_law_rng_here", "_law_many", "_law_digit"] ["_law_rng_here", "_law_many"] (defScope sDraw) := ⟨rfl, rfl, rfl, by decide +kernel, rfl, by decide +kernel, by decide +kernel⟩
theorem okDraw {f C : Addr} {fd : FuncData} (F : Fun K "_law_draw" "_law_draw" sDraw f fd) (T : Txt K mg C) : FnOk P w K mg base CX0 1 f fd ["_law_rng_here", "_law_many"] (SpL pDraw) := by
  refine fnX (Gn := ["divmod", "int"]) F scDraw (by decide +kernel) (fun vs L Kk h => ?_) (fun X e1 e2 e3 e4 e5 hX hr vs L Kk h => ?_)
  · obtain ⟨r, m, a, b, G, rfl, _⟩ := h
    rfl
  · subst e1 e2 e3 e4 e5
    obtain ⟨r, m, a, b, G, rfl, hh, h0, h1, k⟩ := h
    have ml : SqLL X.K r [.int a, .int b] L := fun H hL => SqL.of (hL.at_ _ _ hh.mem)
    walk_at "go"
    refine we_ixL ?_
    walk_at "go"
    refine ⟨r, _, _, _, rfl, rfl, ml, atI0, ?_⟩
    walk_at "go"
    refine ⟨_, rfl, fun z => ?_, fun z => ?_⟩
    · refine wss_cons (ws_asg ?_)
      walk_at "go"
      refine we_ixL ?_
      walk_at "go"
      refine ⟨r, _, _, _, rfl, rfl, ml, atI0, ?_⟩
      walk_at "go"
      refine wc_divmod ⟨h0, h1⟩ fun p => ?_
      refine x_tup (by assumption) .head ?_
      refine wgs_cons (wg_setL ?_)
      walk_at "go"
      refine ⟨r, _, _, 0, _, rfl, rfl, .tail hh, rfl, ?_⟩
      refine wgs_cons (x_tgt (by assumption) (by walk_at "at") (by walk_at "at") ?_)
      refine wgs_nil ?_
      walk_at "go"
      exact ret_sub (k _ _ _ (Int.emod_nonneg _ (by omega)) (Int.emod_lt_of_pos _ h0)) (Sub.of_sublist (.cons _ (.refl _)))
    · walk_at "go"
      refine ws_asg ?_
      walk_at "go"
      refine we_ixL ?_
      walk_at "go"
      refine ⟨r, _, _, _, rfl, rfl, ml, atI1, ?_⟩
      walk_at "go"
      refine wo_mul (.inr ⟨by decide, by decide⟩) ?_
      walk_at "go"
      refine wc_int ?_
      walk_at "go"
      refine wo_mod (by decide) ?_
      refine wg_setL ?_
      walk_at "go"
      refine ⟨r, _, _, 1, _, rfl, rfl, hh, rfl, ?_⟩
      have g : ∀ x : Int, Hole r (rl a x) (G (rl a x)) G := fun x => hh.again _
      walk_at "go"
      refine we_ixL ?_
      walk_at "go"
      refine ⟨r, _, _, _, rfl, rfl, fun H hL => SqL.of (hL.at_ _ _ (g _).mem), atI1, ?_⟩
      walk_at "go"
      refine we_ixL ?_
      walk_at "go"
      refine ⟨r, _, _, _, rfl, rfl, fun H hL => SqL.of (hL.at_ _ _ (g _).mem), atI1, ?_⟩
      refine wo_mul (.inl (small_of (m := 2147483563) (Int.emod_nonneg _ (by decide)) (Int.emod_lt_of_pos _ (by decide)))) ?_
      walk_at "go"
      refine wc_int ?_
      walk_at "go"
      refine wo_mod (by decide) ?_
      walk_at "go"
      refine wo_fdiv ⟨by decide, by decide⟩ ?_
      walk_at "go"
      refine wo_mod h0 ?_
      exact ret_sub (k _ _ _ (Int.emod_nonneg _ (by omega)) (Int.emod_lt_of_pos _ h0)) (Sub.refl _)
/-! choice -/
def pChoice : Pre := fun vs L Kk => ∃ (r s : Addr) (xs : List Int) (a b : Int) (F : HO → LH), vs = [.ref r, .ref s] ∧ Hole r (rl a b) L F ∧ (∀ o, Mem s (.lst (xs.map V.int)) (F o)) ∧ 0 < xs.length ∧ xs.length < 1000 ∧ ∀ x a' b', x ∈ xs → Kk (.int x) (F (rl a' b'))
theorem scChoice : FnScope ["_law_rng_here", "_law_some"] ["_law_rng_here", "_law_some"] (defScope sChoice) := ⟨rfl, rfl, rfl, by decide +kernel, rfl, by decide +kernel, by decide +kernel⟩
theorem at_pick {xs : List Int} {d : Int} (h0 : 0 ≤ d) (h1 : d < (xs.length : Int)) : ∃ x ∈ xs, atI (xs.map V.int) d = some (.int x) := by
  obtain ⟨n, rfl⟩ : ∃ n : Nat, d = n := ⟨d.toNat, by omega⟩
  have hn : n < xs.length := by omega
  refine ⟨xs[n], List.getElem_mem hn, atI_nat ?_⟩
  rw [List.getElem?_map, List.getElem?_eq_getElem hn]
  rfl
theorem okChoice {f C : Addr} {fd : FuncData} (F : Fun K "_law_choice" "_law_choice" sChoice f fd) (T : Txt K mg C) (GD : GFn P w K mg base "_law_draw" 1 ["_law_rng_here", "_law_many"] [] pDraw) : FnOk P w K mg base CX0 2 f fd ["_law_rng_here", "_law_some"] (SpL pChoice) := by
  refine fnX (Gn := ["_law_draw", "len"]) F scChoice (by decide +kernel) (fun vs L Kk h => ?_) (fun X e1 e2 e3 e4 e5 hX hr vs L Kk h => ?_)
  · obtain ⟨r, s, xs, a, b, G, rfl, _⟩ := h
    rfl
  · subst e1 e2 e3 e4 e5
    obtain ⟨r, s, xs, a, b, G, rfl, hh, ms, h0, h1, k⟩ := h
    have ms0 : Mem s (.lst (xs.map V.int)) L := by
      rw [← hh.self]
      exact ms _
    walk_at "go"
    refine we_ixL ?_
    walk_at "go"
    refine wc_len (.of ms0) ?_
    walk_at "go"
    rw [List.length_map]
    refine ⟨r, _, a, b, G, rfl, hh, by omega, by omega, fun d a' b' d0 d1 => ?_⟩
    obtain ⟨x, hx, ha⟩ := at_pick d0 d1
    refine ⟨s, _, _, _, rfl, rfl, .of (ms _), ha, ?_⟩
    exact ret_sub (k x a' b' hx) (Sub.refl _)
/-! common -/
def pCommon : Pre := fun vs L Kk => ∃ x y : Int, vs = [.int x, .int y] ∧ Kk (.int ((Nat.gcd x.natAbs y.natAbs : Nat) : Int)) L
theorem scCommon : FnScope ["_law_one", "_law_other"] ["_law_one", "_law_other"] (defScope sCommon) := ⟨rfl, rfl, rfl, by decide +kernel, rfl, by decide +kernel, by decide +kernel⟩
theorem abs_eq (x : Int) : (if x < 0 then -x else x) = (x.natAbs : Int) := by
  split <;> omega
theorem okCommon {f C : Addr} {fd : FuncData} (F : Fun K "_law_common" "_law_common" sCommon f fd) (T : Txt K mg C) : FnOk P w K mg base CX0 1 f fd ["_law_one", "_law_other"] (SpL pCommon) := by
  refine fnX (Gn := ["abs", "int"]) F scCommon (by decide +kernel) (fun vs L Kk h => ?_) (fun X e1 e2 e3 e4 e5 hX hr vs L Kk h => ?_)
  · obtain ⟨x, y, rfl, _⟩ := h
    rfl
  · subst e1 e2 e3 e4 e5
    obtain ⟨x, y, rfl, k⟩ := h
    refine wss_cons (x_par (by assumption) (by walk_at "at") (by walk_at "at") (by walk_at "at") (by walk_at "at") (by decide) ?_)
    walk_at "go"
    refine wc_abs ?_
    walk_at "go"
    refine wc_abs ?_
    rw [abs_eq, abs_eq]
    refine wss_cons (ws_while hX.pas (fun n σ' L' => ∃ m : Nat, σ' = [some (.int (m : Int)), some (.int (n : Int))] ∧ L' = L ∧ Nat.gcd m n = Nat.gcd x.natAbs y.natAbs) (n := y.natAbs) ⟨x.natAbs, rfl, rfl, rfl⟩ ?_)
    rintro n σ' L' ⟨m, rfl, rfl, e⟩
    walk_at "go"
    refine ⟨_, rfl, fun z => ?_, fun z => ?_⟩
    · have hn : 0 < n := by have := of_decide_eq_true z; omega
      refine wss_cons (x_par (by assumption) (by walk_at "at") (by walk_at "at") (by walk_at "at") (by walk_at "at") (by decide) ?_)
      walk_at "go"
      refine wc_int ?_
      walk_at "go"
      refine wo_mod (by omega) ?_
      refine wss_nil ⟨m % n, Nat.mod_lt _ hn, _, Sub.refl _, n, ?_, rfl, ?_⟩
      · rw [← Int.natCast_emod]
        rfl
      · rw [← e, Nat.gcd_comm n, ← Nat.gcd_rec, Nat.gcd_comm]
    · have hn : n = 0 := by have := of_decide_eq_false z; omega
      subst hn
      walk_at "go"
      rw [Nat.gcd_zero_right] at e
      rw [← e] at k
      exact ret_sub k (Sub.refl _)
/-! sign -/
def pSgn : Pre := fun vs L Kk => ∃ n : Int, vs = [.int n] ∧ Kk (.int (sgn n)) L
theorem scSgn : FnScope ["_law_number"] ["_law_number"] (defScope sSgn) := ⟨rfl, rfl, rfl, by decide +kernel, rfl, by decide +kernel, by decide +kernel⟩
theorem okSgn {f C : Addr} {fd : FuncData} (F : Fun K "_law_sign" "_law_sign" sSgn f fd) (T : Txt K mg C) : FnOk P w K mg base CX0 1 f fd ["_law_number"] (SpL pSgn) := by
  refine fnX (Gn := ["int"]) F scSgn (by decide +kernel) (fun vs L Kk h => ?_) (fun X e1 e2 e3 e4 e5 hX hr vs L Kk h => ?_)
  · obtain ⟨n, rfl, _⟩ := h
    rfl
  · subst e1 e2 e3 e4 e5
    obtain ⟨n, rfl, k⟩ := h
    walk_at "go"
    refine wc_intB ?_
    walk_at "go"
    refine wc_intB ?_
    walk_at "go"
    have e : (if decide (0 < n) = true then (1 : Int) else 0) - (if decide (n < 0) = true then (1 : Int) else 0) = sgn n := by
      unfold sgn
      simp only [decide_eq_true_eq]
      split <;> split <;> (try split) <;> omega
    rw [e]
    exact ret_sub k (Sub.refl _)
/-! lowest -/
def pLowest : Pre := fun vs L Kk => ∃ q t b, vs = [.ref q] ∧ Mem q (.tup [.int t, .int b]) L ∧ b ≠ 0 ∧ b.natAbs.log2 < 9000 ∧ ∀ p, Kk (.ref p) ((p, .tup [.int (nT t b), .int (nB t b)]) :: L)
theorem scLowest : FnScope ["_law_pair_here", "_law_top", "_law_bottom", "_law_common_here"] ["_law_pair_here"] (defScope sLowest) := ⟨rfl, rfl, rfl, by decide +kernel, rfl, by decide +kernel, by decide +kernel⟩
theorem sg_div {t b : Int} (hb : b ≠ 0) (hl : b.natAbs.log2 < 9000) : CDivZ t (sg t b) := ⟨sg_ne hb, Nat.lt_of_le_of_lt (by
  by_cases z : (sg t b).natAbs = 0
  · rw [z]; exact Nat.zero_le _
  · exact (Nat.le_log2 (by omega)).mpr (Nat.le_trans (Nat.log2_self_le z) (sg_le hb))) hl⟩
theorem okLowest {f C : Addr} {fd : FuncData} (F : Fun K "_law_lowest" "_law_lowest" sLowest f fd) (T : Txt K mg C) (GC : GFn P w K mg base "_law_common" 1 ["_law_one", "_law_other"] [] pCommon) : FnOk P w K mg base CX0 2 f fd ["_law_pair_here"] (SpL pLowest) := by
  refine fnX (Gn := ["_law_common"]) F scLowest (by decide +kernel) (fun vs L Kk h => ?_) (fun X e1 e2 e3 e4 e5 hX hr vs L Kk h => ?_)
  · obtain ⟨q, t, b, rfl, _⟩ := h
    rfl
  · subst e1 e2 e3 e4 e5
    obtain ⟨q, t, b, rfl, mq, hb, hl, k⟩ := h
    have hd := sg_div (t := t) hb hl
    refine wss_cons (ws_asg ?_)
    walk_at "go"
    refine x_tup (by assumption) mq ?_
    refine wgs_cons (x_tgt (by assumption) (by walk_at "at") (by walk_at "at") ?_)
    refine wgs_cons (x_tgt (by assumption) (by walk_at "at") (by walk_at "at") ?_)
    refine wgs_nil ?_
    walk_at "go"
    refine ⟨_, _, rfl, ?_⟩
    walk_at "go"
    refine ⟨_, rfl, fun z => ?_, fun z => ?_⟩
    · walk_at "go"
      rw [show ((Nat.gcd t.natAbs b.natAbs : Nat) : Int) = sg t b by unfold sg; rw [if_neg (by have := of_decide_eq_true z; omega)]]
      refine wo_fdivZ hd ?_
      walk_at "go"
      refine wo_fdivZ ⟨hd.1, hd.2⟩ ?_
      walk_at "go"
      exact ⟨show 2 ≤ sizeLine from len_line, fun p => ret_sub (k p) (Sub.refl _)⟩
    · walk_at "go"
      rw [show -((Nat.gcd t.natAbs b.natAbs : Nat) : Int) = sg t b by unfold sg; rw [if_pos (by have := of_decide_eq_false z; omega)]]
      refine wo_fdivZ hd ?_
      walk_at "go"
      refine wo_fdivZ ⟨hd.1, hd.2⟩ ?_
      walk_at "go"
      exact ⟨show 2 ≤ sizeLine from len_line, fun p => ret_sub (k p) (Sub.refl _)⟩
/-! pair -/
def big : Int := 1267650600228229401496703205376
/-- a top and a bottom as they are drawn -/
def PairOk (t b : Int) : Prop := Sm 100 t ∧ Sm 100 b ∧ b ≠ 0
def pPair : Pre := fun vs L Kk => ∃ (r : Addr) (a b : Int) (F : HO → LH), vs = [.ref r] ∧ Hole r (rl a b) L F ∧ ∀ p t c a' b', PairOk t c → Kk (.ref p) ((p, .tup [.int t, .int c]) :: F (rl a' b'))
theorem scPair : FnScope ["_law_rng_here", "_law_top"] ["_law_rng_here"] (defScope sPair) := ⟨rfl, rfl, rfl, by decide +kernel, rfl, by decide +kernel, by decide +kernel⟩
theorem okPair {f C : Addr} {fd : FuncData} (F : Fun K "_law_pair" "_law_pair" sPair f fd) (T : Txt K mg C) (GD : GFn P w K mg base "_law_draw" 1 ["_law_rng_here", "_law_many"] [] pDraw)
    (GC : GFn P w K mg base "_law_choice" 2 ["_law_rng_here", "_law_some"] [] pChoice) : FnOk P w K mg base CX0 3 f fd ["_law_rng_here"] (SpL pPair) := by
  refine fnX (Gn := ["_law_draw", "_law_choice"]) F scPair (by decide +kernel) (fun vs L Kk h => ?_) (fun X e1 e2 e3 e4 e5 hX hr vs L Kk h => ?_)
  · obtain ⟨r, a, b, G, rfl, _⟩ := h
    rfl
  · subst e1 e2 e3 e4 e5
    obtain ⟨r, a, b, G, rfl, hh, k⟩ := h
    walk_at "go"
    refine ⟨r, _, a, b, G, rfl, hh, by decide, by decide, fun d a1 b1 d0 d1 => ?_⟩
    walk_at "go"
    refine ⟨r, _, a1, b1, G, rfl, hh.again _, by decide, by decide, fun d' a2 b2 d0' d1' => ?_⟩
    have h2 := (hh.again (rl a1 b1)).again (rl a2 b2)
    have bot : ∀ (top : Int) (σ : L2.St) (J : LH) (a3 b3 : Int), σ = [some (.ref r), some (.int top)] → Sm 100 top → WSs X (defBody sPair).tail.tail σ (J ++ G (rl a3 b3)) (EndOf Kk) := by
      rintro top σ J a3 b3 rfl st
      have h3 := (hh.again (rl a3 b3)).app J
      walk_at "go"
      repeat (first | walk_at "n3" | refine wo_pow ⟨by decide, by decide, by decide⟩ ?_)
      refine ⟨show 16 ≤ sizeLine from len_line, fun p => ?_⟩
      walk_at "go"
      refine ⟨r, p, [_, _, _, _, _, _, _, _, _, _, _, _, _, _, _, _], a3, b3, _, rfl, .tail h3, fun o => .head, by decide, by decide, fun x a' b' hx => ?_⟩
      have px : Sm 100 x ∧ x ≠ 0 := by
        have all : ∀ x ∈ ([1, 1, 2, 3, 4, 6, 9, 10, 12, -1, -2, -5, -8, 10 ^ (15 : Int).toNat, -(2 ^ (60 : Int).toNat), 6 ^ (30 : Int).toNat] : List Int), x.natAbs < 2 ^ 100 ∧ x ≠ 0 := by decide +kernel
        exact all x hx
      walk_at "go"
      refine ⟨show 2 ≤ sizeLine from len_line, fun q => ?_⟩
      exact ret_sub (k q top x a' b' ⟨st, px.1, px.2⟩) (Sub.of_sublist (.cons₂ _ (.cons _ (List.sublist_append_right _ _))))
    have s0 : Sm 100 (d - 24) := by
      show (d - 24).natAbs < 2 ^ 100
      omega
    walk_at "go"
    refine wo_eq rfl ⟨_, rfl, fun z => ?_, fun z => ?_⟩
    · walk_at "go"
      repeat (first | walk_at "n3" | refine wo_pow ⟨by decide, by decide, by decide⟩ ?_)
      refine ⟨show 5 ≤ sizeLine from len_line, fun p => ?_⟩
      walk_at "go"
      refine ⟨r, p, [_, _, _, _, _], a2, b2, _, rfl, .tail h2, fun o => .head, by decide, by decide, fun x a' b' hx => ?_⟩
      have px : Sm 100 x := by
        have all : ∀ x ∈ ([10 ^ (29 : Int).toNat - 1, -(10 ^ (29 : Int).toNat) + 3, 2 ^ (60 : Int).toNat, -(6 ^ (30 : Int).toNat), 10 ^ (15 : Int).toNat] : List Int), x.natAbs < 2 ^ 100 := by decide +kernel
        exact all x hx
      exact wss_nil (bot x _ [(p, _)] a' b' rfl px)
    · exact wss_nil (bot (d - 24) _ [] a2 b2 rfl s0)
/-! rng -/
def pRng (K : PySem.W.Frag) : Pre := fun vs L Kk => ∃ (s : Addr) (k : Nat) (ns : List Int), vs = [.ref s, .int (k : Int)] ∧ k < 100 ∧ SqLL K s (ns.map V.int) L ∧ ∀ p a b, Kk (.ref p) ((p, rl a b) :: L)
theorem scRng : FnScope ["_law_script", "_law_k", "_law_cell"] ["_law_script", "_law_k"] (defScope sRng) := ⟨rfl, rfl, rfl, by decide +kernel, rfl, by decide +kernel, by decide +kernel⟩
theorem okRng {f C : Addr} {fd : FuncData} (F : Fun K "_law_rng" "_law_rng" sRng f fd) (T : Txt K mg C) : FnOk P w K mg base CX0 1 f fd ["_law_script", "_law_k"] (SpL (pRng K)) := by
  refine fnX (Gn := ["len", "max", "abs", "int"]) F scRng (by decide +kernel) (fun vs L Kk h => ?_) (fun X e1 e2 e3 e4 e5 hX hr vs L Kk h => ?_)
  · obtain ⟨s, k, ns, rfl, _⟩ := h
    rfl
  · subst e1 e2 e3 e4 e5
    obtain ⟨s, k, ns, rfl, hk, hs, kk⟩ := h
    have tail : ∀ (c : Int) (σ : L2.St), σ = [some (.ref s), some (.int (k : Int)), some (.int c)] → WSs X (defBody sRng).tail.tail σ L (EndOf Kk) := by
      rintro c σ rfl
      walk_at "go"
      refine wc_abs ?_
      walk_at "go"
      refine wo_pow ⟨by decide, by decide, by decide⟩ ?_
      walk_at "go"
      refine wc_max hX.calm ?_
      walk_at "go"
      refine wc_abs ?_
      walk_at "go"
      refine wc_int ?_
      walk_at "go"
      refine wo_mod (by decide) ?_
      walk_at "go"
      refine wc_int ?_
      walk_at "go"
      refine wo_mul (.inl ⟨by decide, by decide⟩) ?_
      walk_at "go"
      refine wo_pow ⟨by decide, by decide, by omega⟩ ?_
      refine wo_mul (.inl ?_) ?_
      · generalize (if c < 0 then -c else c) = y
        have h0 := Int.emod_nonneg y (show (2147483549 : Int) ≠ 0 by decide)
        have h1 := Int.emod_lt_of_pos y (show (0 : Int) < 2147483549 by decide)
        have : -(2 ^ 64 : Int) < 0 := by decide
        exact ⟨by omega, by omega⟩
      walk_at "go"
      refine wo_mod (by decide) ?_
      walk_at "go"
      refine ⟨show 2 ≤ sizeLine from len_line, fun p => ?_⟩
      exact ret_sub (kk p _ _) (Sub.refl _)
    walk_at "go"
    refine wo_mul (.inl ⟨by decide, by decide⟩) ?_
    walk_at "go"
    refine wc_len hs ?_
    walk_at "go"
    refine ⟨_, rfl, fun z => ?_, fun z => ?_⟩
    · rw [List.length_map] at z
      have hlt : k < ns.length := by have := of_decide_eq_true z; omega
      walk_at "go"
      refine we_ixL ?_
      walk_at "go"
      refine ⟨s, _, _, _, rfl, rfl, hs, atI_nat (v := .int ns[k]) (by rw [List.getElem?_map, List.getElem?_eq_getElem hlt]; rfl), ?_⟩
      refine wss_nil (tail _ _ rfl)
    · exact wss_nil (tail _ _ rfl)
end
end K11

set_option Elab.async false
set_option linter.all false
namespace K11
open PySem L2 N3
theorem sg_dvd_b (t b : Int) : sg t b ∣ b := by
  unfold sg
  have h : ((Nat.gcd t.natAbs b.natAbs : Nat) : Int) ∣ b := Int.ofNat_dvd_left.mpr (Nat.gcd_dvd_right _ _)
  split
  · exact Int.neg_dvd.mpr h
  · exact h
theorem sg_dvd_t (t b : Int) : sg t b ∣ t := by
  unfold sg
  have h : ((Nat.gcd t.natAbs b.natAbs : Nat) : Int) ∣ t := Int.ofNat_dvd_left.mpr (Nat.gcd_dvd_left _ _)
  split
  · exact Int.neg_dvd.mpr h
  · exact h
theorem sg_abs (t b : Int) : (sg t b).natAbs = Nat.gcd t.natAbs b.natAbs := by
  unfold sg
  split <;> simp
theorem fdiv_mul {x g : Int} (h : g ∣ x) : x.fdiv g * g = x := by
  rw [Int.fdiv_eq_ediv_of_dvd h]
  exact Int.ediv_mul_cancel h
/-- lowest terms -/
def Nm (n d : Int) : Prop := 0 < d ∧ Nat.gcd n.natAbs d.natAbs = 1
theorem nT_mul (t b : Int) : nT t b * sg t b = t := fdiv_mul (sg_dvd_t t b)
theorem nB_mul (t b : Int) : nB t b * sg t b = b := fdiv_mul (sg_dvd_b t b)
theorem nm_of {t b : Int} (h : b ≠ 0) : Nm (nT t b) (nB t b) := by
  have hs := sg_ne (t := t) h
  have e1 := nT_mul t b
  have e2 := nB_mul t b
  have hg : 0 < Nat.gcd t.natAbs b.natAbs := Nat.gcd_pos_of_pos_right _ (Int.natAbs_pos.mpr h)
  constructor
  · unfold sg at e2 hs
    generalize nB t b = y at *
    split at e2
    · have : 0 < ((Nat.gcd t.natAbs b.natAbs : Nat) : Int) := by omega
      generalize ((Nat.gcd t.natAbs b.natAbs : Nat) : Int) = g at *
      rcases Int.lt_or_le 0 y with q | q
      · exact q
      · have := Int.mul_nonneg_of_nonpos_of_nonpos q (show -g ≤ 0 by omega)
        omega
    · have : 0 < ((Nat.gcd t.natAbs b.natAbs : Nat) : Int) := by omega
      generalize ((Nat.gcd t.natAbs b.natAbs : Nat) : Int) = g at *
      rcases Int.lt_or_le 0 y with q | q
      · exact q
      · have := Int.mul_nonpos_of_nonpos_of_nonneg q (show 0 ≤ g by omega)
        omega
  · have a1 : (nT t b).natAbs * (sg t b).natAbs = t.natAbs := by rw [← Int.natAbs_mul, e1]
    have a2 : (nB t b).natAbs * (sg t b).natAbs = b.natAbs := by rw [← Int.natAbs_mul, e2]
    have a3 : Nat.gcd ((nT t b).natAbs * (sg t b).natAbs) ((nB t b).natAbs * (sg t b).natAbs) = Nat.gcd t.natAbs b.natAbs := by rw [a1, a2]
    rw [Nat.gcd_mul_right, sg_abs] at a3
    exact Nat.eq_of_mul_eq_mul_right hg (by omega)
theorem cross (t b : Int) : nT t b * b = t * nB t b := by
  have e1 := nT_mul t b
  have e2 := nB_mul t b
  calc nT t b * b = nT t b * (nB t b * sg t b) := by rw [e2]
    _ = (nT t b * sg t b) * nB t b := by rw [Int.mul_comm (nB t b), Int.mul_assoc]
    _ = t * nB t b := by rw [e1]
theorem nm_eq {n d m e : Int} (h1 : Nm n d) (h2 : Nm m e) (h : n * e = m * d) : n = m ∧ d = e := by
  have c1 : Nat.Coprime d.natAbs n.natAbs := by unfold Nat.Coprime; rw [Nat.gcd_comm]; exact h1.2
  have c2 : Nat.Coprime e.natAbs m.natAbs := by unfold Nat.Coprime; rw [Nat.gcd_comm]; exact h2.2
  have a : n.natAbs * e.natAbs = m.natAbs * d.natAbs := by rw [← Int.natAbs_mul, ← Int.natAbs_mul, h]
  have d1 : d.natAbs ∣ e.natAbs := c1.dvd_of_dvd_mul_left ⟨m.natAbs, by rw [a, Nat.mul_comm]⟩
  have d2 : e.natAbs ∣ d.natAbs := c2.dvd_of_dvd_mul_left ⟨n.natAbs, by rw [← a, Nat.mul_comm]⟩
  have e1 := Nat.dvd_antisymm d1 d2
  have p1 := h1.1
  have p2 := h2.1
  have ed : d = e := by omega
  subst ed
  exact ⟨Int.eq_of_mul_eq_mul_right (by omega) h, rfl⟩
/-- equal worth, equal form -/
theorem nm_norm {n d t b : Int} (h1 : Nm n d) (hb : b ≠ 0) (h : n * b = t * d) : nT t b = n ∧ nB t b = d := by
  refine nm_eq (nm_of hb) h1 ?_
  have c := cross t b
  refine Int.eq_of_mul_eq_mul_right hb ?_
  calc nT t b * d * b = (nT t b * b) * d := by rw [Int.mul_assoc, Int.mul_comm d, ← Int.mul_assoc]
    _ = (t * nB t b) * d := by rw [c]
    _ = (t * d) * nB t b := by rw [Int.mul_assoc, Int.mul_comm (nB t b), ← Int.mul_assoc]
    _ = (n * b) * nB t b := by rw [h]
    _ = n * nB t b * b := by rw [Int.mul_assoc, Int.mul_comm b, ← Int.mul_assoc]
/-- two fractions of equal worth -/
theorem nm_same {t b s c : Int} (hb : b ≠ 0) (hc : c ≠ 0) (h : t * c = s * b) : nT t b = nT s c ∧ nB t b = nB s c := by
  refine nm_norm (nm_of hc) hb ?_
  have k := cross s c
  refine Int.eq_of_mul_eq_mul_right hc ?_
  calc nT s c * b * c = (nT s c * c) * b := by rw [Int.mul_assoc, Int.mul_comm b, ← Int.mul_assoc]
    _ = (s * nB s c) * b := by rw [k]
    _ = (s * b) * nB s c := by rw [Int.mul_assoc, Int.mul_comm (nB s c), ← Int.mul_assoc]
    _ = (t * c) * nB s c := by rw [h]
    _ = t * nB s c * c := by rw [Int.mul_assoc, Int.mul_comm c, ← Int.mul_assoc]
end K11

set_option Elab.async false
set_option linter.all false
set_option maxRecDepth 100000
set_option maxHeartbeats 4000000
namespace K11
open PySem L2 N3
local macro_rules | `(tactic| walk_at "at") => `(tactic| with_reducible (repeat (first | exact At.head | apply At.tail)))
local macro_rules | `(tactic| walk_at "mem") => `(tactic| with_reducible (repeat (first | exact Mem.head | apply Mem.tail)))
local macro_rules | `(tactic| walk_at "boot") => `(tactic| with_reducible (first | exact boot_isi | exact boot_max | exact boot_min | exact boot_abs | exact boot_len | exact boot_repr | exact boot_divmod | exact boot_all | exact boot_int | exact boot_bool | exact boot_str))
local macro_rules | `(tactic| walk_at "room") => `(tactic| (first | assumption | exact Room.mono (by assumption) (by decide)))
local macro_rules | `(tactic| walk_at "none") => `(tactic| (refine Txt.bn (by assumption) _ ?xz; (case xz => with_reducible (repeat (first | exact InS.head | apply InS.tail)))))
local macro_rules | `(tactic| walk_at "n3") => `(tactic| first
  | with_reducible refine ws_ret ?_
  | with_reducible refine we_int ?_
  | with_reducible refine we_str ?_
  | with_reducible refine we_bool ?_
  | with_reducible refine we_none ?_
  | ((with_reducible refine' x_name ?xo ?xa ?xb ?xc ?_); (case xo => assumption); (case xa => walk_at "at"); (case xb => walk_at "at"); (case xc => rfl))
  | ((with_reducible refine' f_top ?xt ?_ ?xh); (case xt => assumption); (case xh => rfl))
  | ((with_reducible refine' f_bot ?xt ?_ ?xh); (case xt => assumption); (case xh => rfl))
  | ((with_reducible refine' we_prop ?xg ?xr ?_ ?xh); (case xg => assumption); (case xr => walk_at "room"); (case xh => rfl))
  | with_reducible refine we_bin ?_
  | ((with_reducible refine wo_mulW ?xm ?_); (case xm => exact Sm.cm (by assumption) (by assumption)))
  | with_reducible refine wo_add ?_
  | with_reducible refine wo_sub ?_
  | with_reducible refine wo_lt ?_
  | with_reducible refine wo_gt ?_
  | with_reducible refine wo_le ?_
  | with_reducible refine wo_ge ?_
  | with_reducible refine wu_neg ?_
  | ((with_reducible refine we_cmp ?xh ?_); (case xh => exact nomark _))
  | ((with_reducible refine wt_cmp ?xh ?_); (case xh => exact nomark _))
  | ((with_reducible refine wa_cons ?_ ?xh); (case xh => rfl))
  | with_reducible refine wa_nil ?_
  | with_reducible refine we_and ?_
  | with_reducible refine we_or ?_
  | with_reducible refine we_not ?_
  | with_reducible refine wt_not ?_
  | with_reducible refine we_un ?_
  | with_reducible refine we_one ?_
  | with_reducible refine wt_ww (ww_or ?_)
  | with_reducible refine wt_ww (ww_and ?_)
  | with_reducible refine ww_or ?_
  | with_reducible refine ww_and ?_
  | with_reducible refine ww_or1 ?_
  | with_reducible refine ww_and1 ?_
  | with_reducible refine we_ifExp ?_
  | with_reducible refine ws_if ?_
  | with_reducible refine ws_pass ?_
  | with_reducible refine we_tup ?_
  | with_reducible refine we_lst ?_
  | ((with_reducible refine' x_set ?xo ?xa ?xb ?_ ?xs); (case xo => assumption); (case xa => walk_at "at"); (case xb => walk_at "at"); (case xs => rfl))
  | ((with_reducible refine' x_setF ?_ ?xs); (case xs => rfl))
  | ((with_reducible refine' x_call ?xo ?xa ?xg ?xr ?_ ?xe ?xp); (case xo => assumption); (case xa => walk_at "at"); (case xg => assumption); (case xr => walk_at "room"); (case xe => rfl); (case xp => rfl))
  | ((with_reducible refine' x_callB ?xo ?xa ?xg ?xr ?_ ?xe ?xp); (case xo => assumption); (case xr => walk_at "boot"); (case xa => walk_at "at"); (case xg => walk_at "none"); (case xe => rfl); (case xp => rfl))
  | ((with_reducible refine' x_callTy ?xo ?xa ?xg ?xr ?_ ?xe ?xp); (case xo => assumption); (case xr => walk_at "boot"); (case xa => walk_at "at"); (case xg => walk_at "none"); (case xe => rfl); (case xp => rfl))
  | ((with_reducible refine' x_callFn ?xo ?xa ?xg ?_ ?xe ?xp); (case xo => assumption); (case xg => with_reducible exact Txt.mgcd (by assumption)); (case xa => walk_at "at"); (case xe => rfl); (case xp => rfl))
  | ((with_reducible refine' x_bty ?xo ?xa ?xg ?xr ?_); (case xo => assumption); (case xr => walk_at "boot"); (case xa => walk_at "at"); (case xg => walk_at "none"))
  | ((with_reducible refine' x_cls ?xt ?xo ?xa ?_); (case xt => assumption); (case xo => assumption); (case xa => walk_at "at"))
  | ((with_reducible refine' x_make ?xo ?xa ?xg ?xr ?_ ?xe ?xp); (case xo => assumption); (case xa => walk_at "at"); (case xg => assumption); (case xr => walk_at "room"); (case xe => rfl); (case xp => rfl))
  | with_reducible refine wss_nil ?_
  | refine ⟨_, _, _, _, rfl, (by assumption), ?_⟩
  | refine ⟨_, _, _, rfl, (by assumption), ?_⟩
  | refine wss_cons ?_)
local macro_rules | `(tactic| walk_at "go") => `(tactic| repeat walk_at "n3")
local macro_rules | `(tactic| walk_at "hole") => `(tactic| with_reducible (repeat (first | assumption | exact Hole.head | apply Hole.tail)))
section
variable {P : Program} {w : World} {K : PySem.W.Frag} {mg : Str → Option Value} {base : Heap}
/-! bounds and texts -/
theorem Sm.of_mul {n : Nat} {x y z : Int} (h : Sm n z) (e : x * y = z) (hy : y ≠ 0) : Sm n x := by
  have a : x.natAbs * y.natAbs = z.natAbs := by rw [← Int.natAbs_mul, e]
  have b : 0 < y.natAbs := Int.natAbs_pos.mpr hy
  have c : x.natAbs ≤ x.natAbs * y.natAbs := Nat.le_mul_of_pos_right _ b
  exact Nat.lt_of_le_of_lt (by rw [← a]; exact c) h
theorem Sm.nT {n : Nat} {t b : Int} (h : Sm n t) (hb : b ≠ 0) : Sm n (nT t b) := h.of_mul (nT_mul t b) (sg_ne hb)
theorem Sm.nB {n : Nat} {t b : Int} (h : Sm n b) (hb : b ≠ 0) : Sm n (nB t b) := h.of_mul (nB_mul t b) (sg_ne hb)
theorem nB_ne {t b : Int} (hb : b ≠ 0) : nB t b ≠ 0 := by have := (nm_of (t := t) hb).1; omega
theorem Sm.lg {n : Nat} {x : Int} (a : Sm n x) (hn : 0 < n := by decide) (hk : n ≤ 1920 := by decide) : x.natAbs.log2 < 1920 := Nat.lt_of_lt_of_le (Sm.log a hn) hk
/-- every sign of a text is in range -/
def Wd (x : Str) : Prop := ∀ c ∈ x.cps.toList, c < 16 ^ 8
theorem wd_of (s : String) : Wd (s : Str) := by
  intro c hc
  have h : (Str.ofString s).cps.toList = s.toList.map Char.toNat := by rw [Str.ofString_eq_toList]
  rw [h] at hc
  obtain ⟨ch, _, rfl⟩ := List.mem_map.mp hc
  have h2 : ch.val.toNat < 2 ^ 32 := ch.val.toNat_lt
  have h3 : ch.toNat = ch.val.toNat := rfl
  have h4 : (16 : Nat) ^ 8 = 2 ^ 32 := by decide
  omega
theorem Wd.app {x y : Str} (a : Wd x) (b : Wd y) : Wd (x ++ y) := by
  intro c hc
  have h : (x ++ y).cps.toList = x.cps.toList ++ y.cps.toList := by simp [Str.cps_append]
  rw [h] at hc
  rcases List.mem_append.mp hc with h | h
  · exact a c h
  · exact b c h
theorem rstr_wd (n d : Int) : Wd (rstr n d) := by
  unfold rstr
  split
  · exact wd_of _
  · exact ((wd_of _).app (wd_of _)).app (wd_of _)
theorem rrep_wd (n d : Int) : Wd (rrep n d) := by
  unfold rrep
  exact ((((wd_of _).app (wd_of _)).app (wd_of _)).app (wd_of _)).app (wd_of _)
theorem shown_str_len {x : Str} (h : Wd x) (hl : x.length ≤ 10000) : (PyData.str x).shown.length ≤ 100002 := by
  rw [PyData.shown_str]
  have := PySem.StrLaws.reprText_len x h
  omega
theorem shown_list_len (ds : List PyData) {m : Nat} (h : ∀ d ∈ ds, d.shown.length ≤ m) : (PyData.list ds).shown.length ≤ (m + 2) * ds.length + 3 := by
  have h1 : ((PyData.shownAll ds).map (·.length)).sum ≤ m * ds.length := by
    induction ds with
    | nil => simp [PyData.shownAll]
    | cons d ds ih =>
      have a := h d List.mem_cons_self
      have b := ih fun x hx => h x (List.mem_cons_of_mem _ hx)
      have e : m * (d :: ds).length = m * ds.length + m := by rw [List.length_cons, Nat.mul_succ]
      simp only [PyData.shownAll, List.map_cons, List.sum_cons] at b ⊢
      omega
  have h2 := PySem.listText_len_le (PyData.shownAll ds)
  have h3 := PyData.shownAll_length ds
  have e : (m + 2) * ds.length = m * ds.length + 2 * ds.length := Nat.add_mul ..
  have e0 : (PyData.list ds).shown = PySem.listText (PyData.shownAll ds) := by simp only [PyData.shown]
  rw [e0]
  omega
/-- what is known of Ratio -/
structure Rt (P : Program) (w : World) (K : PySem.W.Frag) (mg : Str → Option Value) (base : Heap) (C : Addr) : Prop where
  T : Txt K mg C
  ops : Ops P w K mg base C
  mk1 : GMk P w K mg base "Ratio" C 2 ["self", "top", "bottom"] [.int 1] (pInit C)
  mk2 : GMk P w K mg base "Ratio" C 2 ["self", "top", "bottom"] [] (pInit C)
  isI : GFn P w K mg base "is_integer" 1 ["value"] [] (pIsInt C)
  isN : GFn P w K mg base "is_number" 2 ["value"] [] (pIsNum C)
  pt : GPr P w K mg base C "top" 1 ["self"] (pTop C)
  pb : GPr P w K mg base C "bottom" 1 ["self"] (pBot C)
  ps : GPr P w K mg base C "sign" 1 ["self"] (pSign C)
  eq : GOp P w K mg base C "__eq__" 2 ["self", "other"] (pEq K C)
  st : GOp P w K mg base C "__str__" 1 ["self"] (pStr C)
  rp : GOp P w K mg base C "__repr__" 1 ["self"] (pRepr C)
  ng : GOp P w K mg base C "__neg__" 4 ["self"] (pNeg C)
  bl : GMe P w K mg base C "is_below" 5 ["self", "other"] [] (pBelow C)
  nfI : PySem.W.notFirst K C (.type "int") = true
  nfS : PySem.W.notFirst K C (.type "str") = true
  nfT : PySem.W.notFirst K C (.type "tuple") = true
  nfC : PySem.W.notFirst K C (.ref C) = true
  ne : PySem.W.findIn K (.ref C) "__ne__" = some (some (.builtin "object.__ne__"))
/-! what is told of a Ratio -/
def told (n d : Int) : List PyData := [.int n, .int d, .int (sgn n), .str (rstr n d), .str (rrep n d)]
theorem sgn_log (n : Int) : (sgn n).natAbs.log2 < 1920 := by
  unfold sgn
  split
  · decide
  · split <;> decide
theorem shown_int_len {n : Int} (h : n.natAbs.log2 < 1920) : (PyData.int n).shown.length ≤ 100002 := by
  rw [PyData.shown_int]
  exact Nat.le_trans (itx_len h) (by decide)
theorem line_more : 2000000 ≤ sizeLine := by rw [sizeLine_eq]; decide
theorem wc_told {X : Cx} {p : Addr} {n d : Int} {L : LH} {Kk : V → LH → Prop} {k : Nat} (hgd : X.A.guards = some []) (hr : Room k X.A) (m : Mem p (.lst [.int n, .int d, .int (sgn n), .str (rstr n d), .str (rrep n d)]) L)
    (l1 : n.natAbs.log2 < 1920) (l2 : d.natAbs.log2 < 1920) (kk : Kk (.str (PyData.list (told n d)).shown) L) : WC X (.builtin "repr") [.ref p] L Kk := by
  refine wc_reprD (d := .list (told n d)) hgd ?_ (fun H hL => .lst (SqL.of (hL.get m)) (.cons (.int _) (.cons (.int _) (.cons (.int _) (.cons (.str _) (.cons (.str _) .nil)))))) ?_ ?_ kk
  · have h := hr.units
    show X.A.units + (1 + 1) < _
    omega
  · simp only [told, PyData.showable, PyData.showableAll, decide_eq_true l1, decide_eq_true l2, decide_eq_true (sgn_log n)]
    rfl
  · refine Nat.le_trans (shown_list_len (m := 100002) (told n d) fun x hx => ?_) (Nat.le_trans ?_ line_more)
    · unfold told at hx
      simp only [List.mem_cons, List.not_mem_nil, or_false] at hx
      rcases hx with rfl | rfl | rfl | rfl | rfl
      · exact shown_int_len l1
      · exact shown_int_len l2
      · exact shown_int_len (sgn_log n)
      · exact shown_str_len (rstr_wd n d) (rstr_len l1 l2)
      · exact shown_str_len (rrep_wd n d) (rrep_len l1 l2)
    · show (100002 + 2) * 5 + 3 ≤ 2000000
      decide
theorem ty_str {K : PySem.W.Frag} {i : Str} {L : LH} : TyL K (.str i) (.type "str") L := fun _ _ => .base (.str i)
theorem ty_tup {K : PySem.W.Frag} {p : Addr} {xs : List V} {L : LH} (m : Mem p (.tup xs) L) : TyL K (.ref p) (.type "tuple") L := fun _ hL => .base (.tup (hL.get m))
/-! _law_is -/
def pIs (C : Addr) : Pre := fun vs L Kk => ∃ a dx q t b, vs = [.ref a, .ref q] ∧ Mem a (.ins C dx (ratF (nT t b) (nB t b))) L ∧ Mem q (.tup [.int t, .int b]) L ∧ b ≠ 0 ∧ Sm 990 t ∧ Sm 990 b ∧ Kk (.bl true) L
theorem scIs : FnScope ["_law_one", "_law_pair_here", "_law_top", "_law_bottom", "_law_text", "_law_told"] ["_law_one", "_law_pair_here"] (defScope sIs) := ⟨rfl, rfl, rfl, by decide +kernel, rfl, by decide +kernel, by decide +kernel⟩
theorem okIs {f C : Addr} {fd : FuncData} (F : Fun K "_law_is" "_law_is" sIs f fd) (R : Rt P w K mg base C) (GL : GFn P w K mg base "_law_lowest" 2 ["_law_pair_here"] [] pLowest)
    (GS : GFn P w K mg base "_law_sign" 1 ["_law_number"] [] pSgn) : FnG P w K mg base 5 f fd ["_law_one", "_law_pair_here"] (pIs C) := by
  refine fnXG (Gn := ["_law_lowest", "str", "repr", "_law_sign", "is_integer", "isinstance", "Ratio", "is_number", "max", "abs"]) F scIs (by decide +kernel) (fun vs L Kk h => ?_) (fun X e1 e2 e3 e4 e5 hX hr hgd vs L Kk h => ?_)
  · obtain ⟨a, dx, q, t, b, rfl, _⟩ := h
    rfl
  · subst e1 e2 e3 e4 e5
    obtain ⟨T, ops, mk1, mk, isI, isN, pt, pb, ps, eq, st, rp, ng, bl, nfI, nfS, nfT, nfC, ne⟩ := R
    obtain ⟨a, dx, q, t, b, rfl, ma, mq, hb, stt, sb, k⟩ := h
    refine wss_cons (ws_asg ?_)
    walk_at "go"
    refine ⟨hb, Nat.lt_of_lt_of_le (Sm.log sb) (by decide), fun p => ?_⟩
    refine x_tup (by assumption) .head ?_
    refine wgs_cons (x_tgt (by assumption) (by walk_at "at") (by walk_at "at") ?_)
    refine wgs_cons (x_tgt (by assumption) (by walk_at "at") (by walk_at "at") ?_)
    refine wgs_nil ?_
    refine wss_sub (Sub.of_sublist (.cons _ (.refl _))) ?_
    have nmn := nm_of (t := t) hb
    have s1 := stt.nT (b := b) hb
    have s2 := sb.nB (t := t) hb
    have n0 := nB_ne (t := t) hb
    have l1 := s1.lg
    have l2 := s2.lg
    generalize nT t b = n at *
    generalize nB t b = d at *
    have lb := line_big
    have tail : ∀ (σ : L2.St), σ = [some (.ref a), some (.ref q), some (.int n), some (.int d), some (.str (rstr n d)), none] → WSs X (defBody sIs).tail.tail σ L (EndOf Kk) := by
      rintro σ rfl
      walk_at "go"
      refine wc_ownStr st (by walk_at "room") ma ⟨a, dx, n, d, rfl, ma, l1, l2, _, rfl, ?_⟩
      walk_at "go"
      refine wc_ownRepr rp (by walk_at "room") ma ⟨a, dx, n, d, rfl, ma, l1, l2, _, rfl, ?_⟩
      walk_at "go"
      refine ⟨show 5 ≤ sizeLine from len_line, fun p1 => ?_⟩
      walk_at "go"
      refine wc_told hgd hr .head l1 l2 ?_
      walk_at "go"
      refine ⟨n, rfl, ?_⟩
      walk_at "go"
      have ln := itx_len l1
      have ld := itx_len l2
      have l6 : ("Ratio(" : Str).length = 6 := by decide +kernel
      have l20 : (", " : Str).length = 2 := by decide +kernel
      have l10 : (")" : Str).length = 1 := by decide +kernel
      refine wc_strI l1 ?_
      refine wo_cat (Nat.le_trans (Nat.add_le_add (Nat.le_of_eq l6) ln) (by omega)) ?_
      walk_at "go"
      refine wo_cat (by rw [len_app, l6, l20]; exact Nat.le_trans (Nat.add_le_add_right (Nat.add_le_add_left ln 6) 2) (by omega)) ?_
      walk_at "go"
      refine wc_strI l2 ?_
      refine wo_cat (by rw [len_app, len_app, l6, l20]; exact Nat.le_trans (Nat.add_le_add (Nat.add_le_add_right (Nat.add_le_add_left ln 6) 2) ld) (by omega)) ?_
      walk_at "go"
      refine wo_cat (by rw [len_app, len_app, len_app, l6, l20, l10]; exact Nat.le_trans (Nat.add_le_add_right (Nat.add_le_add (Nat.add_le_add_right (Nat.add_le_add_left ln 6) 2) ld) 1) (by omega)) ?_
      walk_at "go"
      refine ⟨show 5 ≤ sizeLine from len_line, fun p2 => ?_⟩
      walk_at "go"
      refine wc_told hgd hr .head l1 l2 ?_
      walk_at "go"
      refine wo_ne rfl ⟨_, rfl, fun z => ?_, fun _ => ?_⟩
      · rw [decide_eq_true rfl] at z
        cases z
      refine wss_nil (wss_sub (Sub.of_sublist (.cons _ (.cons _ (.refl _)))) ?_)
      walk_at "go"
      refine wt_val ?_
      walk_at "go"
      refine ⟨_, rfl, .inl ⟨_, rfl, true, rfl, fun _ => ?_, fun z => Bool.noConfusion z⟩⟩
      walk_at "go"
      refine wt_val ?_
      walk_at "go"
      refine wc_isi (r := true) (.own _) (T.ty ma) T.iCC ⟨_, rfl, fun _ => ?_, fun z => Bool.noConfusion z⟩
      walk_at "go"
      refine wt_val ?_
      walk_at "go"
      refine ⟨true, rfl, fun _ => ?_, fun z => Bool.noConfusion z⟩
      walk_at "go"
      refine wt_val ?_
      walk_at "go"
      refine ⟨_, rfl, .inr ⟨_, _, _, rfl, ma, false, rfl, fun z => Bool.noConfusion z, fun _ => ?_⟩⟩
      walk_at "go"
      refine wc_abs ?_
      walk_at "go"
      refine wc_max hX.calm ?_
      walk_at "go"
      refine wo_pow ⟨by decide, by decide, by decide⟩ ?_
      refine wo_ge ⟨_, rfl, fun _ => ?_, fun _ => ?_⟩
      · walk_at "go"
        refine wo_ownNe eq (by walk_at "room") ma (.str _) nfS ne T.cm ⟨a, dx, n, d, _, rfl, ma, .inr ⟨⟨_, ty_str, T.iSC⟩, false, rfl, ?_⟩⟩
        exact ret_sub k (Sub.refl _)
      refine wss_nil ?_
      walk_at "go"
      refine wo_ownEq eq (by walk_at "room") ma (.int _) nfI ⟨a, dx, n, d, _, rfl, ma, .inr ⟨⟨_, ty_int, T.iIC⟩, false, rfl, fun _ => ?_, fun z => Bool.noConfusion z⟩⟩
      walk_at "go"
      refine wo_ownEq eq (by walk_at "room") ma (.str _) nfS ⟨a, dx, n, d, _, rfl, ma, .inr ⟨⟨_, ty_str, T.iSC⟩, false, rfl, fun _ => ?_, fun z => Bool.noConfusion z⟩⟩
      walk_at "go"
      refine ⟨show 2 ≤ sizeLine from len_line, fun p2 => ?_⟩
      refine wo_ownEq eq (by walk_at "room") (.tail ma) (.tup .head) nfT ⟨a, dx, n, d, _, rfl, .tail ma, .inr ⟨⟨_, ty_tup .head, T.iTC⟩, false, rfl, fun z => Bool.noConfusion z, fun _ => ?_⟩⟩
      refine wss_nil (wss_sub (Sub.of_sublist (.cons _ (.refl _))) ?_)
      walk_at "go"
      have s3 : Sm 2 3 := (by decide : (3 : Int).natAbs < 2 ^ 2)
      refine wo_mulW (Sm.cm s1 s3) ?_
      walk_at "go"
      intro o do1
      have d3 : d * 3 ≠ 0 := by omega
      refine ⟨o, do1, n * 3, d * 3, _, rfl, rfl, d3, Nat.lt_of_lt_of_le (Sm.log (s2.mul s3)) (by decide), rfl, ?_⟩
      obtain ⟨e1, e2⟩ := nm_norm (t := n * 3) (b := d * 3) nmn d3 (by rw [Int.mul_assoc, Int.mul_comm 3 d])
      rw [e1, e2]
      refine wo_ownEq eq (by walk_at "room") (.tail ma) (.ins .head) nfC ⟨a, dx, n, d, _, rfl, .tail ma, .inl ⟨o, do1, n, d, rfl, .head, ?_⟩⟩
      rw [decide_eq_true ⟨rfl, rfl⟩]
      refine ⟨true, rfl, fun _ => ?_, fun z => Bool.noConfusion z⟩
      walk_at "go"
      intro o2 do2
      have d4 : -d ≠ 0 := by omega
      refine ⟨o2, do2, -n, -d, _, rfl, rfl, d4, Nat.lt_of_lt_of_le (Sm.log s2.neg) (by decide), rfl, ?_⟩
      obtain ⟨e1, e2⟩ := nm_norm (t := -n) (b := -d) nmn d4 (by rw [Int.mul_neg, Int.neg_mul])
      rw [e1, e2]
      refine wo_ownNe eq (by walk_at "room") (.tail (.tail ma)) (.ins .head) nfC ne T.cm ⟨a, dx, n, d, _, rfl, .tail (.tail ma), .inl ⟨o2, do2, n, d, rfl, .head, ?_⟩⟩
      rw [decide_eq_true ⟨rfl, rfl⟩]
      exact ⟨true, rfl, false, rfl, ret_sub k (Sub.of_sublist (.cons _ (.cons _ (.refl _))))⟩
    walk_at "go"
    refine wo_eq rfl ⟨_, rfl, fun z => ?_, fun z => ?_⟩
    · have e : d = 1 := V.int.inj (of_decide_eq_true z)
      walk_at "go"
      refine wc_strI l1 (tail _ ?_)
      unfold rstr
      rw [if_pos e]
      rfl
    · have e : ¬ d = 1 := fun q => of_decide_eq_false z (by rw [q])
      have ln := itx_len l1
      have ld := itx_len l2
      walk_at "go"
      refine wc_strI l1 ?_
      walk_at "go"
      refine wo_cat ?_ ?_
      · rw [show ("/" : Str).length = 1 by decide +kernel]
        exact Nat.le_trans (Nat.add_le_add_right ln 1) (by omega)
      walk_at "go"
      refine wc_strI l2 ?_
      refine wo_cat ?_ ?_
      · rw [len_app, show ("/" : Str).length = 1 by decide +kernel]
        exact Nat.le_trans (Nat.add_le_add (Nat.add_le_add_right ln 1) ld) (by omega)
      refine tail _ ?_
      unfold rstr
      rw [if_neg e]
      rfl
end
end K11

set_option Elab.async false
set_option linter.all false
set_option maxRecDepth 100000
set_option maxHeartbeats 4000000
namespace K11
open PySem L2 N3
local macro_rules | `(tactic| walk_at "at") => `(tactic| with_reducible (repeat (first | exact At.head | apply At.tail)))
local macro_rules | `(tactic| walk_at "mem") => `(tactic| with_reducible (repeat (first | exact Mem.head | apply Mem.tail)))
local macro_rules | `(tactic| walk_at "boot") => `(tactic| with_reducible (first | exact boot_isi | exact boot_max | exact boot_min | exact boot_abs | exact boot_len | exact boot_repr | exact boot_divmod | exact boot_all | exact boot_int | exact boot_bool | exact boot_str))
local macro_rules | `(tactic| walk_at "room") => `(tactic| (first | assumption | exact Room.mono (by assumption) (by decide)))
local macro_rules | `(tactic| walk_at "none") => `(tactic| (refine Txt.bn (by assumption) _ ?xz; (case xz => with_reducible (repeat (first | exact InS.head | apply InS.tail)))))
local macro_rules | `(tactic| walk_at "n3") => `(tactic| first
  | with_reducible refine ws_ret ?_
  | with_reducible refine we_int ?_
  | with_reducible refine we_str ?_
  | with_reducible refine we_bool ?_
  | with_reducible refine we_none ?_
  | ((with_reducible refine' x_name ?xo ?xa ?xb ?xc ?_); (case xo => assumption); (case xa => walk_at "at"); (case xb => walk_at "at"); (case xc => rfl))
  | ((with_reducible refine' f_top ?xt ?_ ?xh); (case xt => assumption); (case xh => rfl))
  | ((with_reducible refine' f_bot ?xt ?_ ?xh); (case xt => assumption); (case xh => rfl))
  | ((with_reducible refine' we_prop ?xg ?xr ?_ ?xh); (case xg => assumption); (case xr => walk_at "room"); (case xh => rfl))
  | with_reducible refine we_bin ?_
  | ((with_reducible refine wo_mulW ?xm ?_); (case xm => exact Sm.cm (by assumption) (by assumption)))
  | with_reducible refine wo_add ?_
  | with_reducible refine wo_sub ?_
  | with_reducible refine wo_lt ?_
  | with_reducible refine wo_gt ?_
  | with_reducible refine wo_le ?_
  | with_reducible refine wo_ge ?_
  | with_reducible refine wu_neg ?_
  | ((with_reducible refine we_cmp ?xh ?_); (case xh => exact nomark _))
  | ((with_reducible refine wt_cmp ?xh ?_); (case xh => exact nomark _))
  | ((with_reducible refine wa_cons ?_ ?xh); (case xh => rfl))
  | with_reducible refine wa_nil ?_
  | with_reducible refine we_and ?_
  | with_reducible refine we_or ?_
  | with_reducible refine we_not ?_
  | with_reducible refine wt_not ?_
  | with_reducible refine we_un ?_
  | with_reducible refine we_one ?_
  | with_reducible refine wt_ww (ww_or ?_)
  | with_reducible refine wt_ww (ww_and ?_)
  | with_reducible refine ww_or ?_
  | with_reducible refine ww_and ?_
  | with_reducible refine ww_or1 ?_
  | with_reducible refine ww_and1 ?_
  | with_reducible refine we_ifExp ?_
  | with_reducible refine ws_if ?_
  | with_reducible refine ws_pass ?_
  | with_reducible refine we_tup ?_
  | with_reducible refine we_lst ?_
  | ((with_reducible refine' x_set ?xo ?xa ?xb ?_ ?xs); (case xo => assumption); (case xa => walk_at "at"); (case xb => walk_at "at"); (case xs => rfl))
  | ((with_reducible refine' x_setF ?_ ?xs); (case xs => rfl))
  | ((with_reducible refine' x_call ?xo ?xa ?xg ?xr ?_ ?xe ?xp); (case xo => assumption); (case xa => walk_at "at"); (case xg => assumption); (case xr => walk_at "room"); (case xe => rfl); (case xp => rfl))
  | ((with_reducible refine' x_callB ?xo ?xa ?xg ?xr ?_ ?xe ?xp); (case xo => assumption); (case xr => walk_at "boot"); (case xa => walk_at "at"); (case xg => walk_at "none"); (case xe => rfl); (case xp => rfl))
  | ((with_reducible refine' x_callTy ?xo ?xa ?xg ?xr ?_ ?xe ?xp); (case xo => assumption); (case xr => walk_at "boot"); (case xa => walk_at "at"); (case xg => walk_at "none"); (case xe => rfl); (case xp => rfl))
  | ((with_reducible refine' x_callFn ?xo ?xa ?xg ?_ ?xe ?xp); (case xo => assumption); (case xg => with_reducible exact Txt.mgcd (by assumption)); (case xa => walk_at "at"); (case xe => rfl); (case xp => rfl))
  | ((with_reducible refine' x_bty ?xo ?xa ?xg ?xr ?_); (case xo => assumption); (case xr => walk_at "boot"); (case xa => walk_at "at"); (case xg => walk_at "none"))
  | ((with_reducible refine' x_cls ?xt ?xo ?xa ?_); (case xt => assumption); (case xo => assumption); (case xa => walk_at "at"))
  | ((with_reducible refine' x_make ?xo ?xa ?xg ?xr ?_ ?xe ?xp); (case xo => assumption); (case xa => walk_at "at"); (case xg => assumption); (case xr => walk_at "room"); (case xe => rfl); (case xp => rfl))
  | with_reducible refine wss_nil ?_
  | refine ⟨_, _, _, _, rfl, (by assumption), ?_⟩
  | refine ⟨_, _, _, rfl, (by assumption), ?_⟩
  | refine wss_cons ?_)
local macro_rules | `(tactic| walk_at "go") => `(tactic| repeat walk_at "n3")
section
variable {P : Program} {w : World} {K : PySem.W.Frag} {mg : Str → Option Value} {base : Heap}
abbrev bmRT : List Value := [.type "RuntimeError", .type "Exception", .type "BaseException", .type "object"]
/-- what is known of DividedByZero (at D) and NotesumsError (at M) -/
structure Er (K : PySem.W.Frag) (mg : Str → Option Value) (D M : Addr) : Prop where
  g1 : mg "DividedByZero" = some (.ref D)
  g2 : mg "NotesumsError" = some (.ref M)
  g3 : mg "RuntimeError" = none
  kp : PySem.W.keepIn K (.ref D) = true
  ex : PySem.W.excIn K D bmRT "RuntimeError.__new__" = true
  su : PySem.W.subIn K (.ref D) (.type "BaseException") = some true
  ty : PySem.W.typeIn K (.ref D) = some (.type "type")
  em : PySem.W.exmOne K (.ref D) (.ref D) = some true
  ec : ExcC K D
  k1 : PySem.W.kitOne K (.ref D) (.type "RuntimeError") = some true
  k2 : PySem.W.kitOne K (.ref D) (.ref M) = some false
theorem boot_rt : bootBuiltins "RuntimeError" = some (.type "RuntimeError") := by decide +kernel
/-! over -/
def pOver (C D : Addr) : PreX := fun vs L Kk KX => ∃ a dx v n d m e, vs = [.ref a, v] ∧ Mem a (.ins C dx (ratF n d)) L ∧ NumL C L v m e ∧ Sm 1000 n ∧ Sm 1000 d ∧ Sm 1000 m ∧ Sm 1000 e ∧ d ≠ 0 ∧
  (m ≠ 0 → ∀ p dx, Kk (.ref p) ((p, .ins C dx (ratF (nT (n * e) (d * m)) (nB (n * e) (d * m)))) :: L)) ∧ (m = 0 → KX (.ref D) none L)
theorem scOver : FnScope ["self", "other", "right"] ["self", "other"] (defScope sOver) := ⟨rfl, rfl, rfl, by decide +kernel, rfl, by decide +kernel, by decide +kernel⟩
theorem okOver {f C D M : Addr} {fd : FuncData} (F : Fun K "over" "Ratio.over" sOver f fd) (T : Txt K mg C) (E : Er K mg D M) (GA : GFn P w K mg base "as_ratio" 4 ["value"] [] (pAs C)) (GM : GMk P w K mg base "Ratio" C 2 ["self", "top", "bottom"] [] (pInit C))
    (G1 : GPr P w K mg base C "top" 1 ["self"] (pTop C)) (G2 : GPr P w K mg base C "bottom" 1 ["self"] (pBot C)) : FnOk P w K mg base (L2.CX P w) 5 f fd ["self", "other"] (SpXL (pOver C D)) := by
  refine fnXE (Gn := ["as_ratio", "DividedByZero", "Ratio"]) F scOver (by decide +kernel) (fun vs L Kk KX h => ?_) (fun X e1 e2 e3 e4 e5 hX hr vs L Kk KX tk h => ?_)
  · obtain ⟨a, dx, v, n, d, m, e, rfl, _⟩ := h
    rfl
  · subst e1 e2 e3 e4 e5
    obtain ⟨a, dx, v, n, d, m, e, rfl, ma, hv, sn, sd, sm, se, d0, k, kx⟩ := h
    walk_at "go"
    intro r dr L' sl mr
    have ma' := mem_sl ma sl
    walk_at "go"
    refine wo_eq rfl ⟨_, rfl, fun z => ?_, fun z => ?_⟩
    · have e0 : m = 0 := V.int.inj (of_decide_eq_true z)
      refine wss_sub (Sub.of_sublist sl) ?_
      refine wss_cons (ws_raise0 hX.calm tk PySem.F.excBase_RuntimeError E.ex E.g1 E.kp (raises_own E.su E.ty) (hX.glo (.tail .head)).1 (hX.glo (.tail .head)).2.2 (kx e0))
    · have e0 : ¬ m = 0 := fun q => of_decide_eq_false z (by rw [q])
      walk_at "go"
      intro o do1
      refine ⟨_, _, _, _, _, rfl, rfl, mul_ne d0 e0, log_mul sd sm, rfl, ?_⟩
      exact ret_sub (k e0 o do1) (Sub.of_sublist (sl.cons₂ _))
/-! _law_is_divided_right -/
theorem nT_zero' {t b : Int} (hb : b ≠ 0) : nT t b = 0 ↔ t = 0 := by
  have e := nT_mul t b
  constructor
  · intro z
    rw [z, Int.zero_mul] at e
    exact e.symm
  · intro z
    rw [z] at e ⊢
    rcases Int.mul_eq_zero.mp e with q | q
    · exact q
    · exact absurd q (sg_ne hb)
def pDiv (C : Addr) : Pre := fun vs L Kk => ∃ a dx v q1 q2 t1 b1 t2 b2, vs = [.ref a, v, .ref q1, .ref q2] ∧ Mem a (.ins C dx (ratF (nT t1 b1) (nB t1 b1))) L ∧ NumL C L v (nT t2 b2) (nB t2 b2) ∧ Mem q1 (.tup [.int t1, .int b1]) L ∧ Mem q2 (.tup [.int t2, .int b2]) L ∧
  Sm 200 t1 ∧ Sm 200 b1 ∧ Sm 200 t2 ∧ Sm 200 b2 ∧ b1 ≠ 0 ∧ b2 ≠ 0 ∧ Kk (.bl true) L
theorem scDiv : FnScope ["_law_one", "_law_other", "_law_first", "_law_second", "e"] ["_law_one", "_law_other", "_law_first", "_law_second"] (defScope sDiv) := ⟨rfl, rfl, rfl, by decide +kernel, rfl, by decide +kernel, by decide +kernel⟩
theorem okDiv {f C D M : Addr} {fd : FuncData} (F : Fun K "_law_is_divided_right" "_law_is_divided_right" sDiv f fd) (R : Rt P w K mg base C) (E : Er K mg D M) (GO : GMX P w K mg base C "over" 5 ["self", "other"] (pOver C D))
    (GI : GFg P w K mg base "_law_is" 5 ["_law_one", "_law_pair_here"] [] (pIs C)) : FnG P w K mg base 6 f fd ["_law_one", "_law_other", "_law_first", "_law_second"] (pDiv C) := by
  refine fnXGT (Gn := ["_law_is", "DividedByZero", "isinstance", "RuntimeError", "NotesumsError"]) F scDiv (by decide +kernel) (fun vs L Kk h => ?_) (fun X e1 e2 e3 e4 e5 hX hr hgd hT vs L Kk h => ?_)
  · obtain ⟨a, dx, v, q1, q2, t1, b1, t2, b2, rfl, _⟩ := h
    rfl
  · subst e1 e2 e3 e4 e5
    have T := R.T
    obtain ⟨a, dx, v, q1, q2, t1, b1, t2, b2, rfl, ma, hv, m1, m2, s1, s2, s3, s4, hb1, hb2, k⟩ := h
    have c1 := cross t1 b1
    have c2 := cross t2 b2
    walk_at "go"
    refine we_ixT ?_
    walk_at "go"
    refine ⟨q2, _, _, _, rfl, rfl, .of m2, atI0, ?_⟩
    walk_at "go"
    refine wo_ne rfl ⟨_, rfl, fun z => ?_, fun z => ?_⟩
    · have e0 : t2 ≠ 0 := fun q => by
        rw [q, decide_eq_true rfl] at z
        cases z
      have n0 : nT t2 b2 ≠ 0 := fun q => e0 ((nT_zero' hb2).mp q)
      walk_at "go"
      refine x_callG (by assumption) (by walk_at "at") GI (by walk_at "room") hgd ?_
      refine wa_cons (we_methX (KX := fun _ _ _ => False) takes_never GO (by walk_at "room") (fun _ _ _ _ _ z => z) ?_) rfl
      walk_at "go"
      refine ⟨ratF_no _ _ (by decide +kernel) (by decide +kernel), ?_⟩
      walk_at "go"
      refine ⟨a, dx, v, _, _, _, _, rfl, ma, hv, (s1.nT hb1).mono (by decide), (s2.nB hb1).mono (by decide), (s3.nT hb2).mono (by decide), (s4.nB hb2).mono (by decide), nB_ne hb1, fun _ p dp => ?_, fun q => absurd q n0⟩
      have nn : ∀ {x y : Int}, x ≠ 0 → y ≠ 0 → x * y ≠ 0 := fun a b c => (Int.mul_eq_zero.mp c).elim a b
      obtain ⟨g1, g2⟩ := nm_same (t := nT t1 b1 * nB t2 b2) (b := nB t1 b1 * nT t2 b2) (s := t1 * b2) (c := b1 * t2) (nn (nB_ne hb1) n0) (nn hb1 e0) (by
        calc nT t1 b1 * nB t2 b2 * (b1 * t2) = (nT t1 b1 * b1) * (t2 * nB t2 b2) := by ac_rfl
          _ = (t1 * nB t1 b1) * (nT t2 b2 * b2) := by rw [c1, ← c2]
          _ = t1 * b2 * (nB t1 b1 * nT t2 b2) := by ac_rfl)
      rw [g1, g2]
      walk_at "go"
      refine we_ixT ?_
      walk_at "go"
      refine ⟨q1, _, _, _, rfl, rfl, .of (.tail m1), atI0, ?_⟩
      show N3.WE X _ _ _ _
      refine we_ixT ?_
      walk_at "go"
      refine ⟨q2, _, _, _, rfl, rfl, .of (.tail m2), atI1, ?_⟩
      walk_at "go"
      refine we_ixT ?_
      walk_at "go"
      refine ⟨q1, _, _, _, rfl, rfl, .of (.tail m1), atI1, ?_⟩
      show N3.WE X _ _ _ _
      refine we_ixT ?_
      walk_at "go"
      refine ⟨q2, _, _, _, rfl, rfl, .of (.tail m2), atI0, ?_⟩
      walk_at "go"
      refine ⟨show 2 ≤ sizeLine from len_line, fun p2 => ?_⟩
      walk_at "go"
      refine ⟨p, dp, p2, t1 * b2, b1 * t2, rfl, .tail .head, .head, nn hb1 e0, (s1.mul s4).mono (by decide), (s2.mul s3).mono (by decide), ?_⟩
      exact ret_sub k (Sub.of_sublist (.cons _ (.cons _ (.refl _))))
    · have e0 : t2 = 0 := by
        by_cases q : t2 = 0
        · exact q
        · rw [decide_eq_false (fun y => q (V.int.inj y))] at z
          cases z
      walk_at "go"
      refine ws_tryAs (Wout := fun _ _ _ _ => False) (c := .ref D) hT hX.nd (hX.ix (.tail (.tail (.tail (.tail .head))))) (hX.loc (.tail (.tail (.tail (.tail .head))))) ⟨(hX.glo (.tail .head)).1, (hX.glo (.tail .head)).2.2, .inl E.g1⟩ takes_never fun pn xe tk pw => ?_
      have hX' : XOk _ _ _ _ _ (X.tr pn xe) := ⟨hX.hN, hX.hsc, hX.ok, hX.calm, pw⟩
      have n0 : nT t2 b2 = 0 := (nT_zero' hb2).mpr e0
      refine wss_cons (ws_expr (we_methX (KX := fun cls d L' => cls = .ref D ∧ d = none ∧ L' = L) tk GO (by exact hr.mono (by decide)) ?_ ?_))
      · rintro cls d L' H' hL' ⟨rfl, rfl, rfl⟩
        refine wAs_ok hL' E.em fun z oe pn' hz hf => ?_
        have vz := hX.vis (x := "e") (.tail (.tail (.tail (.tail .head))))
        have gi := hX.glo (x := "isinstance") (.tail (.tail .head))
        have gr := hX.glo (x := "RuntimeError") (.tail (.tail (.tail .head)))
        have gm := hX.glo (x := "NotesumsError") (.tail (.tail (.tail (.tail .head))))
        have iz := hX.ix (x := "e") (.tail (.tail (.tail (.tail .head))))
        refine wss_cons (ws_ret (we_and ?_))
        refine we_callB (T.bn _ .head) boot_isi (wa_cons (we_name 4 iz vz.1 rfl ?_ vz.2.1 vz.2.2) rfl) gi.1 gi.2.1 gi.2.2
        refine wa_cons (we_bltn (v := .ty "RuntimeError") E.g3 boot_rt rfl ?_ gr.1 gr.2.1 gr.2.2) rfl
        refine wa_nil ?_
        refine wc_of (call_isE E.ec hz hf) fun H1 h1 => ⟨.ty "RuntimeError", _, true, rfl, fun u r => r, E.k1, _, h1, _, rfl, fun _ => ?_, fun q => Bool.noConfusion q⟩
        refine we_one (we_not ?_)
        refine we_callB (T.bn _ .head) boot_isi (wa_cons (we_name 4 iz vz.1 rfl ?_ vz.2.1 vz.2.2) rfl) gi.1 gi.2.1 gi.2.2
        refine wa_cons (we_glob (v := .ref M) E.g2 rfl ?_ gm.1 gm.2.2) rfl
        refine wa_nil ?_
        refine wc_of (call_isE E.ec hz hf) fun H1 h1 => ⟨.ref M, _, false, rfl, fun u r => r, E.k2, _, h1, _, rfl, ?_⟩
        exact ret_sub k (Sub.refl _)
      · walk_at "go"
        refine ⟨ratF_no _ _ (by decide +kernel) (by decide +kernel), ?_⟩
        walk_at "go"
        refine ⟨a, dx, v, _, _, _, _, rfl, ma, hv, (s1.nT hb1).mono (by decide), (s2.nB hb1).mono (by decide), (s3.nT hb2).mono (by decide), (s4.nB hb2).mono (by decide), nB_ne hb1, fun q => absurd n0 q, fun _ => ⟨rfl, rfl, rfl⟩⟩
end
end K11


set_option Elab.async false
set_option linter.all false
set_option maxRecDepth 100000
set_option maxHeartbeats 4000000
namespace K11
open PySem L2 N3
local macro_rules | `(tactic| walk_at "at") => `(tactic| with_reducible (repeat (first | exact At.head | apply At.tail)))
local macro_rules | `(tactic| walk_at "mem") => `(tactic| with_reducible (repeat (first | exact Mem.head | apply Mem.tail)))
local macro_rules | `(tactic| walk_at "boot") => `(tactic| with_reducible (first | exact boot_isi | exact boot_max | exact boot_min | exact boot_abs | exact boot_len | exact boot_repr | exact boot_divmod | exact boot_all | exact boot_int | exact boot_bool | exact boot_str))
local macro_rules | `(tactic| walk_at "room") => `(tactic| (first | assumption | exact Room.mono (by assumption) (by decide)))
local macro_rules | `(tactic| walk_at "none") => `(tactic| (refine Txt.bn (by assumption) _ ?xz; (case xz => with_reducible (repeat (first | exact InS.head | apply InS.tail)))))
local macro_rules | `(tactic| walk_at "n3") => `(tactic| first
  | with_reducible refine ws_ret ?_
  | with_reducible refine we_int ?_
  | with_reducible refine we_str ?_
  | with_reducible refine we_bool ?_
  | with_reducible refine we_none ?_
  | ((with_reducible refine' x_name ?xo ?xa ?xb ?xc ?_); (case xo => assumption); (case xa => walk_at "at"); (case xb => walk_at "at"); (case xc => rfl))
  | ((with_reducible refine' f_top ?xt ?_ ?xh); (case xt => assumption); (case xh => rfl))
  | ((with_reducible refine' f_bot ?xt ?_ ?xh); (case xt => assumption); (case xh => rfl))
  | ((with_reducible refine' we_prop ?xg ?xr ?_ ?xh); (case xg => assumption); (case xr => walk_at "room"); (case xh => rfl))
  | with_reducible refine we_bin ?_
  | ((with_reducible refine wo_mulW ?xm ?_); (case xm => exact Sm.cm (by assumption) (by assumption)))
  | with_reducible refine wo_add ?_
  | with_reducible refine wo_sub ?_
  | with_reducible refine wo_lt ?_
  | with_reducible refine wo_gt ?_
  | with_reducible refine wo_le ?_
  | with_reducible refine wo_ge ?_
  | with_reducible refine wu_neg ?_
  | ((with_reducible refine we_cmp ?xh ?_); (case xh => exact nomark _))
  | ((with_reducible refine wt_cmp ?xh ?_); (case xh => exact nomark _))
  | ((with_reducible refine wa_cons ?_ ?xh); (case xh => rfl))
  | with_reducible refine wa_nil ?_
  | with_reducible refine we_and ?_
  | with_reducible refine we_or ?_
  | with_reducible refine we_not ?_
  | with_reducible refine wt_not ?_
  | with_reducible refine we_un ?_
  | with_reducible refine we_one ?_
  | with_reducible refine wt_ww (ww_or ?_)
  | with_reducible refine wt_ww (ww_and ?_)
  | with_reducible refine ww_or ?_
  | with_reducible refine ww_and ?_
  | with_reducible refine ww_or1 ?_
  | with_reducible refine ww_and1 ?_
  | with_reducible refine we_ifExp ?_
  | with_reducible refine ws_if ?_
  | with_reducible refine ws_pass ?_
  | with_reducible refine we_tup ?_
  | with_reducible refine we_lst ?_
  | ((with_reducible refine' x_set ?xo ?xa ?xb ?_ ?xs); (case xo => assumption); (case xa => walk_at "at"); (case xb => walk_at "at"); (case xs => rfl))
  | ((with_reducible refine' x_setF ?_ ?xs); (case xs => rfl))
  | ((with_reducible refine' x_call ?xo ?xa ?xg ?xr ?_ ?xe ?xp); (case xo => assumption); (case xa => walk_at "at"); (case xg => assumption); (case xr => walk_at "room"); (case xe => rfl); (case xp => rfl))
  | ((with_reducible refine' x_callB ?xo ?xa ?xg ?xr ?_ ?xe ?xp); (case xo => assumption); (case xr => walk_at "boot"); (case xa => walk_at "at"); (case xg => walk_at "none"); (case xe => rfl); (case xp => rfl))
  | ((with_reducible refine' x_callTy ?xo ?xa ?xg ?xr ?_ ?xe ?xp); (case xo => assumption); (case xr => walk_at "boot"); (case xa => walk_at "at"); (case xg => walk_at "none"); (case xe => rfl); (case xp => rfl))
  | ((with_reducible refine' x_callFn ?xo ?xa ?xg ?_ ?xe ?xp); (case xo => assumption); (case xg => with_reducible exact Txt.mgcd (by assumption)); (case xa => walk_at "at"); (case xe => rfl); (case xp => rfl))
  | ((with_reducible refine' x_bty ?xo ?xa ?xg ?xr ?_); (case xo => assumption); (case xr => walk_at "boot"); (case xa => walk_at "at"); (case xg => walk_at "none"))
  | ((with_reducible refine' x_cls ?xt ?xo ?xa ?_); (case xt => assumption); (case xo => assumption); (case xa => walk_at "at"))
  | ((with_reducible refine' x_make ?xo ?xa ?xg ?xr ?_ ?xe ?xp); (case xo => assumption); (case xa => walk_at "at"); (case xg => assumption); (case xr => walk_at "room"); (case xe => rfl); (case xp => rfl))
  | ((with_reducible refine' x_callG ?xo ?xa ?xg ?xr ?xd ?_ ?xe ?xp); (case xo => assumption); (case xa => walk_at "at"); (case xg => assumption); (case xr => walk_at "room"); (case xd => assumption); (case xe => rfl); (case xp => rfl))
  | with_reducible refine wss_nil ?_
  | refine ⟨_, _, _, _, rfl, (by assumption), ?_⟩
  | refine ⟨_, _, _, rfl, (by assumption), ?_⟩
  | refine wss_cons ?_
  | ((with_reducible refine' wt_val ?_ ?xv); (case xv => intro _; rfl)))
local macro_rules | `(tactic| walk_at "go") => `(tactic| repeat walk_at "n3")
section
variable {P : Program} {w : World} {K : PySem.W.Frag} {mg : Str → Option Value} {base : Heap}
theorem nm_zero {b : Int} (hb : b ≠ 0) : nT 0 b = 0 ∧ nB 0 b = 1 := nm_norm (n := 0) (d := 1) ⟨by decide, by decide⟩ hb (by rw [Int.zero_mul, Int.zero_mul])
theorem ww_sub {X : Cx} {e : Expr} {σ : L2.St} {L L' : LH} {KT : Bool → LH → Prop} (s : Sub L L') (h : WW X e σ L' KT) : WW X e σ L KT := fun H hL => h H (s H hL)
theorem wt_sub {X : Cx} {e : Expr} {σ : L2.St} {L L' : LH} {KT : Bool → LH → Prop} (s : Sub L L') (h : WT X e σ L' KT) : WT X e σ L KT := fun H hL => h H (s H hL)
theorem shown_bool_len (b : Bool) : (PyData.bool b).shown.length ≤ sizeLine := by
  have e : (PyData.shown (.bool b)).length ≤ 5 := by cases b <;> decide
  exact Nat.le_trans e (by rw [sizeLine_eq]; decide)
theorem wc_reprB {X : Cx} {b : Bool} {L : LH} {Kk : V → LH → Prop} {k : Nat} (hgd : X.A.guards = some []) (hr : Room k X.A) (kk : Kk (.str (PyData.bool b).shown) L) : WC X (.builtin "repr") [.bl b] L Kk :=
  wc_reprD (d := .bool b) hgd (by have h := hr.units; show X.A.units + (0 + 1) < _; omega) (fun _ _ => .bl b) rfl (shown_bool_len b) kk
theorem drop2 {p q : Addr × HO} {L : LH} : Sub (p :: q :: L) L := Sub.of_sublist (.cons _ (.cons _ (.refl _)))
theorem back_eq {n1 d1 n2 d2 N B : Int} (cx : N * (d1 * d2) = (n1 * d2 + n2 * d1) * B) : n1 * (B * d2) = (N * d2 - n2 * B) * d1 := by
  have e1 : (N * d2 - n2 * B) * d1 = N * (d1 * d2) - n2 * d1 * B := by rw [Int.sub_mul]; congr 1 <;> ac_rfl
  rw [e1, cx, Int.add_mul, Int.add_sub_cancel]; ac_rfl
/-! _law_two_right -/
def pTwo (C : Addr) : Pre := fun vs L Kk => ∃ a dx v q1 q2 t1 b1 t2 b2, vs = [.ref a, v, .ref q1, .ref q2] ∧ Mem a (.ins C dx (ratF (nT t1 b1) (nB t1 b1))) L ∧ NumL C L v (nT t2 b2) (nB t2 b2) ∧ Mem q1 (.tup [.int t1, .int b1]) L ∧ Mem q2 (.tup [.int t2, .int b2]) L ∧
  Sm 110 t1 ∧ Sm 110 b1 ∧ Sm 110 t2 ∧ Sm 110 b2 ∧ b1 ≠ 0 ∧ b2 ≠ 0 ∧ Kk (.bl true) L
theorem scTwo : FnScope ["_law_one", "_law_other", "_law_first", "_law_second", "_law_a", "_law_b", "_law_c", "_law_d"] ["_law_one", "_law_other", "_law_first", "_law_second"] (defScope sTwo) := ⟨rfl, rfl, rfl, by decide +kernel, rfl, by decide +kernel, by decide +kernel⟩
theorem okTwo {f C : Addr} {fd : FuncData} (F : Fun K "_law_two_right" "_law_two_right" sTwo f fd) (R : Rt P w K mg base C) (GL : GFn P w K mg base "_law_lowest" 2 ["_law_pair_here"] [] pLowest)
    (GI : GFg P w K mg base "_law_is" 5 ["_law_one", "_law_pair_here"] [] (pIs C)) (GD : GFg P w K mg base "_law_is_divided_right" 6 ["_law_one", "_law_other", "_law_first", "_law_second"] [] (pDiv C)) : FnG P w K mg base 7 f fd ["_law_one", "_law_other", "_law_first", "_law_second"] (pTwo C) := by
  refine fnXG (Gn := ["_law_lowest", "_law_is", "repr", "Ratio", "_law_is_divided_right"]) F scTwo (by decide +kernel) (fun vs L Kk h => ?_) (fun X e1 e2 e3 e4 e5 hX hr hgd vs L Kk h => ?_)
  · obtain ⟨a, dx, v, q1, q2, t1, b1, t2, b2, rfl, _⟩ := h
    rfl
  · subst e1 e2 e3 e4 e5
    obtain ⟨T, ops, mk1, _, isI, isN, pt, pb, ps, eq, st, rp, ng, bl, nfI, nfS, nfT, nfC, ne⟩ := R
    rename_i mk
    clear mk
    obtain ⟨a, dx, v, q1, q2, t1, b1, t2, b2, rfl, ma, hv, m1, m2, s1, s2, s3, s4, hb1, hb2, k⟩ := h
    have l2 : b1.natAbs.log2 < 9000 := Nat.lt_of_lt_of_le (Sm.log s2) (by decide)
    have l4 : b2.natAbs.log2 < 9000 := Nat.lt_of_lt_of_le (Sm.log s4) (by decide)
    have r1 := s1.nT hb1
    have r2 := s2.nB (t := t1) hb1
    have r3 := s3.nT hb2
    have r4 := s4.nB (t := t2) hb2
    have n1 := nB_ne (t := t1) hb1
    have n2 := nB_ne (t := t2) hb2
    have x1 := nm_of (t := t1) hb1
    have o1 : OkQ (nT t1 b1, nB t1 b1) := ⟨r1.mono (by decide), r2.mono (by decide), n1⟩
    have o2 : OkQ (nT t2 b2, nB t2 b2) := ⟨r3.mono (by decide), r4.mono (by decide), n2⟩
    refine wss_cons (ws_asg ?_ rfl (by
      have e := hX.hsc
      generalize X.env = env at e ⊢
      cases env with
      | mk => dsimp only at e; subst e; rfl) rfl)
    walk_at "go"
    refine ⟨hb1, l2, fun p1 => ?_⟩
    walk_at "go"
    refine ⟨q2, t2, b2, rfl, .tail m2, hb2, l4, fun p2 => ?_⟩
    walk_at "go"
    refine ⟨show 2 ≤ sizeLine from len_line, fun p => ?_⟩
    refine x_tup (by assumption) .head ?_
    refine wgs_cons (x_tup (by assumption) (.tail (.tail .head)) ?_)
    refine wgs_cons (x_tgt (by assumption) (by walk_at "at") (by walk_at "at") ?_)
    refine wgs_cons (x_tgt (by assumption) (by walk_at "at") (by walk_at "at") ?_)
    refine wgs_nil ?_
    refine wgs_cons (x_tup (by assumption) (.tail .head) ?_)
    refine wgs_cons (x_tgt (by assumption) (by walk_at "at") (by walk_at "at") ?_)
    refine wgs_cons (x_tgt (by assumption) (by walk_at "at") (by walk_at "at") ?_)
    refine wgs_nil ?_
    refine wgs_nil ?_
    refine wss_sub (Sub.of_sublist (.cons _ (.cons _ (.cons _ (.refl _))))) ?_
    walk_at "go"
    refine wo_addR ops (by walk_at "room") ma hv o1 o2 fun p dp => ?_
    walk_at "go"
    refine ⟨show 2 ≤ sizeLine from len_line, fun p2 => ?_⟩
    walk_at "go"
    have nn := mul_ne n1 n2
    have sp : Sm 221 (nT t1 b1 * nB t2 b2 + nT t2 b2 * nB t1 b1) := (r1.mul r4).add (r3.mul r2) (by decide)
    have sq : Sm 221 (nT t1 b1 * nB t2 b2 - nT t2 b2 * nB t1 b1) := (r1.mul r4).sub (r3.mul r2) (by decide)
    have sb : Sm 221 (nB t1 b1 * nB t2 b2) := (r2.mul r4).mono (by decide)
    refine ⟨p, dp, p2, _, _, rfl, .tail .head, .head, nn, sp.mono (by decide), sb.mono (by decide), true, rfl, fun _ => ?_, fun z => Bool.noConfusion z⟩
    refine ww_sub drop2 ?_
    walk_at "go"
    refine wo_subR ops (by walk_at "room") ma hv o1 o2 fun p dp => ?_
    walk_at "go"
    refine ⟨show 2 ≤ sizeLine from len_line, fun p2 => ?_⟩
    walk_at "go"
    refine ⟨p, dp, p2, _, _, rfl, .tail .head, .head, nn, sq.mono (by decide), sb.mono (by decide), true, rfl, fun z => Bool.noConfusion z, fun _ => ?_⟩
    refine wss_nil (wss_sub drop2 ?_)
    walk_at "go"
    refine wo_mulR ops (by walk_at "room") ma hv o1 o2 fun p dp => ?_
    walk_at "go"
    refine ⟨show 2 ≤ sizeLine from len_line, fun p2 => ?_⟩
    walk_at "go"
    refine ⟨p, dp, p2, _, _, rfl, .tail .head, .head, nn, (r1.mul r3).mono (by decide), sb.mono (by decide), true, rfl, fun _ => ?_, fun z => Bool.noConfusion z⟩
    refine ww_sub drop2 ?_
    walk_at "go"
    refine we_meth bl (by walk_at "room") ?_
    walk_at "go"
    refine ⟨ratF_no _ _ (by decide +kernel) (by decide +kernel), ?_⟩
    walk_at "go"
    refine ⟨a, dx, v, _, _, _, _, rfl, ma, hv, o1.1, o1.2.1, o2.1, o2.2.1, ?_⟩
    walk_at "go"
    refine wc_reprB hgd hr ?_
    walk_at "go"
    refine wc_reprB hgd hr ?_
    refine wo_ne rfl ⟨_, rfl, fun z => ?_, fun _ => ?_⟩
    · rw [decide_eq_true rfl] at z
      cases z
    refine wss_nil ?_
    walk_at "go"
    refine wu_own ng (by walk_at "room") ma ⟨a, dx, _, _, rfl, ma, o1.2.1, n1, fun p dp => ?_⟩
    walk_at "go"
    refine ⟨show 2 ≤ sizeLine from len_line, fun p2 => ?_⟩
    walk_at "go"
    refine ⟨p, dp, p2, _, _, rfl, .tail .head, .head, n1, r1.neg.mono (by decide), r2.mono (by decide), true, rfl, fun _ => ?_, fun z => Bool.noConfusion z⟩
    refine ww_sub drop2 ?_
    walk_at "go"
    refine wo_addR ops (by walk_at "room") ma hv o1 o2 fun p dp => ?_
    walk_at "go"
    have cx := cross (nT t1 b1 * nB t2 b2 + nT t2 b2 * nB t1 b1) (nB t1 b1 * nB t2 b2)
    have sp' := sp.nT nn
    have sb' := sb.nB (t := nT t1 b1 * nB t2 b2 + nT t2 b2 * nB t1 b1) nn
    have nn' := nB_ne (t := nT t1 b1 * nB t2 b2 + nT t2 b2 * nB t1 b1) nn
    generalize nT (nT t1 b1 * nB t2 b2 + nT t2 b2 * nB t1 b1) (nB t1 b1 * nB t2 b2) = N at *
    generalize nB (nT t1 b1 * nB t2 b2 + nT t2 b2 * nB t1 b1) (nB t1 b1 * nB t2 b2) = B at *
    refine wo_subR ops (by walk_at "room") .head (hv.sl (.cons _ (.refl _))) ⟨sp'.mono (by decide), sb'.mono (by decide), nn'⟩ o2 fun p3 dp3 => ?_
    have e2 := nm_norm (t := N * nB t2 b2 - nT t2 b2 * B) (b := B * nB t2 b2) x1 (mul_ne nn' n2) (back_eq cx)
    rw [e2.1, e2.2]
    walk_at "go"
    refine wo_ownNe eq (by walk_at "room") .head (.ins (.tail (.tail ma))) nfC ne T.cm ⟨p3, dp3, _, _, _, rfl, .head, .inl ⟨a, dx, _, _, rfl, .tail (.tail ma), ?_⟩⟩
    rw [decide_eq_true ⟨rfl, rfl⟩]
    refine ⟨true, rfl, false, rfl, fun _ => ?_, fun z => Bool.noConfusion z⟩
    refine ww_sub drop2 ?_
    walk_at "go"
    refine wo_subR ops (by walk_at "room") ma (.rat ma) o1 o1 fun p dp => ?_
    rw [Int.sub_self]
    rw [(nm_zero (mul_ne n1 n1)).1, (nm_zero (mul_ne n1 n1)).2]
    walk_at "go"
    intro o do1
    refine ⟨o, do1, 0, 1, _, rfl, rfl, by decide, by decide, rfl, ?_⟩
    rw [nT_one, nB_one]
    refine wo_ownNe eq (by walk_at "room") (.tail .head) (.ins .head) nfC ne T.cm ⟨p, dp, _, _, _, rfl, .tail .head, .inl ⟨o, do1, _, _, rfl, .head, ?_⟩⟩
    rw [decide_eq_true ⟨rfl, rfl⟩]
    refine ⟨true, rfl, false, rfl, fun z => Bool.noConfusion z, fun _ => ?_⟩
    refine wss_nil (wss_sub drop2 ?_)
    walk_at "go"
    exact ⟨a, dx, v, q1, q2, t1, b1, t2, b2, rfl, ma, hv, m1, m2, s1.mono (by decide), s2.mono (by decide), s3.mono (by decide), s4.mono (by decide), hb1, hb2, ret_sub k (Sub.refl _)⟩
end
end K11

set_option Elab.async false
set_option linter.all false
set_option maxRecDepth 100000
set_option maxHeartbeats 4000000
namespace K11
open PySem L2 N3
local macro_rules | `(tactic| walk_at "at") => `(tactic| with_reducible (repeat (first | exact At.head | apply At.tail)))
local macro_rules | `(tactic| walk_at "mem") => `(tactic| with_reducible (repeat (first | exact Mem.head | apply Mem.tail)))
local macro_rules | `(tactic| walk_at "boot") => `(tactic| with_reducible (first | exact boot_isi | exact boot_max | exact boot_min | exact boot_abs | exact boot_len | exact boot_repr | exact boot_divmod | exact boot_all | exact boot_int | exact boot_bool | exact boot_str))
local macro_rules | `(tactic| walk_at "room") => `(tactic| (first | assumption | exact Room.mono (by assumption) (by decide)))
local macro_rules | `(tactic| walk_at "none") => `(tactic| (refine Txt.bn (by assumption) _ ?xz; (case xz => with_reducible (repeat (first | exact InS.head | apply InS.tail)))))
local macro_rules | `(tactic| walk_at "n3") => `(tactic| first
  | with_reducible refine ws_ret ?_
  | with_reducible refine we_int ?_
  | with_reducible refine we_str ?_
  | with_reducible refine we_bool ?_
  | with_reducible refine we_none ?_
  | ((with_reducible refine' x_name ?xo ?xa ?xb ?xc ?_); (case xo => assumption); (case xa => walk_at "at"); (case xb => walk_at "at"); (case xc => rfl))
  | ((with_reducible refine' f_top ?xt ?_ ?xh); (case xt => assumption); (case xh => rfl))
  | ((with_reducible refine' f_bot ?xt ?_ ?xh); (case xt => assumption); (case xh => rfl))
  | ((with_reducible refine' we_prop ?xg ?xr ?_ ?xh); (case xg => assumption); (case xr => walk_at "room"); (case xh => rfl))
  | with_reducible refine we_bin ?_
  | ((with_reducible refine wo_mulW ?xm ?_); (case xm => exact Sm.cm (by assumption) (by assumption)))
  | with_reducible refine wo_add ?_
  | with_reducible refine wo_sub ?_
  | with_reducible refine wo_lt ?_
  | with_reducible refine wo_gt ?_
  | with_reducible refine wo_le ?_
  | with_reducible refine wo_ge ?_
  | with_reducible refine wu_neg ?_
  | ((with_reducible refine we_cmp ?xh ?_); (case xh => exact nomark _))
  | ((with_reducible refine wt_cmp ?xh ?_); (case xh => exact nomark _))
  | ((with_reducible refine wa_cons ?_ ?xh); (case xh => rfl))
  | with_reducible refine wa_nil ?_
  | with_reducible refine we_and ?_
  | with_reducible refine we_or ?_
  | with_reducible refine we_not ?_
  | with_reducible refine wt_not ?_
  | with_reducible refine we_un ?_
  | with_reducible refine we_one ?_
  | with_reducible refine wt_ww (ww_or ?_)
  | with_reducible refine wt_ww (ww_and ?_)
  | with_reducible refine ww_or ?_
  | with_reducible refine ww_and ?_
  | with_reducible refine ww_or1 ?_
  | with_reducible refine ww_and1 ?_
  | with_reducible refine we_ifExp ?_
  | with_reducible refine ws_if ?_
  | with_reducible refine ws_pass ?_
  | with_reducible refine we_tup ?_
  | with_reducible refine we_lst ?_
  | ((with_reducible refine' x_set ?xo ?xa ?xb ?_ ?xs); (case xo => assumption); (case xa => walk_at "at"); (case xb => walk_at "at"); (case xs => rfl))
  | ((with_reducible refine' x_setF ?_ ?xs); (case xs => rfl))
  | ((with_reducible refine' x_call ?xo ?xa ?xg ?xr ?_ ?xe ?xp); (case xo => assumption); (case xa => walk_at "at"); (case xg => assumption); (case xr => walk_at "room"); (case xe => rfl); (case xp => rfl))
  | ((with_reducible refine' x_callB ?xo ?xa ?xg ?xr ?_ ?xe ?xp); (case xo => assumption); (case xr => walk_at "boot"); (case xa => walk_at "at"); (case xg => walk_at "none"); (case xe => rfl); (case xp => rfl))
  | ((with_reducible refine' x_callTy ?xo ?xa ?xg ?xr ?_ ?xe ?xp); (case xo => assumption); (case xr => walk_at "boot"); (case xa => walk_at "at"); (case xg => walk_at "none"); (case xe => rfl); (case xp => rfl))
  | ((with_reducible refine' x_callFn ?xo ?xa ?xg ?_ ?xe ?xp); (case xo => assumption); (case xg => with_reducible exact Txt.mgcd (by assumption)); (case xa => walk_at "at"); (case xe => rfl); (case xp => rfl))
  | ((with_reducible refine' x_bty ?xo ?xa ?xg ?xr ?_); (case xo => assumption); (case xr => walk_at "boot"); (case xa => walk_at "at"); (case xg => walk_at "none"))
  | ((with_reducible refine' x_cls ?xt ?xo ?xa ?_); (case xt => assumption); (case xo => assumption); (case xa => walk_at "at"))
  | ((with_reducible refine' x_make ?xo ?xa ?xg ?xr ?_ ?xe ?xp); (case xo => assumption); (case xa => walk_at "at"); (case xg => assumption); (case xr => walk_at "room"); (case xe => rfl); (case xp => rfl))
  | ((with_reducible refine' x_callG ?xo ?xa ?xg ?xr ?xd ?_ ?xe ?xp); (case xo => assumption); (case xa => walk_at "at"); (case xg => assumption); (case xr => walk_at "room"); (case xd => assumption); (case xe => rfl); (case xp => rfl))
  | with_reducible refine wss_nil ?_
  | refine ⟨_, _, _, _, rfl, (by assumption), ?_⟩
  | refine ⟨_, _, _, rfl, (by assumption), ?_⟩
  | refine wss_cons ?_
  | ((with_reducible refine' wt_val ?_ ?xv); (case xv => intro _; rfl)))
local macro_rules | `(tactic| walk_at "go") => `(tactic| repeat walk_at "n3")
section
variable {P : Program} {w : World} {K : PySem.W.Frag} {mg : Str → Option Value} {base : Heap}
abbrev nRight : List Str := ["_law_rng_here", "_law_pairs", "_law_made", "_law_shown", "_law_number", "_law_second", "_law_one", "_law_first", "_law_other", "_law_more", "_law_told", "_law_whole", "_law_totals", "_law_turn", "_law_top", "_law_bottom", "_law_pair_here"]
abbrev vRight : List Str := ["_law_rng_here", "_law_pairs", "_law_made", "_law_shown", "_law_number", "_law_second", "_law_one", "_law_first", "_law_other", "_law_more", "_law_told", "_law_whole", "_law_totals"]
abbrev lRight : List Str := ["_law_pairs", "_law_made", "_law_shown", "_law_number", "_law_second", "_law_one", "_law_first", "_law_other", "_law_more", "_law_told", "_law_whole", "_law_totals"]
abbrev gRight : List Str := ["range", "repr", "_law_draw", "_law_choice", "all", "zip", "_law_is", "Ratio", "_law_two_right", "_law_lowest"]
theorem scRight : FnScope nRight ["_law_rng_here"] (defScope sRight) := ⟨rfl, rfl, rfl, by decide +kernel, rfl, by decide +kernel, by decide +kernel⟩
theorem okScRight : scopeB nRight (defScope sRight) vRight lRight gRight = true := by decide +kernel
/-- what _law_right calls -/
structure Rg (P : Program) (w : World) (K : PySem.W.Frag) (mg : Str → Option Value) (base : Heap) (C : Addr) : Prop where
  R : Rt P w K mg base C
  lo : GFn P w K mg base "_law_lowest" 2 ["_law_pair_here"] [] pLowest
  dr : GFn P w K mg base "_law_draw" 1 ["_law_rng_here", "_law_many"] [] pDraw
  ch : GFn P w K mg base "_law_choice" 2 ["_law_rng_here", "_law_some"] [] pChoice
  pr : GFn P w K mg base "_law_pair" 3 ["_law_rng_here"] [] pPair
  is : GFg P w K mg base "_law_is" 5 ["_law_one", "_law_pair_here"] [] (pIs C)
  tw : GFg P w K mg base "_law_two_right" 7 ["_law_one", "_law_other", "_law_first", "_law_second"] [] (pTwo C)
  tt : GCm P w K mg base C "total" 6 (preStar 1 (pTotB C))
/-- a Ratio and the pair that it is of -/
def Pr (C : Addr) (L : LH) (x y : V) (t b : Int) : Prop := ∃ o d p, x = .ref o ∧ y = .ref p ∧ Mem o (.ins C d (ratF (nT t b) (nB t b))) L ∧ Mem p (.tup [.int t, .int b]) L ∧ PairOk t b
theorem Pr.sl {C : Addr} {L L' : LH} {x y : V} {t b : Int} (h : Pr C L x y t b) (s : L.Sublist L') : Pr C L' x y t b := by
  obtain ⟨o, d, p, e1, e2, m1, m2, ok⟩ := h
  exact ⟨o, d, p, e1, e2, mem_sl m1 s, mem_sl m2 s, ok⟩
theorem eqv_pair (a b c d : Int) : PyData.eqv (.tuple [.int a, .int b]) (.tuple [.int c, .int d]) = decide (a = c ∧ b = d) := by
  simp only [PyData.eqv, PyData.eqvAll]
  by_cases h1 : a = c <;> by_cases h2 : b = d <;> simp [h1, h2]
def bR (i : Nat) : List Stmt := (defBody sRight).drop i
def StR (r qp qm : Addr) (S : Str) (n s : Int) (σ : L2.St) : Prop := ∃ a b c d e, σ = [some (.ref r), some (.ref qp), some (.ref qm), some (.str S), some (.int n), some (.int s), a, b, c, d, e, none, none, none, none, none, none]
section
variable {X : Cx} {C r qp qm : Addr} {L : LH} {S : Str} {n s : Int} {xs ys : List V} {D : EndsL}
theorem right_for (hX : XOk nRight (defScope sRight) vRight lRight gRight X) (hr : Room 7 X.A) (hgd : X.A.guards = some []) (Q : Rg X.prog X.w X.K X.mg X.base C) (m1 : Mem qm (.lst xs) L) (m2 : Mem qp (.lst ys) L) (hl : xs.length = ys.length)
    (hz : ∀ (i : Nat) (x y : V), xs[i]? = some x → ys[i]? = some y → ∃ t b, Pr C L x y t b) (hn : Sm 100 n) (hs : Sm 100 s) {σ : L2.St} (hσ : StR r qp qm S n s σ) (rest : ∀ σ', StR r qp qm S n s σ' → WSs X (bR 6) σ' L D) : WSs X (bR 5) σ L D := by
  obtain ⟨R, lo, dr, ch, pr, is, tw, tt⟩ := Q
  obtain ⟨T, ops, mk1, _, isI, isN, pt, pb, ps, eq, st, rp, ng, bl, nfI, nfS, nfT, nfC, ne⟩ := R
  obtain ⟨v6, v7, v8, v9, v10, rfl⟩ := hσ
  have zz : X.mg "zip" = none := by walk_at "none"
  have gz := (hX.glo (x := "zip") (.tail (.tail (.tail (.tail (.tail .head)))))).1
  refine wss_cons (ws_forZ hX.calm hX.pas zz ?_ gz)
  walk_at "go"
  refine ⟨qm, qp, xs, ys, rfl, .of m1, .of m2, hl, fun i σ' L' => StR r qp qm S n s σ' ∧ L' = L, ⟨⟨_, _, _, _, _, rfl⟩, rfl⟩, fun i σ' L' h => by obtain ⟨_, rfl⟩ := h; exact ⟨.of m1, .of m2⟩, ?_, ?_⟩
  · rintro i y z T0 σ' L' hy hzz ⟨⟨w6, w7, w8, w9, w10, rfl⟩, rfl⟩
    obtain ⟨t1, b1, o1, d1, p1, rfl, rfl, mo1, mp1, ok1⟩ := hz i _ _ hy hzz
    refine x_tup (by assumption) .head ?_
    refine wgs_cons (x_tgt (by assumption) (by walk_at "at") (by walk_at "at") ?_)
    refine wgs_cons (x_tgt (by assumption) (by walk_at "at") (by walk_at "at") ?_)
    refine wgs_nil ?_
    refine wss_sub (Sub.of_sublist (.cons _ (.refl _))) ?_
    have s1 := ok1.1
    have s2 := ok1.2.1
    refine wss_cons (ws_forZ hX.calm hX.pas zz ?_ gz)
    walk_at "go"
    refine ⟨qm, qp, xs, ys, rfl, .of m1, .of m2, hl, fun i σ' L2 => (∃ c d e, σ' = [some (.ref r), some (.ref qp), some (.ref qm), some (.str S), some (.int n), some (.int s), some (.ref o1), some (.ref p1), c, d, e, none, none, none, none, none, none]) ∧ L2 = L', ⟨⟨_, _, _, rfl⟩, rfl⟩, fun i σ' L2 h => by obtain ⟨_, rfl⟩ := h; exact ⟨.of m1, .of m2⟩, ?_, ?_⟩
    · rintro j y z T1 σ' L2 hy2 hz2 ⟨⟨u8, u9, u10, rfl⟩, rfl⟩
      obtain ⟨t2, b2, o2, d2, p2, rfl, rfl, mo2, mp2, ok2⟩ := hz j _ _ hy2 hz2
      have n1 := ok1.2.2
      have n2 := ok2.2.2
      refine x_tup (by assumption) .head ?_
      refine wgs_cons (x_tgt (by assumption) (by walk_at "at") (by walk_at "at") ?_)
      refine wgs_cons (x_tgt (by assumption) (by walk_at "at") (by walk_at "at") ?_)
      refine wgs_nil ?_
      refine wss_sub (Sub.of_sublist (.cons _ (.refl _))) ?_
      walk_at "go"
      refine ⟨o1, d1, .ref o2, p1, p2, t1, b1, t2, b2, rfl, mo1, .rat mo2, mp1, mp2, ok1.1.mono (by decide), ok1.2.1.mono (by decide), ok2.1.mono (by decide), ok2.2.1.mono (by decide), n1, n2, true, rfl, fun z => Bool.noConfusion z, fun _ => ?_⟩
      walk_at "go"
      refine wo_ownEq eq (by walk_at "room") mo1 (.ins mo2) nfC ⟨o1, d1, _, _, _, rfl, mo1, .inl ⟨o2, d2, _, _, rfl, mo2, ?_⟩⟩
      walk_at "go"
      refine ⟨n1, Nat.lt_of_lt_of_le (Sm.log s2) (by decide), fun q1 => ?_⟩
      walk_at "go"
      refine ⟨p2, t2, b2, rfl, .tail mp2, n2, Nat.lt_of_lt_of_le (Sm.log ok2.2.1) (by decide), fun q2 => ?_⟩
      refine wo_eqD hr.units (fun H hL => .tup (SqT.of (hL.get (.tail .head))) (.cons (.int _) (.cons (.int _) .nil))) (fun H hL => .tup (SqT.of (hL.get .head)) (.cons (.int _) (.cons (.int _) .nil))) rfl rfl ?_
      rw [eqv_pair]
      refine wo_ne rfl ⟨_, rfl, fun z => ?_, fun _ => ?_⟩
      · rw [decide_eq_true rfl] at z
        cases z
      refine wss_nil (wss_nil ⟨_, drop2, ⟨_, _, _, rfl⟩, rfl⟩)
    · rintro σ' L2 ⟨⟨u8, u9, u10, rfl⟩, rfl⟩
      walk_at "go"
      refine ws_forL hX.calm hX.pas ?_
      walk_at "go"
      refine ⟨show 2 ≤ sizeLine from len_line, fun ql => ?_⟩
      refine ⟨ql, _, rfl, .of .head, fun i σ' L3 => (∃ e, σ' = [some (.ref r), some (.ref qp), some (.ref qm), some (.str S), some (.int n), some (.int s), some (.ref o1), some (.ref p1), u8, u9, e, none, none, none, none, none, none]) ∧ L3 = (ql, .lst [.int n, .int s]) :: L2, ⟨⟨_, rfl⟩, rfl⟩, fun i σ' L2 h => by obtain ⟨_, rfl⟩ := h; exact .of .head, ?_, ?_⟩
      · rintro j y σ' L3 hy ⟨⟨e, rfl⟩, rfl⟩
        obtain ⟨m, rfl, sm⟩ : ∃ m, y = .int m ∧ Sm 100 m := by
          match j, hy with
          | 0, h => exact ⟨n, (Option.some.inj h).symm, hn⟩
          | 1, h => exact ⟨s, (Option.some.inj h).symm, hs⟩
        refine x_tgt (by assumption) (by walk_at "at") (by walk_at "at") ?_
        walk_at "go"
        refine ⟨show 2 ≤ sizeLine from len_line, fun p2 => ?_⟩
        walk_at "go"
        refine ⟨o1, d1, .int m, p1, p2, t1, b1, m, 1, rfl, .tail (.tail mo1), by rw [nT_one, nB_one]; exact .int m, .tail (.tail mp1), .head, ok1.1.mono (by decide), ok1.2.1.mono (by decide), sm.mono (by decide), .one, ok1.2.2, by decide, true, rfl, fun z => Bool.noConfusion z, fun _ => ?_⟩
        exact wss_nil (wss_nil ⟨_, Sub.of_sublist (.cons _ (.refl _)), ⟨_, rfl⟩, rfl⟩)
      · rintro σ' L3 ⟨⟨e, rfl⟩, rfl⟩
        exact wss_nil ⟨_, Sub.of_sublist (.cons _ (.refl _)), ⟨_, _, _, _, _, rfl⟩, rfl⟩
  · rintro σ' L' ⟨h, rfl⟩
    exact rest _ h
end
end
end K11

set_option Elab.async false
set_option linter.all false
set_option maxRecDepth 100000
set_option maxHeartbeats 4000000
namespace K11
open PySem L2 N3
local macro_rules | `(tactic| walk_at "at") => `(tactic| with_reducible (repeat (first | exact At.head | apply At.tail)))
local macro_rules | `(tactic| walk_at "mem") => `(tactic| with_reducible (repeat (first | exact Mem.head | apply Mem.tail)))
local macro_rules | `(tactic| walk_at "boot") => `(tactic| with_reducible (first | exact boot_isi | exact boot_max | exact boot_min | exact boot_abs | exact boot_len | exact boot_repr | exact boot_divmod | exact boot_all | exact boot_int | exact boot_bool | exact boot_str))
local macro_rules | `(tactic| walk_at "room") => `(tactic| (first | assumption | exact Room.mono (by assumption) (by decide)))
local macro_rules | `(tactic| walk_at "none") => `(tactic| (refine Txt.bn (by assumption) _ ?xz; (case xz => with_reducible (repeat (first | exact InS.head | apply InS.tail)))))
local macro_rules | `(tactic| walk_at "n3") => `(tactic| first
  | with_reducible refine ws_ret ?_
  | with_reducible refine we_int ?_
  | with_reducible refine we_str ?_
  | with_reducible refine we_bool ?_
  | with_reducible refine we_none ?_
  | ((with_reducible refine' x_name ?xo ?xa ?xb ?xc ?_); (case xo => assumption); (case xa => walk_at "at"); (case xb => walk_at "at"); (case xc => rfl))
  | ((with_reducible refine' f_top ?xt ?_ ?xh); (case xt => assumption); (case xh => rfl))
  | ((with_reducible refine' f_bot ?xt ?_ ?xh); (case xt => assumption); (case xh => rfl))
  | ((with_reducible refine' we_prop ?xg ?xr ?_ ?xh); (case xg => assumption); (case xr => walk_at "room"); (case xh => rfl))
  | with_reducible refine we_bin ?_
  | ((with_reducible refine wo_mulW ?xm ?_); (case xm => exact Sm.cm (by assumption) (by assumption)))
  | with_reducible refine wo_add ?_
  | with_reducible refine wo_sub ?_
  | with_reducible refine wo_lt ?_
  | with_reducible refine wo_gt ?_
  | with_reducible refine wo_le ?_
  | with_reducible refine wo_ge ?_
  | with_reducible refine wu_neg ?_
  | ((with_reducible refine we_cmp ?xh ?_); (case xh => exact nomark _))
  | ((with_reducible refine wt_cmp ?xh ?_); (case xh => exact nomark _))
  | ((with_reducible refine wa_cons ?_ ?xh); (case xh => rfl))
  | with_reducible refine wa_nil ?_
  | with_reducible refine we_and ?_
  | with_reducible refine we_or ?_
  | with_reducible refine we_not ?_
  | with_reducible refine wt_not ?_
  | with_reducible refine we_un ?_
  | with_reducible refine we_one ?_
  | with_reducible refine wt_ww (ww_or ?_)
  | with_reducible refine wt_ww (ww_and ?_)
  | with_reducible refine ww_or ?_
  | with_reducible refine ww_and ?_
  | with_reducible refine ww_or1 ?_
  | with_reducible refine ww_and1 ?_
  | with_reducible refine we_ifExp ?_
  | with_reducible refine ws_if ?_
  | with_reducible refine ws_pass ?_
  | with_reducible refine we_tup ?_
  | with_reducible refine we_lst ?_
  | ((with_reducible refine' x_set ?xo ?xa ?xb ?_ ?xs); (case xo => assumption); (case xa => walk_at "at"); (case xb => walk_at "at"); (case xs => rfl))
  | ((with_reducible refine' x_setF ?_ ?xs); (case xs => rfl))
  | ((with_reducible refine' x_call ?xo ?xa ?xg ?xr ?_ ?xe ?xp); (case xo => assumption); (case xa => walk_at "at"); (case xg => assumption); (case xr => walk_at "room"); (case xe => rfl); (case xp => rfl))
  | ((with_reducible refine' x_callB ?xo ?xa ?xg ?xr ?_ ?xe ?xp); (case xo => assumption); (case xr => walk_at "boot"); (case xa => walk_at "at"); (case xg => walk_at "none"); (case xe => rfl); (case xp => rfl))
  | ((with_reducible refine' x_callTy ?xo ?xa ?xg ?xr ?_ ?xe ?xp); (case xo => assumption); (case xr => walk_at "boot"); (case xa => walk_at "at"); (case xg => walk_at "none"); (case xe => rfl); (case xp => rfl))
  | ((with_reducible refine' x_callFn ?xo ?xa ?xg ?_ ?xe ?xp); (case xo => assumption); (case xg => with_reducible exact Txt.mgcd (by assumption)); (case xa => walk_at "at"); (case xe => rfl); (case xp => rfl))
  | ((with_reducible refine' x_bty ?xo ?xa ?xg ?xr ?_); (case xo => assumption); (case xr => walk_at "boot"); (case xa => walk_at "at"); (case xg => walk_at "none"))
  | ((with_reducible refine' x_cls ?xt ?xo ?xa ?_); (case xt => assumption); (case xo => assumption); (case xa => walk_at "at"))
  | ((with_reducible refine' x_make ?xo ?xa ?xg ?xr ?_ ?xe ?xp); (case xo => assumption); (case xa => walk_at "at"); (case xg => assumption); (case xr => walk_at "room"); (case xe => rfl); (case xp => rfl))
  | ((with_reducible refine' x_callG ?xo ?xa ?xg ?xr ?xd ?_ ?xe ?xp); (case xo => assumption); (case xa => walk_at "at"); (case xg => assumption); (case xr => walk_at "room"); (case xd => assumption); (case xe => rfl); (case xp => rfl))
  | with_reducible refine wss_nil ?_
  | refine ⟨_, _, _, _, rfl, (by assumption), ?_⟩
  | refine ⟨_, _, _, rfl, (by assumption), ?_⟩
  | refine wss_cons ?_
  | ((with_reducible refine' wt_val ?_ ?xv); (case xv => intro _; rfl)))
local macro_rules | `(tactic| walk_at "go") => `(tactic| repeat walk_at "n3")
section
/-! sums -/
def frp (p : Int × Int) : Int × Int := (nT p.1 p.2, nB p.1 p.2)
theorem frp_one (n : Int) : frp (n, 1) = (n, 1) := by unfold frp; rw [nT_one, nB_one]
theorem tAdd_fr {t b s c : Int} (hb : b ≠ 0) (hc : c ≠ 0) : tAdd (frp (t, b)) (frp (s, c)) = frp (t * c + s * b, b * c) := by
  have c1 := cross t b
  have c2 := cross s c
  have e : (nT t b * nB s c + nT s c * nB t b) * (b * c) = (t * c + s * b) * (nB t b * nB s c) := by
    calc (nT t b * nB s c + nT s c * nB t b) * (b * c) = (nT t b * b) * (nB s c * c) + (nT s c * c) * (nB t b * b) := by rw [Int.add_mul]; congr 1 <;> ac_rfl
      _ = (t * nB t b) * (nB s c * c) + (s * nB s c) * (nB t b * b) := by rw [c1, c2]
      _ = (t * c + s * b) * (nB t b * nB s c) := by rw [Int.add_mul]; congr 1 <;> ac_rfl
  obtain ⟨h1, h2⟩ := nm_same (mul_ne (nB_ne hb) (nB_ne hc)) (mul_ne hb hc) e
  exact Prod.ext h1 h2
theorem tAdd_zero {t b : Int} (hb : b ≠ 0) : tAdd (0, 1) (frp (t, b)) = frp (t, b) := by
  have h := tAdd_fr (t := 0) (b := 1) (s := t) (c := b) (by decide) hb
  rw [frp_one] at h
  rw [h, Int.zero_mul, Int.zero_add, Int.mul_one, Int.one_mul]
def P100 (p : Int × Int) : Prop := Sm 100 p.1 ∧ Sm 100 p.2 ∧ p.2 ≠ 0
theorem fold_ok : ∀ (l : List (Int × Int)), (∀ p ∈ l, P100 p) → ∀ (A B : Int) (k : Nat), Sm k A → Sm k B → B ≠ 0 →
    ∃ A' B', (l.map frp).foldl tAdd (frp (A, B)) = frp (A', B') ∧ Sm (k + 101 * l.length) A' ∧ Sm (k + 101 * l.length) B' ∧ B' ≠ 0
  | [], _, A, B, k, h1, h2, h3 => ⟨A, B, rfl, h1, h2, h3⟩
  | (s, c) :: l, h, A, B, k, h1, h2, h3 => by
    obtain ⟨q1, q2, q3⟩ := h (s, c) List.mem_cons_self
    have h4 : Sm (k + 101) (A * c + s * B) := by
      have x1 := h1.mul q2
      have x2 := q1.mul h2
      rw [Nat.add_comm 100 k] at x2
      exact x1.add x2 (Nat.le_refl _)
    have h5 : Sm (k + 101) (B * c) := (h2.mul q2).mono (by omega)
    obtain ⟨A', B', e, r1, r2, r3⟩ := fold_ok l (fun p hp => h p (List.mem_cons_of_mem _ hp)) (A * c + s * B) (B * c) (k + 101) h4 h5 (mul_ne h3 q3)
    refine ⟨A', B', ?_, r1.mono (by simp; omega), r2.mono (by simp; omega), r3⟩
    rw [List.map_cons, List.foldl_cons, tAdd_fr h3 q3]
    exact e
theorem tot_ok (l : List (Int × Int)) (h : ∀ p ∈ l, P100 p) (hl : l.length ≤ 8) : OkQ (tot (l.map frp)) := by
  obtain ⟨A', B', e, r1, r2, r3⟩ := fold_ok l h 0 1 1 (by decide : (0 : Int).natAbs < 2 ^ 1) (by decide : (1 : Int).natAbs < 2 ^ 1) (by decide)
  unfold tot
  rw [frp_one] at e
  rw [e]
  have b : 1 + 101 * l.length ≤ 1000 := by omega
  exact ⟨(r1.mono b).nT r3, (r2.mono b).nB r3, nB_ne r3⟩
theorem tot_oks (l : List (Int × Int)) (h : ∀ p ∈ l, P100 p) (hl : l.length ≤ 8) (i : Nat) : OkQ (tot ((l.map frp).take i)) := by
  rw [← List.map_take]
  exact tot_ok _ (fun p hp => h p (List.mem_of_mem_take hp)) (Nat.le_trans (by rw [List.length_take]; omega) hl)
theorem tot4 {x0 x1 x2 : Int × Int} {n : Int} (h0 : P100 x0) : tot ([x0, x1, x2, (n, 1)].map frp) = tAdd (tAdd (tAdd (frp x0) (frp x1)) (frp x2)) (n, 1) := by
  show tAdd (tAdd (tAdd (tAdd (0, 1) (frp x0)) (frp x1)) (frp x2)) (frp (n, 1)) = _
  rw [frp_one, tAdd_zero (t := x0.1) (b := x0.2) h0.2.2]
theorem tot4' {x0 x1 x2 : Int × Int} {n : Int} (h0 : P100 x0) (h1 : P100 x1) (h2 : P100 x2) : tot ([(n, 1), x2, x1, x0].map frp) = tAdd (tAdd (tAdd (frp x0) (frp x1)) (frp x2)) (n, 1) := by
  obtain ⟨t0, b0⟩ := x0
  obtain ⟨t1, b1⟩ := x1
  obtain ⟨t2, b2⟩ := x2
  have z0 := h0.2.2
  have z1 := h1.2.2
  have z2 := h2.2.2
  dsimp only at z0 z1 z2
  have o : (1 : Int) ≠ 0 := by decide
  show tAdd (tAdd (tAdd (tAdd (0, 1) (frp (n, 1))) (frp (t2, b2))) (frp (t1, b1))) (frp (t0, b0)) = _
  have en : tAdd (tAdd (tAdd (frp (t0, b0)) (frp (t1, b1))) (frp (t2, b2))) (n, 1) = tAdd (tAdd (tAdd (frp (t0, b0)) (frp (t1, b1))) (frp (t2, b2))) (frp (n, 1)) := by rw [frp_one]
  rw [en, tAdd_zero o, tAdd_fr o z2, tAdd_fr (mul_ne o z2) z1, tAdd_fr (mul_ne (mul_ne o z2) z1) z0, tAdd_fr z0 z1, tAdd_fr (mul_ne z0 z1) z2, tAdd_fr (mul_ne (mul_ne z0 z1) z2) o]
  unfold frp
  dsimp only
  obtain ⟨e1, e2⟩ := nm_same (t := ((n * b2 + t2 * 1) * b1 + t1 * (1 * b2)) * b0 + t0 * (1 * b2 * b1)) (b := 1 * b2 * b1 * b0) (s := ((t0 * b1 + t1 * b0) * b2 + t2 * (b0 * b1)) * 1 + n * (b0 * b1 * b2)) (c := b0 * b1 * b2 * 1) (mul_ne (mul_ne (mul_ne o z2) z1) z0) (mul_ne (mul_ne (mul_ne z0 z1) z2) o) (by grind)
  rw [e1, e2]
theorem tot2 {s n : Int} : tot ([(s, 1), (n, 1)].map frp) = (s + n, 1) := by
  show tAdd (tAdd (0, 1) (frp (s, 1))) (frp (n, 1)) = _
  rw [tAdd_zero (by decide), tAdd_fr (by decide) (by decide), Int.mul_one, Int.mul_one, Int.mul_one, frp_one]
theorem tot1 {x : Int × Int} (h : P100 x) : tot ([x].map frp) = frp x := tAdd_zero (t := x.1) (b := x.2) h.2.2
end
end K11

set_option Elab.async false
set_option linter.all false
set_option maxRecDepth 100000
set_option maxHeartbeats 4000000
namespace K11
open PySem L2 N3
local macro_rules | `(tactic| walk_at "at") => `(tactic| with_reducible (repeat (first | exact At.head | apply At.tail)))
local macro_rules | `(tactic| walk_at "mem") => `(tactic| with_reducible (repeat (first | exact Mem.head | apply Mem.tail)))
local macro_rules | `(tactic| walk_at "boot") => `(tactic| with_reducible (first | exact boot_isi | exact boot_max | exact boot_min | exact boot_abs | exact boot_len | exact boot_repr | exact boot_divmod | exact boot_all | exact boot_int | exact boot_bool | exact boot_str))
local macro_rules | `(tactic| walk_at "room") => `(tactic| (first | assumption | exact Room.mono (by assumption) (by decide)))
local macro_rules | `(tactic| walk_at "none") => `(tactic| (refine Txt.bn (by assumption) _ ?xz; (case xz => with_reducible (repeat (first | exact InS.head | apply InS.tail)))))
local macro_rules | `(tactic| walk_at "n3") => `(tactic| first
  | with_reducible refine ws_ret ?_
  | with_reducible refine we_int ?_
  | with_reducible refine we_str ?_
  | with_reducible refine we_bool ?_
  | with_reducible refine we_none ?_
  | ((with_reducible refine' x_name ?xo ?xa ?xb ?xc ?_); (case xo => assumption); (case xa => walk_at "at"); (case xb => walk_at "at"); (case xc => rfl))
  | ((with_reducible refine' f_top ?xt ?_ ?xh); (case xt => assumption); (case xh => rfl))
  | ((with_reducible refine' f_bot ?xt ?_ ?xh); (case xt => assumption); (case xh => rfl))
  | ((with_reducible refine' we_prop ?xg ?xr ?_ ?xh); (case xg => assumption); (case xr => walk_at "room"); (case xh => rfl))
  | with_reducible refine we_bin ?_
  | ((with_reducible refine wo_mulW ?xm ?_); (case xm => exact Sm.cm (by assumption) (by assumption)))
  | with_reducible refine wo_add ?_
  | with_reducible refine wo_sub ?_
  | with_reducible refine wo_lt ?_
  | with_reducible refine wo_gt ?_
  | with_reducible refine wo_le ?_
  | with_reducible refine wo_ge ?_
  | with_reducible refine wu_neg ?_
  | ((with_reducible refine we_cmp ?xh ?_); (case xh => exact nomark _))
  | ((with_reducible refine wt_cmp ?xh ?_); (case xh => exact nomark _))
  | ((with_reducible refine wa_cons ?_ ?xh); (case xh => rfl))
  | with_reducible refine wa_nil ?_
  | with_reducible refine we_and ?_
  | with_reducible refine we_or ?_
  | with_reducible refine we_not ?_
  | with_reducible refine wt_not ?_
  | with_reducible refine we_un ?_
  | with_reducible refine we_one ?_
  | with_reducible refine wt_ww (ww_or ?_)
  | with_reducible refine wt_ww (ww_and ?_)
  | with_reducible refine ww_or ?_
  | with_reducible refine ww_and ?_
  | with_reducible refine ww_or1 ?_
  | with_reducible refine ww_and1 ?_
  | with_reducible refine we_ifExp ?_
  | with_reducible refine ws_if ?_
  | with_reducible refine ws_pass ?_
  | with_reducible refine we_tup ?_
  | with_reducible refine we_lst ?_
  | ((with_reducible refine' x_set ?xo ?xa ?xb ?_ ?xs); (case xo => assumption); (case xa => walk_at "at"); (case xb => walk_at "at"); (case xs => rfl))
  | ((with_reducible refine' x_setF ?_ ?xs); (case xs => rfl))
  | ((with_reducible refine' x_call ?xo ?xa ?xg ?xr ?_ ?xe ?xp); (case xo => assumption); (case xa => walk_at "at"); (case xg => assumption); (case xr => walk_at "room"); (case xe => rfl); (case xp => rfl))
  | ((with_reducible refine' x_callB ?xo ?xa ?xg ?xr ?_ ?xe ?xp); (case xo => assumption); (case xr => walk_at "boot"); (case xa => walk_at "at"); (case xg => walk_at "none"); (case xe => rfl); (case xp => rfl))
  | ((with_reducible refine' x_callTy ?xo ?xa ?xg ?xr ?_ ?xe ?xp); (case xo => assumption); (case xr => walk_at "boot"); (case xa => walk_at "at"); (case xg => walk_at "none"); (case xe => rfl); (case xp => rfl))
  | ((with_reducible refine' x_callFn ?xo ?xa ?xg ?_ ?xe ?xp); (case xo => assumption); (case xg => with_reducible exact Txt.mgcd (by assumption)); (case xa => walk_at "at"); (case xe => rfl); (case xp => rfl))
  | ((with_reducible refine' x_bty ?xo ?xa ?xg ?xr ?_); (case xo => assumption); (case xr => walk_at "boot"); (case xa => walk_at "at"); (case xg => walk_at "none"))
  | ((with_reducible refine' x_cls ?xt ?xo ?xa ?_); (case xt => assumption); (case xo => assumption); (case xa => walk_at "at"))
  | ((with_reducible refine' x_make ?xo ?xa ?xg ?xr ?_ ?xe ?xp); (case xo => assumption); (case xa => walk_at "at"); (case xg => assumption); (case xr => walk_at "room"); (case xe => rfl); (case xp => rfl))
  | ((with_reducible refine' x_callG ?xo ?xa ?xg ?xr ?xd ?_ ?xe ?xp); (case xo => assumption); (case xa => walk_at "at"); (case xg => assumption); (case xr => walk_at "room"); (case xd => assumption); (case xe => rfl); (case xp => rfl))
  | with_reducible refine wss_nil ?_
  | refine ⟨_, _, _, _, rfl, (by assumption), ?_⟩
  | refine ⟨_, _, _, rfl, (by assumption), ?_⟩
  | refine wss_cons ?_
  | ((with_reducible refine' wt_val ?_ ?xv); (case xv => intro _; rfl)))
local macro_rules | `(tactic| walk_at "go") => `(tactic| repeat walk_at "n3")
section
variable {X : Cx} {C r qp qm : Addr} {L : LH} {S : Str} {n s : Int} {D : EndsL}
theorem drop1 {p : Addr × HO} {L : LH} : Sub (p :: L) L := Sub.of_sublist (.cons _ (.refl _))
theorem we_sub' {e : Expr} {σ : L2.St} {L L' : LH} {K : V → LH → Prop} (s : Sub L L') (h : N3.WE X e σ L' K) : N3.WE X e σ L K := fun H hL => h H (s H hL)
def shown3 (x0 x1 x2 : Int × Int) : Str := listText [rrep (frp x0).1 (frp x0).2, rrep (frp x1).1 (frp x1).2, rrep (frp x2).1 (frp x2).2]
theorem P100.frp_ok {x : Int × Int} (h : P100 x) : OkQ (frp x) := ⟨(h.1.nT h.2.2).mono (by decide), (h.2.1.nB h.2.2).mono (by decide), nB_ne h.2.2⟩
theorem P100.lg {x : Int × Int} (h : P100 x) : (frp x).1.natAbs.log2 < 1920 ∧ (frp x).2.natAbs.log2 < 1920 := ⟨(h.1.nT h.2.2).lg, (h.2.1.nB h.2.2).lg⟩
theorem P100.int {n : Int} (h : Sm 100 n) : P100 (n, 1) := ⟨h, .one, show (1 : Int) ≠ 0 by decide⟩
theorem we_made {K : V → LH → Prop} {xs : List V} {σ : L2.St} {i : Int} {v : V} {j : Nat} {p1 p2 p3 : Pos} (hX : XOk nRight (defScope sRight) vRight lRight gRight X) (hσ : σ[2]? = some (some (.ref qm))) (m : Mem qm (.lst xs) L) (hv : atI xs i = some v) (k : K v L) :
    N3.WE X (.Subscript (.Name "_law_made" p1) (.Constant (.int i) j p2) p3) σ L K :=
  we_ixL (x_name hX (.tail (.tail .head)) (.tail (.tail .head)) hσ (we_int ⟨qm, xs, i, v, rfl, rfl, .of m, hv, k⟩))
theorem paired_map {rest : List V} {l : List (Int × Int)} {L' : LH} (s : L.Sublist L') (h : Paired (fun v p => NumL C L v (frp p).1 (frp p).2 ∧ P100 p) rest l) : Paired (fun v p => NumL C L' v p.1 p.2 ∧ OkQ p) rest (l.map frp) := by
  induction h with
  | nil => exact .nil
  | cons r _ ih => exact .cons ⟨r.1.sl s, r.2.frp_ok⟩ ih
theorem paired_all {rest : List V} {l : List (Int × Int)} (h : Paired (fun v p => NumL C L v (frp p).1 (frp p).2 ∧ P100 p) rest l) : ∀ p ∈ l, P100 p := by
  induction h with
  | nil => exact fun p hp => (List.not_mem_nil hp).elim
  | cons r _ ih =>
    intro p hp
    rcases List.mem_cons.mp hp with rfl | hp
    · exact r.2
    · exact ih p hp
theorem tot_call {rest : List V} {l : List (Int × Int)} {Kk : V → LH → Prop} (hp : Paired (fun v p => NumL C L v (frp p).1 (frp p).2 ∧ P100 p) rest l) (hl : l.length ≤ 8)
    (k : ∀ q p dx, Kk (.ref p) ((p, .ins C dx (ratF (tot (l.map frp)).1 (tot (l.map frp)).2)) :: (q, .tup rest) :: L)) : preStar 1 (pTotB C) (.ref C :: rest) L Kk := by
  refine ⟨[.ref C], rest, rfl, rfl, ?_, fun q => ⟨q, rest, l.map frp, rfl, .head, paired_map (.cons _ (.refl _)) hp, tot_oks l (paired_all hp) hl, k q⟩⟩
  have h1 := paired_len hp
  have h2 : 8 ≤ sizeLine := len_line
  omega
theorem num_one {n : Int} (hn : Sm 100 n) : NumL C L (.int n) (frp (n, 1)).1 (frp (n, 1)).2 ∧ P100 (n, 1) := by
  rw [frp_one]
  exact ⟨.int n, .int hn⟩
theorem right_end (hX : XOk nRight (defScope sRight) vRight lRight gRight X) (hr : Room 7 X.A) (hgd : X.A.guards = some []) (Q : Rg X.prog X.w X.K X.mg X.base C) {o0 o1 o2 d0 d1 d2 : Addr} {x0 x1 x2 : Int × Int} (m : Mem qm (.lst [.ref o0, .ref o1, .ref o2]) L)
    (m0 : Mem o0 (.ins C d0 (ratF (frp x0).1 (frp x0).2)) L) (m1 : Mem o1 (.ins C d1 (ratF (frp x1).1 (frp x1).2)) L) (m2 : Mem o2 (.ins C d2 (ratF (frp x2).1 (frp x2).2)) L) (h0 : P100 x0) (h1 : P100 x1) (h2 : P100 x2) (hn : Sm 100 n) (hs : Sm 100 s)
    {σ : L2.St} (hσ : StR r qp qm (shown3 x0 x1 x2) n s σ) {Kk : V → LH → Prop} (k : Kk (.bl true) L) : WSs X (bR 6) σ L (EndOf Kk) := by
  obtain ⟨R, lo, dr, ch, pr, is, tw, tt⟩ := Q
  obtain ⟨T, ops, mk1, _, isI, isN, pt, pb, ps, eq, st, rp, ng, bl, nfI, nfS, nfT, nfC, ne⟩ := R
  rename_i mk
  clear mk
  obtain ⟨v6, v7, v8, v9, v10, rfl⟩ := hσ
  have sq : SqLL X.K qm [.ref o0, .ref o1, .ref o2] L := .of m
  have w1 : OkQ (tAdd (frp x0) (frp x1)) := by
    have := tot_ok [x0, x1] (fun p hp => by simp at hp; rcases hp with rfl | rfl <;> assumption) (by show 2 ≤ 8; decide)
    rw [show tot ([x0, x1].map frp) = tAdd (tAdd (0, 1) (frp x0)) (frp x1) from rfl, tAdd_zero (t := x0.1) (b := x0.2) h0.2.2] at this
    exact this
  have w2 : OkQ (tAdd (tAdd (frp x0) (frp x1)) (frp x2)) := by
    have := tot_ok [x0, x1, x2] (fun p hp => by simp at hp; rcases hp with rfl | rfl | rfl <;> assumption) (by show 3 ≤ 8; decide)
    rw [show tot ([x0, x1, x2].map frp) = tAdd (tAdd (tAdd (0, 1) (frp x0)) (frp x1)) (frp x2) from rfl, tAdd_zero (t := x0.1) (b := x0.2) h0.2.2] at this
    exact this
  have on : OkQ (n, 1) := ⟨hn.mono (by decide), .one, show (1 : Int) ≠ 0 by decide⟩
  walk_at "go"
  refine we_ixL ?_
  walk_at "go"
  refine ⟨qm, _, 0, _, rfl, rfl, sq, rfl, ?_⟩
  show N3.WE X _ _ _ _
  refine we_ixL ?_
  walk_at "go"
  refine ⟨qm, _, 1, _, rfl, rfl, sq, rfl, ?_⟩
  refine wo_addR ops (by walk_at "room") m0 (.rat m1) h0.frp_ok h1.frp_ok fun p dp => ?_
  show N3.WE X _ _ _ _
  refine we_ixL ?_
  walk_at "go"
  refine ⟨qm, _, 2, _, rfl, rfl, .of (.tail m), rfl, ?_⟩
  refine wo_addR ops (by walk_at "room") .head (.rat (.tail m2)) w1 h2.frp_ok fun p' dp' => ?_
  walk_at "go"
  refine wo_addR ops (by walk_at "room") .head (.int n) w2 on fun pw dw => ?_
  show WSs X _ _ _ _
  refine wss_sub (L' := (pw, .ins C dw (ratF (tAdd (tAdd (tAdd (frp x0) (frp x1)) (frp x2)) (n, 1)).1 (tAdd (tAdd (tAdd (frp x0) (frp x1)) (frp x2)) (n, 1)).2)) :: L) (Sub.of_sublist (.cons₂ _ (.cons _ (.cons _ (.refl _))))) ?_
  have t4 := tot4 (x1 := x1) (x2 := x2) (n := n) h0
  have t4' := tot4' (n := n) h0 h1 h2
  generalize tAdd (tAdd (tAdd (frp x0) (frp x1)) (frp x2)) (n, 1) = W at *
  walk_at "go"
  refine we_cmeth tt (by walk_at "room") ?_
  walk_at "go"
  refine ⟨rfl, ?_⟩
  walk_at "go"
  refine we_made hX rfl (.tail m) rfl ?_
  walk_at "go"
  refine we_made hX rfl (.tail m) rfl ?_
  walk_at "go"
  refine we_made hX rfl (.tail m) rfl ?_
  walk_at "go"
  refine tot_call (l := [x0, x1, x2, (n, 1)]) (.cons ⟨.rat (.tail m0), h0⟩ (.cons ⟨.rat (.tail m1), h1⟩ (.cons ⟨.rat (.tail m2), h2⟩ (.cons (num_one hn) .nil)))) (by show 4 ≤ 8; decide) fun q p dx => ?_
  rw [t4]
  show WA X _ _ _ _
  walk_at "go"
  refine we_cmeth tt (by walk_at "room") ?_
  walk_at "go"
  refine ⟨rfl, ?_⟩
  walk_at "go"
  refine we_made hX rfl (.tail (.tail (.tail m))) rfl ?_
  walk_at "go"
  refine we_made hX rfl (.tail (.tail (.tail m))) rfl ?_
  walk_at "go"
  refine we_made hX rfl (.tail (.tail (.tail m))) rfl ?_
  walk_at "go"
  refine tot_call (l := [(n, 1), x2, x1, x0]) (.cons (num_one hn) (.cons ⟨.rat (.tail (.tail (.tail m2))), h2⟩ (.cons ⟨.rat (.tail (.tail (.tail m1))), h1⟩ (.cons ⟨.rat (.tail (.tail (.tail m0))), h0⟩ .nil)))) (by show 4 ≤ 8; decide) fun q2 p2 dx2 => ?_
  rw [t4']
  walk_at "go"
  refine ⟨show 2 ≤ sizeLine from len_line, fun qt => ?_⟩
  walk_at "go"
  refine ⟨show 2 ≤ sizeLine from len_line, fun ql => ?_⟩
  refine wo_neLG eq (by walk_at "room") (.tail .head) .head rfl ?_ ⟨_, rfl, fun _ => ?_, fun z => Bool.noConfusion z⟩
  · intro i x y hx hy
    match i, hx, hy with
    | 0, hx, hy =>
      cases hx
      cases hy
      refine ⟨p, pw, dx, dw, _, _, rfl, rfl, .tail (.tail (.tail (.tail .head))), .tail (.tail (.tail (.tail (.tail (.tail .head))))), p, dx, _, _, _, rfl, .tail (.tail (.tail (.tail .head))), .inl ⟨pw, dw, _, _, rfl, .tail (.tail (.tail (.tail (.tail (.tail .head))))), ?_, rfl⟩⟩
      rw [decide_eq_true ⟨rfl, rfl⟩]
    | 1, hx, hy =>
      cases hx
      cases hy
      refine ⟨p2, pw, dx2, dw, _, _, rfl, rfl, .tail (.tail .head), .tail (.tail (.tail (.tail (.tail (.tail .head))))), p2, dx2, _, _, _, rfl, .tail (.tail .head), .inl ⟨pw, dw, _, _, rfl, .tail (.tail (.tail (.tail (.tail (.tail .head))))), ?_, rfl⟩⟩
      rw [decide_eq_true ⟨rfl, rfl⟩]
  refine ww_sub (L' := L) (Sub.of_sublist (.cons _ (.cons _ (.cons _ (.cons _ (.cons _ (.cons _ (.cons _ (.refl _))))))))) ?_
  walk_at "go"
  refine we_cmeth0 tt (by walk_at "room") ?_
  walk_at "go"
  refine ⟨rfl, tot_call (l := []) .nil (by show 0 ≤ 8; decide) fun q3 p3 dx3 => ?_⟩
  walk_at "go"
  intro o3 do3
  refine ⟨o3, do3, 0, 1, _, rfl, rfl, by decide, by decide, rfl, ?_⟩
  rw [nT_one, nB_one]
  refine wo_ownNe eq (by walk_at "room") (.tail .head) (.ins .head) nfC ne T.cm ⟨p3, dx3, _, _, _, rfl, .tail .head, .inl ⟨o3, do3, _, _, rfl, .head, ?_⟩⟩
  rw [show (tot (([] : List (Int × Int)).map frp)).1 = 0 from rfl, show (tot (([] : List (Int × Int)).map frp)).2 = 1 from rfl, decide_eq_true ⟨rfl, rfl⟩]
  refine ⟨true, rfl, false, rfl, fun _ => ?_, fun z => Bool.noConfusion z⟩
  refine ww_sub (L' := L) (Sub.of_sublist (.cons _ (.cons _ (.cons _ (.refl _))))) ?_
  walk_at "go"
  refine we_cmeth tt (by walk_at "room") ?_
  walk_at "go"
  refine ⟨rfl, ?_⟩
  walk_at "go"
  refine we_made hX rfl m rfl ?_
  walk_at "go"
  refine tot_call (l := [x1]) (.cons ⟨.rat m1, h1⟩ .nil) (by show 1 ≤ 8; decide) fun q4 p4 dx4 => ?_
  rw [tot1 h1]
  refine we_made hX rfl (.tail (.tail m)) rfl ?_
  refine wo_ownNe eq (by walk_at "room") .head (.ins (.tail (.tail m1))) nfC ne T.cm ⟨p4, dx4, _, _, _, rfl, .head, .inl ⟨o1, d1, _, _, rfl, .tail (.tail m1), ?_⟩⟩
  rw [decide_eq_true ⟨rfl, rfl⟩]
  refine ⟨true, rfl, false, rfl, fun z => Bool.noConfusion z, fun _ => ?_⟩
  refine wss_nil (wss_sub drop2 ?_)
  walk_at "go"
  refine wc_reprL (ts := [rrep (frp x0).1 (frp x0).2, rrep (frp x1).1 (frp x1).2, rrep (frp x2).1 (frp x2).2]) rp (by walk_at "room") hgd m (by show 0 < 3; decide) ⟨rfl, ?_⟩ ?_ ?_
  · intro i x hx
    match i, hx with
    | 0, hx => cases hx; exact ⟨o0, d0, _, _, rfl, m0, rfl, fun p => ⟨o0, d0, _, _, rfl, .tail m0, h0.lg.1, h0.lg.2, rfl, rfl⟩⟩
    | 1, hx => cases hx; exact ⟨o1, d1, _, _, rfl, m1, rfl, fun p => ⟨o1, d1, _, _, rfl, .tail m1, h1.lg.1, h1.lg.2, rfl, rfl⟩⟩
    | 2, hx => cases hx; exact ⟨o2, d2, _, _, rfl, m2, rfl, fun p => ⟨o2, d2, _, _, rfl, .tail m2, h2.lg.1, h2.lg.2, rfl, rfl⟩⟩
  · have a0 := rrep_len h0.lg.1 h0.lg.2
    have a1 := rrep_len h1.lg.1 h1.lg.2
    have a2 := rrep_len h2.lg.1 h2.lg.2
    refine Nat.le_trans (listText_len_le _) (Nat.le_trans ?_ line_more)
    simp only [List.map_cons, List.map_nil, List.sum_cons, List.sum_nil, List.length_cons, List.length_nil]
    omega
  walk_at "go"
  refine wo_eq rfl ⟨_, rfl, fun _ => ?_, fun z => ?_⟩
  · walk_at "go"
    refine we_cmeth tt (by walk_at "room") ?_
    walk_at "go"
    refine ⟨rfl, ?_⟩
    walk_at "go"
    refine tot_call (l := [(s, 1), (n, 1)]) (.cons (num_one hs) (.cons (num_one hn) .nil)) (by show 2 ≤ 8; decide) fun q5 p5 dx5 => ?_
    rw [tot2]
    walk_at "go"
    intro o5 do5
    refine ⟨o5, do5, s + n, 1, _, rfl, rfl, by decide, by decide, rfl, ?_⟩
    rw [nT_one, nB_one]
    refine wo_ownEq eq (by walk_at "room") (.tail .head) (.ins .head) nfC ⟨p5, dx5, _, _, _, rfl, .tail .head, .inl ⟨o5, do5, _, _, rfl, .head, ?_⟩⟩
    rw [decide_eq_true ⟨rfl, rfl⟩]
    exact ret_sub k (Sub.of_sublist (.cons _ (.cons _ (.cons _ (.refl _)))))
  · exact absurd rfl (of_decide_eq_false z)
end
end K11

set_option Elab.async false
set_option linter.all false
set_option maxRecDepth 100000
set_option maxHeartbeats 4000000
namespace K11
open PySem L2 N3
local macro_rules | `(tactic| walk_at "at") => `(tactic| with_reducible (repeat (first | exact At.head | apply At.tail)))
local macro_rules | `(tactic| walk_at "mem") => `(tactic| with_reducible (repeat (first | exact Mem.head | apply Mem.tail)))
local macro_rules | `(tactic| walk_at "boot") => `(tactic| with_reducible (first | exact boot_isi | exact boot_max | exact boot_min | exact boot_abs | exact boot_len | exact boot_repr | exact boot_divmod | exact boot_all | exact boot_int | exact boot_bool | exact boot_str))
local macro_rules | `(tactic| walk_at "room") => `(tactic| (first | assumption | exact Room.mono (by assumption) (by decide)))
local macro_rules | `(tactic| walk_at "none") => `(tactic| (refine Txt.bn (by assumption) _ ?xz; (case xz => with_reducible (repeat (first | exact InS.head | apply InS.tail)))))
local macro_rules | `(tactic| walk_at "n3") => `(tactic| first
  | with_reducible refine ws_ret ?_
  | with_reducible refine we_int ?_
  | with_reducible refine we_str ?_
  | with_reducible refine we_bool ?_
  | with_reducible refine we_none ?_
  | ((with_reducible refine' x_name ?xo ?xa ?xb ?xc ?_); (case xo => assumption); (case xa => walk_at "at"); (case xb => walk_at "at"); (case xc => rfl))
  | ((with_reducible refine' f_top ?xt ?_ ?xh); (case xt => assumption); (case xh => rfl))
  | ((with_reducible refine' f_bot ?xt ?_ ?xh); (case xt => assumption); (case xh => rfl))
  | ((with_reducible refine' we_prop ?xg ?xr ?_ ?xh); (case xg => assumption); (case xr => walk_at "room"); (case xh => rfl))
  | with_reducible refine we_bin ?_
  | ((with_reducible refine wo_mulW ?xm ?_); (case xm => exact Sm.cm (by assumption) (by assumption)))
  | with_reducible refine wo_add ?_
  | with_reducible refine wo_sub ?_
  | with_reducible refine wo_lt ?_
  | with_reducible refine wo_gt ?_
  | with_reducible refine wo_le ?_
  | with_reducible refine wo_ge ?_
  | with_reducible refine wu_neg ?_
  | ((with_reducible refine we_cmp ?xh ?_); (case xh => exact nomark _))
  | ((with_reducible refine wt_cmp ?xh ?_); (case xh => exact nomark _))
  | ((with_reducible refine wa_cons ?_ ?xh); (case xh => rfl))
  | with_reducible refine wa_nil ?_
  | with_reducible refine we_and ?_
  | with_reducible refine we_or ?_
  | with_reducible refine we_not ?_
  | with_reducible refine wt_not ?_
  | with_reducible refine we_un ?_
  | with_reducible refine we_one ?_
  | with_reducible refine wt_ww (ww_or ?_)
  | with_reducible refine wt_ww (ww_and ?_)
  | with_reducible refine ww_or ?_
  | with_reducible refine ww_and ?_
  | with_reducible refine ww_or1 ?_
  | with_reducible refine ww_and1 ?_
  | with_reducible refine we_ifExp ?_
  | with_reducible refine ws_if ?_
  | with_reducible refine ws_pass ?_
  | with_reducible refine we_tup ?_
  | with_reducible refine we_lst ?_
  | ((with_reducible refine' x_set ?xo ?xa ?xb ?_ ?xs); (case xo => assumption); (case xa => walk_at "at"); (case xb => walk_at "at"); (case xs => rfl))
  | ((with_reducible refine' x_setF ?_ ?xs); (case xs => rfl))
  | ((with_reducible refine' x_call ?xo ?xa ?xg ?xr ?_ ?xe ?xp); (case xo => assumption); (case xa => walk_at "at"); (case xg => assumption); (case xr => walk_at "room"); (case xe => rfl); (case xp => rfl))
  | ((with_reducible refine' x_callB ?xo ?xa ?xg ?xr ?_ ?xe ?xp); (case xo => assumption); (case xr => walk_at "boot"); (case xa => walk_at "at"); (case xg => walk_at "none"); (case xe => rfl); (case xp => rfl))
  | ((with_reducible refine' x_callTy ?xo ?xa ?xg ?xr ?_ ?xe ?xp); (case xo => assumption); (case xr => walk_at "boot"); (case xa => walk_at "at"); (case xg => walk_at "none"); (case xe => rfl); (case xp => rfl))
  | ((with_reducible refine' x_callFn ?xo ?xa ?xg ?_ ?xe ?xp); (case xo => assumption); (case xg => with_reducible exact Txt.mgcd (by assumption)); (case xa => walk_at "at"); (case xe => rfl); (case xp => rfl))
  | ((with_reducible refine' x_bty ?xo ?xa ?xg ?xr ?_); (case xo => assumption); (case xr => walk_at "boot"); (case xa => walk_at "at"); (case xg => walk_at "none"))
  | ((with_reducible refine' x_cls ?xt ?xo ?xa ?_); (case xt => assumption); (case xo => assumption); (case xa => walk_at "at"))
  | ((with_reducible refine' x_make ?xo ?xa ?xg ?xr ?_ ?xe ?xp); (case xo => assumption); (case xa => walk_at "at"); (case xg => assumption); (case xr => walk_at "room"); (case xe => rfl); (case xp => rfl))
  | ((with_reducible refine' x_callG ?xo ?xa ?xg ?xr ?xd ?_ ?xe ?xp); (case xo => assumption); (case xa => walk_at "at"); (case xg => assumption); (case xr => walk_at "room"); (case xd => assumption); (case xe => rfl); (case xp => rfl))
  | with_reducible refine wss_nil ?_
  | refine ⟨_, _, _, _, rfl, (by assumption), ?_⟩
  | refine ⟨_, _, _, rfl, (by assumption), ?_⟩
  | refine wss_cons ?_
  | ((with_reducible refine' wt_val ?_ ?xv); (case xv => intro _; rfl)))
local macro_rules | `(tactic| walk_at "go") => `(tactic| repeat walk_at "n3")
section
variable {X : Cx} {C r : Addr} {L : LH}
abbrev Tr := Addr × Int × Int
abbrev tupO (q : Tr) : Addr × HO := (q.1, .tup [.int q.2.1, .int q.2.2])
abbrev tupR (q : Tr) : V := .ref q.1
/-- the instances of pairs -/
abbrev insO (C : Addr) (o : Addr × Addr) (q : Tr) : Addr × HO := (o.1, .ins C o.2 (ratF (nT q.2.1 q.2.2) (nB q.2.1 q.2.2)))
def insts (C : Addr) (os : List (Addr × Addr)) (ps : List Tr) : LH := List.zipWith (insO C) os ps
theorem insts_snoc {os : List (Addr × Addr)} {ps : List Tr} {o : Addr × Addr} {q : Tr} (h : os.length = ps.length) : insts C (os ++ [o]) (ps ++ [q]) = insts C os ps ++ [insO C o q] := by
  unfold insts
  rw [List.zipWith_append h]
  rfl
theorem len3 {α : Type} {l : List α} (h : l.length = 3) : ∃ a b c, l = [a, b, c] := by
  match l, h with
  | [a, b, c], _ => exact ⟨a, b, c, rfl⟩
theorem right_check (hX : XOk nRight (defScope sRight) vRight lRight gRight X) (hr : Room 7 X.A) (hgd : X.A.guards = some []) (Q : Rg X.prog X.w X.K X.mg X.base C) {qp qm : Addr} {S : Str} {n s : Int} {xs ys : List V} {D : EndsL}
    (m1 : Mem qm (.lst xs) L) (m2 : Mem qp (.lst ys) L) (hl : xs.length = ys.length) (hl3 : xs.length < 1000) (hz : ∀ (i : Nat) (x y : V), xs[i]? = some x → ys[i]? = some y → ∃ t b, Pr C L x y t b) (hn : Sm 100 n)
    {σ : L2.St} (hσ : σ = [some (.ref r), some (.ref qp), some (.ref qm), some (.str S), some (.int n), some (.int s), none, none, none, none, none, none, none, none, none, none, none]) (rest : WSs X (bR 5) σ L D) : WSs X (bR 4) σ L D := by
  obtain ⟨R, lo, dr, ch, pr, is, tw, tt⟩ := Q
  obtain ⟨T, ops, mk1, _, isI, isN, pt, pb, ps, eq, st, rp, ng, bl, nfI, nfS, nfT, nfC, ne⟩ := R
  rename_i mk
  clear mk
  subst hσ
  have zz : X.mg "zip" = none := by walk_at "none"
  walk_at "go"
  refine x_lcZ [("_law_one", 6), ("_law_pair_here", 16)] hX (by walk_at "at") zz (by decide +kernel) ?_
  walk_at "go"
  refine ⟨qm, qp, xs, ys, rfl, .of m1, .of m2, hl, fun D => ⟨fun i L' => L' = (D, .lst (List.replicate i (.bl true))) :: L, rfl, ?_, ?_, ?_⟩⟩
  · rintro i L' rfl
    exact ⟨.of (.tail m1), .of (.tail m2)⟩
  · rintro i y z T0 L' hy hzz rfl
    intro s H' Ca cl fp
    have hlt : i < xs.length := by
      rcases Nat.lt_or_ge i xs.length with h | h
      · exact h
      · rw [List.getElem?_eq_none h] at hy
        cases hy
    obtain ⟨t1, b1, o1, d1, p1, rfl, rfl, mo1, mp1, ok1⟩ := hz i _ _ hy hzz
    have hB := hX.blk (Vb := ["_law_one", "_law_pair_here"]) (Lb := ["_law_one", "_law_pair_here"]) (Gb := ["_law_is"]) (scope := ⟨.function, [(".0", .local), ("_law_one", .local), ("_law_pair_here", .local), ("_law_is", .globalImplicit)], false, false, []⟩) (by decide +kernel)
    refine x_tup (hB s H' Ca cl fp) .head ?_
    refine wgs_cons (x_tgt (hB s H' Ca cl fp) (by walk_at "at") (by walk_at "at") ?_)
    refine wgs_cons (x_tgt (hB s H' Ca cl fp) (by walk_at "at") (by walk_at "at") ?_)
    refine wgs_nil ⟨rfl, fun s H' Ca cl fp => ?_⟩
    have hX' := hB s H' Ca cl fp
    refine x_callG hX' (by walk_at "at") is (by exact hr.mono (by decide)) hgd ?_
    walk_at "go"
    refine ⟨o1, d1, p1, t1, b1, rfl, .tail (.tail mo1), .tail (.tail mp1), ok1.2.2, ok1.1.mono (by decide), ok1.2.1.mono (by decide), ?_⟩
    refine ⟨_, _, .tail .head, ?_, _, Sub.of_sublist (.cons _ (.refl _)), ?_⟩
    · rw [List.length_replicate]
      have : 1000 ≤ sizeLine := len_line (by decide)
      omega
    · show _ = _
      rw [List.replicate_succ']
  · rintro L' rfl
    walk_at "go"
    refine wc_all (bs := List.replicate xs.length true) hX.calm ?_ ?_
    · rw [List.map_replicate]
      exact .of .head
    rw [show (List.replicate xs.length true).all id = true by simp]
    refine ⟨true, rfl, fun _ => ?_, fun z => Bool.noConfusion z⟩
    refine ww_sub (L' := L) (Sub.of_sublist (.cons _ (.refl _))) ?_
    walk_at "go"
    intro o dx
    refine ⟨o, dx, n, 1, _, rfl, rfl, by decide, by decide, rfl, ?_⟩
    rw [nT_one, nB_one]
    walk_at "go"
    refine ⟨show 2 ≤ sizeLine from len_line, fun p2 => ?_⟩
    walk_at "go"
    refine ⟨o, dx, p2, n, 1, rfl, .tail (by rw [nT_one, nB_one]; exact .head), .head, by decide, hn.mono (by decide), .one, true, rfl, fun z => Bool.noConfusion z, fun _ => ?_⟩
    exact wss_nil (wss_sub drop2 rest)
/-- what stays whatever the draws leave -/
theorem right_mid (hX : XOk nRight (defScope sRight) vRight lRight gRight X) (hr : Room 7 X.A) (hgd : X.A.guards = some []) (Q : Rg X.prog X.w X.K X.mg X.base C) {qp qm : Addr} {F : HO → LH} {a b : Int} (hh : ∀ a b, Hole r (rl a b) (F (rl a b)) F)
    {q0 q1 q2 : Tr} {o0 o1 o2 : Addr × Addr} (mp : ∀ o, Mem qp (.lst [tupR q0, tupR q1, tupR q2]) (F o)) (mm : ∀ o, Mem qm (.lst [.ref o0.1, .ref o1.1, .ref o2.1]) (F o))
    (t0 : ∀ o, Mem (tupO q0).1 (tupO q0).2 (F o)) (t1 : ∀ o, Mem (tupO q1).1 (tupO q1).2 (F o)) (t2 : ∀ o, Mem (tupO q2).1 (tupO q2).2 (F o))
    (i0 : ∀ o, Mem (insO C o0 q0).1 (insO C o0 q0).2 (F o)) (i1 : ∀ o, Mem (insO C o1 q1).1 (insO C o1 q1).2 (F o)) (i2 : ∀ o, Mem (insO C o2 q2).1 (insO C o2 q2).2 (F o))
    (k0 : PairOk q0.2.1 q0.2.2) (k1 : PairOk q1.2.1 q1.2.2) (k2 : PairOk q2.2.1 q2.2.2)
    {σ : L2.St} (hσ : σ = [some (.ref r), some (.ref qp), some (.ref qm), none, none, none, none, none, none, none, none, none, none, none, none, none, none]) {Kk : V → LH → Prop} (k : ∀ a' b', Kk (.bl true) (F (rl a' b'))) : WSs X (bR 2) σ (F (rl a b)) (EndOf Kk) := by
  have Q0 := Q
  obtain ⟨R, lo, dr, ch, pr, is, tw, tt⟩ := Q
  obtain ⟨T, ops, mk1, mk, isI, isN, pt, pb, ps, eq, st, rp, ng, bl, nfI, nfS, nfT, nfC, ne⟩ := R
  subst hσ
  have h0 : P100 q0.2 := k0
  have h1 : P100 q1.2 := k1
  have h2 : P100 q2.2 := k2
  walk_at "go"
  refine wc_reprL (ts := [rrep (frp q0.2).1 (frp q0.2).2, rrep (frp q1.2).1 (frp q1.2).2, rrep (frp q2.2).1 (frp q2.2).2]) rp (by walk_at "room") hgd (mm _) (by show 0 < 3; decide) ⟨rfl, ?_⟩ ?_ ?_
  · intro i x hx
    match i, hx with
    | 0, hx => cases hx; exact ⟨_, _, _, _, rfl, i0 _, rfl, fun p => ⟨_, _, _, _, rfl, .tail (i0 _), h0.lg.1, h0.lg.2, rfl, rfl⟩⟩
    | 1, hx => cases hx; exact ⟨_, _, _, _, rfl, i1 _, rfl, fun p => ⟨_, _, _, _, rfl, .tail (i1 _), h1.lg.1, h1.lg.2, rfl, rfl⟩⟩
    | 2, hx => cases hx; exact ⟨_, _, _, _, rfl, i2 _, rfl, fun p => ⟨_, _, _, _, rfl, .tail (i2 _), h2.lg.1, h2.lg.2, rfl, rfl⟩⟩
  · have a0 := rrep_len h0.lg.1 h0.lg.2
    have a1 := rrep_len h1.lg.1 h1.lg.2
    have a2 := rrep_len h2.lg.1 h2.lg.2
    refine Nat.le_trans (listText_len_le _) (Nat.le_trans ?_ line_more)
    simp only [List.map_cons, List.map_nil, List.sum_cons, List.sum_nil, List.length_cons, List.length_nil]
    omega
  refine wss_cons (x_par (by assumption) (by walk_at "at") (by walk_at "at") (by walk_at "at") (by walk_at "at") (by decide) ?_)
  walk_at "go"
  refine ⟨r, 31, a, b, F, rfl, hh a b, by decide, by decide, fun d a1 b1 d0 d1 => ?_⟩
  walk_at "go"
  refine wo_pow ⟨by decide, by decide, by decide⟩ ?_
  walk_at "go"
  refine ⟨show 4 ≤ sizeLine from len_line, fun p => ?_⟩
  walk_at "go"
  refine ⟨r, p, [0, 1, -1, 10 ^ (20 : Int).toNat], a1, b1, _, rfl, .tail (hh a1 b1), fun o => .head, by decide, by decide, fun x a2 b2 hx => ?_⟩
  have px : Sm 100 x := by
    have all : ∀ x ∈ ([0, 1, -1, 10 ^ (20 : Int).toNat] : List Int), x.natAbs < 2 ^ 100 := by decide +kernel
    exact all x hx
  have pn : Sm 100 (d - 15) := by
    show (d - 15).natAbs < 2 ^ 100
    omega
  refine wss_sub (L' := F (rl a2 b2)) (Sub.of_sublist (.cons _ (.refl _))) ?_
  have hz : ∀ (i : Nat) (x y : V), ([.ref o0.1, .ref o1.1, .ref o2.1] : List V)[i]? = some x → ([tupR q0, tupR q1, tupR q2] : List V)[i]? = some y → ∃ t b, Pr C (F (rl a2 b2)) x y t b := by
    intro i x y hx hy
    match i, hx, hy with
    | 0, hx, hy => cases hx; cases hy; exact ⟨_, _, _, _, _, rfl, rfl, i0 _, t0 _, k0⟩
    | 1, hx, hy => cases hx; cases hy; exact ⟨_, _, _, _, _, rfl, rfl, i1 _, t1 _, k1⟩
    | 2, hx, hy => cases hx; cases hy; exact ⟨_, _, _, _, _, rfl, rfl, i2 _, t2 _, k2⟩
  refine right_check hX hr hgd Q0 (mm _) (mp _) rfl (by show 3 < 1000; decide) hz pn rfl ?_
  refine right_for hX hr hgd Q0 (mm _) (mp _) rfl hz pn px ⟨_, _, _, _, _, rfl⟩ fun σ' hσ' => ?_
  exact right_end hX hr hgd Q0 (mm _) (i0 _) (i1 _) (i2 _) h0 h1 h2 pn px hσ' (k a2 b2)
end
end K11

set_option Elab.async false
set_option linter.all false
set_option maxRecDepth 100000
set_option maxHeartbeats 4000000
namespace K11
open PySem L2 N3
local macro_rules | `(tactic| walk_at "at") => `(tactic| with_reducible (repeat (first | exact At.head | apply At.tail)))
local macro_rules | `(tactic| walk_at "mem") => `(tactic| with_reducible (repeat (first | exact Mem.head | apply Mem.tail)))
local macro_rules | `(tactic| walk_at "boot") => `(tactic| with_reducible (first | exact boot_isi | exact boot_max | exact boot_min | exact boot_abs | exact boot_len | exact boot_repr | exact boot_divmod | exact boot_all | exact boot_int | exact boot_bool | exact boot_str))
local macro_rules | `(tactic| walk_at "room") => `(tactic| (first | assumption | exact Room.mono (by assumption) (by decide)))
local macro_rules | `(tactic| walk_at "none") => `(tactic| (refine Txt.bn (by assumption) _ ?xz; (case xz => with_reducible (repeat (first | exact InS.head | apply InS.tail)))))
local macro_rules | `(tactic| walk_at "n3") => `(tactic| first
  | with_reducible refine ws_ret ?_
  | with_reducible refine we_int ?_
  | with_reducible refine we_str ?_
  | with_reducible refine we_bool ?_
  | with_reducible refine we_none ?_
  | ((with_reducible refine' x_name ?xo ?xa ?xb ?xc ?_); (case xo => assumption); (case xa => walk_at "at"); (case xb => walk_at "at"); (case xc => rfl))
  | ((with_reducible refine' f_top ?xt ?_ ?xh); (case xt => assumption); (case xh => rfl))
  | ((with_reducible refine' f_bot ?xt ?_ ?xh); (case xt => assumption); (case xh => rfl))
  | ((with_reducible refine' we_prop ?xg ?xr ?_ ?xh); (case xg => assumption); (case xr => walk_at "room"); (case xh => rfl))
  | with_reducible refine we_bin ?_
  | ((with_reducible refine wo_mulW ?xm ?_); (case xm => exact Sm.cm (by assumption) (by assumption)))
  | with_reducible refine wo_add ?_
  | with_reducible refine wo_sub ?_
  | with_reducible refine wo_lt ?_
  | with_reducible refine wo_gt ?_
  | with_reducible refine wo_le ?_
  | with_reducible refine wo_ge ?_
  | with_reducible refine wu_neg ?_
  | ((with_reducible refine we_cmp ?xh ?_); (case xh => exact nomark _))
  | ((with_reducible refine wt_cmp ?xh ?_); (case xh => exact nomark _))
  | ((with_reducible refine wa_cons ?_ ?xh); (case xh => rfl))
  | with_reducible refine wa_nil ?_
  | with_reducible refine we_and ?_
  | with_reducible refine we_or ?_
  | with_reducible refine we_not ?_
  | with_reducible refine wt_not ?_
  | with_reducible refine we_un ?_
  | with_reducible refine we_one ?_
  | with_reducible refine wt_ww (ww_or ?_)
  | with_reducible refine wt_ww (ww_and ?_)
  | with_reducible refine ww_or ?_
  | with_reducible refine ww_and ?_
  | with_reducible refine ww_or1 ?_
  | with_reducible refine ww_and1 ?_
  | with_reducible refine we_ifExp ?_
  | with_reducible refine ws_if ?_
  | with_reducible refine ws_pass ?_
  | with_reducible refine we_tup ?_
  | with_reducible refine we_lst ?_
  | ((with_reducible refine' x_set ?xo ?xa ?xb ?_ ?xs); (case xo => assumption); (case xa => walk_at "at"); (case xb => walk_at "at"); (case xs => rfl))
  | ((with_reducible refine' x_setF ?_ ?xs); (case xs => rfl))
  | ((with_reducible refine' x_call ?xo ?xa ?xg ?xr ?_ ?xe ?xp); (case xo => assumption); (case xa => walk_at "at"); (case xg => assumption); (case xr => walk_at "room"); (case xe => rfl); (case xp => rfl))
  | ((with_reducible refine' x_callB ?xo ?xa ?xg ?xr ?_ ?xe ?xp); (case xo => assumption); (case xr => walk_at "boot"); (case xa => walk_at "at"); (case xg => walk_at "none"); (case xe => rfl); (case xp => rfl))
  | ((with_reducible refine' x_callTy ?xo ?xa ?xg ?xr ?_ ?xe ?xp); (case xo => assumption); (case xr => walk_at "boot"); (case xa => walk_at "at"); (case xg => walk_at "none"); (case xe => rfl); (case xp => rfl))
  | ((with_reducible refine' x_callFn ?xo ?xa ?xg ?_ ?xe ?xp); (case xo => assumption); (case xg => with_reducible exact Txt.mgcd (by assumption)); (case xa => walk_at "at"); (case xe => rfl); (case xp => rfl))
  | ((with_reducible refine' x_bty ?xo ?xa ?xg ?xr ?_); (case xo => assumption); (case xr => walk_at "boot"); (case xa => walk_at "at"); (case xg => walk_at "none"))
  | ((with_reducible refine' x_cls ?xt ?xo ?xa ?_); (case xt => assumption); (case xo => assumption); (case xa => walk_at "at"))
  | ((with_reducible refine' x_make ?xo ?xa ?xg ?xr ?_ ?xe ?xp); (case xo => assumption); (case xa => walk_at "at"); (case xg => assumption); (case xr => walk_at "room"); (case xe => rfl); (case xp => rfl))
  | ((with_reducible refine' x_callG ?xo ?xa ?xg ?xr ?xd ?_ ?xe ?xp); (case xo => assumption); (case xa => walk_at "at"); (case xg => assumption); (case xr => walk_at "room"); (case xd => assumption); (case xe => rfl); (case xp => rfl))
  | with_reducible refine wss_nil ?_
  | refine ⟨_, _, _, _, rfl, (by assumption), ?_⟩
  | refine ⟨_, _, _, rfl, (by assumption), ?_⟩
  | refine wss_cons ?_
  | ((with_reducible refine' wt_val ?_ ?xv); (case xv => intro _; rfl)))
local macro_rules | `(tactic| walk_at "go") => `(tactic| repeat walk_at "n3")
section
variable {X : Cx} {C r : Addr} {L : LH}
theorem right_made (hX : XOk nRight (defScope sRight) vRight lRight gRight X) (hr : Room 7 X.A) (hgd : X.A.guards = some []) (Q : Rg X.prog X.w X.K X.mg X.base C) {qp : Addr} {F : HO → LH} {a b : Int} (hh : ∀ a b, Hole r (rl a b) (F (rl a b)) F)
    {q0 q1 q2 : Tr} (mp : ∀ o, Mem qp (.lst [tupR q0, tupR q1, tupR q2]) (F o))
    (t0 : ∀ o, Mem (tupO q0).1 (tupO q0).2 (F o)) (t1 : ∀ o, Mem (tupO q1).1 (tupO q1).2 (F o)) (t2 : ∀ o, Mem (tupO q2).1 (tupO q2).2 (F o))
    (k0 : PairOk q0.2.1 q0.2.2) (k1 : PairOk q1.2.1 q1.2.2) (k2 : PairOk q2.2.1 q2.2.2)
    {σ : L2.St} (hσ : σ = [some (.ref r), some (.ref qp), none, none, none, none, none, none, none, none, none, none, none, none, none, none, none]) {Kk : V → LH → Prop} (k : ∀ L' a' b', (F (rl a' b')).Sublist L' → Kk (.bl true) L') : WSs X (bR 1) σ (F (rl a b)) (EndOf Kk) := by
  have Q0 := Q
  obtain ⟨R, lo, dr, ch, pr, is, tw, tt⟩ := Q
  obtain ⟨T, ops, mk1, mk, isI, isN, pt, pb, ps, eq, st, rp, ng, bl, nfI, nfS, nfT, nfC, ne⟩ := R
  subst hσ
  refine wss_cons (x_setLcL [("_law_top", 14), ("_law_bottom", 15)] hX (by walk_at "at") (by walk_at "at") (by decide +kernel) rfl (by decide +kernel) rfl ?_)
  walk_at "go"
  refine ⟨qp, _, rfl, .of (mp _), fun D => ⟨fun i L' => ∃ os : List (Addr × Addr), os.length = i ∧ L' = (insts C os ([q0, q1, q2].take i)).reverse ++ (D, .lst (os.map fun o => .ref o.1)) :: F (rl a b), ⟨[], rfl, rfl⟩, ?_, ?_, ?_⟩⟩
  · rintro i L' ⟨os, hl, rfl⟩
    exact .of (mem_sl (.tail (mp _)) (List.sublist_append_right _ _))
  · rintro i y L' hy ⟨os, hl, rfl⟩
    intro s H' Ca cl fp
    obtain ⟨q, hq, rfl, mt, ok⟩ : ∃ q, [q0, q1, q2][i]? = some q ∧ y = tupR q ∧ (∀ o, Mem (tupO q).1 (tupO q).2 (F o)) ∧ PairOk q.2.1 q.2.2 := by
      match i, hy with
      | 0, hy => cases hy; exact ⟨q0, rfl, rfl, t0, k0⟩
      | 1, hy => cases hy; exact ⟨q1, rfl, rfl, t1, k1⟩
      | 2, hy => cases hy; exact ⟨q2, rfl, rfl, t2, k2⟩
    have hi3 : i < 3 := by
      rcases Nat.lt_or_ge i 3 with h | h
      · exact h
      · rw [List.getElem?_eq_none h] at hq
        cases hq
    have hB := hX.blk (Vb := ["_law_top", "_law_bottom"]) (Lb := ["_law_top", "_law_bottom"]) (Gb := ["Ratio"]) (scope := ⟨.function, [(".0", .local), ("_law_top", .local), ("_law_bottom", .local), ("Ratio", .globalImplicit)], false, false, []⟩) (by decide +kernel)
    have mt' : Mem (tupO q).1 (tupO q).2 ((insts C os ([q0, q1, q2].take i)).reverse ++ (D, .lst (os.map fun o => .ref o.1)) :: F (rl a b)) := mem_sl (.tail (mt _)) (List.sublist_append_right _ _)
    refine x_tup (hB s H' Ca cl fp) mt' ?_
    refine wgs_cons (x_tgt (hB s H' Ca cl fp) (by walk_at "at") (by walk_at "at") ?_)
    refine wgs_cons (x_tgt (hB s H' Ca cl fp) (by walk_at "at") (by walk_at "at") ?_)
    refine wgs_nil ⟨rfl, fun s H' Ca cl fp => ?_⟩
    have hX' := hB s H' Ca cl fp
    refine x_make hX' (by walk_at "at") mk (by exact hr.mono (by decide)) ?_
    walk_at "go"
    intro o dx
    refine ⟨o, dx, _, _, _, rfl, rfl, ok.2.2, Nat.lt_of_lt_of_le (Sm.log ok.2.1) (by decide), rfl, ?_⟩
    refine ⟨_, _, .tail (Hole.head.app _), ?_, _, Sub.refl _, os ++ [(o, dx)], by rw [List.length_append, hl]; rfl, ?_⟩
    · rw [List.length_map]
      have : 1000 ≤ sizeLine := len_line (by decide)
      omega
    · rw [take_succ hq, insts_snoc (by rw [hl, List.length_take]; simp; omega), List.reverse_append, List.map_append]
      rfl
  · rintro L' ⟨os, hl, rfl⟩
    obtain ⟨o0, o1, o2, rfl⟩ := len3 hl
    show WSs X _ _ _ _
    exact right_mid hX hr hgd Q0 (F := fun o => [insO C o2 q2, insO C o1 q1, insO C o0 q0, (D, .lst [.ref o0.1, .ref o1.1, .ref o2.1])] ++ F o) (fun a b => (hh a b).app _) (fun o => .tail (.tail (.tail (.tail (mp o))))) (fun o => .tail (.tail (.tail .head)))
      (fun o => .tail (.tail (.tail (.tail (t0 o))))) (fun o => .tail (.tail (.tail (.tail (t1 o))))) (fun o => .tail (.tail (.tail (.tail (t2 o))))) (fun o => .tail (.tail .head)) (fun o => .tail .head) (fun o => .head) k0 k1 k2 rfl
      fun a' b' => k _ a' b' (.cons _ (.cons _ (.cons _ (.cons _ (.refl _)))))
theorem right_start (hX : XOk nRight (defScope sRight) vRight lRight gRight X) (hr : Room 7 X.A) (hgd : X.A.guards = some []) (Q : Rg X.prog X.w X.K X.mg X.base C) {a b : Int} {F : HO → LH} (hh : Hole r (rl a b) L F)
    {σ : L2.St} (hσ : σ = [some (.ref r), none, none, none, none, none, none, none, none, none, none, none, none, none, none, none, none]) {Kk : V → LH → Prop} (k : ∀ L' a' b', (F (rl a' b')).Sublist L' → Kk (.bl true) L') : WSs X (bR 0) σ L (EndOf Kk) := by
  have Q0 := Q
  obtain ⟨R, lo, dr, ch, pr, is, tw, tt⟩ := Q
  obtain ⟨T, ops, mk1, mk, isI, isN, pt, pb, ps, eq, st, rp, ng, bl, nfI, nfS, nfT, nfC, ne⟩ := R
  subst hσ
  have zz : X.mg "zip" = none := by walk_at "none"
  have zr : X.mg "range" = none := by walk_at "none"
  refine wss_cons (x_setLcR [("_law_turn", 13)] hX (by walk_at "at") (by walk_at "at") (by walk_at "at") zr (by decide +kernel) rfl (by decide +kernel) rfl ?_)
  walk_at "go"
  refine ⟨3, rfl, by decide, by decide, fun D => ⟨fun i L' => ∃ (qs : List Tr) (a' b' : Int), qs.length = i ∧ (∀ q ∈ qs, PairOk q.2.1 q.2.2) ∧ L' = qs.reverse.map tupO ++ (D, .lst (qs.map tupR)) :: F (rl a' b'), ?_, ?_, ?_⟩⟩
  · refine ⟨[], a, b, rfl, (fun q hq => (List.not_mem_nil hq).elim), ?_⟩
    rw [hh.self]
    rfl
  · rintro i L' hi ⟨qs, a1, b1, hl, hq, rfl⟩
    intro s H' Ca cl fp
    have hB := hX.blk (Vb := ["_law_turn", "_law_rng_here"]) (Lb := ["_law_turn"]) (Gb := ["_law_pair"]) (scope := ⟨.function, [(".0", .local), ("_law_turn", .local), ("_law_pair", .globalImplicit), ("_law_rng_here", .free)], false, false, []⟩) (by decide +kernel)
    refine x_tgt (hB s H' Ca cl fp) (by walk_at "at") (by walk_at "at") ⟨rfl, fun s H' Ca cl fp => ?_⟩
    have hX' := hB s H' Ca cl fp
    refine x_call hX' (by walk_at "at") pr (by exact hr.mono (by decide)) ?_
    walk_at "go"
    refine ⟨r, a1, b1, _, rfl, (Hole.tail (hh.again (rl a1 b1))).app (qs.reverse.map tupO), fun p t c a2 b2 ok => ?_⟩
    refine ⟨_, _, .tail (Hole.head.app (qs.reverse.map tupO)), ?_, _, Sub.refl _, qs ++ [(p, t, c)], a2, b2, by rw [List.length_append, hl]; rfl, ?_, ?_⟩
    · rw [List.length_map]
      have : 1000 ≤ sizeLine := len_line (by decide)
      have hi3 : i < 3 := hi
      omega
    · intro q hm
      rcases List.mem_append.mp hm with h | h
      · exact hq q h
      · rw [List.mem_singleton.mp h]
        exact ok
    · rw [List.reverse_append, List.map_append, List.map_append]
      rfl
  · rintro L' ⟨qs, a1, b1, hl, hq, rfl⟩
    obtain ⟨q0, q1, q2, rfl⟩ := len3 hl
    have k0 := hq q0 (by simp)
    have k1 := hq q1 (by simp)
    have k2 := hq q2 (by simp)
    clear hq hl
    show WSs X _ _ _ _
    exact right_made hX hr hgd Q0 (F := fun o => [q0, q1, q2].reverse.map tupO ++ (D, .lst ([q0, q1, q2].map tupR)) :: F o) (q0 := q0) (q1 := q1) (q2 := q2) (qp := D) (fun a b => (Hole.tail (hh.again (rl a b))).app ([q0, q1, q2].reverse.map tupO))
      (fun o => .tail (.tail (.tail .head))) (fun o => .tail (.tail .head)) (fun o => .tail .head) (fun o => .head) k0 k1 k2 rfl fun L' a' b' sl => k L' a' b' ((List.Sublist.cons _ (.cons _ (.cons _ (.cons _ (.refl _))))).trans sl)
end
end K11

set_option Elab.async false
set_option linter.all false
set_option maxRecDepth 100000
set_option maxHeartbeats 4000000
namespace K11
open PySem L2 N3
local macro_rules | `(tactic| walk_at "at") => `(tactic| with_reducible (repeat (first | exact At.head | apply At.tail)))
local macro_rules | `(tactic| walk_at "mem") => `(tactic| with_reducible (repeat (first | exact Mem.head | apply Mem.tail)))
local macro_rules | `(tactic| walk_at "boot") => `(tactic| with_reducible (first | exact boot_isi | exact boot_max | exact boot_min | exact boot_abs | exact boot_len | exact boot_repr | exact boot_divmod | exact boot_all | exact boot_int | exact boot_bool | exact boot_str))
local macro_rules | `(tactic| walk_at "room") => `(tactic| (first | assumption | exact Room.mono (by assumption) (by decide)))
local macro_rules | `(tactic| walk_at "none") => `(tactic| (refine Txt.bn (by assumption) _ ?xz; (case xz => with_reducible (repeat (first | exact InS.head | apply InS.tail)))))
local macro_rules | `(tactic| walk_at "n3") => `(tactic| first
  | with_reducible refine ws_ret ?_
  | with_reducible refine we_int ?_
  | with_reducible refine we_str ?_
  | with_reducible refine we_bool ?_
  | with_reducible refine we_none ?_
  | ((with_reducible refine' x_name ?xo ?xa ?xb ?xc ?_); (case xo => assumption); (case xa => walk_at "at"); (case xb => walk_at "at"); (case xc => rfl))
  | ((with_reducible refine' f_top ?xt ?_ ?xh); (case xt => assumption); (case xh => rfl))
  | ((with_reducible refine' f_bot ?xt ?_ ?xh); (case xt => assumption); (case xh => rfl))
  | ((with_reducible refine' we_prop ?xg ?xr ?_ ?xh); (case xg => assumption); (case xr => walk_at "room"); (case xh => rfl))
  | with_reducible refine we_bin ?_
  | ((with_reducible refine wo_mulW ?xm ?_); (case xm => exact Sm.cm (by assumption) (by assumption)))
  | with_reducible refine wo_add ?_
  | with_reducible refine wo_sub ?_
  | with_reducible refine wo_lt ?_
  | with_reducible refine wo_gt ?_
  | with_reducible refine wo_le ?_
  | with_reducible refine wo_ge ?_
  | with_reducible refine wu_neg ?_
  | ((with_reducible refine we_cmp ?xh ?_); (case xh => exact nomark _))
  | ((with_reducible refine wt_cmp ?xh ?_); (case xh => exact nomark _))
  | ((with_reducible refine wa_cons ?_ ?xh); (case xh => rfl))
  | with_reducible refine wa_nil ?_
  | with_reducible refine we_and ?_
  | with_reducible refine we_or ?_
  | with_reducible refine we_not ?_
  | with_reducible refine wt_not ?_
  | with_reducible refine we_un ?_
  | with_reducible refine we_one ?_
  | with_reducible refine wt_ww (ww_or ?_)
  | with_reducible refine wt_ww (ww_and ?_)
  | with_reducible refine ww_or ?_
  | with_reducible refine ww_and ?_
  | with_reducible refine ww_or1 ?_
  | with_reducible refine ww_and1 ?_
  | with_reducible refine we_ifExp ?_
  | with_reducible refine ws_if ?_
  | with_reducible refine ws_pass ?_
  | with_reducible refine we_tup ?_
  | with_reducible refine we_lst ?_
  | ((with_reducible refine' x_set ?xo ?xa ?xb ?_ ?xs); (case xo => assumption); (case xa => walk_at "at"); (case xb => walk_at "at"); (case xs => rfl))
  | ((with_reducible refine' x_setF ?_ ?xs); (case xs => rfl))
  | ((with_reducible refine' x_call ?xo ?xa ?xg ?xr ?_ ?xe ?xp); (case xo => assumption); (case xa => walk_at "at"); (case xg => assumption); (case xr => walk_at "room"); (case xe => rfl); (case xp => rfl))
  | ((with_reducible refine' x_callB ?xo ?xa ?xg ?xr ?_ ?xe ?xp); (case xo => assumption); (case xr => walk_at "boot"); (case xa => walk_at "at"); (case xg => walk_at "none"); (case xe => rfl); (case xp => rfl))
  | ((with_reducible refine' x_callTy ?xo ?xa ?xg ?xr ?_ ?xe ?xp); (case xo => assumption); (case xr => walk_at "boot"); (case xa => walk_at "at"); (case xg => walk_at "none"); (case xe => rfl); (case xp => rfl))
  | ((with_reducible refine' x_callFn ?xo ?xa ?xg ?_ ?xe ?xp); (case xo => assumption); (case xg => with_reducible exact Txt.mgcd (by assumption)); (case xa => walk_at "at"); (case xe => rfl); (case xp => rfl))
  | ((with_reducible refine' x_bty ?xo ?xa ?xg ?xr ?_); (case xo => assumption); (case xr => walk_at "boot"); (case xa => walk_at "at"); (case xg => walk_at "none"))
  | ((with_reducible refine' x_cls ?xt ?xo ?xa ?_); (case xt => assumption); (case xo => assumption); (case xa => walk_at "at"))
  | ((with_reducible refine' x_make ?xo ?xa ?xg ?xr ?_ ?xe ?xp); (case xo => assumption); (case xa => walk_at "at"); (case xg => assumption); (case xr => walk_at "room"); (case xe => rfl); (case xp => rfl))
  | ((with_reducible refine' x_callG ?xo ?xa ?xg ?xr ?xd ?_ ?xe ?xp); (case xo => assumption); (case xa => walk_at "at"); (case xg => assumption); (case xr => walk_at "room"); (case xd => assumption); (case xe => rfl); (case xp => rfl))
  | with_reducible refine wss_nil ?_
  | refine ⟨_, _, _, _, rfl, (by assumption), ?_⟩
  | refine ⟨_, _, _, rfl, (by assumption), ?_⟩
  | refine wss_cons ?_
  | ((with_reducible refine' wt_val ?_ ?xv); (case xv => intro _; rfl)))
local macro_rules | `(tactic| walk_at "go") => `(tactic| repeat walk_at "n3")
section
variable {P : Program} {w : World} {K : PySem.W.Frag} {mg : Str → Option Value} {base : Heap}
theorem wss_end {X : Cx} {sts : List Stmt} {σ : L2.St} {L : LH} {Kk : V → LH → Prop} (h : WSs X sts σ L (EndOf fun v L' => ∃ L2, Sub L' L2 ∧ Kk v L2)) : WSs X sts σ L (EndOf Kk) := fun H hL =>
  (h H hL).mono ⟨fun _ _ ⟨L1, h1, L2, s2, L3, s3, q⟩ => ⟨L1, h1, L3, s2.trans s3, q⟩, fun _ _ ⟨L1, h1, L2, s2, L3, s3, q⟩ => ⟨L1, h1, L3, s2.trans s3, q⟩, fun _ _ q => q, fun _ _ q => q⟩
/-! _law_right -/
def pRight : Pre := fun vs L Kk => ∃ r a b F, vs = [.ref r] ∧ Hole r (rl a b) L F ∧ ∀ a' b', Kk (.bl true) (F (rl a' b'))
theorem okRight {f C : Addr} {fd : FuncData} (F : Fun K "_law_right" "_law_right" sRight f fd) (Q : Rg P w K mg base C) : FnG P w K mg base 8 f fd ["_law_rng_here"] pRight := by
  refine fnXGC (Vn := vRight) (Ln := lRight) (Gn := gRight) F scRight okScRight (fun vs L Kk h => ?_) (fun X e1 e2 e3 e4 e5 hX hr hgd vs L Kk h => ?_)
  · obtain ⟨r, a, b, G, rfl, _⟩ := h
    rfl
  · subst e1 e2 e3 e4 e5
    obtain ⟨r, a, b, G, rfl, hh, k⟩ := h
    exact wss_end (right_start hX hr hgd Q hh rfl fun L' a' b' sl => ⟨_, Sub.of_sublist sl, k a' b'⟩)
/-! law -/
def pLaw (K : PySem.W.Frag) : Pre := fun vs L Kk => ∃ (a : Addr) (ns : List Int), vs = [.ref a] ∧ ScriptOf K a ns L ∧ ns.length ≤ 63 ∧ Kk (.bl true) L
theorem scLaw : FnScope ["_law_script", "_law_k", "_law_rng_here", "_law_turn"] ["_law_script"] (defScope sLaw) := ⟨rfl, rfl, rfl, by decide +kernel, rfl, by decide +kernel, by decide +kernel⟩
theorem script_sq {K : PySem.W.Frag} {a : Addr} {ns : List Int} {L : LH} (h : ScriptOf K a ns L) (J : LH) : SqLL K a (ns.map V.int) (J ++ L) := by
  rcases h with ⟨rfl, h⟩ | ⟨ob, rfl⟩
  · exact fun H _ => h H
  · exact .fz (Mem.app .head J)
theorem okLaw {f C : Addr} {fd : FuncData} (F : Fun K "law" "law" sLaw f fd) (T : Txt K mg C) (GR : GFn P w K mg base "_law_rng" 1 ["_law_script", "_law_k"] [] (pRng K)) (GG : GFg P w K mg base "_law_right" 8 ["_law_rng_here"] [] pRight) : FnG P w K mg base 9 f fd ["_law_script"] (pLaw K) := by
  refine fnXG (Gn := ["range", "max", "min", "len", "_law_rng", "_law_right"]) F scLaw (by decide +kernel) (fun vs L Kk h => ?_) (fun X e1 e2 e3 e4 e5 hX hr hgd vs L Kk h => ?_)
  · obtain ⟨a, ns, rfl, _⟩ := h
    rfl
  · subst e1 e2 e3 e4 e5
    obtain ⟨a, ns, rfl, hS, hl, k⟩ := h
    have zr : X.mg "range" = none := by walk_at "none"
    have gr := (hX.glo (x := "range") .head).1
    refine wss_cons (ws_forR hX.calm hX.pas zr ?_ gr)
    walk_at "go"
    refine wc_len (script_sq hS []) ?_
    walk_at "go"
    refine wc_min hX.calm ?_
    walk_at "go"
    refine wc_max hX.calm ?_
    rw [List.length_map]
    walk_at "go"
    have b0 : ∀ n : Nat, n ≤ 63 → (1 : Int) ≤ (if (if (n : Int) < 4 then (n : Int) else 4) > 1 then (if (n : Int) < 4 then (n : Int) else 4) else 1) ∧ (if (if (n : Int) < 4 then (n : Int) else 4) > 1 then (if (n : Int) < 4 then (n : Int) else 4) else 1) ≤ 4 := by
      intro n hn
      split <;> split at * <;> omega
    have b1 := b0 ns.length hl
    refine ⟨_, rfl, Int.le_trans (by decide) b1.1, Int.lt_of_le_of_lt b1.2 (by decide), fun i σ' L' => (∃ x y z, σ' = [some (.ref a), x, y, z]) ∧ L' = L, ⟨⟨_, _, _, rfl⟩, rfl⟩, ?_, ?_⟩
    · rintro i σ' L' hi ⟨⟨x, y, z, rfl⟩, rfl⟩
      generalize (if (if (ns.length : Int) < 4 then (ns.length : Int) else 4) > 1 then (if (ns.length : Int) < 4 then (ns.length : Int) else 4) else 1) = m at *
      refine x_tgt (by assumption) (by walk_at "at") (by walk_at "at") ?_
      walk_at "go"
      rw [Int.zero_add]
      refine ⟨a, i, ns, rfl, by omega, script_sq hS [], fun p c d => ?_⟩
      refine wss_cons (ws_forR hX.calm hX.pas zr ?_ gr)
      walk_at "go"
      refine ⟨6, rfl, by decide, by decide, fun j σ' L2 => (∃ z, σ' = [some (.ref a), some (.int (i : Int)), some (.ref p), z]) ∧ ∃ c d, L2 = (p, rl c d) :: L', ⟨⟨_, rfl⟩, _, _, rfl⟩, ?_, ?_⟩
      · rintro j σ' L2 hj ⟨⟨z, rfl⟩, c, d, rfl⟩
        refine x_tgt (by assumption) (by walk_at "at") (by walk_at "at") ?_
        walk_at "go"
        refine ⟨p, c, d, _, rfl, .head, fun c' d' => ⟨true, rfl, fun z => Bool.noConfusion z, fun _ => ?_⟩⟩
        exact wss_nil (wss_nil ⟨_, Sub.refl _, ⟨_, rfl⟩, _, _, rfl⟩)
      · rintro σ' L2 ⟨⟨z, rfl⟩, c, d, rfl⟩
        exact wss_nil ⟨_, Sub.of_sublist (.cons _ (.refl _)), ⟨_, _, _, rfl⟩, rfl⟩
    · rintro σ' L' ⟨⟨x, y, z, rfl⟩, rfl⟩
      walk_at "go"
      exact ret_sub k (Sub.refl _)
end
end K11

set_option Elab.async false
set_option linter.all false
set_option maxRecDepth 100000
set_option maxHeartbeats 4000000
namespace K11
open PySem L2 N3
theorem kit_self {K : PySem.W.Frag} {t : Value} : PySem.W.kitOne K t t = some true := by
  unfold PySem.W.kitOne
  rw [if_pos (beq_self_eq_true t)]
theorem kit_bt {K : PySem.W.Frag} {t : Value} {T : String} {b : Bool} (h : PySem.W.kitMeta T = true) (n : (t == .type T) = false) (u : PySem.W.subIn K t (.type T) = some b) : PySem.W.kitOne K t (.type T) = some b := by
  unfold PySem.W.kitOne PySem.W.kitCls
  rw [n]
  simp only [h, if_true]
  exact u
theorem kit_own {K : PySem.W.Frag} {t : Value} {C : Addr} {b : Bool} (i : PySem.W.isClsIn K C = true) (y : PySem.W.typeIn K (.ref C) = some (.type "type")) (n : (t == .ref C) = false) (u : PySem.W.subIn K t (.ref C) = some b) : PySem.W.kitOne K t (.ref C) = some b := by
  have i' : (PySem.W.clsIn K C).isSome = true := i
  unfold PySem.W.kitOne PySem.W.kitCls
  rw [n]
  simp [i', y, u]
theorem kit_ownR {K : PySem.W.Frag} {C D : Addr} {b : Bool} (i : PySem.W.isClsIn K C = true) (y : PySem.W.typeIn K (.ref C) = some (.type "type")) (n : D ≠ C) (u : PySem.W.subIn K (.ref D) (.ref C) = some b) : PySem.W.kitOne K (.ref D) (.ref C) = some b :=
  kit_own i y (by simpa using n) u
theorem exm_mk {K : PySem.W.Frag} {C D : Addr} {b : Bool} (e : PySem.W.subIn K (.ref C) (.type "BaseException") = some true) (i : PySem.W.isClsIn K C = true) (y : PySem.W.typeIn K (.ref C) = some (.type "type")) (u : PySem.W.subIn K (.ref D) (.ref C) = some b) : PySem.W.exmOne K (.ref D) (.ref C) = some b := by
  have i' : (PySem.W.clsIn K C).isSome = true := i
  unfold PySem.W.exmOne PySem.W.kitCls
  simp [e, i', y, u]
theorem all_mk {P : Program} {w : World} {K : PySem.W.Frag} {h : Heap} {mg : Str → Option Value} {fa C finit Tinit fadd fsub fmul fneg fover fbelow feq fstr frepr ptop ftop pbottom fbottom psign fsign ptotal ftotal D M fisi fisn fasr frng fdraw fchoice fcommon fpair flowest fsgn fis fdiv ftwo fright flaw : Addr} (X : K.In h) (G : h.Ns mainGlobals mg) (hfa : mg "law" = some (.ref fa))
    {odinit aninit dTinit odadd anadd odsub ansub odmul anmul odneg anneg odover anover odbelow anbelow odeq aneq odstr anstr odrepr anrepr odtop antop odbottom anbottom odsign ansign odtotal antotal odisi anisi odisn anisn odasr anasr odrng anrng oddraw andraw odchoice anchoice odcommon ancommon odpair anpair odlowest anlowest odsgn ansgn odis anis oddiv andiv odtwo antwo odright anright odlaw anlaw : Option Addr} {slinit sTinit sladd slsub slmul slneg slover slbelow sleq slstr slrepr sltop slbottom slsign sltotal slisi slisn slasr slrng sldraw slchoice slcommon slpair sllowest slsgn slis sldiv sltwo slright sllaw : Array (Option Value)} {ocinit kVinit dcinit pminit cdinit ctinit oTinit ocadd kVadd dcadd pmadd cdadd ctadd ocsub kVsub dcsub pmsub cdsub ctsub ocmul kVmul dcmul pmmul cdmul ctmul ocneg kVneg dcneg pmneg cdneg ctneg ocover kVover dcover pmover cdover ctover ocbelow kVbelow dcbelow pmbelow cdbelow ctbelow oceq kVeq dceq pmeq cdeq cteq ocstr kVstr dcstr pmstr cdstr ctstr ocrepr kVrepr dcrepr pmrepr cdrepr ctrepr octop kVtop dctop pmtop cdtop cttop ocbottom kVbottom dcbottom pmbottom cdbottom ctbottom ocsign kVsign dcsign pmsign cdsign ctsign octotal kVtotal dctotal pmtotal cdtotal cttotal ocisi kVisi dcisi pmisi cdisi ctisi ocisn kVisn dcisn pmisn cdisn ctisn ocasr kVasr dcasr pmasr cdasr ctasr ocrng kVrng dcrng pmrng cdrng ctrng ocdraw kVdraw dcdraw pmdraw cddraw ctdraw occhoice kVchoice dcchoice pmchoice cdchoice ctchoice occommon kVcommon dccommon pmcommon cdcommon ctcommon ocpair kVpair dcpair pmpair cdpair ctpair oclowest kVlowest dclowest pmlowest cdlowest ctlowest ocsgn kVsgn dcsgn pmsgn cdsgn ctsgn ocis kVis dcis pmis cdis ctis ocdiv kVdiv dcdiv pmdiv cddiv ctdiv octwo kVtwo dctwo pmtwo cdtwo cttwo ocright kVright dcright pmright cdright ctright oclaw kVlaw dclaw pmlaw cdlaw ctlaw : Value} {vfoadd vroadd vfosub vrosub vfomul vromul : Option Value} {rtop rbottom rsign rtotal : List Value} {nTinit tinit_0 : Nat}
    (aC : PySem.W.nsIn K mainGlobals "Ratio" = some (some (.ref C)))
    (pgC : PySem.W.plainGet K C Str.empty = true)
    (hdC : PySem.W.hasDictIn K C = true)
    (poC : PySem.W.plainOver K C = true)
    (saC : PySem.W.findIn K (.ref C) "__setattr__" = some (some (.builtin "object.__setattr__")))
    (kcC : PySem.W.keepIn K (.ref C) = true)
    (nT : PySem.W.findIn K (.ref C) "_top" = some none)
    (nB : PySem.W.findIn K (.ref C) "_bottom" = some none)
    (ca : PySem.W.findIn K (.ref C) "__class__" = some (some (.builtin "object.__class__")))
    (cn : PySem.W.specialIn K (.builtin "object.__class__") "__get__" = some (some (.builtin "getset_descriptor.__get__")))
    (ct : PySem.W.takesIn K (.builtin "object.__class__") = some true)
    (cm : PySem.W.mroIn K C (.type "object") = some true)
    (icC : PySem.W.isClsIn K C = true)
    (tyC : PySem.W.typeIn K (.ref C) = some (.type "type"))
    (uCI : PySem.W.subIn K (.ref C) (.type "int") = some false)
    (uIC : PySem.W.subIn K (.type "int") (.ref C) = some false)
    (uSC : PySem.W.subIn K (.type "str") (.ref C) = some false)
    (uTC : PySem.W.subIn K (.type "tuple") (.ref C) = some false)
    (mgcd : PySem.W.nsIn K mainGlobals "gcd" = some (some (.builtin "math.gcd")))
    (z_isinstance : PySem.W.nsIn K mainGlobals "isinstance" = some none)
    (z_int : PySem.W.nsIn K mainGlobals "int" = some none)
    (z_bool : PySem.W.nsIn K mainGlobals "bool" = some none)
    (z_max : PySem.W.nsIn K mainGlobals "max" = some none)
    (z_min : PySem.W.nsIn K mainGlobals "min" = some none)
    (z_abs : PySem.W.nsIn K mainGlobals "abs" = some none)
    (z_len : PySem.W.nsIn K mainGlobals "len" = some none)
    (z_str : PySem.W.nsIn K mainGlobals "str" = some none)
    (z_repr : PySem.W.nsIn K mainGlobals "repr" = some none)
    (z_divmod : PySem.W.nsIn K mainGlobals "divmod" = some none)
    (z_range : PySem.W.nsIn K mainGlobals "range" = some none)
    (z_zip : PySem.W.nsIn K mainGlobals "zip" = some none)
    (z_all : PySem.W.nsIn K mainGlobals "all" = some none)
    (z_RuntimeError : PySem.W.nsIn K mainGlobals "RuntimeError" = some none)
    (mkC : PySem.W.makesIn K C = true)
    (ainit : PySem.W.findIn K (.ref C) "__init__" = some (some (.ref finit)))
    (iinit : PySem.W.isFn K (.ref finit) = true)
    (linit : K.lookup finit = some ⟨ocinit, odinit, .func (PySem.W.fnOf "__init__" "Ratio.__init__" (defArgs sInit) (defBody sInit) (defScope sInit) (.ref Tinit) kVinit dcinit pminit aninit cdinit ctinit), slinit⟩)
    (cinit : PySem.W.codeIn K cdinit "Ratio.__init__" = true)
    (kinit : PySem.W.keepIn K (.ref finit) = true)
    (qinit : K.lookup Tinit = some ⟨oTinit, dTinit, .seq #[.int 1 tinit_0] nTinit, sTinit⟩)
    (aadd : PySem.W.findIn K (.ref C) "__add__" = some (some (.ref fadd)))
    (iadd : PySem.W.isFn K (.ref fadd) = true)
    (ladd : K.lookup fadd = some ⟨ocadd, odadd, .func (PySem.W.fnOf "__add__" "Ratio.__add__" (defArgs sAdd) (defBody sAdd) (defScope sAdd) .none kVadd dcadd pmadd anadd cdadd ctadd), sladd⟩)
    (cadd : PySem.W.codeIn K cdadd "Ratio.__add__" = true)
    (kadd : PySem.W.keepIn K (.ref fadd) = true)
    (asub : PySem.W.findIn K (.ref C) "__sub__" = some (some (.ref fsub)))
    (isub : PySem.W.isFn K (.ref fsub) = true)
    (lsub : K.lookup fsub = some ⟨ocsub, odsub, .func (PySem.W.fnOf "__sub__" "Ratio.__sub__" (defArgs sSub) (defBody sSub) (defScope sSub) .none kVsub dcsub pmsub ansub cdsub ctsub), slsub⟩)
    (csub : PySem.W.codeIn K cdsub "Ratio.__sub__" = true)
    (ksub : PySem.W.keepIn K (.ref fsub) = true)
    (amul : PySem.W.findIn K (.ref C) "__mul__" = some (some (.ref fmul)))
    (imul : PySem.W.isFn K (.ref fmul) = true)
    (lmul : K.lookup fmul = some ⟨ocmul, odmul, .func (PySem.W.fnOf "__mul__" "Ratio.__mul__" (defArgs sMul) (defBody sMul) (defScope sMul) .none kVmul dcmul pmmul anmul cdmul ctmul), slmul⟩)
    (cmul : PySem.W.codeIn K cdmul "Ratio.__mul__" = true)
    (kmul : PySem.W.keepIn K (.ref fmul) = true)
    (aneg : PySem.W.findIn K (.ref C) "__neg__" = some (some (.ref fneg)))
    (ineg : PySem.W.isFn K (.ref fneg) = true)
    (lneg : K.lookup fneg = some ⟨ocneg, odneg, .func (PySem.W.fnOf "__neg__" "Ratio.__neg__" (defArgs sNeg) (defBody sNeg) (defScope sNeg) .none kVneg dcneg pmneg anneg cdneg ctneg), slneg⟩)
    (cneg : PySem.W.codeIn K cdneg "Ratio.__neg__" = true)
    (kneg : PySem.W.keepIn K (.ref fneg) = true)
    (aover : PySem.W.findIn K (.ref C) "over" = some (some (.ref fover)))
    (iover : PySem.W.isFn K (.ref fover) = true)
    (lover : K.lookup fover = some ⟨ocover, odover, .func (PySem.W.fnOf "over" "Ratio.over" (defArgs sOver) (defBody sOver) (defScope sOver) .none kVover dcover pmover anover cdover ctover), slover⟩)
    (cover : PySem.W.codeIn K cdover "Ratio.over" = true)
    (kover : PySem.W.keepIn K (.ref fover) = true)
    (abelow : PySem.W.findIn K (.ref C) "is_below" = some (some (.ref fbelow)))
    (ibelow : PySem.W.isFn K (.ref fbelow) = true)
    (lbelow : K.lookup fbelow = some ⟨ocbelow, odbelow, .func (PySem.W.fnOf "is_below" "Ratio.is_below" (defArgs sBelow) (defBody sBelow) (defScope sBelow) .none kVbelow dcbelow pmbelow anbelow cdbelow ctbelow), slbelow⟩)
    (cbelow : PySem.W.codeIn K cdbelow "Ratio.is_below" = true)
    (kbelow : PySem.W.keepIn K (.ref fbelow) = true)
    (aeq : PySem.W.findIn K (.ref C) "__eq__" = some (some (.ref feq)))
    (ieq : PySem.W.isFn K (.ref feq) = true)
    (leq : K.lookup feq = some ⟨oceq, odeq, .func (PySem.W.fnOf "__eq__" "Ratio.__eq__" (defArgs sEq) (defBody sEq) (defScope sEq) .none kVeq dceq pmeq aneq cdeq cteq), sleq⟩)
    (ceq : PySem.W.codeIn K cdeq "Ratio.__eq__" = true)
    (keq : PySem.W.keepIn K (.ref feq) = true)
    (astr : PySem.W.findIn K (.ref C) "__str__" = some (some (.ref fstr)))
    (istr : PySem.W.isFn K (.ref fstr) = true)
    (lstr : K.lookup fstr = some ⟨ocstr, odstr, .func (PySem.W.fnOf "__str__" "Ratio.__str__" (defArgs sStr) (defBody sStr) (defScope sStr) .none kVstr dcstr pmstr anstr cdstr ctstr), slstr⟩)
    (cstr : PySem.W.codeIn K cdstr "Ratio.__str__" = true)
    (kstr : PySem.W.keepIn K (.ref fstr) = true)
    (arepr : PySem.W.findIn K (.ref C) "__repr__" = some (some (.ref frepr)))
    (irepr : PySem.W.isFn K (.ref frepr) = true)
    (lrepr : K.lookup frepr = some ⟨ocrepr, odrepr, .func (PySem.W.fnOf "__repr__" "Ratio.__repr__" (defArgs sRepr) (defBody sRepr) (defScope sRepr) .none kVrepr dcrepr pmrepr anrepr cdrepr ctrepr), slrepr⟩)
    (crepr : PySem.W.codeIn K cdrepr "Ratio.__repr__" = true)
    (krepr : PySem.W.keepIn K (.ref frepr) = true)
    (atop : PySem.W.findIn K (.ref C) "top" = some (some (.ref ptop)))
    (gtop : PySem.W.specialIn K (.ref ptop) "__get__" = some (some (.builtin "property.__get__")))
    (ttop : PySem.W.takesIn K (.ref ptop) = some true)
    (rctop : PySem.W.recIn K ptop "property" = some (.ref ftop :: rtop))
    (ltop : K.lookup ftop = some ⟨octop, odtop, .func (PySem.W.fnOf "top" "Ratio.top" (defArgs sTop) (defBody sTop) (defScope sTop) .none kVtop dctop pmtop antop cdtop cttop), sltop⟩)
    (ctop : PySem.W.codeIn K cdtop "Ratio.top" = true)
    (ktop : PySem.W.keepIn K (.ref ftop) = true)
    (abottom : PySem.W.findIn K (.ref C) "bottom" = some (some (.ref pbottom)))
    (gbottom : PySem.W.specialIn K (.ref pbottom) "__get__" = some (some (.builtin "property.__get__")))
    (tbottom : PySem.W.takesIn K (.ref pbottom) = some true)
    (rcbottom : PySem.W.recIn K pbottom "property" = some (.ref fbottom :: rbottom))
    (lbottom : K.lookup fbottom = some ⟨ocbottom, odbottom, .func (PySem.W.fnOf "bottom" "Ratio.bottom" (defArgs sBot) (defBody sBot) (defScope sBot) .none kVbottom dcbottom pmbottom anbottom cdbottom ctbottom), slbottom⟩)
    (cbottom : PySem.W.codeIn K cdbottom "Ratio.bottom" = true)
    (kbottom : PySem.W.keepIn K (.ref fbottom) = true)
    (asign : PySem.W.findIn K (.ref C) "sign" = some (some (.ref psign)))
    (gsign : PySem.W.specialIn K (.ref psign) "__get__" = some (some (.builtin "property.__get__")))
    (tsign : PySem.W.takesIn K (.ref psign) = some true)
    (rcsign : PySem.W.recIn K psign "property" = some (.ref fsign :: rsign))
    (lsign : K.lookup fsign = some ⟨ocsign, odsign, .func (PySem.W.fnOf "sign" "Ratio.sign" (defArgs sSign) (defBody sSign) (defScope sSign) .none kVsign dcsign pmsign ansign cdsign ctsign), slsign⟩)
    (csign : PySem.W.codeIn K cdsign "Ratio.sign" = true)
    (ksign : PySem.W.keepIn K (.ref fsign) = true)
    (rdC : PySem.W.readsIn K C (.type "type") = true)
    (gaC : PySem.W.specialIn K (.ref C) "__getattribute__" = some (some (.builtin "type.__getattribute__")))
    (atotal : PySem.W.findCls K (.ref C) (.type "type") "total" = some (.get (.builtin "classmethod.__get__") (.ref ptotal) .none (.ref C)))
    (rctotal : PySem.W.recIn K ptotal "classmethod" = some (.ref ftotal :: rtotal))
    (itotal : PySem.W.fnIn K ftotal = true)
    (ltotal : K.lookup ftotal = some ⟨octotal, odtotal, .func (PySem.W.fnOf "total" "Ratio.total" (defArgs sTotal) (defBody sTotal) (defScope sTotal) .none kVtotal dctotal pmtotal antotal cdtotal cttotal), sltotal⟩)
    (ctotal : PySem.W.codeIn K cdtotal "Ratio.total" = true)
    (ktotal : PySem.W.keepIn K (.ref ftotal) = true)
    (sf : PySem.W.selfFirst K C = true)
    (nradd : PySem.W.findIn K (.ref C) "__radd__" = some none)
    (foadd : PySem.W.findIn K (.type "int") "__add__" = some vfoadd)
    (roadd : PySem.W.findIn K (.type "int") "__radd__" = some vroadd)
    (nrsub : PySem.W.findIn K (.ref C) "__rsub__" = some none)
    (fosub : PySem.W.findIn K (.type "int") "__sub__" = some vfosub)
    (rosub : PySem.W.findIn K (.type "int") "__rsub__" = some vrosub)
    (nrmul : PySem.W.findIn K (.ref C) "__rmul__" = some none)
    (fomul : PySem.W.findIn K (.type "int") "__mul__" = some vfomul)
    (romul : PySem.W.findIn K (.type "int") "__rmul__" = some vromul)
    (sb : PySem.W.subIn K (.type "int") (.ref C) = some false)
    (nfI : PySem.W.notFirst K C (.type "int") = true)
    (nfS : PySem.W.notFirst K C (.type "str") = true)
    (nfT : PySem.W.notFirst K C (.type "tuple") = true)
    (nfC : PySem.W.notFirst K C (.ref C) = true)
    (ne : PySem.W.findIn K (.ref C) "__ne__" = some (some (.builtin "object.__ne__")))
    (aD : PySem.W.nsIn K mainGlobals "DividedByZero" = some (some (.ref D)))
    (aM : PySem.W.nsIn K mainGlobals "NotesumsError" = some (some (.ref M)))
    (kpD : PySem.W.keepIn K (.ref D) = true)
    (exD : PySem.W.excIn K D bmRT "RuntimeError.__new__" = true)
    (suD : PySem.W.subIn K (.ref D) (.type "BaseException") = some true)
    (tyD : PySem.W.typeIn K (.ref D) = some (.type "type"))
    (icD : PySem.W.isClsIn K D = true)
    (icM : PySem.W.isClsIn K M = true)
    (tyM : PySem.W.typeIn K (.ref M) = some (.type "type"))
    (sDD : PySem.W.subIn K (.ref D) (.ref D) = some true)
    (hgD : PySem.W.findIn K (.ref D) "__getattribute__" = some (some (.builtin "BaseException.__getattribute__")))
    (hkD : PySem.W.findIn K (.ref D) "__getattr__" = some none)
    (hdD : PySem.W.hasDictIn K D = true)
    (haD : PySem.W.findIn K (.ref D) "__class__" = some (some (.builtin "object.__class__")))
    (hmD : PySem.W.mroIn K D (.type "object") = some true)
    (u1D : PySem.W.subIn K (.ref D) (.type "RuntimeError") = some true)
    (u2D : PySem.W.subIn K (.ref D) (.ref M) = some false)
    (aisi : PySem.W.nsIn K mainGlobals "is_integer" = some (some (.ref fisi)))
    (lisi : K.lookup fisi = some ⟨ocisi, odisi, .func (PySem.W.fnOf "is_integer" "is_integer" (defArgs sIsInt) (defBody sIsInt) (defScope sIsInt) .none kVisi dcisi pmisi anisi cdisi ctisi), slisi⟩)
    (cisi : PySem.W.codeIn K cdisi "is_integer" = true)
    (kisi : PySem.W.keepIn K (.ref fisi) = true)
    (aisn : PySem.W.nsIn K mainGlobals "is_number" = some (some (.ref fisn)))
    (lisn : K.lookup fisn = some ⟨ocisn, odisn, .func (PySem.W.fnOf "is_number" "is_number" (defArgs sIsNum) (defBody sIsNum) (defScope sIsNum) .none kVisn dcisn pmisn anisn cdisn ctisn), slisn⟩)
    (cisn : PySem.W.codeIn K cdisn "is_number" = true)
    (kisn : PySem.W.keepIn K (.ref fisn) = true)
    (aasr : PySem.W.nsIn K mainGlobals "as_ratio" = some (some (.ref fasr)))
    (lasr : K.lookup fasr = some ⟨ocasr, odasr, .func (PySem.W.fnOf "as_ratio" "as_ratio" (defArgs sAs) (defBody sAs) (defScope sAs) .none kVasr dcasr pmasr anasr cdasr ctasr), slasr⟩)
    (casr : PySem.W.codeIn K cdasr "as_ratio" = true)
    (kasr : PySem.W.keepIn K (.ref fasr) = true)
    (arng : PySem.W.nsIn K mainGlobals "_law_rng" = some (some (.ref frng)))
    (lrng : K.lookup frng = some ⟨ocrng, odrng, .func (PySem.W.fnOf "_law_rng" "_law_rng" (defArgs sRng) (defBody sRng) (defScope sRng) .none kVrng dcrng pmrng anrng cdrng ctrng), slrng⟩)
    (crng : PySem.W.codeIn K cdrng "_law_rng" = true)
    (krng : PySem.W.keepIn K (.ref frng) = true)
    (adraw : PySem.W.nsIn K mainGlobals "_law_draw" = some (some (.ref fdraw)))
    (ldraw : K.lookup fdraw = some ⟨ocdraw, oddraw, .func (PySem.W.fnOf "_law_draw" "_law_draw" (defArgs sDraw) (defBody sDraw) (defScope sDraw) .none kVdraw dcdraw pmdraw andraw cddraw ctdraw), sldraw⟩)
    (cdraw : PySem.W.codeIn K cddraw "_law_draw" = true)
    (kdraw : PySem.W.keepIn K (.ref fdraw) = true)
    (achoice : PySem.W.nsIn K mainGlobals "_law_choice" = some (some (.ref fchoice)))
    (lchoice : K.lookup fchoice = some ⟨occhoice, odchoice, .func (PySem.W.fnOf "_law_choice" "_law_choice" (defArgs sChoice) (defBody sChoice) (defScope sChoice) .none kVchoice dcchoice pmchoice anchoice cdchoice ctchoice), slchoice⟩)
    (cchoice : PySem.W.codeIn K cdchoice "_law_choice" = true)
    (kchoice : PySem.W.keepIn K (.ref fchoice) = true)
    (acommon : PySem.W.nsIn K mainGlobals "_law_common" = some (some (.ref fcommon)))
    (lcommon : K.lookup fcommon = some ⟨occommon, odcommon, .func (PySem.W.fnOf "_law_common" "_law_common" (defArgs sCommon) (defBody sCommon) (defScope sCommon) .none kVcommon dccommon pmcommon ancommon cdcommon ctcommon), slcommon⟩)
    (ccommon : PySem.W.codeIn K cdcommon "_law_common" = true)
    (kcommon : PySem.W.keepIn K (.ref fcommon) = true)
    (apair : PySem.W.nsIn K mainGlobals "_law_pair" = some (some (.ref fpair)))
    (lpair : K.lookup fpair = some ⟨ocpair, odpair, .func (PySem.W.fnOf "_law_pair" "_law_pair" (defArgs sPair) (defBody sPair) (defScope sPair) .none kVpair dcpair pmpair anpair cdpair ctpair), slpair⟩)
    (cpair : PySem.W.codeIn K cdpair "_law_pair" = true)
    (kpair : PySem.W.keepIn K (.ref fpair) = true)
    (alowest : PySem.W.nsIn K mainGlobals "_law_lowest" = some (some (.ref flowest)))
    (llowest : K.lookup flowest = some ⟨oclowest, odlowest, .func (PySem.W.fnOf "_law_lowest" "_law_lowest" (defArgs sLowest) (defBody sLowest) (defScope sLowest) .none kVlowest dclowest pmlowest anlowest cdlowest ctlowest), sllowest⟩)
    (clowest : PySem.W.codeIn K cdlowest "_law_lowest" = true)
    (klowest : PySem.W.keepIn K (.ref flowest) = true)
    (asgn : PySem.W.nsIn K mainGlobals "_law_sign" = some (some (.ref fsgn)))
    (lsgn : K.lookup fsgn = some ⟨ocsgn, odsgn, .func (PySem.W.fnOf "_law_sign" "_law_sign" (defArgs sSgn) (defBody sSgn) (defScope sSgn) .none kVsgn dcsgn pmsgn ansgn cdsgn ctsgn), slsgn⟩)
    (csgn : PySem.W.codeIn K cdsgn "_law_sign" = true)
    (ksgn : PySem.W.keepIn K (.ref fsgn) = true)
    (ais : PySem.W.nsIn K mainGlobals "_law_is" = some (some (.ref fis)))
    (lis : K.lookup fis = some ⟨ocis, odis, .func (PySem.W.fnOf "_law_is" "_law_is" (defArgs sIs) (defBody sIs) (defScope sIs) .none kVis dcis pmis anis cdis ctis), slis⟩)
    (cis : PySem.W.codeIn K cdis "_law_is" = true)
    (kis : PySem.W.keepIn K (.ref fis) = true)
    (adiv : PySem.W.nsIn K mainGlobals "_law_is_divided_right" = some (some (.ref fdiv)))
    (ldiv : K.lookup fdiv = some ⟨ocdiv, oddiv, .func (PySem.W.fnOf "_law_is_divided_right" "_law_is_divided_right" (defArgs sDiv) (defBody sDiv) (defScope sDiv) .none kVdiv dcdiv pmdiv andiv cddiv ctdiv), sldiv⟩)
    (cdiv : PySem.W.codeIn K cddiv "_law_is_divided_right" = true)
    (kdiv : PySem.W.keepIn K (.ref fdiv) = true)
    (atwo : PySem.W.nsIn K mainGlobals "_law_two_right" = some (some (.ref ftwo)))
    (ltwo : K.lookup ftwo = some ⟨octwo, odtwo, .func (PySem.W.fnOf "_law_two_right" "_law_two_right" (defArgs sTwo) (defBody sTwo) (defScope sTwo) .none kVtwo dctwo pmtwo antwo cdtwo cttwo), sltwo⟩)
    (ctwo : PySem.W.codeIn K cdtwo "_law_two_right" = true)
    (ktwo : PySem.W.keepIn K (.ref ftwo) = true)
    (aright : PySem.W.nsIn K mainGlobals "_law_right" = some (some (.ref fright)))
    (lright : K.lookup fright = some ⟨ocright, odright, .func (PySem.W.fnOf "_law_right" "_law_right" (defArgs sRight) (defBody sRight) (defScope sRight) .none kVright dcright pmright anright cdright ctright), slright⟩)
    (cright : PySem.W.codeIn K cdright "_law_right" = true)
    (kright : PySem.W.keepIn K (.ref fright) = true)
    (alaw : PySem.W.nsIn K mainGlobals "law" = some (some (.ref flaw)))
    (llaw : K.lookup flaw = some ⟨oclaw, odlaw, .func (PySem.W.fnOf "law" "law" (defArgs sLaw) (defBody sLaw) (defScope sLaw) .none kVlaw dclaw pmlaw anlaw cdlaw ctlaw), sllaw⟩)
    (claw : PySem.W.codeIn K cdlaw "law" = true)
    (klaw : PySem.W.keepIn K (.ref flaw) = true)
    : ∃ fd : FuncData, (∀ (s : Shared) (v : Value), BindsTo s fd ⟨[v], []⟩ [("_law_script", v)]) ∧ ∀ base : Heap, K.In base → base.Ns mainGlobals mg → FnG P w K mg base 9 fa fd ["_law_script"] (pLaw K) := by
  have e := hfa.symm.trans (PySem.W.mg_of X G alaw)
  cases e
  have bn : ∀ x, InS x ["isinstance", "int", "bool", "max", "min", "abs", "len", "str", "repr", "divmod", "range", "zip", "all"] → mg x = none := by
    intro x hx
    rcases hx with _ | hx
    · exact PySem.W.mg_none_of X G z_isinstance
    rcases hx with _ | hx
    · exact PySem.W.mg_none_of X G z_int
    rcases hx with _ | hx
    · exact PySem.W.mg_none_of X G z_bool
    rcases hx with _ | hx
    · exact PySem.W.mg_none_of X G z_max
    rcases hx with _ | hx
    · exact PySem.W.mg_none_of X G z_min
    rcases hx with _ | hx
    · exact PySem.W.mg_none_of X G z_abs
    rcases hx with _ | hx
    · exact PySem.W.mg_none_of X G z_len
    rcases hx with _ | hx
    · exact PySem.W.mg_none_of X G z_str
    rcases hx with _ | hx
    · exact PySem.W.mg_none_of X G z_repr
    rcases hx with _ | hx
    · exact PySem.W.mg_none_of X G z_divmod
    rcases hx with _ | hx
    · exact PySem.W.mg_none_of X G z_range
    rcases hx with _ | hx
    · exact PySem.W.mg_none_of X G z_zip
    rcases hx with _ | hx
    · exact PySem.W.mg_none_of X G z_all
    cases hx
  have T : Txt K mg C := ⟨⟨pgC, hdC, poC, saC⟩, nT, nB, ca, cn, ct, cm, kit_bt (by decide +kernel) rfl uCI, kit_self, kit_own icC tyC rfl uIC, kit_own icC tyC rfl uSC, kit_own icC tyC rfl uTC, PySem.W.mg_of X G aC, PySem.W.mg_of X G mgcd, bn⟩
  have E : Er K mg D M := ⟨PySem.W.mg_of X G aD, PySem.W.mg_of X G aM, PySem.W.mg_none_of X G z_RuntimeError, kpD, exD, suD, tyD, exm_mk suD icD tyD sDD, ⟨hgD, hkD, suD, hdD, haD, cn, ct, hmD⟩, kit_bt (by decide +kernel) rfl u1D, kit_ownR icM tyM (fun q => by cases q; rw [sDD] at u2D; cases u2D) u2D⟩
  have Fisi := fun_mk (st := sIsInt) lisi cisi kisi
  have Fisn := fun_mk (st := sIsNum) lisn cisn kisn
  have Fasr := fun_mk (st := sAs) lasr casr kasr
  have Frng := fun_mk (st := sRng) lrng crng krng
  have Fdraw := fun_mk (st := sDraw) ldraw cdraw kdraw
  have Fchoice := fun_mk (st := sChoice) lchoice cchoice kchoice
  have Fcommon := fun_mk (st := sCommon) lcommon ccommon kcommon
  have Fpair := fun_mk (st := sPair) lpair cpair kpair
  have Flowest := fun_mk (st := sLowest) llowest clowest klowest
  have Fsgn := fun_mk (st := sSgn) lsgn csgn ksgn
  have Fis := fun_mk (st := sIs) lis cis kis
  have Fdiv := fun_mk (st := sDiv) ldiv cdiv kdiv
  have Ftwo := fun_mk (st := sTwo) ltwo ctwo ktwo
  have Fright := fun_mk (st := sRight) lright cright kright
  have Flaw := fun_mk (st := sLaw) llaw claw klaw
  have Fadd := fun_mk (st := sAdd) ladd cadd kadd
  have Fsub := fun_mk (st := sSub) lsub csub ksub
  have Fmul := fun_mk (st := sMul) lmul cmul kmul
  have Fneg := fun_mk (st := sNeg) lneg cneg kneg
  have Fover := fun_mk (st := sOver) lover cover kover
  have Fbelow := fun_mk (st := sBelow) lbelow cbelow kbelow
  have Feq := fun_mk (st := sEq) leq ceq keq
  have Fstr := fun_mk (st := sStr) lstr cstr kstr
  have Frepr := fun_mk (st := sRepr) lrepr crepr krepr
  have Ftop := fun_mk (st := sTop) ltop ctop ktop
  have Fbottom := fun_mk (st := sBot) lbottom cbottom kbottom
  have Fsign := fun_mk (st := sSign) lsign csign ksign
  have Ftotal := fun_mk (st := sTotal) ltotal ctotal ktotal
  have bisi := Fisi.binds (ps := ["value"]) fun _ _ _ _ _ _ us hl => match us, hl with | [_], _ => rfl
  have bisn := Fisn.binds (ps := ["value"]) fun _ _ _ _ _ _ us hl => match us, hl with | [_], _ => rfl
  have basr := Fasr.binds (ps := ["value"]) fun _ _ _ _ _ _ us hl => match us, hl with | [_], _ => rfl
  have brng := Frng.binds (ps := ["_law_script", "_law_k"]) fun _ _ _ _ _ _ us hl => match us, hl with | [_, _], _ => rfl
  have bdraw := Fdraw.binds (ps := ["_law_rng_here", "_law_many"]) fun _ _ _ _ _ _ us hl => match us, hl with | [_, _], _ => rfl
  have bchoice := Fchoice.binds (ps := ["_law_rng_here", "_law_some"]) fun _ _ _ _ _ _ us hl => match us, hl with | [_, _], _ => rfl
  have bcommon := Fcommon.binds (ps := ["_law_one", "_law_other"]) fun _ _ _ _ _ _ us hl => match us, hl with | [_, _], _ => rfl
  have bpair := Fpair.binds (ps := ["_law_rng_here"]) fun _ _ _ _ _ _ us hl => match us, hl with | [_], _ => rfl
  have blowest := Flowest.binds (ps := ["_law_pair_here"]) fun _ _ _ _ _ _ us hl => match us, hl with | [_], _ => rfl
  have bsgn := Fsgn.binds (ps := ["_law_number"]) fun _ _ _ _ _ _ us hl => match us, hl with | [_], _ => rfl
  have bis := Fis.binds (ps := ["_law_one", "_law_pair_here"]) fun _ _ _ _ _ _ us hl => match us, hl with | [_, _], _ => rfl
  have bdiv := Fdiv.binds (ps := ["_law_one", "_law_other", "_law_first", "_law_second"]) fun _ _ _ _ _ _ us hl => match us, hl with | [_, _, _, _], _ => rfl
  have btwo := Ftwo.binds (ps := ["_law_one", "_law_other", "_law_first", "_law_second"]) fun _ _ _ _ _ _ us hl => match us, hl with | [_, _, _, _], _ => rfl
  have bright := Fright.binds (ps := ["_law_rng_here"]) fun _ _ _ _ _ _ us hl => match us, hl with | [_], _ => rfl
  have badd := Fadd.binds (ps := ["self", "other"]) fun _ _ _ _ _ _ us hl => match us, hl with | [_, _], _ => rfl
  have bsub := Fsub.binds (ps := ["self", "other"]) fun _ _ _ _ _ _ us hl => match us, hl with | [_, _], _ => rfl
  have bmul := Fmul.binds (ps := ["self", "other"]) fun _ _ _ _ _ _ us hl => match us, hl with | [_, _], _ => rfl
  have bneg := Fneg.binds (ps := ["self"]) fun _ _ _ _ _ _ us hl => match us, hl with | [_], _ => rfl
  have bover := Fover.binds (ps := ["self", "other"]) fun _ _ _ _ _ _ us hl => match us, hl with | [_, _], _ => rfl
  have bbelow := Fbelow.binds (ps := ["self", "other"]) fun _ _ _ _ _ _ us hl => match us, hl with | [_, _], _ => rfl
  have beq := Feq.binds (ps := ["self", "other"]) fun _ _ _ _ _ _ us hl => match us, hl with | [_, _], _ => rfl
  have bstr := Fstr.binds (ps := ["self"]) fun _ _ _ _ _ _ us hl => match us, hl with | [_], _ => rfl
  have brepr := Frepr.binds (ps := ["self"]) fun _ _ _ _ _ _ us hl => match us, hl with | [_], _ => rfl
  have btop := Ftop.binds (ps := ["self"]) fun _ _ _ _ _ _ us hl => match us, hl with | [_], _ => rfl
  have bbottom := Fbottom.binds (ps := ["self"]) fun _ _ _ _ _ _ us hl => match us, hl with | [_], _ => rfl
  have bsign := Fsign.binds (ps := ["self"]) fun _ _ _ _ _ _ us hl => match us, hl with | [_], _ => rfl
  have Finit : FunD K "__init__" "Ratio.__init__" (defArgs sInit) (defBody sInit) (defScope sInit) [.int 1] [] finit _ := ⟨⟨_, _, _, _, _, _, _, _, _, _, rfl, linit, cinit, .inr ⟨by simp, Tinit, _, _, _, rfl, qinit, rfl, .cons ⟨_, rfl⟩ .nil⟩, .inl rfl⟩, kinit⟩
  obtain ⟨ds1, v1, bi1⟩ := Finit.binds1 (ps := ["self", "top", "bottom"]) 2 0 (by simp) rfl fun T kV doc pm an cdv ct us its hu hi => match us, its, hu, hi with | [_, _], [_], _, _ => ⟨_, rfl, rfl⟩
  obtain ⟨ds2, v2, bi2⟩ := Finit.binds1 (ps := ["self", "top", "bottom"]) 3 1 (by simp) rfl fun T kV doc pm an cdv ct us its hu hi => match us, its, hu, hi with | [_, _, _], [_], _, _ => ⟨_, rfl, rfl⟩
  have gx : ∀ {x : Str} {v : Value}, PySem.W.nsIn K mainGlobals x = some (some v) → mg x = some v := fun q => PySem.W.mg_of X G q
  refine ⟨PySem.W.fnOf "law" "law" (defArgs sLaw) (defBody sLaw) (defScope sLaw) .none kVlaw dclaw pmlaw anlaw cdlaw ctlaw, fun s v => .of_eq rfl, fun base _ _ => ?_⟩
  have GI : GFn P w K mg base "is_integer" 1 ["value"] [] (pIsInt C) := ⟨⟨_, _, [], okIsInt Fisi T, gx aisi, kisi, bisi, .nil⟩⟩
  have oI := okInit (P := P) (w := w) (base := base) Finit T GI
  have M1 : GMk P w K mg base "Ratio" C 2 ["self", "top", "bottom"] [.int 1] (pInit C) := ⟨⟨_, _, ds1, oI, gx aC, ⟨mkC, ainit, iinit, kcC⟩, bi1, v1⟩⟩
  have M2 : GMk P w K mg base "Ratio" C 2 ["self", "top", "bottom"] [] (pInit C) := ⟨⟨_, _, ds2, oI, gx aC, ⟨mkC, ainit, iinit, kcC⟩, bi2, v2⟩⟩
  have GN : GFn P w K mg base "is_number" 2 ["value"] [] (pIsNum C) := ⟨⟨_, _, [], okIsNum Fisn T GI, gx aisn, kisn, bisn, .nil⟩⟩
  have GA : GFn P w K mg base "as_ratio" 4 ["value"] [] (pAs C) := ⟨⟨_, _, [], okAs Fasr T M1, gx aasr, kasr, basr, .nil⟩⟩
  have cl : Cls K C := ⟨pgC, hdC, poC, saC⟩
  have G1 : GPr P w K mg base C "top" 1 ["self"] (pTop C) := ⟨⟨_, _, _, okTop Ftop T, cl, ⟨atop, gtop, ttop, _, rctop⟩, btop⟩⟩
  have G2 : GPr P w K mg base C "bottom" 1 ["self"] (pBot C) := ⟨⟨_, _, _, okBot Fbottom T, cl, ⟨abottom, gbottom, tbottom, _, rcbottom⟩, bbottom⟩⟩
  have G3 : GPr P w K mg base C "sign" 1 ["self"] (pSign C) := ⟨⟨_, _, _, okSign Fsign T, cl, ⟨asign, gsign, tsign, _, rcsign⟩, bsign⟩⟩
  have O : Ops P w K mg base C := ⟨⟨⟨_, _, okAdd Fadd T M2 GA G1 G2, aadd, iadd, badd⟩⟩, ⟨⟨_, _, okSub Fsub T M2 GA G1 G2, asub, isub, bsub⟩⟩, ⟨⟨_, _, okMul Fmul T M2 GA G1 G2, amul, imul, bmul⟩⟩,
    ⟨sf, nradd, by rw [show PySem.dunder "add" = "__add__" by decide +kernel]; exact ⟨_, foadd⟩, by rw [show dunderR "add" = "__radd__" by decide +kernel]; exact ⟨_, roadd⟩, sb⟩, ⟨sf, nrsub, by rw [show PySem.dunder "sub" = "__sub__" by decide +kernel]; exact ⟨_, fosub⟩, by rw [show dunderR "sub" = "__rsub__" by decide +kernel]; exact ⟨_, rosub⟩, sb⟩, ⟨sf, nrmul, by rw [show PySem.dunder "mul" = "__mul__" by decide +kernel]; exact ⟨_, fomul⟩, by rw [show dunderR "mul" = "__rmul__" by decide +kernel]; exact ⟨_, romul⟩, sb⟩⟩
  have R : Rt P w K mg base C := ⟨T, O, M1, M2, GI, GN, G1, G2, G3, ⟨⟨_, _, okEq Feq T, aeq, ieq, beq⟩⟩, ⟨⟨_, _, okStr Fstr T, astr, istr, bstr⟩⟩, ⟨⟨_, _, okRepr Frepr T, arepr, irepr, brepr⟩⟩, ⟨⟨_, _, okNeg Fneg T M2, aneg, ineg, bneg⟩⟩,
    ⟨⟨_, _, [], okBelow Fbelow T GA G1 G2, cl, ⟨abelow, ibelow, kbelow⟩, bbelow, .nil⟩⟩, nfI, nfS, nfT, nfC, ne⟩
  have TT : GCm P w K mg base C "total" 6 (preStar 1 (pTotB C)) := ⟨⟨_, _, _, ⟨rdC, gaC⟩, ⟨atotal, ⟨_, rctotal⟩, itotal⟩, okTotal Ftotal T M1 O⟩⟩
  have GO : GMX P w K mg base C "over" 5 ["self", "other"] (pOver C D) := ⟨⟨_, _, okOver Fover T E GA M2 G1 G2, cl, ⟨aover, iover, kover⟩, bover⟩⟩
  have GC : GFn P w K mg base "_law_common" 1 ["_law_one", "_law_other"] [] pCommon := ⟨⟨_, _, [], okCommon Fcommon T, gx acommon, kcommon, bcommon, .nil⟩⟩
  have GL : GFn P w K mg base "_law_lowest" 2 ["_law_pair_here"] [] pLowest := ⟨⟨_, _, [], okLowest Flowest T GC, gx alowest, klowest, blowest, .nil⟩⟩
  have GS : GFn P w K mg base "_law_sign" 1 ["_law_number"] [] pSgn := ⟨⟨_, _, [], okSgn Fsgn T, gx asgn, ksgn, bsgn, .nil⟩⟩
  have GD : GFn P w K mg base "_law_draw" 1 ["_law_rng_here", "_law_many"] [] pDraw := ⟨⟨_, _, [], okDraw Fdraw T, gx adraw, kdraw, bdraw, .nil⟩⟩
  have GH : GFn P w K mg base "_law_choice" 2 ["_law_rng_here", "_law_some"] [] pChoice := ⟨⟨_, _, [], okChoice Fchoice T GD, gx achoice, kchoice, bchoice, .nil⟩⟩
  have GP : GFn P w K mg base "_law_pair" 3 ["_law_rng_here"] [] pPair := ⟨⟨_, _, [], okPair Fpair T GD GH, gx apair, kpair, bpair, .nil⟩⟩
  have GR : GFn P w K mg base "_law_rng" 1 ["_law_script", "_law_k"] [] (pRng K) := ⟨⟨_, _, [], okRng Frng T, gx arng, krng, brng, .nil⟩⟩
  have GIs : GFg P w K mg base "_law_is" 5 ["_law_one", "_law_pair_here"] [] (pIs C) := ⟨⟨_, _, [], okIs Fis R GL GS, gx ais, kis, bis, .nil⟩⟩
  have GDi : GFg P w K mg base "_law_is_divided_right" 6 ["_law_one", "_law_other", "_law_first", "_law_second"] [] (pDiv C) := ⟨⟨_, _, [], okDiv Fdiv R E GO GIs, gx adiv, kdiv, bdiv, .nil⟩⟩
  have GTw : GFg P w K mg base "_law_two_right" 7 ["_law_one", "_law_other", "_law_first", "_law_second"] [] (pTwo C) := ⟨⟨_, _, [], okTwo Ftwo R GL GIs GDi, gx atwo, ktwo, btwo, .nil⟩⟩
  have GRi : GFg P w K mg base "_law_right" 8 ["_law_rng_here"] [] pRight := ⟨⟨_, _, [], okRight Fright ⟨R, GL, GD, GH, GP, GIs, GTw, TT⟩, gx aright, kright, bright, .nil⟩⟩
  exact okLaw Flaw T GR GRi
end K11

set_option Elab.async false
open PySem PySem.W PyProof.Rows
set_option maxRecDepth 100000 in
set_option maxHeartbeats 0 in
theorem PySem.Challenge.cw_notesums_k11_ratios_by_integers_holds : PySem.Challenge.rw_notesums_k11_ratios_by_integers.Holds := by
  w_on; o_law; k_head; (case hw => w_witness2)
  k_fill
  refine N3.walk_G (l := PySem.Challenge.rw_notesums_k11_ratios_by_integers) (n := 63) (k := 9) (x := "_law_script") (pre := K11.pLaw) rfl (by decide) rfl ⟨rfl, by decide, by decide⟩ (fun w h Y => PySem.W.kIn_of Y) ?F (fun w L a ns hl hS => ⟨a, ns, rfl, hS, hl, rfl⟩)
  case F =>
    intro w mg fa h KX G hmg
    refine' K11.all_mk KX G hmg ?aC ?pgC ?hdC ?poC ?saC ?kcC ?nT ?nB ?ca ?cn ?ct ?cm ?icC ?tyC ?uCI ?uIC ?uSC ?uTC ?mgcd ?z_isinstance ?z_int ?z_bool ?z_max ?z_min ?z_abs ?z_len ?z_str ?z_repr ?z_divmod ?z_range ?z_zip ?z_all ?z_RuntimeError ?mkC ?ainit ?iinit ?linit ?cinit ?kinit ?qinit ?aadd ?iadd ?ladd ?cadd ?kadd ?asub ?isub ?lsub ?csub ?ksub ?amul ?imul ?lmul ?cmul ?kmul ?aneg ?ineg ?lneg ?cneg ?kneg ?aover ?iover ?lover ?cover ?kover ?abelow ?ibelow ?lbelow ?cbelow ?kbelow ?aeq ?ieq ?leq ?ceq ?keq ?astr ?istr ?lstr ?cstr ?kstr ?arepr ?irepr ?lrepr ?crepr ?krepr ?atop ?gtop ?ttop ?rctop ?ltop ?ctop ?ktop ?abottom ?gbottom ?tbottom ?rcbottom ?lbottom ?cbottom ?kbottom ?asign ?gsign ?tsign ?rcsign ?lsign ?csign ?ksign ?rdC ?gaC ?atotal ?rctotal ?itotal ?ltotal ?ctotal ?ktotal ?sf ?nradd ?foadd ?roadd ?nrsub ?fosub ?rosub ?nrmul ?fomul ?romul ?sb ?nfI ?nfS ?nfT ?nfC ?ne ?aD ?aM ?kpD ?exD ?suD ?tyD ?icD ?icM ?tyM ?sDD ?hgD ?hkD ?hdD ?haD ?hmD ?u1D ?u2D ?aisi ?lisi ?cisi ?kisi ?aisn ?lisn ?cisn ?kisn ?aasr ?lasr ?casr ?kasr ?arng ?lrng ?crng ?krng ?adraw ?ldraw ?cdraw ?kdraw ?achoice ?lchoice ?cchoice ?kchoice ?acommon ?lcommon ?ccommon ?kcommon ?apair ?lpair ?cpair ?kpair ?alowest ?llowest ?clowest ?klowest ?asgn ?lsgn ?csgn ?ksgn ?ais ?lis ?cis ?kis ?adiv ?ldiv ?cdiv ?kdiv ?atwo ?ltwo ?ctwo ?ktwo ?aright ?lright ?cright ?kright ?alaw ?llaw ?claw ?klaw
    (case aC => k_is)
    (case pgC => k_is)
    (case hdC => k_is)
    (case poC => k_is)
    (case saC => k_is)
    (case kcC => k_is)
    (case nT => k_is)
    (case nB => k_is)
    (case ca => k_is)
    (case cn => k_is)
    (case ct => k_is)
    (case cm => k_is)
    (case icC => k_is)
    (case tyC => k_is)
    (case uCI => k_is)
    (case uIC => k_is)
    (case uSC => k_is)
    (case uTC => k_is)
    (case mgcd => k_is)
    (case z_isinstance => k_is)
    (case z_int => k_is)
    (case z_bool => k_is)
    (case z_max => k_is)
    (case z_min => k_is)
    (case z_abs => k_is)
    (case z_len => k_is)
    (case z_str => k_is)
    (case z_repr => k_is)
    (case z_divmod => k_is)
    (case z_range => k_is)
    (case z_zip => k_is)
    (case z_all => k_is)
    (case z_RuntimeError => k_is)
    (case mkC => k_is)
    (case ainit => k_is)
    (case iinit => k_is)
    (case linit => k_is)
    (case cinit => k_is)
    (case kinit => k_is)
    (case qinit => k_is)
    (case aadd => k_is)
    (case iadd => k_is)
    (case ladd => k_is)
    (case cadd => k_is)
    (case kadd => k_is)
    (case asub => k_is)
    (case isub => k_is)
    (case lsub => k_is)
    (case csub => k_is)
    (case ksub => k_is)
    (case amul => k_is)
    (case imul => k_is)
    (case lmul => k_is)
    (case cmul => k_is)
    (case kmul => k_is)
    (case aneg => k_is)
    (case ineg => k_is)
    (case lneg => k_is)
    (case cneg => k_is)
    (case kneg => k_is)
    (case aover => k_is)
    (case iover => k_is)
    (case lover => k_is)
    (case cover => k_is)
    (case kover => k_is)
    (case abelow => k_is)
    (case ibelow => k_is)
    (case lbelow => k_is)
    (case cbelow => k_is)
    (case kbelow => k_is)
    (case aeq => k_is)
    (case ieq => k_is)
    (case leq => k_is)
    (case ceq => k_is)
    (case keq => k_is)
    (case astr => k_is)
    (case istr => k_is)
    (case lstr => k_is)
    (case cstr => k_is)
    (case kstr => k_is)
    (case arepr => k_is)
    (case irepr => k_is)
    (case lrepr => k_is)
    (case crepr => k_is)
    (case krepr => k_is)
    (case atop => k_is)
    (case gtop => k_is)
    (case ttop => k_is)
    (case rctop => k_is)
    (case ltop => k_is)
    (case ctop => k_is)
    (case ktop => k_is)
    (case abottom => k_is)
    (case gbottom => k_is)
    (case tbottom => k_is)
    (case rcbottom => k_is)
    (case lbottom => k_is)
    (case cbottom => k_is)
    (case kbottom => k_is)
    (case asign => k_is)
    (case gsign => k_is)
    (case tsign => k_is)
    (case rcsign => k_is)
    (case lsign => k_is)
    (case csign => k_is)
    (case ksign => k_is)
    (case rdC => k_is)
    (case gaC => k_is)
    (case atotal => k_is)
    (case rctotal => k_is)
    (case itotal => k_is)
    (case ltotal => k_is)
    (case ctotal => k_is)
    (case ktotal => k_is)
    (case sf => k_is)
    (case nradd => k_is)
    (case foadd => k_is)
    (case roadd => k_is)
    (case nrsub => k_is)
    (case fosub => k_is)
    (case rosub => k_is)
    (case nrmul => k_is)
    (case fomul => k_is)
    (case romul => k_is)
    (case sb => k_is)
    (case nfI => k_is)
    (case nfS => k_is)
    (case nfT => k_is)
    (case nfC => k_is)
    (case ne => k_is)
    (case aD => k_is)
    (case aM => k_is)
    (case kpD => k_is)
    (case exD => k_exc)
    (case suD => k_is)
    (case tyD => k_is)
    (case icD => k_is)
    (case icM => k_is)
    (case tyM => k_is)
    (case sDD => k_is)
    (case hgD => k_is)
    (case hkD => k_is)
    (case hdD => k_is)
    (case haD => k_is)
    (case hmD => k_is)
    (case u1D => k_is)
    (case u2D => k_is)
    (case aisi => k_is)
    (case lisi => k_is)
    (case cisi => k_is)
    (case kisi => k_is)
    (case aisn => k_is)
    (case lisn => k_is)
    (case cisn => k_is)
    (case kisn => k_is)
    (case aasr => k_is)
    (case lasr => k_is)
    (case casr => k_is)
    (case kasr => k_is)
    (case arng => k_is)
    (case lrng => k_is)
    (case crng => k_is)
    (case krng => k_is)
    (case adraw => k_is)
    (case ldraw => k_is)
    (case cdraw => k_is)
    (case kdraw => k_is)
    (case achoice => k_is)
    (case lchoice => k_is)
    (case cchoice => k_is)
    (case kchoice => k_is)
    (case acommon => k_is)
    (case lcommon => k_is)
    (case ccommon => k_is)
    (case kcommon => k_is)
    (case apair => k_is)
    (case lpair => k_is)
    (case cpair => k_is)
    (case kpair => k_is)
    (case alowest => k_is)
    (case llowest => k_is)
    (case clowest => k_is)
    (case klowest => k_is)
    (case asgn => k_is)
    (case lsgn => k_is)
    (case csgn => k_is)
    (case ksgn => k_is)
    (case ais => k_is)
    (case lis => k_is)
    (case cis => k_is)
    (case kis => k_is)
    (case adiv => k_is)
    (case ldiv => k_is)
    (case cdiv => k_is)
    (case kdiv => k_is)
    (case atwo => k_is)
    (case ltwo => k_is)
    (case ctwo => k_is)
    (case ktwo => k_is)
    (case aright => k_is)
    (case lright => k_is)
    (case cright => k_is)
    (case kright => k_is)
    (case alaw => k_is)
    (case llaw => k_is)
    (case claw => k_is)
    (case klaw => k_is)

