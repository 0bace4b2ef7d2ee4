import PyProof.Rows.All
import Wide.All
import OpenK.AllK
import Wide.FinOn
import HandS.Base
import HandS.Call
import HandS.List
import HandS.Comp
import HandS.Ends
import HandS.Dict
import HandS.Iter
import HandS.Text
import HandS.Words
import HandS.WordsList
import HandS.Codes
import PySem.Challenge.RW_aheadbook_k32_webs_closed
import HandS.Style
import HandS.TupAny
import KE.SortData
import PyProof.EnumMake
import PyProof.Draws
import KE.GoesMore
import HandS.IsInst
import HandS.DictComp
import HandS.Strs
import HandS.DictSub
import HandS.Deep
import HandS.Flow
import KE.DataCmp
import PyProof.Rows.SetFrom
import HandS.SetFor
import KE.KDictSum
import HandS.Conv
import PyProof.DictFindH
import PyProof.P3Eq
set_option Elab.async false
set_option linter.all false
set_option maxRecDepth 100000
set_option maxHeartbeats 2000000
namespace Ah
open PySem PySem.Spec PyProof.Rows L2
/-! ### heaps that keep all but one object -/
def Kp (p : Addr) (H H' : Hp) : Prop := ∀ b o, b ≠ p → H b = some o → H' b = some o
theorem Kp.refl (p : Addr) (H : Hp) : Kp p H H := fun _ _ _ h => h
theorem Kp.trans {p : Addr} {H H1 H2 : Hp} (a : Kp p H H1) (b : Kp p H1 H2) : Kp p H H2 := fun c o n h => b c o n (a c o n h)
theorem Kp.same {p : Addr} {H H' : Hp} (a : Same H H') : Kp p H H' := fun c o _ h => a c o h
theorem Kp.new {p q : Addr} {H : Hp} {o : HO} (h : H q = none) : Kp p H (upd H q o) := fun b x _ e => by
  rw [upd_ne (ne_of_none e h)]
  exact e
theorem Kp.put {p : Addr} {H : Hp} {o : HO} : Kp p H (upd H p o) := fun b x n e => by
  rw [upd_ne n]
  exact e
/-- what is not tracked at first may change -/
theorem Kp.mut {p q : Addr} {H H' : Hp} {o : HO} (k : Kp p H H') (h : H q = none) : Kp p H (upd H' q o) := fun b x n e => by
  rw [upd_ne (ne_of_none e h)]
  exact k b x n e
theorem same_new {q : Addr} {H : Hp} {o : HO} (h : H q = none) : Same H (upd H q o) := fun b x e => by
  rw [upd_ne (ne_of_none e h)]
  exact e
theorem same_mut {q : Addr} {H H' : Hp} {o : HO} (k : Same H H') (h : H q = none) : Same H (upd H' q o) := fun b x e => by
  rw [upd_ne (ne_of_none e h)]
  exact k b x e
theorem rd_kp {p a : Addr} {u : HO} {H H' : Hp} (k : Kp p H H') {kvs : List (Key × V)} (hp : H p = some (.dK kvs)) (hu : ∀ kvs, u ≠ .dK kvs) (h : Rd H a u) : Rd H' a u := by
  rcases h with h | ⟨o, h⟩
  · refine .inl (k a _ (fun e => ?_) h)
    rw [e, hp] at h
    exact hu _ (Option.some.inj h).symm
  · refine .inr ⟨o, k a _ (fun e => ?_) h⟩
    rw [e, hp] at h
    cases h
theorem seq_kp {K : PySem.W.Frag} {p a : Addr} {xs : List V} {H H' : Hp} (k : Kp p H H') {kvs : List (Key × V)} (hp : H p = some (.dK kvs)) (h : SqL K H a xs) : SqL K H' a xs := by
  rcases h with h | h
  · exact .inl (rd_kp k hp (fun _ z => by cases z) h)
  · exact .inr h
theorem tup_kp {K : PySem.W.Frag} {p a : Addr} {xs : List V} {H H' : Hp} (k : Kp p H H') {kvs : List (Key × V)} (hp : H p = some (.dK kvs)) (h : SqT K H a xs) : SqT K H' a xs := by
  rcases h with h | h
  · exact .inl (rd_kp k hp (fun _ z => by cases z) h)
  · exact .inr h
theorem tup_same {K : PySem.W.Frag} {a : Addr} {xs : List V} {H H' : Hp} (k : Same H H') (h : SqT K H a xs) : SqT K H' a xs := by
  rcases h with (h | ⟨o, h⟩) | h
  · exact .inl (.inl (k _ _ h))
  · exact .inl (.inr ⟨o, k _ _ h⟩)
  · exact .inr h
/-! ### the pen -/
def penK (c : Addr) (a l : Int) : List (Key × V) := [(.inr "cells", .ref c), (.inr "at", .int a), (.inr "left", .int l)]
def PenAt (H : Hp) (p c : Addr) (n : Nat) : Prop := ∃ (ns : List Int) (a l : Int), H p = some (.dK (penK c a l)) ∧ H c = some (.lst (ns.map V.int)) ∧ 0 ≤ a ∧ a ≤ n ∧ 0 ≤ l
theorem k_ca : ¬ (("cells" : Str) = "at") := by decide +kernel
theorem k_cl : ¬ (("cells" : Str) = "left") := by decide +kernel
theorem k_al : ¬ (("at" : Str) = "left") := by decide +kernel
theorem pen_cells (c : Addr) (a l : Int) : valV (penK c a l) (.inr "cells" : Key) = some (.ref c) := valV_pos rfl
theorem pen_at (c : Addr) (a l : Int) : valV (penK c a l) (.inr "at" : Key) = some (.int a) := (valV_neg fun e => k_ca (Sum.inr.inj e)).trans (valV_pos rfl)
theorem pen_left (c : Addr) (a l : Int) : valV (penK c a l) (.inr "left" : Key) = some (.int l) := (valV_neg fun e => k_cl (Sum.inr.inj e)).trans ((valV_neg fun e => k_al (Sum.inr.inj e)).trans (valV_pos rfl))
theorem pen_putAt (c : Addr) (a l b : Int) : putK (penK c a l) (.inr "at" : Key) (.int b) = penK c b l := by
  have h : ((penK c a l).any fun kv => decide (kv.1 = (.inr "at" : Key))) = true := by rw [valV_any, pen_at]; rfl
  unfold putK
  rw [if_pos h]
  show [if (Sum.inr ("cells" : Str) : Key) = Sum.inr ("at" : Str) then ((Sum.inr ("cells" : Str) : Key), V.int b) else (Sum.inr ("cells" : Str), V.ref c), if (Sum.inr ("at" : Str) : Key) = Sum.inr ("at" : Str) then ((Sum.inr ("at" : Str) : Key), V.int b) else (Sum.inr ("at" : Str), V.int a), if (Sum.inr ("left" : Str) : Key) = Sum.inr ("at" : Str) then ((Sum.inr ("left" : Str) : Key), V.int b) else (Sum.inr ("left" : Str), V.int l)] = penK c b l
  rw [if_neg (fun e => k_ca (Sum.inr.inj e)), if_pos rfl, if_neg (fun e => k_al (Sum.inr.inj e).symm)]
  rfl
theorem pen_putLeft (c : Addr) (a l b : Int) : putK (penK c a l) (.inr "left" : Key) (.int b) = penK c a b := by
  have h : ((penK c a l).any fun kv => decide (kv.1 = (.inr "left" : Key))) = true := by rw [valV_any, pen_left]; rfl
  unfold putK
  rw [if_pos h]
  show [if (Sum.inr ("cells" : Str) : Key) = Sum.inr ("left" : Str) then ((Sum.inr ("cells" : Str) : Key), V.int b) else (Sum.inr ("cells" : Str), V.ref c), if (Sum.inr ("at" : Str) : Key) = Sum.inr ("left" : Str) then ((Sum.inr ("at" : Str) : Key), V.int b) else (Sum.inr ("at" : Str), V.int a), if (Sum.inr ("left" : Str) : Key) = Sum.inr ("left" : Str) then ((Sum.inr ("left" : Str) : Key), V.int b) else (Sum.inr ("left" : Str), V.int l)] = penK c a b
  rw [if_neg (fun e => k_cl (Sum.inr.inj e)), if_neg (fun e => k_al (Sum.inr.inj e)), if_pos rfl]
  rfl
theorem PenAt.mono {H : Hp} {p c : Addr} {n m : Nat} (h : PenAt H p c n) (hm : n ≤ m) : PenAt H p c m := by
  obtain ⟨ns, a, l, h1, h2, h3, h4, h5⟩ := h
  exact ⟨ns, a, l, h1, h2, h3, by omega, h5⟩
theorem PenAt.keep {H H' : Hp} {p c : Addr} {n : Nat} (h : PenAt H p c n) (k : Same H H') : PenAt H' p c n := by
  obtain ⟨ns, a, l, h1, h2, h3, h4, h5⟩ := h
  exact ⟨ns, a, l, k _ _ h1, k _ _ h2, h3, h4, h5⟩
theorem PenAt.dk {H : Hp} {p c : Addr} {n : Nat} (h : PenAt H p c n) : ∃ kvs : List (Key × V), H p = some (.dK kvs) := by
  obtain ⟨ns, a, l, h1, _⟩ := h
  exact ⟨_, h1⟩
/-- an object that was not there when the pen stood is changed -/
theorem PenAt.mut {H H' : Hp} {p c q : Addr} {n m : Nat} {o : HO} (h : PenAt H p c n) (hq : H q = none) (h' : PenAt H' p c m) : PenAt (upd H' q o) p c m := by
  obtain ⟨_, _, _, g1, g2, _⟩ := h
  obtain ⟨ns, a, l, h1, h2, h3, h4, h5⟩ := h'
  exact ⟨ns, a, l, (upd_ne (ne_of_none g1 hq)).trans h1, (upd_ne (ne_of_none g2 hq)).trans h2, h3, h4, h5⟩
theorem Kp.free {H H' : Hp} {p c q : Addr} {n : Nat} (k : Kp p H H') (hp : PenAt H' p c n) (h : H' q = none) : H q = none := by
  obtain ⟨kvs, hk⟩ := hp.dk
  have nq : q ≠ p := fun e => by
    rw [e, hk] at h
    cases h
  cases e : H q with
  | none => rfl
  | some o =>
    rw [k q o nq e] at h
    cases h
/-! ### equal data -/
theorem dp_ints {K : PySem.W.Frag} {H : Hp} : ∀ ns : List Int, DpAll K H (ns.map V.int) (ns.map PyData.int)
  | [] => .nil
  | n :: ns => .cons (.int n) (dp_ints ns)
theorem dp_strs {K : PySem.W.Frag} {H : Hp} : ∀ ns : List Str, DpAll K H (ns.map V.str) (ns.map PyData.str)
  | [] => .nil
  | n :: ns => .cons (.str n) (dp_strs ns)
theorem lay_ints : ∀ ns : List Int, PyData.canLayAll0 (ns.map PyData.int) = true ∧ PyData.depthAll (ns.map PyData.int) ≤ 1
  | [] => ⟨rfl, by simp [PyData.depthAll]⟩
  | n :: ns => by
    obtain ⟨h1, h2⟩ := lay_ints ns
    refine ⟨by simp [PyData.canLayAll0, PyData.canLay0, h1], ?_⟩
    simp only [List.map_cons, PyData.depthAll, PyData.depth]
    omega
theorem lay_strs : ∀ ns : List Str, (∀ x ∈ ns, PyData.strOk x = true) → PyData.canLayAll0 (ns.map PyData.str) = true ∧ PyData.depthAll (ns.map PyData.str) ≤ 1
  | [], _ => ⟨rfl, by simp [PyData.depthAll]⟩
  | n :: ns, h => by
    obtain ⟨h1, h2⟩ := lay_strs ns fun x hx => h x (List.mem_cons_of_mem _ hx)
    refine ⟨by simp [PyData.canLayAll0, PyData.canLay0, h1, h n List.mem_cons_self], ?_⟩
    simp only [List.map_cons, PyData.depthAll, PyData.depth]
    omega
theorem shp_list {ds : List PyData} (h : PyData.canLayAll0 ds = true) (hd : PyData.depthAll ds ≤ 63) : SeqAt.shaped (.list ds) = true := by
  unfold SeqAt.shaped
  simp only [PyData.canLay0, PyData.depth, h, Bool.true_and]
  exact decide_eq_true (by omega)
theorem shp_tup {ds : List PyData} (h : PyData.canLayAll0 ds = true) (hd : PyData.depthAll ds ≤ 63) : SeqAt.shaped (.tuple ds) = true := by
  unfold SeqAt.shaped
  simp only [PyData.canLay0, PyData.depth, h, Bool.true_and]
  exact decide_eq_true (by omega)
theorem shp_ints (ns : List Int) : SeqAt.shaped (.list (ns.map PyData.int)) = true := shp_list (lay_ints ns).1 (Nat.le_trans (lay_ints ns).2 (by decide))
theorem shp_strs {ns : List Str} (h : ∀ x ∈ ns, PyData.strOk x = true) : SeqAt.shaped (.list (ns.map PyData.str)) = true := shp_list (lay_strs ns h).1 (Nat.le_trans (lay_strs ns h).2 (by decide))
theorem shp_strsT {ns : List Str} (h : ∀ x ∈ ns, PyData.strOk x = true) : SeqAt.shaped (.tuple (ns.map PyData.str)) = true := shp_tup (lay_strs ns h).1 (Nat.le_trans (lay_strs ns h).2 (by decide))
theorem shp_nil : SeqAt.shaped (.list []) = true := shp_list rfl (by simp [PyData.depthAll])
theorem eqv_nil {α : Type} (f : α → PyData) (ns : List α) : PyData.eqv (.list (ns.map f)) (.list []) = ns.isEmpty := by
  cases ns with
  | nil => simp [PyData.eqv, PyData.eqvAll]
  | cons n ns => simp [PyData.eqv, PyData.eqvAll]
end Ah
set_option Elab.async false
set_option linter.all false
set_option maxRecDepth 100000
set_option maxHeartbeats 2000000
namespace Ah
open PySem PySem.Spec PyProof.Rows L2
def topS (i : Nat) : Stmt := PySem.Challenge.pw_aheadbook_k32_webs_closed.main.body.getD i (.Pass ⟨0, 0, 0, 0⟩)
abbrev sDraw : Stmt := topS 13
/-- the built-in names that the text uses -/
structure Blt (mg : Str → Option Value) : Prop where
  len : mg "len" = none
  abs : mg "abs" = none
  list : mg "list" = none
theorem dg_left {H : Hp} {p c : Addr} {a l : Int} (h : H p = some (.dK (penK c a l))) : DGet H p (.str "left") (some (.int l)) := by
  have q := DGet.k (k := (Sum.inr ("left" : Str) : Key)) h
  rw [pen_left] at q
  exact q
theorem dg_at {H : Hp} {p c : Addr} {a l : Int} (h : H p = some (.dK (penK c a l))) : DGet H p (.str "at") (some (.int a)) := by
  have q := DGet.k (k := (Sum.inr ("at" : Str) : Key)) h
  rw [pen_at] at q
  exact q
theorem dg_cells {H : Hp} {p c : Addr} {a l : Int} (h : H p = some (.dK (penK c a l))) : DGet H p (.str "cells") (some (.ref c)) := by
  have q := DGet.k (k := (Sum.inr ("cells" : Str) : Key)) h
  rw [pen_cells] at q
  exact q
theorem dp_left {H : Hp} {p c : Addr} {a l b : Int} (h : H p = some (.dK (penK c a l))) : DPut H p (.str "left") (.int b) (upd H p (.dK (penK c a b))) := by
  have q := DPut.k (k := (Sum.inr ("left" : Str) : Key)) (v := V.int b) h (by show 3 < sizeLine; decide)
  rw [pen_putLeft] at q
  exact q
theorem dp_at {H : Hp} {p c : Addr} {a l b : Int} (h : H p = some (.dK (penK c a l))) : DPut H p (.str "at") (.int b) (upd H p (.dK (penK c b l))) := by
  have q := DPut.k (k := (Sum.inr ("at" : Str) : Key)) (v := V.int b) h (by show 3 < sizeLine; decide)
  rw [pen_putAt] at q
  exact q
theorem blend_lt {x m : Int} (h : 0 < m) : 0 ≤ x % m ∧ x % m < m := ⟨Int.emod_nonneg _ (by omega), Int.emod_lt_of_pos _ h⟩
section
variable {P : Program} {w : World} {K : PySem.W.Frag} {mg : Str → Option Value} {base : Heap}
theorem scDraw : FnScope ["pen", "many", "digit", "at", "cell", "blend"] ["pen", "many"] (defScope sDraw) := ⟨rfl, rfl, rfl, by decide +kernel, rfl, by decide +kernel, by decide +kernel⟩
def spDraw : Sp := fun vs H Q _ => ∃ (p c : Addr) (m : Int) (n : Nat), vs = [.ref p, .int m] ∧ PenAt H p c n ∧ n < 1000000 ∧ 0 < m ∧ m < 1073741824 ∧
  ∀ (d : Int) (H' : Hp), 0 ≤ d → d < m → PenAt H' p c (n + 1) → Kp p H H' → Q (.int d) H'
theorem ok_draw {f : Addr} {fd : FuncData} (F : Fun K "_law_draw" "_law_draw" sDraw f fd) (B : Blt mg) : FnOk P w K mg base CX0 1 f fd ["pen", "many"] spDraw := by
  refine F.ok scDraw (fun vs H Q E h => ?_) (fun cdv A outer s H vs Q E hr h => ?_)
  · obtain ⟨p, c, m, n, rfl, _⟩ := h
    rfl
  · obtain ⟨p, c, m, n, rfl, ⟨ns, a, l, hp, hc, a0, an, l0⟩, hn, m0, m1, k⟩ := h
    have hu := hu_of hr
    have nd := scDraw.nd
    have ncp : c ≠ p := fun e => by
      rw [e, hp] at hc
      cases hc
    refine ⟨_, pss_cons (ps_if (pt_cmpR op_gt (pe_dget hu (pv 0) pe_str (fun _ _ => rfl)) pe_int (nomark _))
        (pss_cons (ps_set (i := 2) nd rfl (.inl rfl) (pe_op op_mod (pe_dget hu (pv 0) pe_str (fun _ _ => rfl)) (pv 1)))
        (pss_cons (ps_dput hu (pv 0) pe_str (pe_op op_fdiv (pe_dget hu (pv 0) pe_str (fun _ _ => rfl)) (pv 1)) rfl)
        (pss_one (ps_ret (pv 2))))) pss_nil)
      (pss_cons (ps_set (i := 3) nd rfl (.inl rfl) (pe_dget hu (pv 0) pe_str (fun _ _ => rfl)))
      (pss_cons (ps_dput hu (pv 0) pe_str (pe_op op_add (pv 3) pe_int) rfl)
      (pss_cons (ps_set (i := 4) nd rfl (.inl rfl) (pe_op op_add (pe_op op_mul pe_int (pv 3)) pe_int))
      (C8.pss_cut (ps_if (pt_cmpR (op_neD hr.units) (pe_dget hu (pv 0) pe_str (fun _ _ => rfl)) (pe_lst pa_nil) (nomark _))
        (pss_one (ps_set (i := 4) nd rfl (.inl rfl) (pe_ix ix_list (pe_dget hu (pv 0) pe_str (fun _ _ => rfl)) (pe_op op_mod (pv 3) (pe_callB call_len_seq (by rfl) B.len PySem.boot_len (pa_cons (pe_dget hu (pv 0) pe_str (fun _ _ => rfl)) pa_nil))) (fun _ _ => rfl)))) pss_nil)
      (C8.pss_cut (ps_if (PW.pt (pw_and (pt_cmpR op_lt (pv 3) (pe_callB call_len_seq (by rfl) B.len PySem.boot_len (pa_cons (pe_dget hu (pv 0) pe_str (fun _ _ => rfl)) pa_nil)) (nomark _))
            (pw_and1 (pt_cmpR op_ge (pe_callB call_abs (by rfl) B.abs (by decide +kernel) (pa_cons (pv 4) pa_nil)) (pe_op op_pow pe_int pe_int) (nomark _)))))
        (pss_cons (ps_dput hu (pv 0) pe_str (pe_op op_fdiv (pe_op op_sub (pe_callB call_abs (by rfl) B.abs (by decide +kernel) (pa_cons (pv 4) pa_nil)) (pe_op op_pow pe_int pe_int)) (pv 1)) rfl)
        (pss_one (ps_ret (pe_op op_mod (pe_op op_sub (pe_callB call_abs (by rfl) B.abs (by decide +kernel) (pa_cons (pv 4) pa_nil)) (pe_op op_pow pe_int pe_int)) (pv 1))))) pss_nil)
      (pss_cons (ps_set (i := 5) nd rfl (.inl rfl) (pe_op op_mod (pe_op op_add (pe_op op_add (pe_op op_add (pe_op op_mul (pe_op op_mod (pv 4) pe_int) pe_int) (pe_op op_mul (pe_op op_mul pe_int (pv 3)) (pv 3))) (pe_op op_mul pe_int (pv 3))) pe_int) pe_int))
      (pss_cons (ps_set (i := 5) nd rfl (.inl rfl) (pe_op op_mod (pe_op op_add (pe_op op_add (pe_op op_add (pe_op op_mul (pv 5) (pv 5)) (pe_op op_mul pe_int (pv 5))) (pe_op op_mul pe_int (pv 3))) pe_int) pe_int))
      (pss_one (ps_ret (pe_op op_mod (pe_op op_fdiv (pe_op op_mod (pe_op op_mul (pv 5) (pe_op op_add (pv 5) pe_int)) pe_int) pe_int) (pv 1))))))))))), ?_⟩
    -- if pen['left'] > 0
    refine ⟨_, rfl, p, _, rfl, dg_left hp, _, _, rfl, rfl, _, rfl, ?_⟩
    refine ite2 (fun e => ?_) (fun e => ?_)
    · have e : 0 < l := of_decide_eq_true e
      refine ⟨_, rfl, p, _, rfl, dg_left hp, _, rfl, _, _, rfl, rfl, m0, ?_⟩
      refine ⟨_, rfl, p, _, rfl, dg_left hp, _, rfl, _, _, rfl, rfl, ⟨m0, m1⟩, _, rfl, p, _, rfl, dp_left hp, ?_⟩
      refine ⟨_, rfl, k _ _ (blend_lt m0).1 (blend_lt m0).2 ⟨ns, a, l / m, upd_same, (upd_ne ncp).trans hc, a0, by omega, Int.ediv_nonneg l0 (by omega)⟩ Kp.put⟩
    -- at = pen['at']; pen['at'] = at + 1
    refine ⟨_, rfl, p, _, rfl, dg_at hp, ?_⟩
    refine ⟨_, rfl, _, _, rfl, rfl, _, rfl, p, _, rfl, dp_at hp, ?_⟩
    have hp1 : (upd H p (.dK (penK c (a + 1) l))) p = some (.dK (penK c (a + 1) l)) := upd_same
    have hc1 : (upd H p (.dK (penK c (a + 1) l))) c = some (.lst (ns.map V.int)) := (upd_ne ncp).trans hc
    have k1 : Kp p H (upd H p (.dK (penK c (a + 1) l))) := Kp.put
    generalize upd H p (.dK (penK c (a + 1) l)) = H1 at hp1 hc1 k1 ⊢
    -- cell = 17 * at + 3
    refine ⟨_, rfl, _, _, rfl, rfl, .inl (by omega), _, _, rfl, rfl, ?_⟩
    -- if pen['cells'] != []
    refine ⟨fun σ' H' => ∃ cell : Int, σ' = [some (.ref p), some (.int m), none, some (.int a), some (.int cell), none] ∧ H' p = some (.dK (penK c (a + 1) l)) ∧ H' c = some (.lst (ns.map V.int)) ∧ Kp p H H', ?_, ?_⟩
    · refine ⟨_, rfl, p, _, rfl, dg_cells hp1, Nat.zero_le _, fun q hq => ?_⟩
      have hp2 : (upd H1 q (.lst [])) p = some (.dK (penK c (a + 1) l)) := (upd_ne (ne_of_none hp1 hq)).trans hp1
      have hc2 : (upd H1 q (.lst [])) c = some (.lst (ns.map V.int)) := (upd_ne (ne_of_none hc1 hq)).trans hc1
      have hq2 : (upd H1 q (.lst [])) q = some (.lst []) := upd_same
      have k2 : Kp p H (upd H1 q (.lst [])) := k1.trans (Kp.new hq)
      generalize upd H1 q (.lst []) = H2 at hp2 hc2 hq2 k2 ⊢
      refine ⟨.list (ns.map PyData.int), .list [], .lst (SqL.of hc2) (dp_ints ns), .lst (SqL.of hq2) .nil, shp_ints ns, shp_nil, _, rfl, ?_⟩
      rw [eqv_nil]
      refine ite2 (fun e => ?_) (fun e => ⟨_, rfl, hp2, hc2, k2⟩)
      have hne : 0 < ns.length := by
        cases ns with
        | nil => cases e
        | cons x r => exact Nat.succ_pos _
      have hlen : (0 : Int) < ((ns.map V.int).length : Int) := by
        rw [List.length_map]
        omega
      have hm := blend_lt (x := a) hlen
      rw [List.length_map] at hm
      obtain ⟨j, hj⟩ : ∃ j : Nat, (a % (ns.length : Int)) = (j : Int) := ⟨(a % (ns.length : Int)).toNat, by omega⟩
      have hjl : j < ns.length := by omega
      refine ⟨_, rfl, p, _, rfl, dg_cells hp2, _, rfl, _, rfl, p, _, rfl, dg_cells hp2, c, _, rfl, .inl (SqL.of hc2), _, _, rfl, rfl, hlen, c, ns.map V.int, _, .int (ns[j]), rfl, rfl, SqL.of hc2, ?_, ⟨_, rfl, hp2, hc2, k2⟩⟩
      rw [List.length_map, hj]
      refine atI_nat ?_
      rw [List.getElem?_map, List.getElem?_eq_getElem hjl]
      rfl
    rintro σ' H2 ⟨cell, rfl, hp2, hc2, k2⟩
    have fin : ∀ (H' : Hp) (b : Int), 0 ≤ b → H' p = some (.dK (penK c (a + 1) b)) → H' c = some (.lst (ns.map V.int)) → PenAt H' p c (n + 1) := fun H' b hb q1 q2 => ⟨ns, a + 1, b, q1, q2, by omega, by omega, hb⟩
    -- if at < len(pen['cells']) and abs(cell) >= 10 ** 18
    refine ⟨fun σ' H' => σ' = [some (.ref p), some (.int m), none, some (.int a), some (.int cell), none] ∧ H' = H2, ?_, ?_⟩
    · refine ⟨_, rfl, _, rfl, p, _, rfl, dg_cells hp2, c, _, rfl, .inl (SqL.of hc2), _, _, rfl, rfl, _, rfl, ?_⟩
      refine ite2 (fun e1 => ?_) (fun e1 => iteF ⟨rfl, rfl⟩)
      refine ⟨_, rfl, cell, rfl, _, _, rfl, rfl, ⟨by decide, by decide, by decide⟩, _, _, rfl, rfl, _, rfl, ?_⟩
      refine ite2 (fun e2 => ?_) (fun e2 => ⟨rfl, rfl⟩)
      have e2 : (10 : Int) ^ (18 : Int).toNat ≤ (if cell < 0 then -cell else cell) := of_decide_eq_true e2
      refine ⟨_, rfl, cell, rfl, _, _, rfl, rfl, ⟨by decide, by decide, by decide⟩, _, _, rfl, rfl, _, rfl, _, _, rfl, rfl, ⟨m0, m1⟩, _, rfl, p, _, rfl, dp_left hp2, ?_⟩
      refine ⟨_, rfl, cell, rfl, _, _, rfl, rfl, ⟨by decide, by decide, by decide⟩, _, _, rfl, rfl, _, rfl, _, _, rfl, rfl, m0, ?_⟩
      exact k _ _ (blend_lt m0).1 (blend_lt m0).2 (fin _ _ (Int.ediv_nonneg (by omega) (by omega)) upd_same ((upd_ne ncp).trans hc2)) (k2.trans Kp.put)
    rintro σ' H3 ⟨rfl, rfl⟩
    -- the blends
    have b0 := blend_lt (x := cell) (m := 2147483659) (by decide)
    refine ⟨_, rfl, _, _, rfl, rfl, (by show (0 : Int) < 2147483659; decide), _, _, rfl, rfl, .inl (by show -(2 ^ 64) < cell % 2147483659 ∧ cell % 2147483659 < 2 ^ 64; omega), _, rfl, _, _, rfl, rfl, .inl (by decide), _, rfl, _, _, rfl, rfl, .inl (by omega), _, _, rfl, rfl, _, rfl, _, _, rfl, rfl, .inl (by decide), _, _, rfl, rfl, _, _, rfl, rfl, _, _, rfl, rfl, (by show (0 : Int) < 2147483693; decide), ?_⟩
    have b1 := blend_lt (x := cell % 2147483659 * 48271 + 30011 * a * a + 12289 * a + 7) (m := 2147483693) (by decide)
    obtain ⟨x, hx⟩ : ∃ x, x = (cell % 2147483659 * 48271 + 30011 * a * a + 12289 * a + 7) % 2147483693 := ⟨_, rfl⟩
    rw [← hx] at b1
    dsimp only
    rw [← hx]
    refine ⟨_, rfl, _, rfl, _, _, rfl, rfl, .inl (by omega), _, rfl, _, _, rfl, rfl, .inl (by decide), _, _, rfl, rfl, _, rfl, _, _, rfl, rfl, .inl (by decide), _, _, rfl, rfl, _, _, rfl, rfl, _, _, rfl, rfl, (by show (0 : Int) < 2147483713; decide), ?_⟩
    have b2 := blend_lt (x := x * x + 16807 * x + 5 * a + 1) (m := 2147483713) (by decide)
    obtain ⟨y, hy⟩ : ∃ y, y = (x * x + 16807 * x + 5 * a + 1) % 2147483713 := ⟨_, rfl⟩
    rw [← hy] at b2
    dsimp only
    rw [← hy]
    refine ⟨_, rfl, _, rfl, _, _, rfl, rfl, _, _, rfl, rfl, .inl (by omega), _, _, rfl, rfl, (by show (0 : Int) < 2147483743; decide), _, _, rfl, rfl, ⟨by decide, by decide⟩, _, rfl, _, _, rfl, rfl, m0, ?_⟩
    exact k _ _ (blend_lt m0).1 (blend_lt m0).2 (fin _ l l0 hp2 hc2) k2
end
end Ah
set_option Elab.async false
set_option linter.all false
set_option maxRecDepth 100000
set_option maxHeartbeats 2000000
namespace Ah
open PySem PySem.Spec PyProof.Rows L2
/-! ### data over heaps -/
/-- what data lean on: lists and tuples that are to be read -/
def Sq (K : PySem.W.Frag) (H H' : Hp) : Prop := (∀ a xs, SqL K H a xs → SqL K H' a xs) ∧ ∀ a xs, SqT K H a xs → SqT K H' a xs
theorem Sq.kp {K : PySem.W.Frag} {p : Addr} {H H' : Hp} (k : Kp p H H') {kvs : List (Key × V)} (hp : H p = some (.dK kvs)) : Sq K H H' := ⟨fun _ _ h => seq_kp k hp h, fun _ _ h => tup_kp k hp h⟩
theorem Sq.same {K : PySem.W.Frag} {H H' : Hp} (k : Same H H') : Sq K H H' := ⟨fun _ _ h => k.seq h, fun _ _ h => tup_same k h⟩
mutual
theorem dp_sq {K : PySem.W.Frag} {H H' : Hp} (k : Sq K H H') : ∀ (d : PyData) (v : V), Dp K H v d → Dp K H' v d
  | .none, _, h => by
    cases h
    exact .non
  | .bool b, _, h => by
    cases h
    exact .bl b
  | .int i, _, h => by
    cases h
    exact .int i
  | .str x, _, h => by
    cases h
    exact .str x
  | .list ds, _, h => by
    cases h with
    | lst hs ha => exact .lst (k.1 _ _ hs) (dpAll_sq k ds _ ha)
  | .tuple ds, _, h => by
    cases h with
    | tup hs ha => exact .tup (k.2 _ _ hs) (dpAll_sq k ds _ ha)
  | .dict _, _, h => by cases h
theorem dpAll_sq {K : PySem.W.Frag} {H H' : Hp} (k : Sq K H H') : ∀ (ds : List PyData) (vs : List V), DpAll K H vs ds → DpAll K H' vs ds
  | [], _, h => by
    cases h
    exact .nil
  | d :: ds, _, h => by
    cases h with
    | cons h1 h2 => exact .cons (dp_sq k d _ h1) (dpAll_sq k ds _ h2)
end
def Shp (d : PyData) : Prop := d.canLay0 = true ∧ d.depth ≤ 60
theorem shp_all : ∀ {ds : List PyData}, (∀ d ∈ ds, Shp d) → PyData.canLayAll0 ds = true ∧ PyData.depthAll ds ≤ 60
  | [], _ => ⟨rfl, by simp [PyData.depthAll]⟩
  | d :: ds, h => by
    obtain ⟨h1, h2⟩ := shp_all fun x hx => h x (List.mem_cons_of_mem _ hx)
    obtain ⟨h3, h4⟩ := h d List.mem_cons_self
    refine ⟨by simp [PyData.canLayAll0, h1, h3], ?_⟩
    simp only [PyData.depthAll]
    omega
theorem shp_l {ds : List PyData} (h : ∀ d ∈ ds, Shp d) : SeqAt.shaped (.list ds) = true := shp_list (shp_all h).1 (Nat.le_trans (shp_all h).2 (by decide))
theorem shp_t {ds : List PyData} (h : ∀ d ∈ ds, Shp d) : SeqAt.shaped (.tuple ds) = true := shp_tup (shp_all h).1 (Nat.le_trans (shp_all h).2 (by decide))
theorem shp_str {x : Str} (h : PyData.strOk x = true) : Shp (.str x) := ⟨by simp [PyData.canLay0, h], by simp [PyData.depth]⟩
theorem dpAll_len {K : PySem.W.Frag} {H : Hp} : ∀ {vs : List V} {ds : List PyData}, DpAll K H vs ds → vs.length = ds.length
  | _, _, .nil => rfl
  | _, _, .cons _ t => by rw [List.length_cons, List.length_cons, dpAll_len t]
theorem dpAll_erase {K : PySem.W.Frag} {H : Hp} : ∀ {vs : List V} {ds : List PyData} (i : Nat), DpAll K H vs ds → DpAll K H (vs.eraseIdx i) (ds.eraseIdx i)
  | _, _, _, .nil => .nil
  | _, _, 0, .cons _ t => t
  | _, _, i + 1, .cons h t => .cons h (dpAll_erase i t)
theorem eqv_nils {ds : List PyData} : PyData.eqv (.list ds) (.list []) = ds.isEmpty := by
  cases ds with
  | nil => simp [PyData.eqv, PyData.eqvAll]
  | cons n ns => simp [PyData.eqv, PyData.eqvAll]
/-! ### a def, as its callers see it -/
structure Df (P : Program) (w : World) (K : PySem.W.Frag) (mg : Str → Option Value) (base : Heap) (CX : CXT) (x : Str) (k : Nat) (f : Addr) (fd : FuncData) (ps : List Str) (sp : Sp) : Prop where
  ok : FnOk P w K mg base CX k f fd ps sp
  g : mg x = some (.ref f)
  kp : PySem.W.keepIn K (.ref f) = true
  b : Binds K fd ps []
/-- a sequence of values: a list, a tuple, a text's signs -/
def Seqv (K : PySem.W.Frag) (H : Hp) (x : V) (ys : List V) : Prop := (∃ a, x = .ref a ∧ SqL K H a ys) ∨ (∃ a, x = .ref a ∧ SqT K H a ys) ∨ ∃ z : Str, x = .str z ∧ z.length ≤ sizeLine ∧ ys = z.cps.toList.map fun c => V.str ⟨#[c]⟩
theorem Seqv.sq {K : PySem.W.Frag} {H H' : Hp} {x : V} {ys : List V} (k : Sq K H H') (h : Seqv K H x ys) : Seqv K H' x ys := by
  rcases h with ⟨a, e, h⟩ | ⟨a, e, h⟩ | h
  · exact .inl ⟨a, e, k.1 _ _ h⟩
  · exact .inr (.inl ⟨a, e, k.2 _ _ h⟩)
  · exact .inr (.inr h)
theorem Seqv.len {K : PySem.W.Frag} {H : Hp} {x : V} {ys : List V} (h : Seqv K H x ys) : LenV K x H ys.length := by
  rcases h with ⟨a, rfl, h⟩ | ⟨a, rfl, h⟩ | ⟨z, rfl, hz, rfl⟩
  · exact .inl ⟨ys, h, rfl⟩
  · exact .inr ⟨ys, h, rfl⟩
  · exact ⟨hz, by rw [List.length_map, Array.length_toList]; rfl⟩
theorem perm_erase {α : Type} : ∀ {l : List α} {i : Nat} (h : i < l.length), (l[i] :: l.eraseIdx i).Perm l
  | x :: l, 0, _ => List.Perm.refl _
  | x :: l, i + 1, h => by
    have ih := perm_erase (l := l) (i := i) (Nat.lt_of_succ_lt_succ h)
    show (l[i]'(Nat.lt_of_succ_lt_succ h) :: x :: l.eraseIdx i).Perm (x :: l)
    exact (List.Perm.swap _ _ _).trans (ih.cons x)
theorem seqIx {j n : Nat} (h : j < n) : seqIndex? (j : Int) n = some j := by
  unfold seqIndex?
  simp
  omega
abbrev sPick : Stmt := topS 14
abbrev sShuf : Stmt := topS 15
section
variable {P : Program} {w : World} {K : PySem.W.Frag} {mg : Str → Option Value} {base : Heap}
theorem scPick : FnScope ["pen", "some"] ["pen", "some"] (defScope sPick) := ⟨rfl, rfl, rfl, by decide +kernel, rfl, by decide +kernel, by decide +kernel⟩
def spPick (K : PySem.W.Frag) : Sp := fun vs H Q _ => ∃ (p c : Addr) (x : V) (ys : List V) (n : Nat), vs = [.ref p, x] ∧ Seqv K H x ys ∧ PenAt H p c n ∧ n < 1000000 ∧ 0 < ys.length ∧ ys.length < 1000000 ∧
  ∀ (i : Nat) (y : V) (H' : Hp), ys[i]? = some y → PenAt H' p c (n + 1) → Kp p H H' → Q y H'
theorem ok_pick {f f1 : Addr} {fd fd1 : FuncData} (F : Fun K "_law_pick" "_law_pick" sPick f fd) (B : Blt mg) (D : Df P w K mg base CX0 "_law_draw" 1 f1 fd1 ["pen", "many"] spDraw) : FnOk P w K mg base CX0 2 f fd ["pen", "some"] (spPick K) := by
  refine F.ok scPick (fun vs H Q E h => ?_) (fun cdv A outer s H vs Q E hr h => ?_)
  · obtain ⟨p, c, x, ys, n, rfl, _⟩ := h
    rfl
  · obtain ⟨p, c, x, ys, n, rfl, hx, hp, hn, h0, h1, k⟩ := h
    refine ⟨_, pss_one (ps_ret (pe_ix ix_seq (pv 1) (pe_call D.ok hr rfl D.g D.kp D.b .nil pass0 (pa_cons (pv 0) (pa_cons (pe_callB call_len (by rfl) B.len PySem.boot_len (pa_cons (pv 1) pa_nil)) pa_nil))) (fun _ _ => rfl))), ?_⟩
    refine ⟨_, rfl, _, rfl, x, rfl, x, _, rfl, hx.len, p, c, _, n, rfl, hp, hn, by omega, by omega, fun d H' d0 d1 hp' kp => ?_⟩
    obtain ⟨kvs, hk⟩ := hp.dk
    have hx' := hx.sq (Sq.kp kp hk)
    obtain ⟨j, rfl⟩ : ∃ j : Nat, d = j := ⟨d.toNat, by omega⟩
    have hj : j < ys.length := by omega
    have hjj : ys[j]? = some ys[j] := List.getElem?_eq_getElem hj
    rcases hx' with ⟨a, e, h⟩ | ⟨a, e, h⟩ | ⟨z, e, hz, rfl⟩
    · exact .inl ⟨a, ys, _, _, e, rfl, h, atI_nat hjj, k j _ _ hjj hp' kp⟩
    · exact .inr (.inl ⟨a, ys, _, _, e, rfl, h, atI_nat hjj, k j _ _ hjj hp' kp⟩)
    · obtain ⟨b, hc, ec⟩ : ∃ b, z.cps.toList[j]? = some b ∧ V.str ⟨#[b]⟩ = (z.cps.toList.map fun c => V.str ⟨#[c]⟩)[j] := by
        rw [List.length_map] at hj
        refine ⟨z.cps.toList[j], List.getElem?_eq_getElem hj, by rw [List.getElem_map]⟩
      refine .inr (.inr ⟨z, _, b, e, rfl, hz, ?_, ?_⟩)
      · unfold atI
        unfold ixN
        rw [if_pos (by omega)]
        rw [List.length_map] at hj
        rw [if_pos (by omega)]
        exact hc
      · rw [ec]
        exact k j _ _ hjj hp' kp
theorem scShuf : FnScope ["pen", "some", "left", "found"] ["pen", "some"] (defScope sShuf) := ⟨rfl, rfl, rfl, by decide +kernel, rfl, by decide +kernel, by decide +kernel⟩
def spShuf (K : PySem.W.Frag) : Sp := fun vs H Q _ => ∃ (p c a : Addr) (xs : List V) (ds : List PyData) (n : Nat), vs = [.ref p, .ref a] ∧ (SqL K H a xs ∨ SqT K H a xs) ∧ DpAll K H xs ds ∧ (∀ d ∈ ds, Shp d) ∧ xs.length ≤ 1000 ∧ PenAt H p c n ∧ n + xs.length < 1000000 ∧
  ∀ (q : Addr) (ys : List V) (H' : Hp), ys.Perm xs → H q = none → H' q = some (.lst ys) → PenAt H' p c (n + xs.length) → Kp p H H' → Q (.ref q) H'
theorem ok_shuf {f f1 : Addr} {fd fd1 : FuncData} (F : Fun K "_law_shuffled" "_law_shuffled" sShuf f fd) (B : Blt mg) (D : Df P w K mg base CX0 "_law_draw" 1 f1 fd1 ["pen", "many"] spDraw) : FnOk P w K mg base CX0 2 f fd ["pen", "some"] (spShuf K) := by
  refine F.ok scShuf (fun vs H Q E h => ?_) (fun cdv A outer s H vs Q E hr h => ?_)
  · obtain ⟨p, c, a, xs, ds, n, rfl, _⟩ := h
    rfl
  · obtain ⟨p, c, a, xs, ds, n, rfl, hx, hd, hs, h0, hp, hn, k⟩ := h
    have nd := scShuf.nd
    refine ⟨_, pss_cons (ps_par (i := 2) (j := 3) rfl nd rfl rfl (by decide) rfl rfl (pa_cons (pe_callTy call_list_of (by rfl) B.list (by decide +kernel) (pa_cons (pv 1) pa_nil)) (pa_cons (pe_lst pa_nil) pa_nil)) (by rfl))
      (pss_cons (ps_while PassesOwn.never (pt_cmpR (op_neD hr.units) (pv 2) (pe_lst pa_nil) (nomark _))
        (pss_one (ps_expr (pe_bm PySem.F.plainAttrs_list PySem.F.slot_list_append PySem.F.type_list_append mt_append (pv 3) (pa_cons (pe_bm PySem.F.plainAttrs_list PySem.F.slot_list_pop PySem.F.type_list_pop mt_popAt (pv 2)
          (pa_cons (pe_call D.ok hr rfl D.g D.kp D.b .nil pass0 (pa_cons (pv 0) (pa_cons (pe_callB call_len_seq (by rfl) B.len PySem.boot_len (pa_cons (pv 2) pa_nil)) pa_nil))) pa_nil)) pa_nil)))))
      (pss_one (ps_ret (pv 3)))), ?_⟩
    obtain ⟨kvs, hk⟩ := hp.dk
    refine ⟨_, rfl, a, xs, rfl, hx, fun l hl => ?_⟩
    have ha1 : Same H (upd H l (.lst xs)) := same_new hl
    have e1 : (upd H l (.lst xs)) l = some (.lst xs) := upd_same
    generalize upd H l (.lst xs) = H1 at ha1 e1 ⊢
    refine ⟨Nat.zero_le _, fun g hg => ?_⟩
    have ha2 : Same H (upd H1 g (.lst [])) := ha1.trans (same_new hg)
    have e2 : (upd H1 g (.lst [])) l = some (.lst xs) := (upd_ne (ne_of_none e1 hg)).trans e1
    have e3 : (upd H1 g (.lst [])) g = some (.lst []) := upd_same
    have nlg : l ≠ g := ne_of_none e1 hg
    have hg0 : H g = none := ha1.free hg
    generalize upd H1 g (.lst []) = H2 at ha2 e2 e3 ⊢
    refine ⟨_, _, rfl, ?_⟩
    -- the loop
    refine ⟨fun m σ H' => ∃ (us ys : List V) (es : List PyData), m = us.length ∧ σ = [some (.ref p), some (.ref a), some (.ref l), some (.ref g)] ∧ H' l = some (.lst us) ∧ H' g = some (.lst ys) ∧ (ys ++ us).Perm xs ∧ DpAll K H us es ∧ (∀ d ∈ es, Shp d) ∧ PenAt H' p c (n + ys.length) ∧ Kp p H H',
      ⟨_, xs, [], ds, rfl, rfl, e2, e3, List.Perm.refl _, hd, hs, hp.keep ha2, Kp.same ha2⟩, ?_⟩
    rintro m σ H3 ⟨us, ys, es, rfl, rfl, f2, f3, pm, hdu, hsu, hp3, kp3⟩
    have len := pm.length_eq
    rw [List.length_append] at len
    refine ⟨_, rfl, Nat.zero_le _, fun t ht => ?_⟩
    have g2 : (upd H3 t (.lst [])) l = some (.lst us) := (upd_ne (ne_of_none f2 ht)).trans f2
    have g3 : (upd H3 t (.lst [])) g = some (.lst ys) := (upd_ne (ne_of_none f3 ht)).trans f3
    have gt : (upd H3 t (.lst [])) t = some (.lst []) := upd_same
    have hp4 := hp3.keep (same_new (o := .lst []) ht)
    have kp4 : Kp p H (upd H3 t (.lst [])) := kp3.trans (Kp.new ht)
    generalize upd H3 t (.lst []) = H4 at g2 g3 gt hp4 kp4 ⊢
    have hdu4 : DpAll K H4 us es := dpAll_sq (Sq.kp kp4 hk) _ _ hdu
    refine ⟨.list es, .list [], .lst (SqL.of g2) hdu4, .lst (SqL.of gt) .nil, shp_l hsu, shp_nil, _, rfl, ?_⟩
    rw [eqv_nils]
    have eil := dpAll_len hdu
    refine ite2 (fun e => ?_) (fun e => ?_)
    · have hne : 0 < us.length := by
        cases es with
        | nil => cases e
        | cons x r =>
          rw [eil]
          exact Nat.succ_pos _
      refine ⟨fun σ' H' => ∃ (us' ys' : List V) (es' : List PyData), us'.length < us.length ∧ σ' = [some (.ref p), some (.ref a), some (.ref l), some (.ref g)] ∧ H' l = some (.lst us') ∧ H' g = some (.lst ys') ∧ (ys' ++ us').Perm xs ∧ DpAll K H us' es' ∧ (∀ d ∈ es', Shp d) ∧ PenAt H' p c (n + ys'.length) ∧ Kp p H H',
        fun σ' H' ⟨us', ys', es', h1, h2, h3, h4, h5, h6, h7, h8, h9⟩ => ⟨_, h1, us', ys', es', rfl, h2, h3, h4, h5, h6, h7, h8, h9⟩, ?_⟩
      refine ⟨_, rfl, .inl ⟨rfl, _, SqL.of g3⟩, _, rfl, .inl ⟨rfl, _, SqL.of g2⟩, _, rfl, _, rfl, l, us, rfl, .inl (SqL.of g2), p, c, _, _, rfl, hp4, by omega, by omega, by omega, fun d H5 d0 d1 hp5 kp5 => ?_⟩
      obtain ⟨kvs4, hk4⟩ := hp4.dk
      have npl : l ≠ p := fun q => by
        rw [q, hk4] at g2
        cases g2
      have npg : g ≠ p := fun q => by
        rw [q, hk4] at g3
        cases g3
      have i2 : H5 l = some (.lst us) := kp5 _ _ npl g2
      have i3 : H5 g = some (.lst ys) := kp5 _ _ npg g3
      obtain ⟨j, rfl⟩ : ∃ j : Nat, d = j := ⟨d.toNat, by omega⟩
      have hj : j < us.length := by omega
      refine ⟨l, us, j, j, us[j], rfl, rfl, i2, by omega, by omega, ?_, List.getElem?_eq_getElem hj, ?_⟩
      · exact seqIx hj
      refine ⟨g, ys, us[j], rfl, rfl, (upd_ne nlg.symm).trans i3, ?_, ?_⟩
      · exact small1000 (by omega)
      refine ⟨us.eraseIdx j, ys ++ [us[j]], es.eraseIdx j, ?_, rfl, (upd_ne nlg).trans upd_same, upd_same, ?_, dpAll_erase j hdu, fun d hd => hsu d (List.eraseIdx_subset hd), ?_, ?_⟩
      · rw [List.length_eraseIdx, if_pos hj]
        omega
      · rw [List.append_assoc]
        exact (List.Perm.append_left ys (perm_erase hj)).trans pm
      · rw [List.length_append, List.length_singleton]
        exact hp.mut hg0 (hp.mut hl hp5)
      · exact (kp4.trans kp5).mut hl |>.mut hg0
    · have hne : us = [] := by
        cases es with
        | nil => exact List.length_eq_zero_iff.mp eil
        | cons x r => exact absurd rfl e
      subst hne
      rw [List.append_nil] at pm
      have q := hp4
      refine ⟨_, rfl, k g ys H4 pm hg0 g3 ?_ kp4⟩
      have : ys.length = xs.length := pm.length_eq
      rw [← this]
      exact hp4
end
end Ah
set_option Elab.async false
set_option linter.all false
set_option maxRecDepth 100000
set_option maxHeartbeats 2000000
namespace Ah
open PySem PySem.Spec PyProof.Rows L2
/-! ### hands -/
def IsHand (x : Str) : Prop := 1 ≤ x.length ∧ x.length ≤ 8 ∧ ∀ b ∈ x.cps.toList, 97 ≤ b ∧ b ≤ 122
instance (x : Str) : Decidable (IsHand x) := by unfold IsHand; infer_instance
theorem IsHand.ok {x : Str} (h : IsHand x) : PyData.strOk x = true := by
  unfold PyData.strOk
  rw [← Array.all_toList, List.all_eq_true]
  intro b hb
  have := h.2.2 b hb
  exact decide_eq_true (by omega)
def letters : Str := "abcdefghijklmnopqrstuvwxyz"
theorem letters_cs : letters.cps.toList = (List.range 26).map (· + 97) := by decide +kernel
def wordsT : Str := "let hands a ab abc abcd ann anna b ba lets hand z zz zzz le row rows an bar bars c ca"
def wordsL : List Str := ["let", "hands", "a", "ab", "abc", "abcd", "ann", "anna", "b", "ba", "lets", "hand", "z", "zz", "zzz", "le", "row", "rows", "an", "bar", "bars", "c", "ca"]
theorem words_split : Txt.split wordsT " " = wordsL := by decide +kernel
theorem words_nd : wordsL.Nodup := by decide +kernel
theorem words_hand : ∀ x ∈ wordsL, IsHand x := by decide +kernel
def bysL : List Int := [1, 3, 5, 7, 9, 11, 15, 17, 19, 21, 23, 25]
/-- the k-th hand -/
def handAt (B : List Nat) (at' first by' cut k : Nat) : Str := ⟨(B.take at' ++ [(first + by' * k) % 26 + 97] ++ (B.drop (at' + 1)).take (if cut = 0 then 8 else k % 3)).toArray⟩
theorem handAt_cs (B : List Nat) (a f b c k : Nat) : (handAt B a f b c k).cps.toList = B.take a ++ [(f + b * k) % 26 + 97] ++ (B.drop (a + 1)).take (if c = 0 then 8 else k % 3) := rfl
theorem handAt_is {B : List Nat} {a f b c k : Nat} (h1 : B.length ≤ 8) (h2 : ∀ x ∈ B, 97 ≤ x ∧ x ≤ 122) (ha : a < B.length) : IsHand (handAt B a f b c k) := by
  have hl : (handAt B a f b c k).length = (B.take a ++ [(f + b * k) % 26 + 97] ++ (B.drop (a + 1)).take (if c = 0 then 8 else k % 3)).length := by
    show ((B.take a ++ [(f + b * k) % 26 + 97] ++ (B.drop (a + 1)).take (if c = 0 then 8 else k % 3)).toArray).size = _
    rw [List.size_toArray]
  have hl2 : (handAt B a f b c k).length = a + 1 + min (if c = 0 then 8 else k % 3) (B.length - (a + 1)) := by
    rw [hl, List.length_append, List.length_append, List.length_take, List.length_take, List.length_drop, List.length_singleton]
    omega
  refine ⟨by omega, by omega, fun x hx => ?_⟩
  rw [handAt_cs] at hx
  rcases List.mem_append.mp hx with hx | hx
  · rcases List.mem_append.mp hx with hx | hx
    · exact h2 x (List.mem_of_mem_take hx)
    · rw [List.mem_singleton] at hx
      omega
  · exact h2 x (List.mem_of_mem_drop (List.mem_of_mem_take hx))
theorem handAt_inj {B : List Nat} {a f b c k k' : Nat} (ha : a < B.length) (hb : (b : Int) ∈ bysL) (h25 : b ≠ 25) (hk : k < 8) (hk' : k' < 8) (e : handAt B a f b c k = handAt B a f b c k') : k = k' := by
  have q := congrArg (fun x : Str => x.cps.toList[a]?) e
  have lt : (B.take a).length = a := by rw [List.length_take]; omega
  have g : ∀ k, (handAt B a f b c k).cps.toList[a]? = some ((f + b * k) % 26 + 97) := fun k => by
    rw [handAt_cs, List.append_assoc, List.getElem?_append_right (by omega), lt, Nat.sub_self]
    rfl
  have q : (handAt B a f b c k).cps.toList[a]? = (handAt B a f b c k').cps.toList[a]? := q
  rw [g, g] at q
  have q := Option.some.inj q
  have hb' : b = 1 ∨ b = 3 ∨ b = 5 ∨ b = 7 ∨ b = 9 ∨ b = 11 ∨ b = 15 ∨ b = 17 ∨ b = 19 ∨ b = 21 ∨ b = 23 := by
    simp only [bysL, List.mem_cons, List.not_mem_nil, or_false] at hb
    omega
  rcases hb' with h | h | h | h | h | h | h | h | h | h | h <;> subst h <;> omega
theorem handsAt_nd {g : Nat → Str} {m : Nat} (hm : m ≤ 8) (inj : ∀ k k', k < 8 → k' < 8 → g k = g k' → k = k') : ((List.range m).map g).Nodup := by
  unfold List.Nodup
  rw [List.pairwise_map]
  refine List.Pairwise.imp_of_mem (fun {k k'} hk hk' hne e => ?_) (List.nodup_range (n := m))
  rw [List.mem_range] at hk hk'
  exact hne (inj k k' (by omega) (by omega) e)
theorem nd_inj {α : Type} {l : List α} (h : l.Nodup) {i j : Nat} (hi : i < l.length) (hj : j < l.length) (e : l[i] = l[j]) : i = j := by
  rcases Nat.lt_trichotomy i j with c | c | c
  · exact absurd e (List.pairwise_iff_getElem.mp h i j hi hj c)
  · exact c
  · exact absurd e.symm (List.pairwise_iff_getElem.mp h j i hj hi c)
theorem cutS_cs (l : List Nat) (lo hi : Option Int) : cutS ⟨l.toArray⟩ lo hi = ⟨((l.drop (HT.sIx l.length 0 lo)).take (HT.sIx l.length l.length hi - HT.sIx l.length 0 lo)).toArray⟩ := by
  have e : (⟨l.toArray⟩ : Str).length = l.length := by
    show l.toArray.size = _
    rw [List.size_toArray]
  unfold cutS
  rw [e]
theorem str_app (a b : List Nat) : (⟨a.toArray⟩ : Str) ++ ⟨b.toArray⟩ = ⟨(a ++ b).toArray⟩ := SX.S_cat a b
theorem str_len (a : List Nat) : (⟨a.toArray⟩ : Str).length = a.length := SX.S_len a
theorem joinL_ones : ∀ bs : List Nat, TL.joinL [] (bs.map fun b => [b]) = bs
  | [] => rfl
  | [b] => rfl
  | b :: d :: r => by
    show [b] ++ ([] ++ TL.joinL [] ((d :: r).map fun b => [b])) = b :: d :: r
    rw [joinL_ones (d :: r)]
    rfl
theorem join_nil (bs : List Nat) : Txt.join ("" : Str) (bs.map fun b => (⟨#[b]⟩ : Str)) = ⟨bs.toArray⟩ := by
  have e := SX.join_S [] (bs.map fun b => [b])
  rw [joinL_ones, List.map_map] at e
  exact e
end Ah
set_option Elab.async false
set_option linter.all false
set_option maxRecDepth 100000
set_option maxHeartbeats 4000000
namespace Ah
open PySem PySem.Spec PyProof.Rows L2
abbrev sHands : Stmt := topS 16
section
variable {P : Program} {w : World} {K : PySem.W.Frag} {mg : Str → Option Value} {base : Heap}
theorem scHands : FnScope ["pen", "many", "letters", "k", "base", "at", "first", "cut", "by", "found", "some", "tail"] ["pen", "many"] (defScope sHands) := ⟨rfl, rfl, rfl, by decide +kernel, rfl, by decide +kernel, by decide +kernel⟩
def spHands (K : PySem.W.Frag) : Sp := fun vs H Q _ => ∃ (p c : Addr) (m n : Nat), vs = [.ref p, .int (m : Int)] ∧ 1 ≤ m ∧ m ≤ 8 ∧ PenAt H p c n ∧ n + 20 < 1000000 ∧
  ∀ (q : Addr) (hs : List Str) (H' : Hp), hs.length = m → hs.Nodup → (∀ h ∈ hs, IsHand h) → H q = none → H' q = some (.lst (hs.map V.str)) → PenAt H' p c (n + 20) → Kp p H H' → Q (.ref q) H'
theorem ok_hands {f f1 f2 : Addr} {fd fd1 fd2 : FuncData} (F : Fun K "_law_hands" "_law_hands" sHands f fd) (B : Blt mg) (Br : mg "range" = none) (D : Df P w K mg base CX0 "_law_draw" 1 f1 fd1 ["pen", "many"] spDraw) (D2 : Df P w K mg base CX0 "_law_pick" 2 f2 fd2 ["pen", "some"] (spPick K)) : FnOk P w K mg base CX0 3 f fd ["pen", "many"] (spHands K) := by
  refine F.ok scHands (fun vs H Q E h => ?_) (fun cdv A outer s H vs Q E hr h => ?_)
  · obtain ⟨p, c, m, n, rfl, _⟩ := h
    rfl
  · obtain ⟨p, c, m, n, rfl, m1, m8, hp, hn, k⟩ := h
    have nd := scHands.nd
    have hr1 : Room 1 _ := hr.mono (by decide)
    refine ⟨_, pss_cons (ps_set (i := 2) nd rfl (.inr rfl) pe_str)
      (C8.pss_cut (ps_set (i := 4) nd rfl (.inl rfl) (pe_join pe_str (pe_lc (own := [("k", 3)]) (g := gName 3) (tt := tYes) rfl nd (pi_range1 rfl Br (pa_cons (pe_op op_add pe_int (pe_call D.ok hr1 rfl D.g D.kp D.b .nil pass0 (pa_cons (pv 0) (pa_cons pe_int pa_nil)))) pa_nil))
          (blkOk_by (N := ["pen", "many", "letters", "k", "base", "at", "first", "cut", "by", "found", "some", "tail"]) (sc := defScope sHands) (by decide +kernel)) (fun _ _ _ _ _ => pg_name (i := 3) nd rfl (Or.inl rfl)) (fun _ _ _ _ _ => pts_nil)
          (fun _ _ _ _ _ => pe_call D2.ok hr rfl D2.g D2.kp D2.b .nil pass0 (pa_cons (pv 0) (pa_cons (pv 2) pa_nil))))))
      (pss_cons (ps_asg (pe_tup (pa_cons (pe_call D.ok hr1 rfl D.g D.kp D.b .nil pass0 (pa_cons (pv 0) (pa_cons (pe_callB call_len_str (by rfl) B.len PySem.boot_len (pa_cons (pv 4) pa_nil)) pa_nil)))
            (pa_cons (pe_call D.ok hr1 rfl D.g D.kp D.b .nil pass0 (pa_cons (pv 0) (pa_cons pe_int pa_nil))) (pa_cons (pe_call D.ok hr1 rfl D.g D.kp D.b .nil pass0 (pa_cons (pv 0) (pa_cons pe_int pa_nil))) pa_nil))))
          (pg_tup rfl (pgs_cons (pg_name (i := 5) nd rfl (.inl rfl)) (pgs_cons (pg_name (i := 6) nd rfl (.inr rfl)) (pgs_cons (pg_name (i := 7) nd rfl (.inl rfl)) pgs_nil)))))
      (pss_cons (ps_par (i := 8) (j := 9) rfl nd rfl rfl (by decide) rfl rfl (pa_cons (pe_call D2.ok hr rfl D2.g D2.kp D2.b .nil pass0 (pa_cons (pv 0) (pa_cons (pe_lst (pa_cons pe_int (pa_cons pe_int (pa_cons pe_int (pa_cons pe_int (pa_cons pe_int (pa_cons pe_int (pa_cons pe_int (pa_cons pe_int (pa_cons pe_int (pa_cons pe_int (pa_cons pe_int (pa_cons pe_int pa_nil))))))))))))) pa_nil)))
          (pa_cons (pe_lst pa_nil) pa_nil)) (by rfl))
      (pss_cons (ps_if (pt_cmpR op_eq (pv 8) pe_int (nomark _))
        (pss_cons (ps_set (i := 10) nd rfl (.inr rfl) pe_str)
        (pss_one (ps_ret (pe_lc (own := [("k", 3)]) (g := gName 3) (tt := tYes) rfl nd (pi_range1 rfl Br (pa_cons (pv 1) pa_nil))
          (blkOk_by (N := ["pen", "many", "letters", "k", "base", "at", "first", "cut", "by", "found", "some", "tail"]) (sc := defScope sHands) (by decide +kernel)) (fun _ _ _ _ _ => pg_name (i := 3) nd rfl (Or.inl rfl)) (fun _ _ _ _ _ => pts_nil)
          (fun _ _ _ _ _ => pe_ix (r := rIxL K) ix_list (pe_split (pv 10) pe_str) (pe_op op_mod (pe_op op_add (pv 6) (pe_op op_mul pe_int (pv 3))) pe_int) (fun _ _ => rfl)))))) pss_nil)
      (pss_cons (ps_for PassesOwn.never rfl (pi_range1 rfl Br (pa_cons (pv 1) pa_nil)) (pg_name (i := 3) nd rfl (.inl rfl))
        (pss_cons (ps_set (i := 11) nd rfl (.inl rfl) (pe_slice sl_str (pe_slice sl_str (pv 4) (po_some (pe_op op_add (pv 5) pe_int)) po_none) po_none (po_some (pe_ix ix_list (pe_lst (pa_cons pe_int (pa_cons (pe_op op_mod (pv 3) pe_int) pa_nil))) (pv 7) (fun _ _ => rfl)))))
        (pss_one (ps_expr (pe_bm PySem.F.plainAttrs_list PySem.F.slot_list_append PySem.F.type_list_append mt_append (pv 9) (pa_cons (pe_op op_add_str (pe_op op_add_str (pe_slice sl_str (pv 4) po_none (po_some (pv 5))) (pe_ix ix_str (pv 2) (pe_op op_mod (pe_op op_add (pv 6) (pe_op op_mul (pv 8) (pv 3))) pe_int) (fun _ _ => rfl))) (pv 11)) pa_nil))))))
      (pss_one (ps_ret (pv 9)))))))), ?_⟩
    -- base
    obtain ⟨kvs, hk⟩ := hp.dk
    refine ⟨fun σ' H' => ∃ bs : List Nat, 1 ≤ bs.length ∧ bs.length ≤ 8 ∧ (∀ b ∈ bs, 97 ≤ b ∧ b ≤ 122) ∧ σ' = [some (.ref p), some (.int m), some (.str letters), none, some (.str ⟨bs.toArray⟩), none, none, none, none, none, none, none] ∧ PenAt H' p c (n + 9) ∧ Kp p H H', ?_, ?_⟩
    · refine ⟨⟨_, rfl⟩, _, rfl, p, c, 8, n, rfl, hp, by omega, by decide, by decide, fun d H1 d0 d1 hp1 kp1 => ?_⟩
      obtain ⟨j, rfl⟩ : ∃ j : Nat, d = j := ⟨d.toNat, by omega⟩
      refine ⟨_, _, rfl, rfl, _, rfl, by omega, by omega, fun D0 hD => ?_⟩
      have hj : (1 + (j : Int)).toNat = j + 1 := by omega
      rw [hj]
      have hl1 := hp1
      refine lc_range (lo := 0) (n := j + 1) (fun i H2 => ∃ bs : List Nat, bs.length = i ∧ (∀ b ∈ bs, 97 ≤ b ∧ b ≤ 122) ∧ H2 D0 = some (.lst ((bs.map fun b => (⟨#[b]⟩ : Str)).map V.str)) ∧ PenAt H2 p c (n + 1 + i) ∧ Kp p H H2)
        ⟨[], rfl, by simp, upd_same, hp1.keep (same_new hD), kp1.trans (Kp.new hD)⟩ ?_ ?_
      · rintro i H2 hi ⟨bs, rfl, hb, h2, hp2, kp2⟩
        refine ⟨rfl, _, rfl, _, rfl, p, c, .str letters, _, n + 1 + bs.length, rfl, .inr (.inr ⟨letters, rfl, by decide +kernel, rfl⟩), hp2, by omega, ?_, ?_, ?_⟩
        · decide +kernel
        · decide +kernel
        rintro i y H3 hy hp3 kp3
        obtain ⟨b, hb1, rfl⟩ : ∃ b, (97 ≤ b ∧ b ≤ 122) ∧ y = V.str ⟨#[b]⟩ := by
          rw [letters_cs, List.getElem?_map] at hy
          obtain ⟨z, hz, rfl⟩ := Option.map_eq_some_iff.mp hy
          have := List.mem_of_getElem? hz
          rw [List.mem_map] at this
          obtain ⟨u, hu, rfl⟩ := this
          rw [List.mem_range] at hu
          exact ⟨_, by omega, rfl⟩
        obtain ⟨kvs2, hk2⟩ := hp2.dk
        have nD : D0 ≠ p := fun q => by
          rw [q, hk2] at h2
          cases h2
        refine ⟨_, kp3 _ _ nD h2, ?_, bs ++ [b], by simp, ?_, ?_, ?_, ?_⟩
        · rw [List.length_map, List.length_map]
          exact small1000 (by omega)
        · intro x hx
          rcases List.mem_append.mp hx with hx | hx
          · exact hb x hx
          · rw [List.mem_singleton.mp hx]
            exact hb1
        · rw [upd_same, List.map_append, List.map_append]
          rfl
        · exact hp1.mut hD hp3
        · exact (kp2.trans kp3).mut (kp1.free hp1 hD)
      · rintro H2 ⟨bs, hl, hb, h2, hp2, kp2⟩
        refine ⟨_, D0, bs.map fun b => (⟨#[b]⟩ : Str), rfl, rfl, .inl (SqL.of h2), ?_, bs, by omega, by omega, hb, ?_, hp2.mono (by omega), kp2⟩
        · have e1 : ∀ l : List Nat, ((l.map fun b => (⟨#[b]⟩ : Str)).map (·.length)).sum = l.length := fun l => by
            induction l with
            | nil => rfl
            | cons x r ih =>
              rw [List.map_cons, List.map_cons, List.sum_cons, ih, List.length_cons]
              show 1 + r.length = r.length + 1
              omega
          rw [e1, List.length_map]
          have e2 : ("" : Str).length = 0 := by decide +kernel
          rw [e2]
          omega
        · rw [join_nil]
          rfl
    rintro σ' H1 ⟨bs, b1, b8, hb, rfl, hp1, kp1⟩
    -- at, first, cut
    have lb : (⟨bs.toArray⟩ : Str).length = bs.length := by
      show bs.toArray.size = _
      rw [List.size_toArray]
    refine ⟨_, rfl, _, rfl, _, rfl, by rw [lb]; exact Nat.le_trans b8 (by decide), p, c, _, _, rfl, hp1, by omega, by rw [lb]; omega, by rw [lb]; omega, fun at' H2 a0 a1 hp2 kp2 => ?_⟩
    refine ⟨_, rfl, p, c, _, _, rfl, hp2, by omega, by decide, by decide, fun first H3 f0 f1 hp3 kp3 => ?_⟩
    refine ⟨_, rfl, p, c, _, _, rfl, hp3, by omega, by decide, by decide, fun cut H4 c0 c1 hp4 kp4 => ?_⟩
    refine ⟨(by show 3 ≤ sizeLine; decide), fun t ht => ?_⟩
    refine ⟨t, _, rfl, .inl (.inl upd_same), rfl, _, _, rfl, _, _, rfl, _, _, rfl, rfl, ?_⟩
    have kp5 : Kp p H (upd H4 t (.tup [.int at', .int first, .int cut])) := ((kp1.trans kp2).trans (kp3.trans kp4)).trans (Kp.new ht)
    have hp5 := hp4.keep (same_new (o := .tup [.int at', .int first, .int cut]) ht)
    generalize upd H4 t (.tup [.int at', .int first, .int cut]) = H5 at kp5 hp5 ⊢
    rw [lb] at a1
    obtain ⟨a, rfl⟩ : ∃ j : Nat, at' = j := ⟨at'.toNat, by omega⟩
    obtain ⟨fi, rfl⟩ : ∃ j : Nat, first = j := ⟨first.toNat, by omega⟩
    obtain ⟨cu, rfl⟩ : ∃ j : Nat, cut = j := ⟨cut.toNat, by omega⟩
    -- by, found
    refine ⟨_, rfl, (by show 12 ≤ sizeLine; decide), fun t2 ht2 => ?_⟩
    have hp6 := hp5.keep (same_new (o := .lst (bysL.map V.int)) ht2)
    have kp6 := kp5.trans (Kp.new (o := .lst (bysL.map V.int)) ht2)
    refine ⟨p, c, .ref t2, bysL.map V.int, _, rfl, .inl ⟨t2, rfl, SqL.of upd_same⟩, hp6, by omega, (by decide), (by decide), fun i y H7 hy hp7 kp7 => ?_⟩
    obtain ⟨b, hb25, rfl⟩ : ∃ b : Nat, (b : Int) ∈ bysL ∧ y = V.int b := by
      rw [List.getElem?_map] at hy
      obtain ⟨z, hz, rfl⟩ := Option.map_eq_some_iff.mp hy
      have hm := List.mem_of_getElem? hz
      have z0 : 0 ≤ z := by
        have : ∀ z ∈ bysL, (0 : Int) ≤ z := by decide
        exact this z hm
      exact ⟨z.toNat, by rw [Int.toNat_of_nonneg z0]; exact hm, by rw [Int.toNat_of_nonneg z0]⟩
    have b26 : b < 26 := by
      have : ∀ z ∈ bysL, z < (26 : Int) := by decide
      have := this _ hb25
      omega
    refine ⟨Nat.zero_le _, fun g hg => ?_⟩
    have hp8 := hp7.keep (same_new (o := .lst []) hg)
    have kp8 := (kp6.trans kp7).trans (Kp.new (o := .lst []) hg)
    have g0 : H g = none := (kp6.trans kp7).free hp7 hg
    have e8 : (upd H7 g (.lst [])) g = some (.lst []) := upd_same
    generalize upd H7 g (.lst []) = H8 at hp8 kp8 e8 ⊢
    refine ⟨_, _, rfl, ?_⟩
    -- if by == 25
    refine ⟨_, rfl, rfl, _, rfl, ?_⟩
    refine ite2 (fun e => ?_) (fun e => ?_)
    · -- the words
      refine ⟨_, rfl, _, rfl, by omega, by omega, fun D0 hD => ?_⟩
      rw [Int.toNat_natCast]
      have hD0 : H D0 = none := kp8.free hp8 hD
      refine lc_range (lo := 0) (n := m) (fun i H2 => H2 D0 = some (.lst (((List.range i).map fun k => wordsL.getD ((fi + 5 * k) % 23) "").map V.str)) ∧ PenAt H2 p c (n + 20) ∧ Kp p H H2)
        ⟨upd_same, (hp8.keep (same_new hD)).mono (by omega), kp8.trans (Kp.new hD)⟩ ?_ ?_
      · rintro i H2 hi ⟨h2, hp2, kp2⟩
        refine ⟨rfl, _, rfl, ⟨_, rfl⟩, _, _, rfl, rfl, rfl, by decide +kernel, fun t hT => ?_⟩
        have hx : ((fi : Int) + 5 * (0 + (i : Int))) % 23 = (((fi + 5 * i) % 23 : Nat) : Int) := by omega
        have hl : (fi + 5 * i) % 23 < wordsL.length := Nat.mod_lt _ (by decide)
        refine ⟨_, rfl, _, rfl, _, _, rfl, rfl, .inl (by decide), _, _, rfl, rfl, _, _, rfl, rfl, (by show (0 : Int) < 23; decide), t, wordsL.map V.str, _, .str (wordsL.getD ((fi + 5 * i) % 23) ""), rfl, rfl, ?_, ?_, ?_⟩
        · rw [← words_split]
          exact SqL.of upd_same
        · rw [hx]
          refine atI_nat ?_
          rw [List.getElem?_map, List.getElem?_eq_getElem hl, List.getD_eq_getElem?_getD, List.getElem?_eq_getElem hl]
          rfl
        · refine ⟨_, (upd_ne (ne_of_none h2 hT)).trans h2, ?_, ?_, ?_, ?_⟩
          · rw [List.length_map, List.length_map, List.length_range]
            exact small1000 (by omega)
          · rw [upd_same, List.range_succ, List.map_append, List.map_append]
            rfl
          · exact hp.mut hD0 (hp2.keep (same_new hT))
          · exact (kp2.trans (Kp.new hT)).mut hD0
      · rintro H2 ⟨h2, hp2, kp2⟩
        refine k D0 _ H2 (by rw [List.length_map, List.length_range]) (handsAt_nd m8 fun k k' hk hk' e => ?_) (fun h hh => ?_) hD0 h2 hp2 kp2
        · have hl : (fi + 5 * k) % 23 < wordsL.length := Nat.mod_lt _ (by decide)
          have hl' : (fi + 5 * k') % 23 < wordsL.length := Nat.mod_lt _ (by decide)
          rw [List.getD_eq_getElem?_getD, List.getD_eq_getElem?_getD, List.getElem?_eq_getElem hl, List.getElem?_eq_getElem hl'] at e
          have e' : wordsL[(fi + 5 * k) % 23] = wordsL[(fi + 5 * k') % 23] := e
          have := nd_inj words_nd hl hl' e'
          omega
        · rw [List.mem_map] at hh
          obtain ⟨k, _, rfl⟩ := hh
          have hl : (fi + 5 * k) % 23 < wordsL.length := Nat.mod_lt _ (by decide)
          refine words_hand _ ?_
          rw [List.getD_eq_getElem?_getD, List.getElem?_eq_getElem hl]
          exact List.getElem_mem hl
    · -- the letters
      have h25 : b ≠ 25 := fun q => e (by subst q; rfl)
      refine ⟨_, rfl, _, rfl, by omega, by omega, ?_⟩
      rw [Int.toNat_natCast]
      refine for_range (lo := 0) (n := m) (fun i σ H2 => ∃ v3 v11 : Option V, σ = [some (.ref p), some (.int m), some (.str letters), v3, some (.str ⟨bs.toArray⟩), some (.int a), some (.int fi), some (.int cu), some (.int b), some (.ref g), none, v11] ∧ H2 g = some (.lst (((List.range i).map fun k => handAt bs a fi b cu k).map V.str)) ∧ PenAt H2 p c (n + 20) ∧ Kp p H H2)
        ⟨none, none, rfl, e8, hp8.mono (by omega), kp8⟩ ?_ ?_
      · rintro i σ H2 hi ⟨v3, v11, rfl, h2, hp2, kp2⟩
        have lb8 : (⟨bs.toArray⟩ : Str).length ≤ sizeLine := by rw [str_len]; exact Nat.le_trans b8 (by decide)
        refine ⟨_, rfl, _, rfl, _, _, rfl, rfl, _, rfl, _, rfl, lb8, ?_⟩
        rw [cutS_cs]
        have s1 : HT.sIx bs.length 0 (some ((a : Int) + 1)) = a + 1 := by
          rw [show ((a : Int) + 1) = ((a + 1 : Nat) : Int) from rfl, HT.sIx_nat]
          omega
        dsimp only
        rw [s1, HT.sIx_none, show (List.drop (a + 1) bs).take (bs.length - (a + 1)) = List.drop (a + 1) bs from List.take_of_length_le (by rw [List.length_drop]; omega)]
        refine ⟨_, rfl, _, _, rfl, rfl, (by show (0 : Int) < 3; decide), (by show 2 ≤ sizeLine; decide), fun t hT => ?_⟩
        refine ⟨_, rfl, t, _, _, .int (if cu = 0 then 8 else ((i % 3 : Nat) : Int)), rfl, rfl, SqL.of upd_same, ?_, _, rfl, _, rfl, ?_, ?_⟩
        · by_cases hc : cu = 0
          · subst hc
            exact atI_nat (j := 0) rfl
          · have : cu = 1 := by omega
            subst this
            rw [if_neg (by decide)]
            refine atI_nat (j := 1) ?_
            show some (V.int ((0 + (i : Int)) % 3)) = some (V.int ((i % 3 : Nat) : Int))
            rw [Int.zero_add]
            rfl
        · rw [str_len, List.length_drop]
          exact Nat.le_trans (by omega : bs.length - (a + 1) ≤ 8) (by decide)
        rw [cutS_cs]
        have h2t : (upd H2 t (.lst [.int 8, .int ((0 + (i : Int)) % 3)])) g = some (.lst (((List.range i).map fun k => handAt bs a fi b cu k).map V.str)) := (upd_ne (ne_of_none h2 hT)).trans h2
        have hp2t := hp2.keep (same_new (o := .lst [.int 8, .int ((0 + (i : Int)) % 3)]) hT)
        have kp2t := kp2.trans (Kp.new (o := .lst [.int 8, .int ((0 + (i : Int)) % 3)]) hT)
        show tDrop _ _ _ (upd H2 t (.lst [.int 8, .int ((0 + (i : Int)) % 3)]))
        generalize upd H2 t (.lst [.int 8, .int ((0 + (i : Int)) % 3)]) = H3 at h2t hp2t kp2t ⊢
        have s2 : ∀ l : List Nat, HT.sIx l.length l.length (some (if cu = 0 then 8 else ((i % 3 : Nat) : Int))) = min (if cu = 0 then 8 else i % 3) l.length := fun l => by
          by_cases hc : cu = 0
          · rw [if_pos hc, if_pos hc]
            exact HT.sIx_nat _ _ 8
          · rw [if_neg hc, if_neg hc]
            exact HT.sIx_nat _ _ _
        rw [s2, HT.sIx_none, List.drop_zero, Nat.sub_zero]
        have s3 : (List.drop (a + 1) bs).take (min (if cu = 0 then 8 else i % 3) (List.drop (a + 1) bs).length) = (List.drop (a + 1) bs).take (if cu = 0 then 8 else i % 3) := by
          rw [List.take_eq_take_iff]
          omega
        rw [s3]
        -- found.append(base[:at] + letters[..] + tail)
        refine ⟨_, rfl, .inl ⟨rfl, _, SqL.of h2t⟩, _, rfl, _, rfl, _, rfl, _, rfl, lb8, ?_⟩
        rw [cutS_cs]
        rw [HT.sIx_none, HT.sIx_nat, show min a bs.length = a by omega, List.drop_zero, Nat.sub_zero]
        have hx : ((fi : Int) + (b : Int) * (0 + (i : Int))) % 26 = (((fi + b * i) % 26 : Nat) : Int) := by
          rw [Int.zero_add]
          rfl
        have hl : (fi + b * i) % 26 < 26 := Nat.mod_lt _ (by decide)
        refine ⟨_, rfl, _, rfl, _, rfl, _, rfl, _, _, rfl, rfl, .inl (by omega), _, _, rfl, rfl, _, _, rfl, rfl, (by show (0 : Int) < 26; decide), letters, _, (fi + b * i) % 26 + 97, rfl, rfl, by decide +kernel, ?_, ?_⟩
        · rw [hx]
          refine atI_nat ?_
          rw [letters_cs, List.getElem?_map, List.getElem?_range hl]
          rfl
        have l1 : (List.take a bs).length ≤ 8 := by rw [List.length_take]; omega
        have l2 : (List.take (if cu = 0 then 8 else i % 3) (List.drop (a + 1) bs)).length ≤ 8 := by rw [List.length_take, List.length_drop]; omega
        refine ⟨_, _, rfl, rfl, ?_, ?_⟩
        · rw [str_len]
          exact Nat.le_trans (Nat.add_le_add l1 (Nat.le_refl 1)) (by decide)
        refine ⟨_, rfl, _, _, rfl, rfl, ?_, ?_⟩
        · rw [str_app, str_len, str_len, List.length_append]
          exact Nat.le_trans (Nat.add_le_add (Nat.add_le_add l1 (Nat.le_refl 1)) l2) (by decide)
        rw [str_app, str_app]
        refine ⟨g, _, _, rfl, rfl, h2t, ?_, ?_⟩
        · rw [List.length_map, List.length_map, List.length_range]
          exact small1000 (by omega)
        refine ⟨_, _, rfl, ?_, hp.mut g0 hp2t, kp2t.mut g0⟩
        rw [upd_same, List.range_succ, List.map_append, List.map_append]
        rfl
      · rintro σ H2 ⟨v3, v11, rfl, h2, hp2, kp2⟩
        refine ⟨_, rfl, k g _ H2 (by rw [List.length_map, List.length_range]) (handsAt_nd m8 fun k k' hk hk' e => handAt_inj (by omega) hb25 h25 hk hk' e) (fun h hh => ?_) g0 h2 hp2 kp2⟩
        rw [List.mem_map] at hh
        obtain ⟨k, _, rfl⟩ := hh
        exact handAt_is b8 hb (by omega)
end
end Ah
set_option Elab.async false
set_option linter.all false
set_option maxRecDepth 100000
set_option maxHeartbeats 2000000
/-! sorted(xs), xs a list of data that can be compared -/
namespace Ah
open PySem PySem.Spec PyProof.Rows L2
open PySem.W (EachIs AllAlike Sortable dataLe)
def sortD (ds : List PyData) : List PyData := ds.mergeSort (dataLe false (fun d => d))
def rSortedD (K : PySem.W.Frag) : List V → Hp → VK → Prop := fun vs H Q => ∃ (a : Addr) (xs : List V) (ds : List PyData), vs = [V.ref a] ∧ SqL K H a xs ∧ DpAll K H xs ds ∧ AllAlike ds ∧ Sortable ds ∧ (∀ d ∈ ds, d.depth ≤ 60) ∧
  ∀ (ys : List V) (p : Addr), ys.Perm xs → DpAll K H ys (sortD ds) → H p = none → Q (.ref p) (upd H p (.lst ys))
theorem each_of {K : PySem.W.Frag} {H : Hp} : ∀ {xs : List V} {its : List Value} {ds : List PyData}, Vals xs its → DpAll K H xs ds → EachIs (fun (v : Value) (b : V × PyData) => RelV b.1 v ∧ Dp K H b.1 b.2) its (xs.zip ds)
  | _, _, _, .nil, .nil => .nil
  | _, _, _, .cons r t, .cons h t' => .cons ⟨r, h⟩ (each_of t t')
theorem each_vals {K : PySem.W.Frag} {H : Hp} : ∀ {its : List Value} {zs : List (V × PyData)}, EachIs (fun (v : Value) (b : V × PyData) => RelV b.1 v ∧ Dp K H b.1 b.2) its zs → Vals (zs.map (·.1)) its ∧ DpAll K H (zs.map (·.1)) (zs.map (·.2))
  | _, _, .nil => ⟨.nil, .nil⟩
  | _, _, .cons ⟨r, h⟩ t => ⟨.cons r (each_vals t).1, .cons h (each_vals t).2⟩
theorem dpAll_zip2 {K : PySem.W.Frag} {H : Hp} : ∀ {xs : List V} {ds : List PyData}, DpAll K H xs ds → (xs.zip ds).map (·.2) = ds ∧ (xs.zip ds).map (·.1) = xs ∧ (xs.zip ds).length = ds.length
  | _, _, .nil => ⟨rfl, rfl, rfl⟩
  | _, _, .cons _ t => by
    obtain ⟨h1, h2, h3⟩ := dpAll_zip2 t
    exact ⟨by rw [List.zip_cons_cons, List.map_cons, h1], by rw [List.zip_cons_cons, List.map_cons, h2], by rw [List.zip_cons_cons, List.length_cons, List.length_cons, h3]⟩
section
variable {X : Cx}
theorem cr_sortedD (hu : X.A.units + 64 < cLine) : CallR X (.builtin "sorted") (rSortedD X.K) := by
  intro pins s σ H vs us Q I r h
  obtain ⟨a, xs, ds, rfl, hs, hd, hal, hk, hdep, q⟩ := h
  obtain ⟨its, rv, hl, hz⟩ := I.list hs
  rw [Vals.ref1 r]
  obtain ⟨z1, z2, z3⟩ := dpAll_zip2 hd
  have e := each_of rv hd
  have er : EachIs (fun (v : Value) (b : V × PyData) => ∃ as, Reads s.heap v b.2 as) its (xs.zip ds) := e.mono fun v b ⟨r1, r2⟩ => Dp.reads I b.2 b.1 v r2 r1
  have hlen : ds.length = xs.length := by
    have := congrArg List.length z2
    rw [List.length_map, z3] at this
    exact this
  refine PySem.W.sorted_data (enc := fun b : V × PyData => b.2) hl.isList e er (by rw [z1]; exact hal) (by rw [z1]; exact hk) (by rw [z3, hlen]; exact hz) (fun b hb => ?_) fun out ho eo => ?_
  · have hm : b.2 ∈ ds := by
      rw [← z1]
      exact List.mem_map.mpr ⟨b, hb, rfl⟩
    have := hdep _ hm
    omega
  · obtain ⟨ep, he'⟩ := PyProof.Rows.sortedAll_at s.heap its out.toArray
    obtain ⟨v1, v2⟩ := each_vals eo
    have pm : ((xs.zip ds).mergeSort (dataLe false fun b : V × PyData => b.2)).Perm (xs.zip ds) := List.mergeSort_perm _ _
    have p1 : (((xs.zip ds).mergeSort (dataLe false fun b : V × PyData => b.2)).map (·.1)).Perm xs := by
      have := pm.map (·.1)
      rw [z2] at this
      exact this
    have p2 : ((xs.zip ds).mergeSort (dataLe false fun b : V × PyData => b.2)).map (·.2) = sortD ds := by
      have := PySem.W.sort_maps (r := dataLe false fun b : V × PyData => b.2) (s := dataLe false fun d : PyData => d) (fun b : V × PyData => b.2) (l := xs.zip ds) (fun a _ b _ => rfl)
      rw [z1] at this
      exact this
    rw [p2] at v2
    refine ⟨.ref _, upd H (s.heap.objs.size + 1) (.lst _), I.laid (t' := s.toks) (fun _ _ => PyProof.Rows.sortedAll_old) (Nat.le_succ _) ⟨?_, out, ep, v1, he'⟩, rfl, q _ _ p1 v2 (I.hok.fresh (Nat.le_succ _))⟩
    rw [p1.length_eq]
    exact hz
end
end Ah
set_option Elab.async false
set_option linter.all false
set_option maxRecDepth 100000
set_option maxHeartbeats 4000000
/-! enumerate(t), t a tuple, walked by a for or a comprehension -/
namespace Ah
open PySem PySem.Spec PyProof.Rows L2
open AutoSeq1 (wpAny_loadPart')
abbrev tupIt (t : Addr) : Obj := { cls := .type "tuple_iterator", data := .fields #[.ref t, .int 0 0] }
abbrev enumO (it : Addr) : Obj := { cls := .type "enumerate", data := .fields #[.none, .bool false, .ref it, rawInt 0, .none, .none] }
theorem enum_new_tuple (t : Addr) (items : Array Value) (n : Nat) (di : Option Addr) (sl : Array (Option Value)) :
    Meets (Builtin.«enumerate.__new__» ⟨[.type "enumerate", .ref t], []⟩) (fun _ R s => s.heap.get? t = some { cls := .type "tuple", dict := di, data := .seq items n, slots := sl } ∧
      R (.ok (.ret (.ref (s.heap.push (tupIt t)).objs.size))) { s with heap := (s.heap.push (tupIt t)).push (enumO s.heap.objs.size) }) :=
  .of_wp fun prog w A R s h => by
    obtain ⟨hp, g, d, tk, os⟩ := s
    obtain ⟨there, h⟩ := h
    have sube := sub_enumerate
    have isT : Heap.IsTuple (Shared.heap ⟨hp, g, d, tk, os⟩) t items := ⟨_, there, rfl, n, rfl⟩
    wp_walk using wpAny_loadPart' there
    refine wpAny_stack_any fun st => wpAny_pure ?_
    split
    · rename_i c _ _ _ _ _
      cases (c == Value.type "enumerate") <;> (wp_walk using wpAny_loadPart' there, wpAny_pyIter_tuple isT; exact ⟨_, rfl, h⟩)
    · wp_walk using wpAny_loadPart' there, wpAny_pyIter_tuple isT
      exact ⟨_, rfl, h⟩
section
variable {prog : Program} {w : World} {A : Around} {E : Value → Shared → Prop} {s : Shared}
theorem call_enum_tuple {t : Addr} {items : Array Value} {Q : Value → Shared → Prop} (isT : s.heap.IsTuple t items)
    (h : ∀ h', IsEnum h' (s.heap.objs.size + 1) s.heap.objs.size 0 .none → h'.IsTupleIter s.heap.objs.size t 0 → (∀ b o, s.heap.get? b = some o → h'.get? b = some o) → Q (.ref (s.heap.objs.size + 1)) { s with heap := h' }) :
    wpAny (model prog w) A (call (.type "enumerate") [.ref t]) Q E s := by
  obtain ⟨⟨c, di, dt, sl⟩, there, hc, n, hd⟩ := isT
  simp only at hc hd
  subst hc hd
  refine callType_new F.called_enumerate (by decide) (F.typeCall_enumerate_1 _) (F.newCall_enumerate_1 _) (fun ob => F.args_object_init_2 ob _) F.entry_enumerate_new (enum_new_tuple t items n di sl) ⟨there, ?_⟩
  have two : (s.heap.push (tupIt t)).objs.size = s.heap.objs.size + 1 := Heap.size_push ..
  have isE : IsEnum ((s.heap.push (tupIt t)).push (enumO s.heap.objs.size)) (s.heap.objs.size + 1) s.heap.objs.size 0 .none := by
    have q := Heap.get?_push_size (s.heap.push (tupIt t)) (o := enumO s.heap.objs.size) rfl
    rw [two] at q
    exact q
  show _ ∧ _
  rw [two]
  exact ⟨⟨_, isE, rfl⟩, h _ isE ⟨_, Heap.get?_push_of_some _ (Heap.get?_push_size _ rfl), rfl, rfl⟩ fun b o x => Heap.get?_push_of_some _ (Heap.get?_push_of_some _ x)⟩
end
theorem tup_one {X : Cx} {pins : List (Addr × Obj)} {σ : L2.St} {H : Hp} {s : Shared} {a : Addr} {xs ys : List V} (I : Inv X pins σ H s) (h : SqT X.K H a xs) (h' : SqT X.K H a ys) : xs = ys := by
  obtain ⟨us, r, ⟨o, ho, _, _, hd⟩, _⟩ := I.tuple h
  obtain ⟨vs, r', ⟨o', ho', _, _, hd'⟩, _⟩ := I.tuple h'
  rw [ho] at ho'
  cases ho'
  rw [hd] at hd'
  injection hd' with e _
  have e2 : us = vs := by simpa using congrArg Array.toList e
  subst e2
  exact r.inj r'
theorem enum_end_tuple {prog : Program} {w : World} {A : Around} {E : Value → Shared → Prop} {s : Shared} {e it t : Addr} {i : Nat} {k : Int} {old : Value} {items : Array Value} {Q : Option Value → Shared → Prop} (quiet : A.handled = none)
    (isE : IsEnum s.heap e it k old) (isI : s.heap.IsTupleIter it t i) (isT : s.heap.IsTuple t items) (over : items[i]? = none) (h : ∀ h', Heap.ExtBut it s.heap h' → Q none { s with heap := h' }) : wpAny (model prog w) A (pyNext (.ref e)) Q E s := by
  have ty : s.TypeIs (.ref e) "enumerate" := ⟨_, isE, rfl⟩
  unfold pyNext
  refine wpAny_bind (wpAny_attempt (wpAny_callSpecial?_slot (name := Str.ofString "__next__") ty F.slot_enumerate_next (wpAny_call_entry F.slot_enumerate_next ty F.entry_enumerate_next ?_ (F.args_enumerate_next_1 _))))
  show wpAny _ _ (field (.ref e) 2 >>= fun _ => _) _ _ _
  refine wpAny_bind (wpAny_field isE rfl (x := .ref it) rfl (wpAny_bind (wpAny_nextOf_tuple_end quiet isI isT over fun h' x ex hx => ?_)))
  obtain ⟨o, ho, hc⟩ := hx
  exact wpAny_bind (wpAny_isInstance (b := true) (T := "StopIteration") ⟨o, ho, hc⟩ isSubtype_stop (wpAny_pure (h _ ex)))
/-- the tuple at a, each item in a new pair -/
def IteT (K : PySem.W.Frag) (a : Addr) : It :=
  ⟨fun i H => ∃ (xs : List V) (x : V), SqT K H a xs ∧ xs[i]? = some x, fun i H v H' => ∃ T x, v = .ref T ∧ H T = none ∧ H' = upd H T (.tup [.int (i : Nat), x]) ∧ ∀ xs, SqT K H a xs → xs[i]? = some x, fun i H => ∃ xs : List V, SqT K H a xs ∧ xs.length ≤ i⟩
theorem turn_enumT {P : Program} {w : World} {K : PySem.W.Frag} {elts : List Expr} {kk : Nat} {tpos : Pos} (a e it : Addr) :
    Turn P w K (.Tuple elts kk tpos) (IteT K a) [e, it] e (fun i h => (∃ old, IsEnum h e it ((i : Nat) : Int) old) ∧ h.IsTupleIter it a i ∧ e ≠ it ∧ a ≠ it ∧ a ≠ e) where
  mem := by simp
  obj := fun i h st b hb => by
    obtain ⟨⟨old, isE⟩, ⟨o, ho, hc, hd⟩, _⟩ := st
    rcases (show b = e ∨ b = it by simpa using hb) with z | z
    · rw [z]; exact ⟨_, isE, fun v q => nomatch q⟩
    · rw [z]; exact ⟨o, ho, fun v q => by rw [hd] at q; cases q⟩
  keep := fun i h h' st k => ⟨⟨st.1.choose, k e (by simp) _ st.1.choose_spec⟩, st.2.1.at fun o q => k it (by simp) o q, st.2.2⟩
  item := by
    intro X hP hw hK hc i pins s σ H E I hf st hg
    subst hP hw hK
    obtain ⟨⟨old, isE⟩, isI, nei, nai, nae⟩ := st
    obtain ⟨xs, x, hq, hx⟩ := hg
    obtain ⟨its, rv, isT, hz⟩ := I.tuple hq
    obtain ⟨u, hu, ru⟩ := rv.get hx
    have elt : e < s.heap.objs.size := Heap.lt_size isE
    have ilt : it < s.heap.objs.size := isI.elim fun _ q => Heap.lt_size q.1
    have hul : i < its.length := (List.getElem?_eq_some_iff.mp hu).1
    refine wpAny_pyNext_enum_itemD (Draws.tuple (A := X.A.in1) (I.ok.hd hc) it a nai its.toArray) isE ⟨isI, isT⟩ (by simpa using hul) nei (by simp [nei, Ne.symm nae]) fun y h1 tk hy out st1 newT hsz keep => ?_
    have ey : y = u := by
      have q : its[i]? = some y := by simpa using hy
      rw [hu] at q
      exact (Option.some.inj q).symm
    subst ey
    refine ⟨_, rfl, wpAny_letOwnedTupleGo_enum (s := { s with heap := h1, toks := tk + 1 }) out fun h2 isE2 sb => ?_⟩
    have newT2 : h2.get? s.heap.objs.size = some { cls := .type "tuple", data := .seq #[.int i tk, y] } := (sb.2 _ (Nat.ne_of_gt elt)).trans newT
    have okT : ObjOk X.prog X.w (upd H s.heap.objs.size (.tup [.int (i : Nat), x])) h2 s.heap.objs.size (.tup [.int (i : Nat), x]) :=
      ⟨by show 2 ≤ sizeLine; decide, [.int i tk, y], .cons ⟨_, rfl⟩ (.cons ru .nil), ⟨_, newT2, rfl, _, rfl⟩⟩
    have I1 : Inv X pins σ (upd H s.heap.objs.size (.tup [.int (i : Nat), x])) { s with heap := h2, toks := tk + 1 } :=
      I.turnedNew (ch := [e, it]) (fun b ob hb q => (sb.2 b (fun z => hb (by simp [z]))).trans (keep b ob (fun z => hb (by simp [z])) (fun z => hb (by simp [z])) q)) hf (Nat.le_refl _) okT
    refine ⟨.ref s.heap.objs.size, _, I1, rfl, ⟨_, x, rfl, I.hok.fresh (Nat.le_refl _), rfl, fun ys hy => ?_⟩, ⟨⟨y, ?_⟩, st1.1.at fun o q => (sb.2 it (Ne.symm nei)).trans q, nei, nai, nae⟩, fun b hb => ?_⟩
    · have e1 : ys = xs := by
        exact tup_one I hy hq
      rw [e1]
      exact hx
    · rw [show ((i + 1 : Nat) : Int) = (i : Int) + 1 by omega]
      exact isE2
    · have old' : b < s.heap.objs.size := by
        rcases (show b = e ∨ b = it by simpa using hb) with z | z
        · rw [z]; exact elt
        · rw [z]; exact ilt
      rw [upd_ne (Nat.ne_of_lt old')]
      exact (hf b hb).1
  done := by
    intro X hP hw hK hc i pins s σ H E I hf st hg
    subst hP hw hK
    obtain ⟨⟨old, isE⟩, isI, nei, nai, nae⟩ := st
    obtain ⟨xs, hq, hx⟩ := hg
    obtain ⟨its, rv, isT, hz⟩ := I.tuple hq
    obtain ⟨f0, f1, f2, f3, f4, f5⟩ := hf it (by simp)
    have hl := rv.length
    exact enum_end_tuple (I.ok.hd hc) isE isI isT (by simp; omega) fun h1 eb => ⟨rfl, I.turned (t' := s.toks) (fun b o hb q => eb b o hb q) f0 f1 f3 f4 f5⟩
  self := fun A i s Q E st h => wpAny_pyIter_enum st.1.choose_spec h
def iEnumT (K : PySem.W.Frag) (ta : TA) : TI := fun σ H R => ta σ H fun vs H1 => ∃ a xs, vs = [.ref a] ∧ SqT K H1 a xs ∧ R (IteT K a) H1
theorem pi_enumT {X : Cx} {e : Expr} {ta : TA} {p pos tpos : Pos} {elts : List Expr} {kk : Nat} (hg : Gl X "enumerate") (hm : X.mg "enumerate" = none) (ha : PA X [e] ta) (one : starEach [e] X.env = [(false, eval e X.env)] := by rfl) :
    PI X (.Tuple elts kk tpos) (.Call (.Name "enumerate" p) [e] [] pos) (iEnumT X.K ta) := by
  refine ⟨fun pins s σ H R I h => ?_⟩
  refine Call_ (ld_blt I hg hm boot_enumerate (PyProof.Rows.callWith_type1 (thn (ha.run pos pins s σ H _ I h) fun us s1 ⟨vs, H1, I1, r1, q1⟩ => ?_) one rfl))
  obtain ⟨a, xs, rfl, hq, q⟩ := q1
  rw [Vals.ref1 r1]
  obtain ⟨its, rv, isT, hz⟩ := I1.tuple hq
  have alt : a < s1.heap.objs.size := isT.elim fun _ q => Heap.lt_size q.1
  refine call_enum_tuple isT fun h1 isE isI keep => wpAny_pyIter_enum isE ?_
  have I2 : Inv X pins σ H1 { s1 with heap := h1 } := I1.kept (t' := s1.toks) keep
  refine ⟨s1.heap.objs.size + 1, [s1.heap.objs.size + 1, s1.heap.objs.size], _, _, H1, rfl, I2, turn_enumT a (s1.heap.objs.size + 1) s1.heap.objs.size, ⟨⟨.none, isE⟩, isI, Nat.succ_ne_self _, Nat.ne_of_lt alt, Nat.ne_of_lt (Nat.lt_succ_of_lt alt)⟩, fun b hb => ?_, q⟩
  have new : s1.heap.objs.size ≤ b := by
    rcases (show b = s1.heap.objs.size + 1 ∨ b = s1.heap.objs.size by simpa using hb) with z | z
    · rw [z]; exact Nat.le_succ _
    · rw [z]; exact Nat.le_refl _
  exact I1.fpOk new (I1.hok.fresh new)
end Ah
set_option Elab.async false
set_option linter.all false
set_option maxRecDepth 100000
set_option maxHeartbeats 4000000
namespace Ah
open PySem PySem.Spec PyProof.Rows L2
/-! ### comprehensions that change nothing -/
def CompSt (H0 : Hp) (D : Addr) (xs : List V) (f : V → V) (i : Nat) (H : Hp) : Prop := Same H0 H ∧ H D = some (.lst ((xs.take i).map f))
theorem CompSt.start {H0 H : Hp} {D : Addr} {xs : List V} {f : V → V} (h : Same H0 H) (hD : H D = none) : CompSt H0 D xs f 0 (upd H D (.lst [])) := ⟨h.trans (same_new hD), upd_same⟩
theorem CompSt.step {H0 H : Hp} {D : Addr} {xs : List V} {f : V → V} {i : Nat} {x : V} (h : Same H0 H) (hD : H D = some (.lst ((xs.take i).map f))) (hx : xs[i]? = some x) (n0 : H0 D = none) (hl : xs.length ≤ 1000) :
    ∃ acc, H D = some (.lst acc) ∧ acc.length < sizeLine ∧ CompSt H0 D xs f (i + 1) (upd H D (.lst (acc ++ [f x]))) := by
  refine ⟨_, hD, ?_, same_mut h n0, ?_⟩
  · rw [List.length_map, List.length_take]
    exact small1000 (by omega)
  · rw [upd_same, List.take_succ, hx, List.map_append]
    rfl
theorem lc_gen {J : It} {n : Nat} {item : Nat → V} {g : TG} {tt : TT} {te : TE} {vs : List Nat} {σ : L2.St} {H1 : Hp} {D : Addr} {Qd : Hp → Prop} (Pv : Nat → Hp → Prop) (h0 : Pv 0 (upd H1 D (.lst [])))
    (hgo : ∀ i H, i < n → Pv i H → J.go i H) (hst : ∀ H, Pv n H → J.stop n H) (hy : ∀ i H x H', i < n → Pv i H → J.yld i H x H' → H' = H ∧ x = item i)
    (hs : ∀ i H, i < n → Pv i H → g (item i) (wipe σ vs) H fun σ2 H2 => wipe σ2 vs = wipe σ vs ∧ tt σ2 H2 fun b H3 =>
      if b = true then te σ2 H3 fun y H4 => ∃ acc, H4 D = some (.lst acc) ∧ acc.length < sizeLine ∧ Pv (i + 1) (upd H4 D (.lst (acc ++ [y]))) else Pv (i + 1) H3) (hd : ∀ H, Pv n H → Qd H) :
    ∃ W : Nat → Nat → Hp → Prop, (∃ m, W 0 m (upd H1 D (.lst []))) ∧ ∀ i m H, W i m H →
      (J.stop i H ∧ Qd H) ∨ (J.go i H ∧ ∃ Nx : Hp → Prop, (∀ H', Nx H' → ∃ m', m' < m ∧ W (i + 1) m' H') ∧ ∀ x H', J.yld i H x H' → g x (wipe σ vs) H' fun σ2 H2 => wipe σ2 vs = wipe σ vs ∧ tt σ2 H2 fun b H3 =>
        if b = true then te σ2 H3 fun y H4 => ∃ acc, H4 D = some (.lst acc) ∧ acc.length < sizeLine ∧ Nx (upd H4 D (.lst (acc ++ [y]))) else Nx H3) := by
  refine ⟨fun i m H => m = n - i ∧ i ≤ n ∧ Pv i H, ⟨n, rfl, Nat.zero_le _, h0⟩, ?_⟩
  rintro i m H ⟨rfl, hi, p⟩
  rcases Nat.lt_or_ge i n with hlt | hge
  · refine .inr ⟨hgo i H hlt p, Pv (i + 1), fun H' p' => ⟨n - (i + 1), by omega, rfl, hlt, p'⟩, fun x H' y => ?_⟩
    obtain ⟨rfl, rfl⟩ := hy i H x H' hlt p y
    exact hs i _ hlt p
  · obtain rfl : i = n := by omega
    exact .inl ⟨hst H p, hd H p⟩
/-! ### the program's own -/
structure Blt2 (mg : Str → Option Value) : Prop where
  isinstance : mg "isinstance" = none
  str : mg "str" = none
  list : mg "list" = none
  tuple : mg "tuple" = none
  dict : mg "dict" = none
  all : mg "all" = none
  set : mg "set" = none
  len : mg "len" = none
  enum : mg "enumerate" = none
  sorted : mg "sorted" = none
  range : mg "range" = none
section
variable {P : Program} {w : World} {K : PySem.W.Frag} {mg : Str → Option Value} {base : Heap}
end
end Ah
set_option Elab.async false
set_option linter.all false
set_option maxRecDepth 100000
set_option maxHeartbeats 4000000
namespace Ah
open PySem PySem.Spec PyProof.Rows L2
/-! ### a list or a tuple walked -/
def iOr (a b : TI) : TI := fun σ H R => a σ H R ∨ b σ H R
theorem pi_or {X : Cx} {tg e : Expr} {a b : TI} (h1 : PI X tg e a) (h2 : PI X tg e b) : PI X tg e (iOr a b) := ⟨fun pins s σ H R I h => h.elim (h1.run pins s σ H R I) (h2.run pins s σ H R I)⟩
/-- [.. for x in xs], xs a list or a tuple that stands still -/
theorem rd_same {H H' : Hp} {a : Addr} {u : HO} (k : Same H H') (h : Rd H a u) : Rd H' a u := h.imp (k _ _) fun ⟨o, h⟩ => ⟨o, k _ _ h⟩
theorem rd_some {H : Hp} {a : Addr} {u : HO} (h : Rd H a u) : ∃ o, H a = some o := h.elim (fun h => ⟨_, h⟩) fun ⟨_, h⟩ => ⟨_, h⟩
theorem rd_eq {H H' : Hp} {a : Addr} {u : HO} (e : H' a = H a) (h : Rd H a u) : Rd H' a u := h.imp e.trans fun ⟨o, h⟩ => ⟨o, e.trans h⟩
theorem ty_tup {K : PySem.W.Frag} {H : Hp} {a : Addr} {xs : List V} (h : Rd H a (.tup xs)) : TyX K H (.ref a) (.type "tuple") := h.elim (fun h => .base (.tup h)) fun ⟨_, h⟩ => .fTuple h
/-- a tuple whose object has no dict -/
def Ftp (H : Hp) (a : Addr) (xs : List V) : Prop := ∃ o : Obj, o.dict = none ∧ H a = some (.frz o (.tup xs))
theorem Ftp.rd {H : Hp} {a : Addr} {xs : List V} (h : Ftp H a xs) : Rd H a (.tup xs) := let ⟨o, _, h⟩ := h; .inr ⟨o, h⟩
theorem Ftp.same {H H' : Hp} {a : Addr} {xs : List V} (k : Same H H') (h : Ftp H a xs) : Ftp H' a xs := let ⟨o, d, h⟩ := h; ⟨o, d, k _ _ h⟩
def LTu (H : Hp) (a : Addr) (xs : List V) : Prop := H a = some (.lst xs) ∨ Rd H a (.tup xs)
theorem LTu.same {H H' : Hp} {a : Addr} {xs : List V} (k : Same H H') (h : LTu H a xs) : LTu H' a xs := h.imp (k _ _) (rd_same k)
theorem LTu.sq {K : PySem.W.Frag} {H : Hp} {a : Addr} {xs : List V} (h : LTu H a xs) : SqL K H a xs ∨ SqT K H a xs := h.imp (fun h => SqL.of h) fun h => .inl h
theorem iOr_lc {K : PySem.W.Frag} {a : Addr} {xs : List V} {g : TG} {tt : TT} {tx te : TE} {vs : List Nat} {σ : L2.St} {H : Hp} {Q : VK} (hx : ∀ R, R (.ref a) H → tx σ H R) (hs0 : LTu H a xs) (Pv : Addr → Nat → Hp → Prop)
    (h0 : ∀ D, H D = none → Pv D 0 (upd H D (.lst []))) (hl : ∀ D i H', H D = none → i ≤ xs.length → Pv D i H' → H' a = H a)
    (hs : ∀ D i x H', H D = none → xs[i]? = some x → Pv D i H' → g x (wipe σ vs) H' fun σ2 H2 => wipe σ2 vs = wipe σ vs ∧ tt σ2 H2 fun b H3 =>
      if b = true then te σ2 H3 fun y H4 => ∃ acc, H4 D = some (.lst acc) ∧ acc.length < sizeLine ∧ Pv D (i + 1) (upd H4 D (.lst (acc ++ [y]))) else Pv D (i + 1) H3) (hd : ∀ D H', H D = none → Pv D xs.length H' → Q (.ref D) H') :
    tLc (iOr (iList K tx) (iTup K tx)) g tt te vs σ H Q := by
  rcases hs0 with h1 | h1
  · exact .inl (hx _ ⟨a, rfl, ⟨xs, SqL.of h1⟩, fun D hD => lc_list (K := K) (a := a) (xs := xs) (Pv D) (h0 D hD) (fun i H' hi p => SqL.of ((hl D i H' hD hi p).trans h1)) (fun i x H' hxi p => hs D i x H' hD hxi p) fun H' p => hd D H' hD p⟩)
  · exact .inr (hx _ ⟨a, rfl, ⟨xs, .inl h1⟩, fun D hD => lc_tup (K := K) (a := a) (xs := xs) (Pv D) (h0 D hD) (fun i H' hi p => .inl (rd_eq (hl D i H' hD hi p) h1)) (fun i x H' hxi p => hs D i x H' hD hxi p) fun H' p => hd D H' hD p⟩)
theorem LTu.some {H : Hp} {a : Addr} {xs : List V} (h : LTu H a xs) : ∃ o, H a = some o := h.elim (fun h => ⟨_, h⟩) rd_some
theorem str_at {xs : List Str} {i : Nat} {v : V} (h : (xs.map V.str)[i]? = some v) : ∃ x, xs[i]? = some x ∧ v = .str x ∧ x ∈ xs := by
  rw [List.getElem?_map] at h
  obtain ⟨x, hx, rfl⟩ := Option.map_eq_some_iff.mp h
  exact ⟨x, hx, rfl, List.mem_of_getElem? hx⟩
section
variable {P : Program} {w : World} {K : PySem.W.Frag} {mg : Str → Option Value} {base : Heap}
/-- other things: nothing, a text, a number, an empty dict -/
inductive Od where
  | non | str (x : Str) | int (i : Int) | dic
def Od.isDic : Od → Bool
  | .dic => true
  | _ => false
def OdAt (H : Hp) (v : V) : Od → Prop
  | .non => v = .non
  | .str x => v = .str x
  | .int i => v = .int i
  | .dic => ∃ a, v = .ref a ∧ Rd H a (.dK [])
theorem OdAt.same {H H' : Hp} {v : V} {d : Od} (k : Same H H') (h : OdAt H v d) : OdAt H' v d := by
  cases d with
  | non => exact h
  | str x => exact h
  | int i => exact h
  | dic => exact h.imp fun _ h => ⟨h.1, rd_same k h.2⟩
theorem ty_dict {K : PySem.W.Frag} {H : Hp} {a : Addr} {kvs : List (Key × V)} (h : Rd H a (.dK kvs)) : TyX K H (.ref a) (.type "dict") := h.elim (fun h => .base (.dK h)) fun ⟨_, h⟩ => .fDict h
theorem OdAt.ty {K : PySem.W.Frag} {H : Hp} {v : V} {d : Od} (h : OdAt H v d) : ∃ ty, TyX K H v ty ∧ PySem.W.kitOne K ty (.type "list") = some false ∧ PySem.W.kitOne K ty (.type "tuple") = some false ∧ PySem.W.kitOne K ty (.type "dict") = some d.isDic := by
  cases d with
  | non =>
    cases (show v = .non from h)
    exact ⟨_, .base .non, kit_ty (by decide +kernel), kit_ty (by decide +kernel), kit_ty (by decide +kernel)⟩
  | str x =>
    cases (show v = .str x from h)
    exact ⟨_, .base (.str x), kit_ty (by decide +kernel), kit_ty (by decide +kernel), kit_ty (r := false) (by decide +kernel)⟩
  | int i =>
    cases (show v = .int i from h)
    exact ⟨_, .base (.int i), kit_ty (by decide +kernel), kit_ty (by decide +kernel), kit_ty (r := false) (by decide +kernel)⟩
  | dic =>
    obtain ⟨a, rfl, h⟩ := h
    exact ⟨_, ty_dict h, kit_ty (by decide +kernel), kit_ty (by decide +kernel), kit_ty (by decide +kernel)⟩
end
end Ah
set_option Elab.async false
set_option linter.all false
set_option maxRecDepth 100000
set_option maxHeartbeats 4000000
/-! tuples whose object is known: made, joined, cut, turned round; t.index(text) of one -/
namespace Ah
open PySem PySem.Spec PyProof.Rows L2
section
variable {prog : Program} {w : World} {A : Around} {E : Value → Shared → Prop} {s : Shared}
theorem adjust_rev (n : Nat) : Builtin.Slice.sliceAdjust none none (-1) (n : Int) = ((n : Int) - 1, -1) := by
  unfold Builtin.Slice.sliceAdjust
  simp
theorem places_rev (n : Nat) : Builtin.Slice.slicePlaces ((n : Int) - 1) (-1) (-1) = n := by
  unfold Builtin.Slice.slicePlaces
  have h1 : ¬ ((-1 : Int) > 0) := by decide
  simp only [h1, if_false]
  by_cases h : (n : Int) - 1 > -1
  · rw [if_pos h, show (- -1 : Int) = 1 by decide, Int.ediv_one]
    omega
  · rw [if_neg h]
    omega
theorem fm_congr {α β : Type} {f g : α → Option β} : ∀ {l : List α}, (∀ x ∈ l, f x = g x) → l.filterMap f = l.filterMap g
  | [], _ => rfl
  | a :: l, h => by
    rw [List.filterMap_cons, List.filterMap_cons, h a List.mem_cons_self, fm_congr fun x hx => h x (List.mem_cons_of_mem _ hx)]
theorem pick_rev (xs : Array Value) : ((List.range xs.size).filterMap fun (m : Nat) => xs[(((xs.size : Int) - 1) + (m : Int) * (-1)).toNat]?).toArray = xs.toList.reverse.toArray := by
  have e : (List.range xs.size).filterMap (fun (m : Nat) => xs[(((xs.size : Int) - 1) + (m : Int) * (-1)).toNat]?) = ((List.range xs.size).map fun k => xs.size - 1 - k).filterMap (xs[·]?) := by
    rw [List.filterMap_map]
    refine fm_congr fun m hm => ?_
    have := List.mem_range.mp hm
    show xs[(((xs.size : Int) - 1) + (m : Int) * (-1)).toNat]? = xs[xs.size - 1 - m]?
    rw [show (((xs.size : Int) - 1) + (m : Int) * (-1)).toNat = xs.size - 1 - m by omega]
  rw [e, PySem.W.krv_range, List.filterMap_reverse, PySem.W.krv_all]
theorem getItem_tuple_rev {t sl : Addr} {items : Array Value} {k : Tok} {Q : Value → Shared → Prop} (ht : IsTup s.heap t items) (hs : s.heap.IsSliceOf sl .none .none (.int (-1) k))
    (h : Q (.ref s.heap.objs.size) { s with heap := s.heap.push { cls := .type "tuple", data := .seq items.toList.reverse.toArray } }) (hsz : items.size ≤ sizeLine) : wpAny (model prog w) A (getItem (.ref t) (.ref sl)) Q E s := by
  have htake : sizeOk (.seq items.toList.reverse.toArray) := by
    show items.toList.reverse.toArray.size ≤ sizeLine
    rw [List.size_toArray, List.length_reverse, Array.length_toList]
    exact hsz
  obtain ⟨os, hos, hcs, hds⟩ := id hs
  have hTs : s.TypeIs (.ref sl) "slice" := ⟨os, hos, hcs⟩
  unfold getItem
  try with_reducible refine wpAny_holding ?_
  first | refine wpAny_bind (wpAny_pure ?_) | skip
  refine wpAny_bind (wpAny_sequenceKey ht.typeIs (by decide) ?_)
  refine wpAny_bind (wpAny_callSpecial?_slot (name := Str.ofString "__getitem__") ht.typeIs PyProof.Rows.slot_tuple_getitem
    (wpAny_call_entry PyProof.Rows.slot_tuple_getitem ht.typeIs PyProof.Rows.entry_tuple_getitem ?_ (PyProof.Rows.args_tuple_getitem _ _)))
  show wpAny _ _ (Builtin.Tuple.tupleItemsOf (.ref t) >>= _) _ _ s
  refine wpAny_bind (PyProof.Rows.tupleItemsOf_ ht ?_)
  refine wpAny_bind (wpAny_typeOf hTs ?_)
  rw [if_pos (by decide)]
  refine wpAny_bind ?_
  · unfold Builtin.Slice.sliceApplied Builtin.Slice.sliceFields
    refine wpAny_bind (wpAny_bind (wpAny_field hos hds (x := .none) rfl (wpAny_bind (wpAny_field hos hds (x := .none) rfl (wpAny_bind (wpAny_field hos hds (x := .int (-1) k) rfl (wpAny_pure ?_)))))))
    refine wpAny_bind (PyProof.Rows.slicePart_int ?_)
    show wpAny _ _ (if ((-1 : Int) == 0) = true then _ else _) _ _ s
    rw [if_neg (by decide)]
    refine wpAny_bind (PyProof.Rows.slicePart_none (wpAny_bind (PyProof.Rows.slicePart_none (wpAny_bind (wpAny_pure ?_)))))
    show wpAny _ _ (match Builtin.Slice.sliceAdjust none none (-1) (items.size : Int) with | (lo, hi) => pure (lo, (-1 : Int), Builtin.Slice.slicePlaces lo hi (-1))) _ _ s
    rw [adjust_rev]
    show wpAny _ _ (pure (((items.size : Int) - 1), (-1 : Int), Builtin.Slice.slicePlaces ((items.size : Int) - 1) (-1) (-1))) _ _ s
    rw [places_rev]
    refine wpAny_pure ?_
    have hno : ¬ ((((items.size : Int) - 1) == 0 && (-1 : Int) == 1 && items.size == items.size) = true) := by simp
    show wpAny _ _ (if (((items.size : Int) - 1) == 0 && (-1 : Int) == 1 && items.size == items.size) = true then _ else _) _ _ s
    rw [if_neg hno, pick_rev]
    first
      | exact wpAny_bind (m := Builtin.Tuple.tupleExact _) (wpAny_newObj_type (wpAny_pure ⟨_, rfl, wpAny_pure h⟩) htake)
      | exact wpAny_bind (m := Builtin.Tuple.tupleExact _) (wpAny_newObj_type (wpAny_bind (wpAny_pure (wpAny_pure ⟨_, rfl, wpAny_pure h⟩))) htake)
      | exact wpAny_bind (wpAny_bind (m := Builtin.Tuple.tupleExact _) (wpAny_newObj_type (wpAny_pure (wpAny_pure ⟨_, rfl, wpAny_pure h⟩)) htake))
      | exact wpAny_bind (wpAny_bind (m := Builtin.Tuple.tupleExact _) (wpAny_newObj_type (wpAny_pure ⟨_, rfl, wpAny_pure h⟩) htake))
end
section
variable {X : Cx}
/-- a new tuple, its object known -/
def NewF (H : Hp) (xs : List V) (Q : VK) : Prop := ∀ (p : Addr) (o : Obj), o.dict = none → H p = none → Q (.ref p) (upd H p (.frz o (.tup xs)))
def tRevT (K : PySem.W.Frag) (te : TE) : TE := fun σ H Q => te σ H fun x H1 => ∃ a xs, x = .ref a ∧ SqT K H1 a xs ∧ NewF H1 xs.reverse Q
theorem pe_revT {e : Expr} {te : TE} {k : Nat} {p1 p2 p3 pos : Pos} (he : PE X e te) : PE X (.Subscript e (.Slice none none (some (.UnaryOp .USub (.Constant (.int 1) k p1) p2)) p3) pos) (tRevT X.K te) := by
  refine ⟨fun pins s σ H Q I h => ?_⟩
  refine Subscript_ (thn (he.run pins s σ H _ I h) fun v s1 ⟨x, H1, I1, r1, q1⟩ => ?_)
  obtain ⟨a, xs, ex, hx, q⟩ := q1
  subst ex
  cases r1
  have hst : PO X (some (.UnaryOp .USub (.Constant (.int 1) k p1) p2)) (tPart (tUn (rU fun i => .int (-i)) (tC (.int 1)))) := po_some (pe_un un_neg pe_int)
  refine wpAny_Slice (thn (po_none.run pins s1 σ H1 (fun o H2 => o = none ∧ H2 = H1) I1 ⟨rfl, rfl⟩) fun vl s2 ⟨l, H2, I2, pl, el, e2⟩ => ?_)
  subst el e2
  refine thn (po_none.run pins s2 σ H2 (fun o H3 => o = none ∧ H3 = H2) I2 ⟨rfl, rfl⟩) fun vu s3 ⟨u, H3, I3, pu, eu, e3⟩ => ?_
  subst eu e3
  refine thn (hst.run pins s3 σ H3 (fun o H4 => o = some (-1) ∧ H4 = H3) I3 ⟨1, rfl, -1, rfl, rfl, rfl⟩) fun vs s4 ⟨o, H4, I4, ps, eo, e4⟩ => ?_
  subst eo e4
  have I5 : Inv X pins σ H4 { s4 with heap := s4.heap.push { cls := .type "slice", data := .fields #[vl, vu, vs] } } := I4.kept (t' := s4.toks) fun b ob q => Heap.get?_push_of_some _ q
  obtain ⟨its, r, ht, hz⟩ := I5.tuple hx
  have hlen := r.length
  cases pl
  cases pu
  obtain ⟨kk, rfl⟩ : ∃ kk, vs = Value.int (-1) kk := by
    cases ps
    exact ⟨_, rfl⟩
  show wpAny (model X.prog X.w) X.A (subscriptTail e (.Slice none none (some (.UnaryOp .USub (.Constant (.int 1) k p1) p2)) p3) (.ref a) (.ref s4.heap.objs.size)) (EP X pins σ Q) X.xe { s4 with heap := s4.heap.push { cls := .type "slice", data := .fields #[.none, .none, .int (-1) kk] } }
  refine tail_any (ops := [.ref a, .ref s4.heap.objs.size]) ht.typeIs (PyProof.Rows.slot_tuple_getitem.lookup) ?_ (by with_unfolding_all rfl)
  refine getItem_tuple_rev ht (Heap.IsSliceOf.new _ _ _ _) ?_ (by rw [List.size_toArray]; omega)
  refine ⟨.ref _, _, I5.laid (t' := s4.toks) (o := .frz { cls := .type "tuple", data := .seq its.reverse.toArray } (.tup xs.reverse)) (fun b ob q => Heap.get?_push_of_some _ q) (Nat.le_refl _) ?_, rfl, q _ _ rfl (I5.hok.fresh (Nat.le_refl _))⟩
  exact ⟨Heap.get?_push_size _ rfl, by rw [List.length_reverse]; omega, _, r.reverse, IsTup.new _ _⟩
def tTupF (t : TA) : TE := fun σ H Q => t σ H fun xs H1 => xs.length ≤ sizeLine ∧ NewF H1 xs Q
theorem pe_tupF {es : List Expr} {t : TA} {pos : Pos} {x1 : Nat} (h : PA X es t) : PE X (.Tuple es x1 pos) (tTupF t) := by
  refine ⟨fun pins s σ H Q I hq => ?_⟩
  refine wpAny_Tuple_spliced (thn (h.run pos pins s σ H _ I hq) fun us s1 ⟨xs, H1, I1, r, z, q⟩ => ⟨by rw [← r.length]; exact z, ?_⟩)
  have hf : H1 s1.heap.objs.size = none := I1.hok.fresh (Nat.le_refl _)
  refine ⟨.ref s1.heap.objs.size, _, I1.laid (t' := s1.toks) (o := .frz { cls := .type "tuple", data := .seq us.toArray } (.tup xs)) (fun b u e => Heap.get?_push_of_some _ e) (Nat.le_refl _) ?_, rfl, q _ _ rfl hf⟩
  exact ⟨Heap.get?_push_size _ rfl, z, us, r, ⟨_, Heap.get?_push_size _ rfl, rfl, _, rfl⟩⟩
def rCatF (K : PySem.W.Frag) : R2 := fun x y H Q => ∃ a b xs ys, x = .ref a ∧ y = .ref b ∧ SqT K H a xs ∧ SqT K H b ys ∧ xs.length + ys.length ≤ sizeLine ∧
  (xs = [] → Q (.ref b) H) ∧ (xs ≠ [] → ys = [] → Q (.ref a) H) ∧ (xs ≠ [] → ys ≠ [] → NewF H (xs ++ ys) Q)
theorem op_catF : OpR X (binaryOp .Add) (rCatF X.K) := by
  intro pins s σ H x y v u Q I rx ry h
  obtain ⟨a, b, xs, ys, rfl, rfl, ha, hb, hz, q0, q1, q2⟩ := h
  cases rx
  cases ry
  obtain ⟨its, r1, p1, _⟩ := I.tuple ha
  obtain ⟨its2, r2, p2, _⟩ := I.tuple hb
  by_cases hx : xs = []
  · subst hx
    cases r1
    exact cat_tup0 p1 p2 ⟨.ref b, H, I, rfl, q0 rfl⟩
  · refine HT.cat_tup p1 p2 (fun z => hx (r1.nil_iff.mp z)) (fun z => ⟨.ref a, H, I, rfl, q1 hx (r2.nil_iff.mp z)⟩) (fun z => ?_) (by rw [← r1.length, ← r2.length]; exact hz)
    refine ⟨.ref s.heap.objs.size, _, I.laid (t' := s.toks) (o := .frz { cls := .type "tuple", data := .seq (its ++ its2).toArray } (.tup (xs ++ ys))) (fun b ob q => Heap.get?_push_of_some _ q) (Nat.le_refl _) ?_, rfl, q2 hx (fun w => z (r2.nil_iff.mpr w)) _ _ rfl (I.hok.fresh (Nat.le_refl _))⟩
    exact ⟨Heap.get?_push_size _ rfl, by rw [List.length_append]; exact hz, _, r1.append r2, IsTup.new _ _⟩
theorem call_tuple_ofF : CallR X (.type "tuple") (fun xs H Q => ∃ p ys, xs = [.ref p] ∧ SqL X.K H p ys ∧ NewF H ys Q) := by
  intro pins s σ H xs us Q I r h
  obtain ⟨p, ys, rfl, hq, q⟩ := h
  obtain ⟨u, rfl, rx⟩ := vals1 r
  cases rx
  obtain ⟨its, r', pl, hz⟩ := I.list hq
  have hlen := r'.length
  refine call_tuple_list pl.isList (fun h' kp => ?_) (by simp only [List.size_toArray] <;> omega)
  have I1 : Inv X pins σ H { s with heap := h' } := I.kept (t' := s.toks) kp
  have I2 : Inv X pins σ (upd H h'.objs.size (.frz { cls := .type "tuple", data := .seq its.toArray } (.tup ys))) { s with heap := h'.push { cls := .type "tuple", data := .seq its.toArray } } :=
    I1.laid (t' := s.toks) (fun b o e => Heap.get?_push_of_some _ e) (Nat.le_refl _) (show ObjOk X.prog X.w _ _ _ (.frz _ (.tup ys)) from ⟨Heap.get?_push_size _ rfl, hz, its, r', IsTup.new _ _⟩)
  exact ⟨.ref h'.objs.size, _, I2, rfl, q _ _ rfl (I1.hok.fresh (Nat.le_refl _))⟩
/-- t.index(text), t a tuple of unlike texts, its object known -/
def tTix (K : PySem.W.Frag) (to : TE) (t : TA) : TE := fun σ H Q => to σ H fun x H1 => ∃ a ys, x = .ref a ∧ Ftp H1 a ys ∧ t σ H1 fun vs H2 => ∃ (zs : List Str) (z : Str) (j : Nat), vs = [.str z] ∧ SqT K H2 a (zs.map V.str) ∧ zs[j]? = some z ∧ (∀ m, m < j → zs[m]? ≠ some z) ∧ Q (.int (j : Nat)) H2
variable {o e : Expr} {to : TE} {t : TA} {apos cpos : Pos}
theorem pe_tix (ho : PE X o to) (ha : PA X [e] t)
    (hbase : attributeBase o "index" X.env (eval o X.env) = eval o X.env := by rfl)
    (hfew : ((backTo cpos (starEach [e] X.env)).all (fun x => !x.1) && (backToKw cpos (keywordEach [] X.env)).all (fun x => x.1.isSome)
      && decide ([e].length + ([] : List Keyword).length + (if ([] : List Keyword).isEmpty then 0 else 1) < 30)) = true := by rfl)
    (hline : (apos.endLine == cpos.line) = true := by rfl) (hs : starEach [e] X.env = (false, eval e X.env) :: starEach [] X.env := by rfl) (hplain : (backTo cpos (starEach [] X.env)).any (·.1) = false := by rfl) :
    PE X (.Call (.Attribute o "index" apos) [e] [] cpos) (tTix X.K to t) := by
  refine ⟨fun pins s σ H Q I h => ?_⟩
  refine wpAny_Call_method_late hbase hfew hline rfl (thn (ho.run pins s σ H _ I h) fun v s1 ⟨x, H1, I1, r1, a, ys, ex, ⟨ob, hd, hob⟩, q1⟩ => ?_)
  subst ex
  cases r1
  obtain ⟨g1, _, its, _, isT⟩ := (show ObjOk X.prog X.w H1 s1.heap a (.frz ob (.tup ys)) from I1.hok a _ hob)
  refine ⟨"tuple", "tuple.index", PySem.F.plainAttrs_tuple, PySem.F.slot_tuple_index, PySem.F.type_tuple_index, isT.typeIs, fun b eb => ?_, ?_⟩
  · cases eb
    exact ⟨ob, g1, hd⟩
  · have hA := ha.run cpos pins s1 σ H1 _ I1 q1
    rw [hs] at hA ⊢
    refine Calls.callWith_builtin (by show (false || (backTo cpos (starEach [] X.env)).any (·.1)) = false; rw [hplain] <;> rfl) (Calls.evalArgs_plain ?_)
    exact thn hA fun us s2 ⟨vs, H2, I2, r2, zs, z, j, ev, q2, q3, q4, q5⟩ => mt_tup_index pins s2 σ H2 (.ref a) vs (.ref a) us Q I2 rfl r2 ⟨a, zs, z, j, rfl, ev, q2, q3, q4, q5⟩
end
end Ah
set_option Elab.async false
set_option linter.all false
set_option maxRecDepth 100000
set_option maxHeartbeats 2000000
/-! sorted(t), t a tuple (or list) of texts -/
namespace PySem
open Sem (wp)
open AutoSeq1 (wpAny_loadPart')
section
variable {prog : Program} {w : World} {A : Around} {E : Value → Shared → Prop} {s : Shared}
/-- what a sequence holds, as a list: the heap behind -/
theorem collect_at {Q : List Value → Shared → Prop} (it : Addr) {T : String} {o : Obj} {items : Array Value} {n : Nat} (hT : T = "list" ∨ T = "tuple") (ho : s.heap.get? it = some o) (hc : o.cls = .type T) (hd : o.data = .seq items n)
    (hQ : ∀ h' : Heap, (∀ b u, s.heap.get? b = some u → h'.get? b = some u) → s.heap.objs.size ≤ h'.objs.size → Q items.toList { s with heap := h' }) (hsz : items.size ≤ sizeLine) : wpAny (model prog w) A (collect (.ref it)) Q E s := by
  unfold collect
  refine wpAny_bind (wpAny_runValue (codeAny_builtin F.entry_proto_collect ?_))
  rw [Around.under_plainId F.plain_proto_collect _]
  show wpAny _ A.in1 (newList [] >>= fun l => again (.builtin "list.__iadd__" ⟨[l, .ref it], []⟩)) _ _ s
  refine wpAny_bind (wpAny_newObj_type (wpAny_pure ⟨plainId_quiet F.plain_list_iadd _, codeAny_builtin F.entry_list_iadd ?_⟩))
  rw [Around.under_plainId F.plain_list_iadd _]
  have new : (s.heap.push { cls := .type "list", data := .seq ([] : List Value).toArray }).get? s.heap.objs.size = some { cls := .type "list", data := .seq #[] 0 } := Heap.get?_push_size _ rfl
  have read : wpAny (model prog w) A (match Value.ref s.heap.objs.size with
      | Value.ref a => do
        match (← load a).data with
          | Data.seq xs _ => pure xs.toList
          | _ => unsupported "internal:collect"
      | _ => unsupported "internal:collect") Q E { s with heap := (s.heap.push { cls := .type "list", data := .seq ([] : List Value).toArray }).update s.heap.objs.size (Obj.mapSeq (· ++ items)) } := by
    show wpAny _ A (load s.heap.objs.size >>= _) _ _ _
    refine wpAny_bind (wpAny_load (Heap.get?_update_self (Obj.mapSeq (· ++ items)) new rfl) (wpAny_pure ?_))
    show Q ((#[] : Array Value) ++ items).toList _
    rw [show ((#[] : Array Value) ++ items).toList = items.toList by simp]
    refine hQ _ (fun b u hb => (Heap.get?_update_other _ _ (Nat.ne_of_gt (Heap.lt_size hb))).trans (Heap.get?_push_of_some _ hb)) ?_
    rw [Heap.size_update, PyProof.Rows.size_push']
    exact Nat.le_succ _
  show wpAny _ A.in1 (Builtin.List.listExtendWith (.ref s.heap.objs.size) (.ref it) (.ref s.heap.objs.size)) _ _ _
  refine wpAny_mono (wpAny_extend_seq (hsz := hsz) (A := A) (R := fun r s' => r = .ok (.ret (.ref s.heap.objs.size)) ∧ s' = { s with heap := (s.heap.push { cls := .type "list", data := .seq ([] : List Value).toArray }).update s.heap.objs.size (Obj.mapSeq (· ++ items)) })
    (s := { s with heap := s.heap.push { cls := .type "list", data := .seq ([] : List Value).toArray } }) _ it _ 0 hT new (Heap.get?_push_of_some _ ho) hc hd ⟨rfl, rfl⟩) (fun r s2 z => ?_) fun r s2 z => absurd z.1 (by simp)
  match r, z with
  | .done f, z =>
    obtain ⟨e, rfl⟩ := z
    cases e
    exact read
  | .again c', z =>
    refine ⟨z.1, codeAny_mono z.2 fun r s3 q => ?_⟩
    obtain ⟨rfl, rfl⟩ := q
    exact read
end
end PySem
namespace PyProof.Rows
open PySem PyProof
section
variable {prog : Program} {w : World} {A : Around} {E : Value → Shared → Prop} {s : Shared}
theorem sorted_seqS {l : Addr} {T : String} {o : Obj} {vs : List Value} {n : Nat} {ss : List Str} {Q : Value → Shared → Prop} (hT : T = "list" ∨ T = "tuple") (ho : s.heap.get? l = some o) (hc : o.cls = .type T) (hd : o.data = .seq vs.toArray n) (hS : StrsAre vs ss) (h64 : vs.length < 64)
    (h : ∀ (h' : Heap) (a e : Nat) (out : List Value) (ss' : List Str), (∀ b u, s.heap.get? b = some u → h'.get? b = some u) → s.heap.objs.size ≤ a → h'.get? a = some (seqObj "list" out.toArray e) → StrsAre out ss' → ss'.Perm ss → sortedS ss' = true → Q (.ref a) { s with heap := h' }) :
    wpAny (model prog w) A (call (.builtin "sorted") [.ref l]) Q E s := by
  refine Calls.call_function_entry kind_sorted plain_sorted entry_sorted (args_sorted1 _) ?_
  unfold Builtin.«sorted»
  refine wpAny_bind (m := checkCount "sorted" 1 1 _) (wpAny_pure ?_)
  have hz : vs.toArray.size ≤ sizeLine := by rw [List.size_toArray, sizeLine_eq]; omega
  refine wpAny_bind (PySem.collect_at l hT ho hc hd (fun h1 k1 big => ?_) hz)
  refine wpAny_bind (wpAny_newList ?_)
  have hoL : (h1.push (seqObj "list" vs.toArray 0)).get? h1.objs.size = some (seqObj "list" vs.toArray 0) := Heap.get?_push_size _ rfl
  show wpAny _ _ _ _ _ { s with heap := h1.push (seqObj "list" vs.toArray 0) }
  refine wpAny_bind (wpAny_holding (wpAny_call_entry slot_list_sort ⟨_, hoL, rfl⟩ entry_list_sort (list_sort_treeK strKind_oneLt hoL hS.keysOf (fun v₁ v₂ rest e => keyKind_strs (by rw [← e]; exact hS)) h64 fun st' a1 a2 => ⟨_, rfl, ?_⟩) (args_list_sort _)))
  refine wpAny_pure ⟨_, rfl, ?_⟩
  obtain ⟨ss', b1, b2, b3⟩ := sorted_out_str hS a1 a2
  obtain ⟨e, he⟩ := sortedHeap_at (out := (arrOf st').map (·.2)) hoL
  refine h _ _ e ((arrOf st').map (·.2)).toList ss' (fun b u hb => ?_) big he b1 b2 b3
  have hb1 := k1 b u hb
  have hlt := Heap.lt_size hb1
  rw [sortedHeap_old (Nat.ne_of_lt hlt) (by rw [size_push']; exact Nat.lt_succ_of_lt hlt)]
  exact Heap.get?_push_of_some _ hb1
end
end PyProof.Rows
namespace Ah
open PySem PySem.Spec PyProof.Rows L2
def rSortedTS (K : PySem.W.Frag) : List V → Hp → VK → Prop := fun vs H Q => ∃ (a : Addr) (xs : List Str), vs = [V.ref a] ∧ (SqL K H a (xs.map V.str) ∨ SqT K H a (xs.map V.str)) ∧ xs.length < 64 ∧ ∀ (ys : List Str) (p : Addr), ys.Perm xs → sortedS ys = true → H p = none → Q (.ref p) (upd H p (.lst (ys.map V.str)))
section
variable {X : Cx}
theorem cr_sortedTS : CallR X (.builtin "sorted") (rSortedTS X.K) := by
  intro pins s σ H vs us Q I r h
  obtain ⟨a, xs, rfl, hs, h64, q⟩ := h
  have fin : ∀ (h' : Heap) (a e : Nat) (out : List Value) (ys : List Str), (∀ b u, s.heap.get? b = some u → h'.get? b = some u) → s.heap.objs.size ≤ a → h'.get? a = some (seqObj "list" out.toArray e) → StrsAre out ys → ys.Perm xs → sortedS ys = true → EP X pins σ Q (.ref a) { s with heap := h' } := fun h' a e out ys k ha he h1 h2 h3 => by
    have hlen : (ys.map V.str).length ≤ sizeLine := by rw [List.length_map, h2.length_eq]; exact small64 h64
    exact ⟨.ref _, upd H a (.lst (ys.map V.str)), I.laid (t' := s.toks) k ha ⟨hlen, out, e, vals_of_strs h1, he⟩, rfl, q ys _ h2 h3 (I.hok.fresh ha)⟩
  rcases hs with hs | hs
  · obtain ⟨its, rv, ⟨o, n, e, c, d, dd⟩, _⟩ := I.list hs
    rw [Vals.ref1 r]
    have hlen0 := rv.length
    rw [List.length_map] at hlen0
    exact PyProof.Rows.sorted_seqS (.inl rfl) e c dd rv.strs (by rw [← hlen0]; exact h64) fin
  · obtain ⟨its, rv, ⟨o, e, c, n, dd⟩, _⟩ := I.tuple hs
    rw [Vals.ref1 r]
    have hlen0 := rv.length
    rw [List.length_map] at hlen0
    exact PyProof.Rows.sorted_seqS (.inr rfl) e c dd rv.strs (by rw [← hlen0]; exact h64) fin
end
end Ah
set_option Elab.async false
set_option linter.all false
set_option maxRecDepth 100000
set_option maxHeartbeats 4000000
namespace Ah
open PySem PySem.Spec PyProof.Rows L2
theorem drop_one {α : Type} {l : List α} {p : Nat} {x : α} (h : l[p]? = some x) : (l.drop p).take 1 = [x] := by
  obtain ⟨hp, e⟩ := List.getElem?_eq_some_iff.mp h
  rw [List.drop_eq_getElem_cons hp, e]
  rfl
theorem rd_to {H : Hp} {a : Addr} {xs ys : List V} (h : Rd H a (.tup xs)) (e : xs = ys) : Rd H a (.tup ys) := e ▸ h
theorem slA {K : PySem.W.Frag} {H : Hp} {a : Addr} {xs : List V} {lo hi : Option Int} {Q : VK} (ha : Rd H a (.tup xs)) (k : ∀ b H', Same H H' → Rd H' b (.tup (cutV xs lo hi)) → Q (.ref b) H') : rSlA K (.ref a) lo hi H Q := by
  refine ⟨a, xs, rfl, .inl ha, fun w => k a H (Same.refl H) ?_, fun _ b hb => k b _ (same_new hb) (.inl upd_same)⟩
  unfold cutV
  rw [w.1, w.2, List.drop_zero, Nat.sub_zero, List.take_length]
  exact ha
theorem catA {K : PySem.W.Frag} {H : Hp} {a b : Addr} {xs ys : List V} {Q : VK} (ha : Rd H a (.tup xs)) (hb : Rd H b (.tup ys)) (hz : xs.length + ys.length ≤ 1000) (k : ∀ c H', Same H H' → Rd H' c (.tup (xs ++ ys)) → Q (.ref c) H') : rCatA K (.ref a) (.ref b) H Q := by
  refine ⟨a, b, xs, ys, rfl, rfl, .inl ha, .inl hb, ?_, fun e => ?_, fun _ e => ?_, fun _ _ c hc => k c _ (same_new hc) (.inl upd_same)⟩
  · exact Nat.le_of_lt (small1000 hz)
  · subst e
    exact k b H (Same.refl H) hb
  · subst e
    exact k a H (Same.refl H) (by rw [List.append_nil]; exact ha)
theorem cutV_to {xs : List V} {p : Nat} (h : p ≤ xs.length) : cutV xs none (some (p : Int)) = xs.take p := by
  unfold cutV
  rw [HT.sIx_none, HT.sIx_nat, List.drop_zero, Nat.sub_zero, Nat.min_eq_left h]
theorem cutV_from {xs : List V} {p : Nat} (h : p ≤ xs.length) : cutV xs (some (p : Int)) none = xs.drop p := by
  unfold cutV
  rw [HT.sIx_none, HT.sIx_nat, Nat.min_eq_left h]
  exact List.take_of_length_le (by rw [List.length_drop]; omega)
section
variable {P : Program} {w : World} {K : PySem.W.Frag} {mg : Str → Option Value} {base : Heap}
end
end Ah
set_option Elab.async false
set_option linter.all false
set_option maxRecDepth 100000
set_option maxHeartbeats 4000000
namespace Ah
open PySem PySem.Spec PyProof.Rows L2
theorem newF {H : Hp} {xs : List V} {Q : VK} (k : ∀ b H', Same H H' → Ftp H' b xs → Q (.ref b) H') : NewF H xs Q := fun p o d hp => k p _ (same_new hp) ⟨o, d, upd_same⟩
theorem ftp_kp {p a : Addr} {xs : List V} {H H' : Hp} (k : Kp p H H') {kvs : List (Key × V)} (hp : H p = some (.dK kvs)) (h : Ftp H a xs) : Ftp H' a xs := by
  obtain ⟨o, d, h⟩ := h
  refine ⟨o, d, k a _ (fun e => ?_) h⟩
  rw [e, hp] at h
  cases h
theorem catF {K : PySem.W.Frag} {H : Hp} {a b : Addr} {xs ys : List V} {Q : VK} (ha : Rd H a (.tup xs)) (hb : Rd H b (.tup ys)) (h1 : xs = [] → Ftp H b ys) (h2 : ys = [] → Ftp H a xs) (hz : xs.length + ys.length ≤ 1000) (k : ∀ c H', Same H H' → Ftp H' c (xs ++ ys) → Q (.ref c) H') : rCatF K (.ref a) (.ref b) H Q := by
  refine ⟨a, b, xs, ys, rfl, rfl, .inl ha, .inl hb, Nat.le_of_lt (small1000 hz), fun e => ?_, fun _ e => ?_, fun _ _ => newF k⟩
  · have := h1 e
    subst e
    exact k b H (Same.refl H) this
  · have := h2 e
    subst e
    exact k a H (Same.refl H) (by rw [List.append_nil]; exact this)
theorem perm_map_inv {α β : Type} {f : α → β} {l ys : List β} (h : ys.Perm l) : ∀ {xs : List α}, l = xs.map f → ∃ zs : List α, zs.Perm xs ∧ ys = zs.map f := by
  induction h with
  | nil =>
    intro xs e
    cases xs with
    | nil => exact ⟨[], .nil, rfl⟩
    | cons _ _ => cases e
  | cons x _ ih =>
    intro xs e
    cases xs with
    | nil => cases e
    | cons a r =>
      obtain ⟨rfl, e2⟩ := List.cons.inj e
      obtain ⟨zs, h1, h2⟩ := ih e2
      exact ⟨a :: zs, h1.cons a, by rw [List.map_cons, h2]⟩
  | swap x y l =>
    intro xs e
    cases xs with
    | nil => cases e
    | cons a r =>
      obtain ⟨rfl, e2⟩ := List.cons.inj e
      cases r with
      | nil => cases e2
      | cons b t =>
        obtain ⟨rfl, rfl⟩ := List.cons.inj e2
        exact ⟨b :: a :: t, List.Perm.swap a b t, rfl⟩
  | trans _ _ ih1 ih2 =>
    intro xs e
    obtain ⟨zs, h1, h2⟩ := ih2 e
    obtain ⟨ws, h3, h4⟩ := ih1 h2
    exact ⟨ws, h3.trans h1, h4⟩
abbrev sLawRow : Stmt := topS 17
section
variable {P : Program} {w : World} {K : PySem.W.Frag} {mg : Str → Option Value} {base : Heap}
theorem scLawRow : FnScope ["pen", "hands"] ["pen", "hands"] (defScope sLawRow) := ⟨rfl, rfl, rfl, by decide +kernel, rfl, by decide +kernel, by decide +kernel⟩
def spLawRow : Sp := fun vs H Q _ => ∃ (p c a : Addr) (xs : List Str) (n : Nat), vs = [.ref p, .ref a] ∧ LTu H a (xs.map V.str) ∧ (∀ x ∈ xs, IsHand x) ∧ xs.length ≤ 60 ∧ PenAt H p c n ∧ n + 60 < 1000000 ∧
  ∀ (b : Addr) (ys : List Str) (H' : Hp), ys.Perm xs → Ftp H' b (ys.map V.str) → PenAt H' p c (n + xs.length) → Kp p H H' → Q (.ref b) H'
theorem ok_lawRow {f f1 : Addr} {fd fd1 : FuncData} (F : Fun K "_law_row" "_law_row" sLawRow f fd) (B : Blt2 mg) (D : Df P w K mg base CX0 "_law_shuffled" 2 f1 fd1 ["pen", "some"] (spShuf K)) : FnOk P w K mg base CX0 3 f fd ["pen", "hands"] spLawRow := by
  refine F.ok scLawRow (fun vs H Q E h => ?_) (fun cdv A outer s H vs Q E hr h => ?_)
  · obtain ⟨p, c, a, xs, n, rfl, _⟩ := h
    rfl
  · obtain ⟨p, c, a, xs, n, rfl, ha, hh, hl, hp, hn, k⟩ := h
    refine ⟨_, pss_one (ps_ret (pe_callTy call_tuple_ofF (by rfl) B.tuple (by decide +kernel) (pa_cons (pe_call D.ok hr rfl D.g D.kp D.b .nil pass0 (pa_cons (pv 0) (pa_cons (pe_callB cr_sortedTS (by rfl) B.sorted (by decide +kernel) (pa_cons (pv 1) pa_nil)) pa_nil))) pa_nil))), ?_⟩
    refine ⟨_, rfl, _, rfl, a, xs, rfl, ha.sq, by omega, fun ys s py sy hs => ?_⟩
    have hy : ∀ y ∈ ys, IsHand y := fun y z => hh y (py.mem_iff.mp z)
    refine ⟨p, c, s, ys.map V.str, ys.map PyData.str, n, rfl, .inl (SqL.of upd_same), dp_strs ys, fun d hd => ?_, ?_, hp.keep (same_new hs), ?_, fun q zs H2 pz hq eq hp2 kp2 => ?_⟩
    · obtain ⟨y, z, rfl⟩ := List.mem_map.mp hd
      exact shp_str (hy y z).ok
    · rw [List.length_map, py.length_eq]
      omega
    · rw [List.length_map, py.length_eq]
      omega
    obtain ⟨ws, pw, rfl⟩ := perm_map_inv pz rfl
    refine ⟨q, ws.map V.str, rfl, SqL.of eq, newF fun b H3 s3 f3 => ?_⟩
    rw [List.length_map, py.length_eq] at hp2
    exact k b ws H3 (pw.trans py) f3 (hp2.keep s3) ((Kp.new hs).trans (kp2.trans (Kp.same s3)))
end
end Ah
set_option Elab.async false
set_option linter.all false
set_option maxRecDepth 100000
set_option maxHeartbeats 4000000
namespace Ah
open PySem PySem.Spec PyProof.Rows L2
/-- over a tuple's numbered items, a dict -/
theorem dc_enumT {K : PySem.W.Frag} {a : Addr} {xs : List V} {g : TG} {tt : TT} {tk tv : TE} {vs : List Nat} {σ : L2.St} {H1 : Hp} {D : Addr} {Qd : Hp → Prop} (Pv : Nat → Hp → Prop) (h0 : Pv 0 (upd H1 D (.dK []))) (hl : ∀ i H, i ≤ xs.length → Pv i H → SqT K H a xs)
    (hs : ∀ i x H T, xs[i]? = some x → Pv i H → H T = none → g (.ref T) (wipe σ vs) (upd H T (.tup [.int (i : Nat), x])) fun σ2 H2 => wipe σ2 vs = wipe σ vs ∧ tt σ2 H2 fun b H3 =>
      if b = true then tk σ2 H3 fun y H4 => tv σ2 H4 fun z H5 => ∃ kvs k, y = kV k ∧ H5 D = some (.dK kvs) ∧ kvs.length < sizeLine ∧ Pv (i + 1) (upd H5 D (.dK (putK kvs k z))) else Pv (i + 1) H3) (hd : ∀ H, Pv xs.length H → Qd H) :
    ∃ W : Nat → Nat → Hp → Prop, (∃ m, W 0 m (upd H1 D (.dK []))) ∧ ∀ i m H, W i m H →
      ((IteT K a).stop i H ∧ Qd H) ∨ ((IteT K a).go i H ∧ ∃ Nx : Hp → Prop, (∀ H', Nx H' → ∃ m', m' < m ∧ W (i + 1) m' H') ∧ ∀ x H', (IteT K a).yld i H x H' → g x (wipe σ vs) H' fun σ2 H2 => wipe σ2 vs = wipe σ vs ∧ tt σ2 H2 fun b H3 =>
        if b = true then tk σ2 H3 fun y H4 => tv σ2 H4 fun z H5 => ∃ kvs k, y = kV k ∧ H5 D = some (.dK kvs) ∧ kvs.length < sizeLine ∧ Nx (upd H5 D (.dK (putK kvs k z))) else Nx H3) := by
  refine ⟨fun i m H => m = xs.length - i ∧ i ≤ xs.length ∧ Pv i H, ⟨xs.length, by simp, Nat.zero_le _, h0⟩, ?_⟩
  rintro i m H ⟨rfl, hi, p⟩
  have q := hl i H hi p
  by_cases hlt : i < xs.length
  · refine .inr ⟨⟨xs, xs[i], q, by simp [hlt]⟩, Pv (i + 1), fun H' p' => ⟨xs.length - (i + 1), by omega, rfl, hlt, p'⟩, fun x H' y => ?_⟩
    obtain ⟨T, u, rfl, hT, rfl, y⟩ := y
    exact hs i u _ T (y xs q) p hT
  · have e : i = xs.length := by omega
    subst e
    exact .inl ⟨⟨xs, q, Nat.le_refl _⟩, hd H p⟩
/-- where each of them stands -/
def SpotsN (H : Hp) (D : Addr) (xs : List Str) (n : Nat) : Prop := ∃ kvs, H D = some (.dK kvs) ∧ kvs.length ≤ n ∧ ∀ j x, j < n → xs[j]? = some x → valV kvs (Sum.inr x : Key) = some (.int (j : Nat))
theorem SpotsN.same {H H' : Hp} {D : Addr} {xs : List Str} {n : Nat} (k : Same H H') (h : SpotsN H D xs n) : SpotsN H' D xs n := by
  obtain ⟨kvs, h1, h2⟩ := h
  exact ⟨kvs, k _ _ h1, h2⟩
theorem SpotsN.put {H : Hp} {D : Addr} {xs : List Str} {n : Nat} {x : Str} (nd : xs.Nodup) (hx : xs[n]? = some x) (h : SpotsN H D xs n) (hn : n ≤ 1000) :
    ∃ kvs, H D = some (.dK kvs) ∧ kvs.length < sizeLine ∧ SpotsN (upd H D (.dK (putK kvs (Sum.inr x : Key) (.int (n : Nat))))) D xs (n + 1) := by
  obtain ⟨kvs, h1, h2, h3⟩ := h
  refine ⟨kvs, h1, small1000 (by omega), _, upd_same, ?_, fun j y hj hy => ?_⟩
  · exact Nat.le_trans (DSub.putK_len _ _ _) (by omega)
  · rw [valV_put]
    by_cases e : j = n
    · subst e
      rw [hx] at hy
      obtain rfl := Option.some.inj hy
      rw [if_pos rfl]
    · have hl := (List.getElem?_eq_some_iff.mp hy)
      have hl2 := (List.getElem?_eq_some_iff.mp hx)
      rw [if_neg (fun z => e ?_)]
      · exact h3 j y (by omega) hy
      · obtain ⟨a1, a2⟩ := hl
        obtain ⟨b1, b2⟩ := hl2
        have z' : y = x := Sum.inr.inj z
        exact nd_inj nd a1 b1 (by rw [a2, b2, z'])
theorem none_of {H H' : Hp} {a : Addr} (k : Same H H') (h : H' a = none) : H a = none := by
  cases e : H a with
  | none => rfl
  | some o => rw [k a o e] at h; cases h
theorem getD_at {xs : List Str} {i : Nat} (h : i < xs.length) : xs[i]? = some (xs.getD i default) := by
  rw [List.getD_eq_getElem?_getD, List.getElem?_eq_getElem h]
  rfl
theorem idx_at {ys : List Str} {x : Str} (h : x ∈ ys) : ys[ys.idxOf x]? = some x := by
  have hl := List.idxOf_lt_length_of_mem h
  rw [List.getElem?_eq_getElem hl, List.getElem_idxOf hl]
theorem SpotsN.start {H : Hp} {D : Addr} {xs : List Str} : SpotsN (upd H D (.dK [])) D xs 0 := ⟨[], upd_same, Nat.le_refl _, fun j _ h => absurd h (Nat.not_lt_zero _)⟩
theorem spots_get {H : Hp} {D : Addr} {xs : List Str} {j : Nat} {x : Str} (h : SpotsN H D xs xs.length) (hx : xs[j]? = some x) : DGet H D (.str x) (some (.int (j : Nat))) := by
  obtain ⟨kvs, h1, _, h3⟩ := h
  have q := DGet.k (k := (Sum.inr x : Key)) h1
  rw [h3 j x (List.getElem?_eq_some_iff.mp hx).1 hx] at q
  exact q
section
variable {P : Program} {w : World} {K : PySem.W.Frag} {mg : Str → Option Value} {base : Heap}
end
end Ah
set_option Elab.async false
set_option linter.all false
set_option maxRecDepth 100000
set_option maxHeartbeats 4000000
namespace Ah
open PySem PySem.Spec PyProof.Rows L2
open PySem.W (AllAlike Sortable)
/-- one walk over a tuple's numbered items -/
theorem out_enumT {K : PySem.W.Frag} {a : Addr} {xs : List V} {H0 : Hp} {Qd : Hp → Prop} {body : V → Hp → (Hp → Prop) → Prop} (Pv : Nat → Hp → Prop) (h0 : Pv 0 H0) (hl : ∀ i H, i ≤ xs.length → Pv i H → SqT K H a xs)
    (hs : ∀ i x H T, xs[i]? = some x → Pv i H → H T = none → body (.ref T) (upd H T (.tup [.int (i : Nat), x])) (Pv (i + 1))) (hd : ∀ H, Pv xs.length H → Qd H) :
    ∃ W : Nat → Nat → Hp → Prop, (∃ m, W 0 m H0) ∧ ∀ i m H, W i m H →
      ((IteT K a).stop i H ∧ Qd H) ∨ ((IteT K a).go i H ∧ ∃ Nx : Hp → Prop, (∀ H', Nx H' → ∃ m', m' < m ∧ W (i + 1) m' H') ∧ ∀ x H', (IteT K a).yld i H x H' → body x H' Nx) := by
  refine ⟨fun i m H => m = xs.length - i ∧ i ≤ xs.length ∧ Pv i H, ⟨xs.length, by simp, Nat.zero_le _, h0⟩, ?_⟩
  rintro i m H ⟨rfl, hi, p⟩
  have q := hl i H hi p
  by_cases hlt : i < xs.length
  · refine .inr ⟨⟨xs, xs[i], q, by simp [hlt]⟩, Pv (i + 1), fun H' p' => ⟨xs.length - (i + 1), by omega, rfl, hlt, p'⟩, fun x H' y => ?_⟩
    obtain ⟨T, u, rfl, hT, rfl, y⟩ := y
    exact hs i u _ T (y xs q) p hT
  · have e : i = xs.length := by omega
    subst e
    exact .inl ⟨⟨xs, q, Nat.le_refl _⟩, hd H p⟩
/-- one walk over a tuple -/
theorem out_tup {K : PySem.W.Frag} {a : Addr} {xs : List V} {H0 : Hp} {Qd : Hp → Prop} {body : V → Hp → (Hp → Prop) → Prop} (Pv : Nat → Hp → Prop) (h0 : Pv 0 H0) (hl : ∀ i H, i ≤ xs.length → Pv i H → SqT K H a xs)
    (hs : ∀ i x H, xs[i]? = some x → Pv i H → body x H (Pv (i + 1))) (hd : ∀ H, Pv xs.length H → Qd H) :
    ∃ W : Nat → Nat → Hp → Prop, (∃ m, W 0 m H0) ∧ ∀ i m H, W i m H →
      ((Itt K a).stop i H ∧ Qd H) ∨ ((Itt K a).go i H ∧ ∃ Nx : Hp → Prop, (∀ H', Nx H' → ∃ m', m' < m ∧ W (i + 1) m' H') ∧ ∀ x H', (Itt K a).yld i H x H' → body x H' Nx) := by
  refine ⟨fun i m H => m = xs.length - i ∧ i ≤ xs.length ∧ Pv i H, ⟨xs.length, by simp, Nat.zero_le _, h0⟩, ?_⟩
  rintro i m H ⟨rfl, hi, p⟩
  have q := hl i H hi p
  by_cases hlt : i < xs.length
  · refine .inr ⟨⟨xs, xs[i], q, by simp [hlt]⟩, Pv (i + 1), fun H' p' => ⟨xs.length - (i + 1), by omega, rfl, hlt, p'⟩, fun x H' y => ?_⟩
    obtain ⟨rfl, y⟩ := y
    exact hs i x _ (y xs q) p
  · have e : i = xs.length := by omega
    subst e
    exact .inl ⟨⟨xs, q, Nat.le_refl _⟩, hd H p⟩
/-- how many pairs stand the other way round by rk -/
def cntLt (rk : Str → Nat) (a : Str) (l : List Str) : Nat := (l.filter fun b => decide (rk b < rk a)).length
def invsN (rk : Str → Nat) (xs : List Str) (n : Nat) : Nat := ((List.range n).map fun k => cntLt rk (xs.getD k default) (xs.drop (k + 1))).sum
def invs (rk : Str → Nat) (xs : List Str) : Nat := invsN rk xs xs.length
theorem invsN_succ (rk : Str → Nat) (xs : List Str) (n : Nat) : invsN rk xs (n + 1) = invsN rk xs n + cntLt rk (xs.getD n default) (xs.drop (n + 1)) := by
  unfold invsN
  rw [List.range_succ, List.map_append, List.sum_append]
  simp
theorem cntLt_le (rk : Str → Nat) (a : Str) (l : List Str) : cntLt rk a l ≤ l.length := List.length_filter_le _ _
theorem invsN_le (rk : Str → Nat) (xs : List Str) : ∀ n, invsN rk xs n ≤ n * xs.length
  | 0 => by simp [invsN]
  | n + 1 => by
    rw [invsN_succ, Nat.succ_mul]
    have := invsN_le rk xs n
    have h2 := cntLt_le rk (xs.getD n default) (xs.drop (n + 1))
    rw [List.length_drop] at h2
    omega
def prD (p : Str × Str) : PyData := .tuple [.str p.1, .str p.2]
theorem dpAll_snoc {K : PySem.W.Frag} {H : Hp} : ∀ {vs : List V} {ds : List PyData} {v : V} {d : PyData}, DpAll K H vs ds → Dp K H v d → DpAll K H (vs ++ [v]) (ds ++ [d])
  | _, _, _, _, .nil, h => .cons h .nil
  | _, _, _, _, .cons h t, h' => .cons h (dpAll_snoc t h')
theorem prs_alike (ps : List (Str × Str)) : AllAlike (ps.map prD) := AllAlike.of fun b b' => by
  unfold prD
  simp [PySem.W.alike, PySem.W.alikeAll]
theorem prs_sortable (ps : List (Str × Str)) : Sortable (ps.map prD) := Sortable.tuples fun b => ⟨_, _, rfl⟩
theorem prs_depth (ps : List (Str × Str)) : ∀ d ∈ ps.map prD, d.depth ≤ 60 := by
  intro d hd
  obtain ⟨p, _, rfl⟩ := List.mem_map.mp hd
  unfold prD
  simp [PyData.depth, PyData.depthAll]
def PrAt (H : Hp) (v : V) : Prop := ∃ (T : Addr) (p : Str × Str), v = .ref T ∧ H T = some (.tup [.str p.1, .str p.2])
def PrsAt (H : Hp) (D : Addr) (m : Nat) : Prop := ∃ acc : List V, H D = some (.lst acc) ∧ (∀ v ∈ acc, PrAt H v) ∧ acc.length = m
theorem rd_ne {H : Hp} {b D : Addr} {acc xs : List V} (hD : H D = some (.lst acc)) (h : Rd H b (.tup xs)) : b ≠ D := fun z => by
  subst z
  rcases h with h | ⟨o, h⟩
  · rw [hD] at h; cases h
  · rw [hD] at h; cases h
theorem PrAt.same {H H' : Hp} {v : V} (k : Same H H') (h : PrAt H v) : PrAt H' v := by
  obtain ⟨T, p, e, h⟩ := h
  exact ⟨T, p, e, k _ _ h⟩
theorem PrAt.mut {H : Hp} {v : V} {D : Addr} {acc acc' : List V} (hD : H D = some (.lst acc)) (h : PrAt H v) : PrAt (upd H D (.lst acc')) v := by
  obtain ⟨T, p, e, h⟩ := h
  refine ⟨T, p, e, ?_⟩
  rw [upd_ne (fun z => by rw [z, hD] at h; cases h)]
  exact h
theorem PrsAt.same {H H' : Hp} {D : Addr} {m : Nat} (k : Same H H') (h : PrsAt H D m) : PrsAt H' D m := by
  obtain ⟨acc, h1, h2, h3⟩ := h
  exact ⟨acc, k _ _ h1, fun v hv => (h2 v hv).same k, h3⟩
theorem PrsAt.snoc {H : Hp} {D T : Addr} {m : Nat} {a b : Str} (hT : H T = none) (hm : m ≤ 1000) (h : PrsAt H D m) : ∃ acc, upd H T (.tup [.str a, .str b]) D = some (.lst acc) ∧ acc.length < sizeLine ∧ PrsAt (upd (upd H T (.tup [.str a, .str b])) D (.lst (acc ++ [.ref T]))) D (m + 1) := by
  obtain ⟨acc, h1, h2, h3⟩ := h.same (same_new (o := .tup [.str a, .str b]) hT)
  refine ⟨acc, h1, small1000 (by omega), acc ++ [.ref T], upd_same, fun v hv => ?_, by rw [List.length_append, h3]; rfl⟩
  rcases List.mem_append.mp hv with z | z
  · exact (h2 v z).mut h1
  · rw [List.mem_singleton.mp z]
    exact PrAt.mut h1 ⟨T, (a, b), rfl, upd_same⟩
theorem prs_data {K : PySem.W.Frag} {H : Hp} : ∀ {acc : List V}, (∀ v ∈ acc, PrAt H v) → ∃ ps : List (Str × Str), DpAll K H acc (ps.map prD)
  | [], _ => ⟨[], .nil⟩
  | v :: acc, h => by
    obtain ⟨ps, hp⟩ := prs_data (K := K) fun u hu => h u (List.mem_cons_of_mem _ hu)
    obtain ⟨T, p, rfl, hT⟩ := h v List.mem_cons_self
    exact ⟨p :: ps, .cons (.tup (.inl (.inl hT)) (.cons (.str _) (.cons (.str _) .nil))) hp⟩
theorem prs_sorted {K : PySem.W.Frag} {H : Hp} {D : Addr} {m : Nat} {Q : VK} (h : PrsAt H D m) (k : ∀ b zs, H b = none → zs.length = m → Q (.ref b) (upd H b (.lst zs))) : rSortedD K [.ref D] H Q := by
  obtain ⟨acc, h1, h2, h3⟩ := h
  obtain ⟨ps, hp⟩ := prs_data (K := K) h2
  exact ⟨D, acc, ps.map prD, rfl, SqL.of h1, hp, prs_alike ps, prs_sortable ps, prs_depth ps, fun ys b hy _ hb => k b ys hb (by rw [hy.length_eq, h3])⟩
section
variable {P : Program} {w : World} {K : PySem.W.Frag} {mg : Str → Option Value} {base : Heap}
end
end Ah
set_option Elab.async false
set_option linter.all false
namespace Ah
/-! ### pairs: what follows of them -/
/-- a row of pairs leads from the one to the other -/
inductive Lead {α : Type} (ps : List (α × α)) : α → α → Prop
  | one {a b : α} : (a, b) ∈ ps → Lead ps a b
  | step {a b c : α} : Lead ps a b → (b, c) ∈ ps → Lead ps a c
section
variable {α : Type}
theorem Lead.trans {ps : List (α × α)} {a b c : α} (h : Lead ps a b) (k : Lead ps b c) : Lead ps a c := by
  induction k with
  | one m => exact .step h m
  | step _ m ih => exact .step ih m
theorem Lead.sub {ps qs : List (α × α)} {a b : α} (s : ∀ x y, (x, y) ∈ ps → Lead qs x y) (h : Lead ps a b) : Lead qs a b := by
  induction h with
  | one m => exact s _ _ m
  | step _ m ih => exact ih.trans (s _ _ m)
theorem Lead.left {ps : List (α × α)} {hs : List α} (s : ∀ x y, (x, y) ∈ ps → x ∈ hs ∧ y ∈ hs) {a b : α} (h : Lead ps a b) : a ∈ hs ∧ b ∈ hs := by
  induction h with
  | one m => exact s _ _ m
  | step _ m ih => exact ⟨ih.1, (s _ _ m).2⟩
/-- what is led to, if it is closed, is what stands there -/
theorem Lead.closed {ps : List (α × α)} (t : ∀ x y z, (x, y) ∈ ps → (y, z) ∈ ps → (x, z) ∈ ps) {a b : α} : Lead ps a b ↔ (a, b) ∈ ps := by
  refine ⟨fun h => ?_, .one⟩
  induction h with
  | one m => exact m
  | step _ m ih => exact t _ _ _ ih m
theorem Lead.same {ps qs : List (α × α)} (e : ∀ x y, (x, y) ∈ qs ↔ Lead ps x y) {a b : α} : Lead qs a b ↔ Lead ps a b := by
  rw [Lead.closed fun x y z h k => (e _ _).mpr (((e _ _).mp h).trans ((e _ _).mp k))]
  exact e a b
theorem Lead.congr {ps qs : List (α × α)} (e : ∀ p, p ∈ ps ↔ p ∈ qs) {a b : α} : Lead ps a b ↔ Lead qs a b :=
  ⟨Lead.sub fun _ _ h => .one ((e _).mp h), Lead.sub fun _ _ h => .one ((e _).mpr h)⟩
/-! one hand behind the other: all ways by it -/
def via (R : α → α → Prop) (b a c : α) : Prop := R a c ∨ (R a b ∧ R b c)
def vias (R : α → α → Prop) : List α → α → α → Prop
  | [] => R
  | b :: bs => vias (via R b) bs
theorem vias_snoc (R : α → α → Prop) : ∀ (bs : List α) (b : α), vias R (bs ++ [b]) = via (vias R bs) b := by
  intro bs
  induction bs generalizing R with
  | nil => intro b; rfl
  | cons c bs ih => intro b; exact ih (via R c) b
theorem vias_grows {R : α → α → Prop} : ∀ (bs : List α) {a c : α}, R a c → vias R bs a c := by
  intro bs
  induction bs generalizing R with
  | nil => exact fun h => h
  | cons b bs ih => exact fun h => ih (.inl h)
theorem via_thru {R : α → α → Prop} {b d : α} (t : ∀ a c, R a d → R d c → R a c) : ∀ a c, via R b a d → via R b d c → via R b a c := by
  intro a c h k
  rcases h with h | ⟨h1, h2⟩ <;> rcases k with k | ⟨k1, k2⟩
  · exact .inl (t a c h k)
  · exact .inr ⟨t a b h k1, k2⟩
  · exact .inr ⟨h1, t b c h2 k⟩
  · exact .inr ⟨h1, k2⟩
theorem via_self {R : α → α → Prop} {b : α} : ∀ a c, via R b a b → via R b b c → via R b a c := by
  intro a c h k
  have h' : R a b := by
    rcases h with h | h
    · exact h
    · exact h.1
  have k' : R b c := by
    rcases k with k | k
    · exact k
    · exact k.2
  exact .inr ⟨h', k'⟩
theorem vias_thru {R : α → α → Prop} : ∀ (bs : List α) (d : α), (d ∈ bs ∨ ∀ a c, R a d → R d c → R a c) → ∀ a c, vias R bs a d → vias R bs d c → vias R bs a c := by
  intro bs
  induction bs generalizing R with
  | nil =>
    intro d h
    rcases h with h | h
    · cases h
    · exact h
  | cons b bs ih =>
    intro d h
    rcases h with h | h
    · rcases List.mem_cons.mp h with h | h
      · subst h
        exact ih d (.inr via_self)
      · exact ih d (.inl h)
    · exact ih d (.inr (via_thru h))
theorem vias_lead {ps : List (α × α)} {R : α → α → Prop} : ∀ (bs : List α), (∀ a c, R a c → Lead ps a c) → ∀ {a c : α}, vias R bs a c → Lead ps a c := by
  intro bs
  induction bs generalizing R with
  | nil => exact fun h a c => h a c
  | cons b bs ih =>
    refine fun h => ih fun a c k => ?_
    rcases k with k | ⟨k1, k2⟩
    · exact h _ _ k
    · exact (h _ _ k1).trans (h _ _ k2)
/-- gone through all hands: just what follows -/
theorem vias_all {ps : List (α × α)} {hs : List α} (s : ∀ x y, (x, y) ∈ ps → x ∈ hs ∧ y ∈ hs) {a c : α} : vias (fun x y => (x, y) ∈ ps) hs a c ↔ Lead ps a c := by
  refine ⟨vias_lead hs fun _ _ h => .one h, fun h => ?_⟩
  induction h with
  | one m => exact vias_grows hs m
  | step _ m ih => exact vias_thru hs _ (.inl (s _ _ m).1) _ _ ih (vias_grows hs m)
end
section
variable {α : Type} [BEq α] [LawfulBEq α]
/-- pairs that a row keeps -/
def KeepR (row : List α) (ps : List (α × α)) : Prop := ∀ x y, (x, y) ∈ ps → x ∈ row ∧ y ∈ row ∧ row.idxOf x < row.idxOf y
theorem KeepR.lead {row : List α} {ps : List (α × α)} (k : KeepR row ps) {a b : α} (h : Lead ps a b) : a ∈ row ∧ b ∈ row ∧ row.idxOf a < row.idxOf b := by
  induction h with
  | one m => exact k _ _ m
  | step _ m ih =>
    obtain ⟨h1, h2, h3⟩ := k _ _ m
    exact ⟨ih.1, h2, Nat.lt_trans ih.2.2 h3⟩
theorem KeepR.irr {row : List α} {ps : List (α × α)} (k : KeepR row ps) {a : α} : ¬ Lead ps a a := fun h => Nat.lt_irrefl _ (k.lead h).2.2
theorem KeepR.of_lead {row : List α} {ps qs : List (α × α)} (k : KeepR row ps) (e : ∀ x y, (x, y) ∈ qs → Lead ps x y) : KeepR row qs := fun x y h => k.lead (e x y h)
/-! hands taken off: those with none of the rest ahead of them -/
def aheadOf (ps : List (α × α)) (left : List α) (b : α) : List α := left.filter fun a => ps.contains (a, b)
def peel (ps : List (α × α)) (left : List α) : List α := left.filter fun b => !(aheadOf ps left b).isEmpty
theorem least_of (f : α → Nat) : ∀ (l : List α), l ≠ [] → ∃ m ∈ l, ∀ x ∈ l, f m ≤ f x
  | [], h => absurd rfl h
  | [a], _ => ⟨a, List.mem_singleton.mpr rfl, fun x hx => by rw [List.mem_singleton.mp hx]; exact Nat.le_refl _⟩
  | a :: b :: l, _ => by
    obtain ⟨m, hm, h⟩ := least_of f (b :: l) (by simp)
    by_cases q : f a ≤ f m
    · refine ⟨a, List.mem_cons_self .., fun x hx => ?_⟩
      rcases List.mem_cons.mp hx with e | hx
      · rw [e]; exact Nat.le_refl _
      · exact Nat.le_trans q (h x hx)
    · refine ⟨m, List.mem_cons_of_mem _ hm, fun x hx => ?_⟩
      rcases List.mem_cons.mp hx with e | hx
      · rw [e]; exact Nat.le_of_lt (Nat.lt_of_not_le q)
      · exact h x hx
theorem peel_lt {row : List α} {ps : List (α × α)} (k : KeepR row ps) {left : List α} (h : left ≠ []) : (peel ps left).length < left.length := by
  obtain ⟨m, hm, hle⟩ := least_of (fun x => row.idxOf x) left h
  unfold peel
  rw [List.length_filter_lt_length_iff_exists]
  refine ⟨m, hm, ?_⟩
  have e : aheadOf ps left m = [] := by
    unfold aheadOf
    rw [List.filter_eq_nil_iff]
    intro a ha c
    have c' : (a, m) ∈ ps := List.contains_iff_mem.mp c
    exact Nat.not_lt.mpr (hle a ha) (k _ _ c').2.2
  rw [e]
  exact fun z => by cases z
theorem peels_le {row : List α} {ps : List (α × α)} (k : KeepR row ps) (left : List α) : ∀ n, (Nat.repeat (peel ps) n left).length ≤ left.length - n
  | 0 => Nat.le_refl _
  | n + 1 => by
    have ih := peels_le k left n
    show (peel ps (Nat.repeat (peel ps) n left)).length ≤ _
    by_cases q : Nat.repeat (peel ps) n left = []
    · rw [q]; exact Nat.zero_le _
    · have := peel_lt k q
      omega
theorem peels_nil {row : List α} {ps : List (α × α)} (k : KeepR row ps) (left : List α) : Nat.repeat (peel ps) left.length left = [] := by
  have := peels_le k left left.length
  exact List.eq_nil_of_length_eq_zero (by omega)
/-! going: what is led to from a hand -/
structure Goes (ps : List (α × α)) (first : α) (found : List α) (n : Nat) : Prop where
  nd : found.Nodup
  hd : first ∈ found
  snd : ∀ x ∈ found, x = first ∨ Lead ps first x
  cl : ∀ i f, i < n → found[i]? = some f → ∀ x, (f, x) ∈ ps → x ∈ found
  le : n ≤ found.length
theorem Goes.init (ps : List (α × α)) (first : α) : Goes ps first [first] 0 :=
  ⟨List.nodup_cons.mpr ⟨List.not_mem_nil, List.nodup_nil⟩, List.mem_singleton.mpr rfl, fun x hx => .inl (List.mem_singleton.mp hx), fun i f h => absurd h (Nat.not_lt_zero _), Nat.zero_le _⟩
theorem Goes.step {ps : List (α × α)} {first f : α} {found new : List α} {n : Nat} (g : Goes ps first found n) (hf : found[n]? = some f) (nd : new.Nodup) (h : ∀ x, x ∈ new ↔ (f, x) ∈ ps ∧ x ∉ found) : Goes ps first (found ++ new) (n + 1) := by
  have hn : n < found.length := by
    rw [List.getElem?_eq_some_iff] at hf
    exact hf.1
  have hfm : f ∈ found := List.mem_of_getElem? hf
  have lf : ∀ x, (f, x) ∈ ps → Lead ps first x := fun x m => by
    rcases g.snd f hfm with e | l
    · rw [← e]; exact .one m
    · exact l.step m
  refine ⟨?_, List.mem_append_left _ g.hd, fun x hx => ?_, fun i f' hi hf' x hx => ?_, ?_⟩
  · rw [List.nodup_append]
    exact ⟨g.nd, nd, fun a ha b hb e => ((h b).mp hb).2 (e ▸ ha)⟩
  · rcases List.mem_append.mp hx with hx | hx
    · exact g.snd x hx
    · exact .inr (lf x ((h x).mp hx).1)
  · rw [List.getElem?_append_left (by omega)] at hf'
    rcases Nat.lt_succ_iff_lt_or_eq.mp hi with q | q
    · exact List.mem_append_left _ (g.cl i f' q hf' x hx)
    · subst q
      rw [hf] at hf'
      obtain rfl := Option.some.inj hf'
      by_cases z : x ∈ found
      · exact List.mem_append_left _ z
      · exact List.mem_append_right _ ((h x).mpr ⟨hx, z⟩)
  · rw [List.length_append]; omega
theorem Goes.done {ps : List (α × α)} {first : α} {found : List α} {n : Nat} (g : Goes ps first found n) (h : found.length ≤ n) {last : α} : last ∈ found ↔ last = first ∨ Lead ps first last := by
  refine ⟨g.snd last, fun k => ?_⟩
  have step : ∀ f, f ∈ found → ∀ x, (f, x) ∈ ps → x ∈ found := fun f hf x hx => by
    obtain ⟨i, hi⟩ := List.mem_iff_getElem?.mp hf
    have : i < found.length := by
      rw [List.getElem?_eq_some_iff] at hi
      exact hi.1
    exact g.cl i f (by omega) hi x hx
  rcases k with e | l
  · rw [e]; exact g.hd
  · induction l with
    | one m => exact step _ g.hd _ m
    | step _ m ih => exact step _ ih _ m
theorem nodup_sub_le : ∀ {l m : List α}, l.Nodup → (∀ x ∈ l, x ∈ m) → l.length ≤ m.length
  | [], _, _, _ => Nat.zero_le _
  | a :: l, m, nd, h => by
    have ha : a ∈ m := h a (List.mem_cons_self ..)
    have nd' := List.nodup_cons.mp nd
    have ih := nodup_sub_le (l := l) (m := m.erase a) nd'.2 fun x hx => by
      have ne : x ≠ a := fun e => nd'.1 (e ▸ hx)
      exact (List.mem_erase_of_ne ne).mpr (h x (List.mem_cons_of_mem _ hx))
    rw [List.length_erase_of_mem ha] at ih
    have : 0 < m.length := List.length_pos_of_mem ha
    rw [List.length_cons]
    omega
theorem Goes.len {ps : List (α × α)} {first : α} {found hs : List α} {n : Nat} (g : Goes ps first found n) (s : ∀ x y, (x, y) ∈ ps → x ∈ hs ∧ y ∈ hs) (hf : first ∈ hs) : found.length ≤ hs.length :=
  nodup_sub_le g.nd fun x hx => by
    rcases g.snd x hx with e | l
    · rw [e]; exact hf
    · exact (l.left s).2
end
end Ah
set_option Elab.async false
set_option linter.all false
set_option maxRecDepth 100000
namespace Ah
open PySem PySem.Spec PyProof.Rows L2
open PySem.W (dataLt dataLe dataLt_pair dataLt_str alike)
/-! ### the order of pairs of texts -/
def sLt (x y : Str) : Prop := x.cps.toList < y.cps.toList
def pLt (p q : Str × Str) : Prop := sLt p.1 q.1 ∨ (p.1 = q.1 ∧ sLt p.2 q.2)
instance (x y : Str) : Decidable (sLt x y) := by unfold sLt; infer_instance
instance (p q : Str × Str) : Decidable (pLt p q) := by unfold pLt; infer_instance
theorem str_of_cps {x y : Str} (h : x.cps.toList = y.cps.toList) : x = y := by
  cases x
  cases y
  exact congrArg Str.mk (Array.toList_inj.mp h)
theorem sLt_irr (x : Str) : ¬ sLt x x := List.lt_irrefl _
theorem sLt_trans {x y z : Str} (h : sLt x y) (k : sLt y z) : sLt x z := List.lt_trans h k
theorem sLt_tri {x y : Str} (h : ¬ sLt x y) (k : ¬ sLt y x) : x = y := str_of_cps (List.le_antisymm (List.not_lt.mp k) (List.not_lt.mp h))
theorem pLt_irr (p : Str × Str) : ¬ pLt p p := fun h => by
  rcases h with h | h
  · exact sLt_irr _ h
  · exact sLt_irr _ h.2
theorem pLt_trans {p q r : Str × Str} (h : pLt p q) (k : pLt q r) : pLt p r := by
  rcases h with h | ⟨h1, h2⟩ <;> rcases k with k | ⟨k1, k2⟩
  · exact .inl (sLt_trans h k)
  · exact .inl (k1 ▸ h)
  · exact .inl (h1 ▸ k)
  · exact .inr ⟨h1.trans k1, sLt_trans h2 k2⟩
theorem pLt_tri {p q : Str × Str} (h : ¬ pLt p q) (k : ¬ pLt q p) : p = q := by
  have e1 : p.1 = q.1 := sLt_tri (fun z => h (.inl z)) (fun z => k (.inl z))
  have e2 : p.2 = q.2 := sLt_tri (fun z => h (.inr ⟨e1, z⟩)) (fun z => k (.inr ⟨e1.symm, z⟩))
  exact Prod.ext e1 e2
theorem eqv_str (x y : Str) : PyData.eqv (.str x) (.str y) = decide (x = y) := by
  have : PyData.eqv (.str x) (.str y) = (x == y) := by simp only [PyData.eqv]
  rw [this]
  by_cases e : x = y
  · rw [decide_eq_true e, e]; simp
  · rw [decide_eq_false e]; simp [e]
theorem dataLt_pr (p q : Str × Str) : dataLt (prD p) (prD q) = decide (pLt p q) := by
  unfold prD
  rw [dataLt_pair (by simp [alike]) (by simp [alike]), dataLt_str, dataLt_str, eqv_str, eqv_str]
  by_cases e : p.1 = q.1
  · rw [if_pos (decide_eq_true e)]
    by_cases e2 : p.2 = q.2
    · rw [if_pos (decide_eq_true e2)]
      symm
      rw [decide_eq_false_iff_not, show p = q from Prod.ext e e2]
      exact pLt_irr q
    · rw [if_neg (by rw [decide_eq_false e2]; exact Bool.false_ne_true)]
      by_cases z : sLt p.2 q.2
      · rw [decide_eq_true (show p.2.cps.toList < q.2.cps.toList from z), decide_eq_true (show pLt p q from .inr ⟨e, z⟩)]
      · rw [decide_eq_false (show ¬ p.2.cps.toList < q.2.cps.toList from z), decide_eq_false (show ¬ pLt p q from fun y => by
          rcases y with y | y
          · rw [e] at y; exact sLt_irr _ y
          · exact z y.2)]
  · rw [if_neg (by rw [decide_eq_false e]; exact Bool.false_ne_true)]
    by_cases z : sLt p.1 q.1
    · rw [decide_eq_true (show p.1.cps.toList < q.1.cps.toList from z), decide_eq_true (show pLt p q from .inl z)]
    · rw [decide_eq_false (show ¬ p.1.cps.toList < q.1.cps.toList from z), decide_eq_false (show ¬ pLt p q from fun y => by
        rcases y with y | y
        · exact z y
        · exact e y.1)]
theorem pLt_nodup {ds : List (Str × Str)} (h : ds.Pairwise pLt) : ds.Nodup := by
  unfold List.Nodup
  refine h.imp ?_
  intro a b h e
  subst e
  exact pLt_irr a h
/-- sorted: just the rising row of the same pairs -/
theorem sort_due {us ds : List (Str × Str)} (nd : us.Nodup) (e : ∀ p, p ∈ us ↔ p ∈ ds) (hp : ds.Pairwise pLt) : sortD (us.map prD) = ds.map prD := by
  unfold sortD
  have s1 := PySem.W.sort_maps (r := fun p q : Str × Str => !decide (pLt q p)) (s := dataLe false fun d : PyData => d) prD (l := us) (fun a _ b _ => by
    show (!decide (pLt b a)) = !dataLt (prD b) (prD a)
    rw [dataLt_pr])
  rw [← s1]
  congr 1
  have ndd : ds.Nodup := pLt_nodup hp
  refine List.Perm.eq_of_pairwise (le := fun p q => (!decide (pLt q p)) = true) (fun a b _ _ h k => ?_) ?_ ?_ ((List.mergeSort_perm _ _).trans ((List.perm_ext_iff_of_nodup nd ndd).mpr e))
  · have h' : ¬ pLt b a := by simpa using h
    have k' : ¬ pLt a b := by simpa using k
    exact pLt_tri k' h'
  · refine List.pairwise_mergeSort (fun a b c h k => ?_) (fun a b => ?_) us
    · have h' : ¬ pLt b a := by simpa using h
      have k' : ¬ pLt c b := by simpa using k
      have : ¬ pLt c a := fun z => by
        by_cases y : pLt a b
        · exact k' (pLt_trans z y)
        · have := pLt_tri h' y
          subst this
          exact k' z
      simpa using this
    · by_cases y : pLt b a
      · have : ¬ pLt a b := fun z => pLt_irr _ (pLt_trans y z)
        simp [this]
      · simp [y]
  · exact hp.imp fun {a b} h => by
      have : ¬ pLt b a := fun z => pLt_irr _ (pLt_trans h z)
      simp [this]
/-! the rising row of all pairs that stand so -/
def dueOf (R : Str → Str → Bool) (hs : List Str) : List (Str × Str) := hs.flatMap fun a => (hs.filter (R a)).map fun b => (a, b)
theorem dueOf_mem {R : Str → Str → Bool} {hs : List Str} {p : Str × Str} : p ∈ dueOf R hs ↔ p.1 ∈ hs ∧ p.2 ∈ hs ∧ R p.1 p.2 = true := by
  unfold dueOf
  rw [List.mem_flatMap]
  constructor
  · rintro ⟨a, ha, hp⟩
    obtain ⟨b, hb, rfl⟩ := List.mem_map.mp hp
    obtain ⟨h1, h2⟩ := List.mem_filter.mp hb
    exact ⟨ha, h1, h2⟩
  · rintro ⟨h1, h2, h3⟩
    exact ⟨p.1, h1, List.mem_map.mpr ⟨p.2, List.mem_filter.mpr ⟨h2, h3⟩, rfl⟩⟩
theorem dueOf_rises {R : Str → Str → Bool} {hs : List Str} (h : hs.Pairwise sLt) : (dueOf R hs).Pairwise pLt := by
  unfold dueOf
  rw [List.pairwise_flatMap]
  refine ⟨fun a _ => ?_, h.imp fun {a b} hab x hx y hy => ?_⟩
  · rw [List.pairwise_map]
    exact (h.filter _).imp fun {b c} hbc => .inr ⟨rfl, hbc⟩
  · obtain ⟨x2, _, rfl⟩ := List.mem_map.mp hx
    obtain ⟨y2, _, rfl⟩ := List.mem_map.mp hy
    exact .inl hab
theorem dueOf_len {R : Str → Str → Bool} {hs : List Str} : (dueOf R hs).length ≤ hs.length * hs.length := by
  have : ∀ l : List Str, (l.flatMap fun a => (hs.filter (R a)).map fun b => (a, b)).length ≤ l.length * hs.length := by
    intro l
    induction l with
    | nil => exact Nat.zero_le _
    | cons a l ih =>
      rw [List.flatMap_cons, List.length_append, List.length_map, List.length_cons, Nat.succ_mul]
      have := List.length_filter_le (R a) hs
      omega
  exact this hs
/-- texts in order, each once, rise -/
theorem rises_of_sorted : ∀ {ys : List Str}, sortedS ys = true → ys.Nodup → ys.Pairwise sLt := by
  have ltb : ∀ x y : Str, ltCps x.cps.toList y.cps.toList = true ↔ sLt x y := fun x y => by
    rw [← lt_meets]
    exact decide_eq_true_iff
  have rise : ∀ (l : List Str) (p : Str), risingS p l = true → (p :: l).Nodup → (p :: l).Pairwise sLt := by
    intro l
    induction l with
    | nil => exact fun p _ _ => List.pairwise_singleton _ _
    | cons x l ih =>
      intro p h nd
      have h' : (!ltCps x.cps.toList p.cps.toList && risingS x l) = true := h
      rw [Bool.and_eq_true] at h'
      have nd' := List.nodup_cons.mp nd
      have q := ih x h'.2 nd'.2
      have px : sLt p x := by
        by_cases z : sLt p x
        · exact z
        · refine absurd (sLt_tri z fun y => ?_) fun e => nd'.1 (e ▸ List.mem_cons_self ..)
          have := (ltb x p).mpr y
          rw [this] at h'
          exact Bool.noConfusion h'.1
      refine List.pairwise_cons.mpr ⟨fun y hy => ?_, q⟩
      rcases List.mem_cons.mp hy with e | hy
      · rw [e]; exact px
      · exact sLt_trans px ((List.pairwise_cons.mp q).1 y hy)
  intro ys h nd
  cases ys with
  | nil => exact List.Pairwise.nil
  | cons x l => exact rise l x h nd
end Ah
set_option Elab.async false
set_option linter.all false
set_option maxRecDepth 100000
namespace Ah
open PySem PySem.Spec PyProof.Rows L2
/-- what all hands were gone through for, sorted: just the rising row of what follows -/
theorem closed_due {R : Str → Str → Bool} {hs folk : List Str} {ps held : List (Str × Str)} (hr : ∀ x y, R x y = true ↔ Lead ps x y) (s : ∀ x y, (x, y) ∈ ps → x ∈ hs ∧ y ∈ hs) (pf : folk.Perm hs) (srt : hs.Pairwise sLt) (nd : held.Nodup) (e : ∀ a c, (a, c) ∈ held ↔ vias (fun x y => (x, y) ∈ ps) folk a c) :
    sortD (held.map prD) = (dueOf R hs).map prD := by
  refine sort_due nd (fun p => ?_) (dueOf_rises srt)
  have q : (p.1, p.2) ∈ held ↔ Lead ps p.1 p.2 := (e p.1 p.2).trans (vias_all fun x y z => ⟨pf.mem_iff.mpr (s x y z).1, pf.mem_iff.mpr (s x y z).2⟩)
  rw [dueOf_mem, hr]
  exact q.trans ⟨fun h => ⟨(h.left s).1, (h.left s).2, h⟩, fun h => h.2.2⟩
/-- one hand gone through: the pairs that it brings -/
theorem via_keys {R : Str → Str → Prop} {b : Str} {kl kl' : List (Str × Str)} (e : ∀ a c, (a, c) ∈ kl ↔ R a c) (h : ∀ a c, (a, c) ∈ kl' ↔ (a, c) ∈ kl ∨ ((a, b) ∈ kl ∧ (b, c) ∈ kl)) : ∀ a c, (a, c) ∈ kl' ↔ via R b a c := fun a c => by
  rw [h, e, e, e]
  exact Iff.rfl
/-- the row of what follows holds all that follows of it -/
theorem due_thru {R : Str → Str → Bool} {hs : List Str} {ps : List (Str × Str)} (hr : ∀ x y, R x y = true ↔ Lead ps x y) : ∀ x y z, (x, y) ∈ dueOf R hs → (y, z) ∈ dueOf R hs → (x, z) ∈ dueOf R hs := fun x y z h k => by
  obtain ⟨h1, h2, h3⟩ := dueOf_mem.mp h
  obtain ⟨k1, k2, k3⟩ := dueOf_mem.mp k
  exact dueOf_mem.mpr ⟨h1, k2, (hr _ _).mpr (((hr _ _).mp h3).trans ((hr _ _).mp k3))⟩
/-- closed again it is the same: what follows of the due row is the due row -/
theorem due_again {R : Str → Str → Bool} {hs : List Str} {ps qs : List (Str × Str)} (hr : ∀ x y, R x y = true ↔ Lead ps x y) (s : ∀ x y, (x, y) ∈ ps → x ∈ hs ∧ y ∈ hs) (e : ∀ p, p ∈ qs ↔ p ∈ dueOf R hs) {x y : Str} : Lead qs x y ↔ Lead ps x y := by
  rw [Lead.congr e, Lead.closed (due_thru hr), dueOf_mem, hr]
  exact ⟨fun h => h.2.2, fun h => ⟨(h.left s).1, (h.left s).2, h⟩⟩
/-- no pair of one hand follows where a row keeps all pairs -/
theorem due_irr {R : Str → Str → Bool} {hs row : List Str} {ps : List (Str × Str)} (hr : ∀ x y, R x y = true ↔ Lead ps x y) (k : KeepR row ps) {x y : Str} (h : (x, y) ∈ dueOf R hs) : x ≠ y := fun e => by
  subst e
  exact k.irr ((hr _ _).mp (dueOf_mem.mp h).2.2)
end Ah
set_option Elab.async false
set_option linter.all false
set_option maxRecDepth 100000
set_option maxHeartbeats 4000000
namespace Ah
open PySem PySem.Spec PyProof.Rows L2
/-! ### pairs of texts on the heap -/
def PrV (H : Hp) (v : V) (p : Str × Str) : Prop := ∃ T : Addr, v = .ref T ∧ H T = some (.tup [.str p.1, .str p.2])
def PrsV (H : Hp) : List V → List (Str × Str) → Prop
  | [], [] => True
  | v :: vs, p :: ps => PrV H v p ∧ PrsV H vs ps
  | _, _ => False
theorem PrV.same {H H' : Hp} {v : V} {p : Str × Str} (k : Same H H') (h : PrV H v p) : PrV H' v p := by
  obtain ⟨T, e, h⟩ := h
  exact ⟨T, e, k _ _ h⟩
theorem PrV.kp {p0 : Addr} {H H' : Hp} (k : Kp p0 H H') {kvs : List (Key × V)} (hp : H p0 = some (.dK kvs)) {v : V} {p : Str × Str} (h : PrV H v p) : PrV H' v p := by
  obtain ⟨T, e, h⟩ := h
  refine ⟨T, e, k _ _ (fun z => ?_) h⟩
  rw [z, hp] at h
  cases h
theorem PrV.mut {H : Hp} {D : Addr} {a b : List V} (hD : H D = some (.lst a)) {v : V} {p : Str × Str} (h : PrV H v p) : PrV (upd H D (.lst b)) v p := by
  obtain ⟨T, e, h⟩ := h
  refine ⟨T, e, (upd_ne fun z => ?_).trans h⟩
  rw [z, hD] at h
  cases h
theorem PrsV.imp {H H' : Hp} (f : ∀ v p, PrV H v p → PrV H' v p) : ∀ {vs : List V} {ps : List (Str × Str)}, PrsV H vs ps → PrsV H' vs ps
  | [], [], _ => trivial
  | v :: vs, p :: ps, ⟨h, t⟩ => ⟨f v p h, PrsV.imp f t⟩
  | [], _ :: _, h => h.elim
  | _ :: _, [], h => h.elim
theorem PrsV.same {H H' : Hp} {vs : List V} {ps : List (Str × Str)} (k : Same H H') (h : PrsV H vs ps) : PrsV H' vs ps := h.imp fun _ _ => PrV.same k
theorem PrsV.kp {p0 : Addr} {H H' : Hp} (k : Kp p0 H H') {kvs : List (Key × V)} (hp : H p0 = some (.dK kvs)) {vs : List V} {ps : List (Str × Str)} (h : PrsV H vs ps) : PrsV H' vs ps := h.imp fun _ _ => PrV.kp k hp
theorem PrsV.mut {H : Hp} {D : Addr} {a b : List V} (hD : H D = some (.lst a)) {vs : List V} {ps : List (Str × Str)} (h : PrsV H vs ps) : PrsV (upd H D (.lst b)) vs ps := h.imp fun _ _ => PrV.mut hD
theorem PrsV.len {H : Hp} : ∀ {vs : List V} {ps : List (Str × Str)}, PrsV H vs ps → vs.length = ps.length
  | [], [], _ => rfl
  | _ :: _, _ :: _, ⟨_, t⟩ => by rw [List.length_cons, List.length_cons, t.len]
  | [], _ :: _, h => h.elim
  | _ :: _, [], h => h.elim
theorem PrsV.append {H : Hp} : ∀ {vs ws : List V} {ps qs : List (Str × Str)}, PrsV H vs ps → PrsV H ws qs → PrsV H (vs ++ ws) (ps ++ qs)
  | [], _, [], _, _, k => k
  | _ :: _, _, _ :: _, _, ⟨h, t⟩, k => ⟨h, t.append k⟩
  | [], _, _ :: _, _, h, _ => h.elim
  | _ :: _, _, [], _, h, _ => h.elim
theorem PrsV.get {H : Hp} : ∀ {vs : List V} {ps : List (Str × Str)} {i : Nat} {v : V}, PrsV H vs ps → vs[i]? = some v → ∃ p, ps[i]? = some p ∧ PrV H v p
  | [], [], _, _, _, e => by cases e
  | v :: vs, p :: ps, 0, _, ⟨h, _⟩, e => ⟨p, rfl, Option.some.inj e ▸ h⟩
  | v :: vs, p :: ps, i + 1, _, ⟨_, t⟩, e => by
    obtain ⟨q, e1, h1⟩ := t.get (i := i) e
    exact ⟨q, e1, h1⟩
  | [], _ :: _, _, _, h, _ => h.elim
  | _ :: _, [], _, _, h, _ => h.elim
theorem PrsV.perm {H : Hp} {vs ws : List V} (pm : ws.Perm vs) : ∀ {ps : List (Str × Str)}, PrsV H vs ps → ∃ qs : List (Str × Str), qs.Perm ps ∧ PrsV H ws qs := by
  induction pm with
  | nil =>
    intro ps h
    exact ⟨ps, .refl _, h⟩
  | cons x _ ih =>
    intro ps h
    match ps, h with
    | p :: ps, ⟨h, t⟩ =>
      obtain ⟨qs, p1, h1⟩ := ih t
      exact ⟨p :: qs, p1.cons p, h, h1⟩
  | swap x y l =>
    intro ps h
    match ps, h with
    | p :: q :: ps, ⟨h1, h2, t⟩ => exact ⟨q :: p :: ps, List.Perm.swap .., h2, h1, t⟩
  | trans _ _ ih1 ih2 =>
    intro ps h
    obtain ⟨qs, p1, h1⟩ := ih2 h
    obtain ⟨rs, p2, h2⟩ := ih1 h1
    exact ⟨rs, p2.trans p1, h2⟩
theorem PrsV.dp {K : PySem.W.Frag} {H : Hp} : ∀ {vs : List V} {ps : List (Str × Str)}, PrsV H vs ps → DpAll K H vs (ps.map prD)
  | [], [], _ => .nil
  | _ :: _, p :: _, ⟨⟨T, e, h⟩, t⟩ => by
    subst e
    exact .cons (.tup (.inl (.inl h)) (.cons (.str _) (.cons (.str _) .nil))) t.dp
  | [], _ :: _, h => h.elim
  | _ :: _, [], h => h.elim
theorem shp_pr {p : Str × Str} (h1 : PyData.strOk p.1 = true) (h2 : PyData.strOk p.2 = true) : Shp (prD p) := by
  refine ⟨?_, ?_⟩
  · simp [prD, PyData.canLay0, PyData.canLayAll0, h1, h2]
  · simp [prD, PyData.depth, PyData.depthAll]
end Ah
set_option Elab.async false
set_option linter.all false
set_option maxRecDepth 100000
set_option maxHeartbeats 4000000
namespace Ah
open PySem PySem.Spec PyProof.Rows L2
abbrev sHanded : Stmt := topS 18
abbrev sListed : Stmt := topS 19
/-! a list or a tuple of what is drawn -/
theorem lk_kp {p a : Addr} {o : HO} {H H' : Hp} (k : Kp p H H') {kvs : List (Key × V)} (hp : H p = some (.dK kvs)) (hu : ∀ kvs, o ≠ .dK kvs) (h : H a = some o) : H' a = some o := by
  refine k a _ (fun e => ?_) h
  rw [e, hp] at h
  exact hu _ (Option.some.inj h).symm
section
variable {P : Program} {w : World} {K : PySem.W.Frag} {mg : Str → Option Value} {base : Heap}
theorem scListed : FnScope ["pen", "hands", "found"] ["pen", "hands"] (defScope sListed) := ⟨rfl, rfl, rfl, by decide +kernel, rfl, by decide +kernel, by decide +kernel⟩
def spListed : Sp := fun vs H Q _ => ∃ (p c a : Addr) (xs : List Str) (n : Nat), vs = [.ref p, .ref a] ∧ H a = some (.lst (xs.map V.str)) ∧ (∀ x ∈ xs, IsHand x) ∧ xs.length ≤ 60 ∧ PenAt H p c n ∧ n + 100 < 1000000 ∧
  ∀ (b : Addr) (ys : List Str) (H' : Hp), ys.Perm xs → LTu H' b (ys.map V.str) → PenAt H' p c (n + xs.length + 1) → Kp p H H' → Q (.ref b) H'
theorem ok_listed {f f1 f2 : Addr} {fd fd1 fd2 : FuncData} (F : Fun K "_law_listed" "_law_listed" sListed f fd) (B : Blt2 mg) (D : Df P w K mg base CX0 "_law_draw" 1 f1 fd1 ["pen", "many"] spDraw) (D2 : Df P w K mg base CX0 "_law_shuffled" 2 f2 fd2 ["pen", "some"] (spShuf K)) :
    FnOk P w K mg base CX0 3 f fd ["pen", "hands"] spListed := by
  refine F.ok scListed (fun vs H Q E h => ?_) (fun cdv A outer s H vs Q E hr h => ?_)
  · obtain ⟨p, c, a, xs, n, rfl, _⟩ := h
    rfl
  · obtain ⟨p, c, a, xs, n, rfl, ha, hh, hl, hp, hn, k⟩ := h
    have nd := scListed.nd
    have hr1 : Room 1 _ := hr.mono (by decide)
    refine ⟨_, pss_cons (ps_set (i := 2) nd rfl (.inl rfl) (pe_call D2.ok hr rfl D2.g D2.kp D2.b .nil pass0 (pa_cons (pv 0) (pa_cons (pv 1) pa_nil))))
      (pss_one (ps_ret (pe_ix ix_list (pe_lst (pa_cons (pv 2) (pa_cons (pe_callTy call_tuple_ofF (by rfl) B.tuple (by decide +kernel) (pa_cons (pv 2) pa_nil)) pa_nil))) (pe_call D.ok hr1 rfl D.g D.kp D.b .nil pass0 (pa_cons (pv 0) (pa_cons pe_int pa_nil))) (fun _ _ => rfl)))), ?_⟩
    refine ⟨_, rfl, _, rfl, p, c, a, xs.map V.str, xs.map PyData.str, n, rfl, .inl (SqL.of ha), dp_strs xs, fun d hd => ?_, ?_, hp, ?_, fun q zs H1 pz hq eq hp1 kp1 => ?_⟩
    · obtain ⟨y, z, rfl⟩ := List.mem_map.mp hd
      exact shp_str (hh y z).ok
    · rw [List.length_map]
      omega
    · rw [List.length_map]
      omega
    obtain ⟨ws, pw, rfl⟩ := perm_map_inv pz rfl
    rw [List.length_map] at hp1
    refine ⟨_, rfl, _, rfl, q, ws.map V.str, rfl, SqL.of eq, newF fun b H2 s2 f2 => ?_⟩
    refine ⟨by show 2 ≤ sizeLine; decide, fun L hL => ?_⟩
    have sL : Same H2 (upd H2 L (.lst [.ref q, .ref b])) := same_new hL
    obtain ⟨kvs, hk⟩ := hp1.dk
    have hp2 := (hp1.keep s2).keep sL
    refine ⟨_, rfl, p, c, 2, _, rfl, hp2, by omega, by decide, by decide, fun d H3 d0 d2 hp3 kp3 => ?_⟩
    obtain ⟨kvs3, hk3⟩ := hp2.dk
    have e3 : H3 L = some (.lst [.ref q, .ref b]) := lk_kp kp3 hk3 (fun _ z => by cases z) upd_same
    have q3 : H3 q = some (.lst (ws.map V.str)) := lk_kp kp3 hk3 (fun _ z => by cases z) (sL _ _ (s2 _ _ eq))
    have b3 : Ftp H3 b (ws.map V.str) := ftp_kp kp3 hk3 (f2.same sL)
    have kp4 : Kp p H H3 := (kp1.trans (Kp.same (s2.trans sL))).trans kp3
    obtain ⟨j, rfl⟩ : ∃ j : Nat, d = j := ⟨d.toNat, by omega⟩
    have hj : j = 0 ∨ j = 1 := by omega
    rcases hj with rfl | rfl
    · exact ⟨L, _, _, .ref q, rfl, rfl, SqL.of e3, atI_nat rfl, k q ws H3 pw (.inl q3) hp3 kp4⟩
    · exact ⟨L, _, _, .ref b, rfl, rfl, SqL.of e3, atI_nat rfl, k b ws H3 pw (.inr b3.rd) hp3 kp4⟩
theorem scHanded : FnScope ["pen", "some", "found"] ["pen", "some"] (defScope sHanded) := ⟨rfl, rfl, rfl, by decide +kernel, rfl, by decide +kernel, by decide +kernel⟩
def spHanded : Sp := fun vs H Q _ => ∃ (p c a : Addr) (us : List V) (ps : List (Str × Str)) (n : Nat), vs = [.ref p, .ref a] ∧ H a = some (.lst us) ∧ PrsV H us ps ∧ (∀ x ∈ ps, PyData.strOk x.1 = true ∧ PyData.strOk x.2 = true) ∧ ps.length ≤ 60 ∧ PenAt H p c n ∧ n + 100 < 1000000 ∧
  ∀ (b : Addr) (ws : List V) (qs : List (Str × Str)) (H' : Hp), (∀ x, x ∈ qs ↔ x ∈ ps) → qs.length ≤ ps.length + 1 → LTu H' b ws → PrsV H' ws qs → PenAt H' p c (n + ps.length + 3) → Kp p H H' → Q (.ref b) H'
theorem ok_handed {f f1 f2 f3 : Addr} {fd fd1 fd2 fd3 : FuncData} (F : Fun K "_law_handed" "_law_handed" sHanded f fd) (B : Blt2 mg) (D : Df P w K mg base CX0 "_law_draw" 1 f1 fd1 ["pen", "many"] spDraw) (D2 : Df P w K mg base CX0 "_law_shuffled" 2 f2 fd2 ["pen", "some"] (spShuf K)) (D3 : Df P w K mg base CX0 "_law_pick" 2 f3 fd3 ["pen", "some"] (spPick K)) :
    FnOk P w K mg base CX0 3 f fd ["pen", "some"] spHanded := by
  refine F.ok scHanded (fun vs H Q E h => ?_) (fun cdv A outer s H vs Q E hr h => ?_)
  · obtain ⟨p, c, a, us, ps, n, rfl, _⟩ := h
    rfl
  · obtain ⟨p, c, a, us, ps, n, rfl, ha, hps, hok, hl, hp, hn, k⟩ := h
    have nd := scHanded.nd
    have hr1 : Room 1 _ := hr.mono (by decide)
    refine ⟨_, pss_cons (ps_set (i := 2) nd rfl (.inl rfl) (pe_call D2.ok hr rfl D2.g D2.kp D2.b .nil pass0 (pa_cons (pv 0) (pa_cons (pv 1) pa_nil))))
      (pss_cons (ps_if (PW.pt (pw_and (pt_cmpR (op_neD hr.units) (pv 2) (pe_lst pa_nil) (nomark _)) (pw_and1 (pt_cmpR op_eq (pe_call D.ok hr1 rfl D.g D.kp D.b .nil pass0 (pa_cons (pv 0) (pa_cons pe_int pa_nil))) pe_int (nomark _)))))
        (pss_one (ps_expr (pe_bm PySem.F.plainAttrs_list PySem.F.slot_list_append PySem.F.type_list_append mt_append (pv 2) (pa_cons (pe_call D3.ok hr rfl D3.g D3.kp D3.b .nil pass0 (pa_cons (pv 0) (pa_cons (pv 2) pa_nil))) pa_nil)))) pss_nil)
      (pss_one (ps_ret (pe_ix ix_list (pe_lst (pa_cons (pv 2) (pa_cons (pe_callTy call_tuple_ofF (by rfl) B.tuple (by decide +kernel) (pa_cons (pv 2) pa_nil)) pa_nil))) (pe_call D.ok hr1 rfl D.g D.kp D.b .nil pass0 (pa_cons (pv 0) (pa_cons pe_int pa_nil))) (fun _ _ => rfl))))), ?_⟩
    have lus := hps.len
    have tail : ∀ (q : Addr) (ws : List V) (qs : List (Str × Str)) (H1 : Hp) (m : Nat), (∀ x, x ∈ qs ↔ x ∈ ps) → qs.length ≤ ps.length + 1 → H1 q = some (.lst ws) → PrsV H1 ws qs → PenAt H1 p c m → m + 1 ≤ n + ps.length + 3 → Kp p H H1 →
        ∀ (b : Addr) (H2 : Hp), Same H1 H2 → Ftp H2 b ws → ∀ L, H2 L = none → spDraw [.ref p, .int 2] (upd H2 L (.lst [.ref q, .ref b])) (fun d H3 => rIxL K (.ref L) d H3 Q) E := fun q ws qs H1 m e1 e2 eq hq hp1 hm kp1 b H2 s2 f2 L hL => by
      have sL : Same H2 (upd H2 L (.lst [.ref q, .ref b])) := same_new hL
      have hp2 := (hp1.keep s2).keep sL
      refine ⟨p, c, 2, _, rfl, hp2, by omega, by decide, by decide, fun d H3 d0 d2 hp3 kp3 => ?_⟩
      obtain ⟨kvs3, hk3⟩ := hp2.dk
      have e3 : H3 L = some (.lst [.ref q, .ref b]) := lk_kp kp3 hk3 (fun _ z => by cases z) upd_same
      have q3 : H3 q = some (.lst ws) := lk_kp kp3 hk3 (fun _ z => by cases z) (sL _ _ (s2 _ _ eq))
      have b3 : Ftp H3 b ws := ftp_kp kp3 hk3 (f2.same sL)
      have r3 : PrsV H3 ws qs := (hq.same (s2.trans sL)).kp kp3 hk3
      have kp4 : Kp p H H3 := (kp1.trans (Kp.same (s2.trans sL))).trans kp3
      obtain ⟨j, rfl⟩ : ∃ j : Nat, d = j := ⟨d.toNat, by omega⟩
      have hj : j = 0 ∨ j = 1 := by omega
      rcases hj with rfl | rfl
      · exact ⟨L, _, _, .ref q, rfl, rfl, SqL.of e3, atI_nat rfl, k q ws qs H3 e1 e2 (.inl q3) r3 (hp3.mono (by omega)) kp4⟩
      · exact ⟨L, _, _, .ref b, rfl, rfl, SqL.of e3, atI_nat rfl, k b ws qs H3 e1 e2 (.inr b3.rd) r3 (hp3.mono (by omega)) kp4⟩
    refine ⟨_, rfl, _, rfl, p, c, a, us, ps.map prD, n, rfl, .inl (SqL.of ha), hps.dp, fun d hd => ?_, by omega, hp, by omega, fun q zs H1 pz hq eq hp1 kp1 => ?_⟩
    · obtain ⟨y, z, rfl⟩ := List.mem_map.mp hd
      exact shp_pr (hok y z).1 (hok y z).2
    obtain ⟨kvs, hk⟩ := hp.dk
    obtain ⟨qs, pq, hqs⟩ := (hps.kp kp1 hk).perm pz
    refine ⟨_, rfl, Nat.zero_le _, fun t ht => ?_⟩
    have st : Same H1 (upd H1 t (.lst [])) := same_new ht
    have hp1' := hp1.keep st
    have eq' := st _ _ eq
    have hqs' := hqs.same st
    have e1 : (∀ x, x ∈ qs ↔ x ∈ ps) := fun x => pq.mem_iff
    have e2 := pq.length_eq
    have kp1' : Kp p H (upd H1 t (.lst [])) := kp1.trans (Kp.same st)
    have et : (upd H1 t (.lst [])) t = some (.lst []) := upd_same
    generalize upd H1 t (.lst []) = H2 at hp1' eq' hqs' kp1' et ⊢
    have shp : ∀ d ∈ qs.map prD, Shp d := fun d hd => by
      obtain ⟨y, z, rfl⟩ := List.mem_map.mp hd
      exact shp_pr (hok y ((e1 y).mp z)).1 (hok y ((e1 y).mp z)).2
    have lz := hqs.len
    rw [lus] at hp1'
    refine ⟨.list (qs.map prD), .list [], .lst (SqL.of eq') hqs'.dp, .lst (SqL.of et) .nil, shp_l shp, shp_nil, _, rfl, ?_⟩
    rw [eqv_nils]
    refine ite2 (fun e => ?_) (fun e => ?_)
    · have hne : 0 < ps.length := by
        rw [← e2]
        cases qs with
        | nil => cases e
        | cons x r => exact Nat.succ_pos _
      refine ⟨_, rfl, p, c, 3, _, rfl, hp1', by omega, by decide, by decide, fun d H3 d0 d3 hp3 kp3 => ?_⟩
      obtain ⟨kv1, hk1⟩ := hp1'.dk
      have eq3 := lk_kp kp3 hk1 (fun _ z => by cases z) eq'
      have hq3 := hqs'.kp kp3 hk1
      have kp13 := kp1'.trans kp3
      refine ⟨rfl, _, rfl, ?_⟩
      refine ite2 (fun e5 => ?_) (fun e5 => ?_)
      · refine ⟨_, rfl, .inl ⟨rfl, _, SqL.of eq3⟩, _, rfl, _, rfl, p, c, .ref q, zs, _, rfl, .inl ⟨q, rfl, SqL.of eq3⟩, hp3, by omega, by omega, by omega, fun i y H4 hy hp4 kp4 => ?_⟩
        obtain ⟨kv3, hk3⟩ := hp3.dk
        have eq4 := lk_kp kp4 hk3 (fun _ z => by cases z) eq3
        have hq4 := hq3.kp kp4 hk3
        obtain ⟨x, hx, hxv⟩ := hq4.get hy
        have hxm : x ∈ qs := List.mem_of_getElem? hx
        refine ⟨q, zs, y, rfl, rfl, eq4, small1000 (by omega), ?_⟩
        refine ⟨_, rfl, _, rfl, q, zs ++ [y], rfl, SqL.of upd_same, ?_⟩
        have hp5 : PenAt (upd H4 q (.lst (zs ++ [y]))) p c (n + ps.length + 1 + 1) := hp.mut hq hp4
        exact newF fun b H5 s5 f5 => ⟨by show 2 ≤ sizeLine; decide, fun L hL => ⟨_, rfl, tail q (zs ++ [y]) (qs ++ [x]) _ _ (fun z => by rw [List.mem_append, List.mem_singleton]; exact ⟨fun w => w.elim (fun w => (e1 z).mp w) (fun w => w ▸ (e1 x).mp hxm), fun w => .inl ((e1 z).mpr w)⟩) (by rw [List.length_append, e2]; exact Nat.le_refl _) upd_same ((hq4.mut eq4).append ⟨hxv.mut eq4, trivial⟩) hp5 (by omega) ((kp13.trans kp4).mut hq) b H5 s5 f5 L hL⟩⟩
      · refine ⟨_, rfl, _, rfl, q, zs, rfl, SqL.of eq3, ?_⟩
        exact newF fun b H5 s5 f5 => ⟨by show 2 ≤ sizeLine; decide, fun L hL => ⟨_, rfl, tail q zs qs _ _ e1 (by omega) eq3 hq3 hp3 (by omega) kp13 b H5 s5 f5 L hL⟩⟩
    · refine ⟨_, rfl, _, rfl, q, zs, rfl, SqL.of eq', ?_⟩
      exact newF fun b H5 s5 f5 => ⟨by show 2 ≤ sizeLine; decide, fun L hL => ⟨_, rfl, tail q zs qs _ _ e1 (by omega) eq' hqs' hp1' (by omega) kp1' b H5 s5 f5 L hL⟩⟩
end
end Ah
set_option Elab.async false
set_option linter.all false
set_option maxRecDepth 100000
set_option maxHeartbeats 4000000
namespace Ah
open PySem PySem.Spec PyProof.Rows L2
abbrev sPairsRow : Stmt := topS 20
theorem kp_none {p a : Addr} {H H' : Hp} (k : Kp p H H') {o : HO} (hp : H' p = some o) (h : H' a = none) : H a = none := by
  cases e : H a with
  | none => rfl
  | some x =>
    have := k a x (fun z => by rw [z, hp] at h; cases h) e
    rw [h] at this
    cases this
/-- pairs of which a row has the first ahead of the second -/
def PrsOf (xs : List Str) (ps : List (Str × Str)) : Prop := ∀ x y, (x, y) ∈ ps → ∃ i j : Nat, i < j ∧ xs[i]? = some x ∧ xs[j]? = some y
section
variable {P : Program} {w : World} {K : PySem.W.Frag} {mg : Str → Option Value} {base : Heap}
theorem scPairsRow : FnScope ["pen", "row", "part", "found", "k", "hand"] ["pen", "row"] (defScope sPairsRow) := ⟨rfl, rfl, rfl, by decide +kernel, rfl, by decide +kernel, by decide +kernel⟩
def spPairsRow : Sp := fun vs H Q _ => ∃ (p c r : Addr) (xs : List Str) (n : Nat), vs = [.ref p, .ref r] ∧ Rd H r (.tup (xs.map V.str)) ∧ xs.length ≤ 8 ∧ PenAt H p c n ∧ n + 200 < 1000000 ∧
  ∀ (b : Addr) (us : List V) (ps : List (Str × Str)) (H' : Hp), H' b = some (.lst us) → PrsV H' us ps → PrsOf xs ps → ps.length ≤ 7 * xs.length → PenAt H' p c (n + 100) → Kp p H H' → Q (.ref b) H'
theorem ok_pairsRow {f f1 f2 : Addr} {fd fd1 fd2 : FuncData} (F : Fun K "_law_pairs_of_row" "_law_pairs_of_row" sPairsRow f fd) (B : Blt2 mg) (D : Df P w K mg base CX0 "_law_draw" 1 f1 fd1 ["pen", "many"] spDraw) (D2 : Df P w K mg base CX0 "_law_pick" 2 f2 fd2 ["pen", "some"] (spPick K)) :
    FnOk P w K mg base CX0 3 f fd ["pen", "row"] spPairsRow := by
  refine F.ok scPairsRow (fun vs H Q E h => ?_) (fun cdv A outer s H vs Q E hr h => ?_)
  · obtain ⟨p, c, r, xs, n, rfl, _⟩ := h
    rfl
  · obtain ⟨p, c, r, xs, n, rfl, hx, hl, hp, hn, k⟩ := h
    have nd := scPairsRow.nd
    have hr1 : Room 1 _ := hr.mono (by decide)
    refine ⟨_, pss_cons (ps_asg (pe_tup (pa_cons (pe_call D2.ok hr rfl D2.g D2.kp D2.b .nil pass0 (pa_cons (pv 0) (pa_cons (pe_lst (pa_cons pe_int (pa_cons pe_int (pa_cons pe_int (pa_cons pe_int (pa_cons pe_int pa_nil)))))) pa_nil))) (pa_cons (pe_lst pa_nil) pa_nil)))
        (pg_tup rfl (pgs_cons (pg_name (i := 2) nd rfl (.inr rfl)) (pgs_cons (pg_name (i := 3) nd rfl (.inl rfl)) pgs_nil))))
      (pss_cons (ps_for PassesOwn.never rfl (pi_range1 rfl B.range (pa_cons (pe_callB call_len_seq (by rfl) B.len PySem.boot_len (pa_cons (pv 1) pa_nil)) pa_nil)) (pg_name (i := 4) nd rfl (.inr rfl))
        (pss_one (ps_expr (pe_bm PySem.F.plainAttrs_list PySem.F.slot_list_extend PySem.F.type_list_extend mt_extend (pv 3) (pa_cons (pe_lc (own := [("hand", 5)]) (g := gName 5) (tt := tTest (tOp rEq (tCall spDraw [] E0 (tCons (tVar 0) (tCons (tVar 2) tNil))) (tC (.int 0)))) rfl nd (pi_tup (pe_slice sl_tupA (pv 1) (po_some (pe_op op_add (pv 4) pe_int)) po_none))
          (blkOk_by (N := ["pen", "row", "part", "found", "k", "hand"]) (sc := defScope sPairsRow) (by decide +kernel)) (fun _ _ _ _ _ => pg_name (i := 5) nd rfl (Or.inl rfl))
          (fun _ _ _ _ _ => pts_one (pt_cmpR op_eq (pe_call D.ok hr1 rfl D.g D.kp D.b .nil pass0 (pa_cons (pv 0) (pa_cons (pv 2) pa_nil))) pe_int (nomark _)))
          (fun _ _ _ _ _ => pe_tup (pa_cons (pe_ix (r := rIxT K) ix_tup (pv 1) (pv 4) (fun _ _ => rfl)) (pa_cons (pv 5) pa_nil)))) pa_nil)))))
      (pss_one (ps_ret (pv 3)))), ?_⟩
    have lm : (xs.map V.str).length = xs.length := List.length_map ..
    obtain ⟨kvs, hk⟩ := hp.dk
    refine ⟨_, rfl, by show 5 ≤ sizeLine; decide, fun A0 hA0 => ?_⟩
    have sA : Same H (upd H A0 (.lst ([1, 2, 3, 6, 20].map V.int))) := same_new hA0
    refine ⟨p, c, .ref A0, [1, 2, 3, 6, 20].map V.int, n, rfl, .inl ⟨A0, rfl, SqL.of upd_same⟩, hp.keep sA, by omega, by decide, by decide, fun i y H1 hy hp1 kp1 => ?_⟩
    obtain ⟨m, rfl, m0, m1⟩ : ∃ m : Int, y = V.int m ∧ 0 < m ∧ m < 100 := by
      have := List.mem_of_getElem? hy
      simp only [List.map_cons, List.map_nil, List.mem_cons, List.not_mem_nil, or_false] at this
      rcases this with e | e | e | e | e <;> exact ⟨_, e, by decide, by decide⟩
    have kpA : Kp p H H1 := (Kp.same sA).trans kp1
    refine ⟨Nat.zero_le _, fun L hL => ?_⟩
    have sL : Same H1 (upd H1 L (.lst [])) := same_new hL
    obtain ⟨kvs1, hk1⟩ := hp1.dk
    have hL0 : H L = none := kp_none kpA hk1 hL
    have e1 : (upd H1 L (.lst [])) L = some (.lst []) := upd_same
    have hp2 := hp1.keep sL
    have kp2 := kpA.trans (Kp.same sL)
    generalize upd H1 L (.lst []) = H2 at e1 hp2 kp2 ⊢
    refine ⟨by show 2 ≤ sizeLine; decide, fun T hT => ?_⟩
    have sT : Same H2 (upd H2 T (.tup [.int m, .ref L])) := same_new hT
    refine ⟨T, _, rfl, .inl (.inl upd_same), rfl, _, _, rfl, ?_⟩
    refine ⟨_, _, rfl, rfl, ?_⟩
    have e3 := sT _ _ e1
    have hp3 := hp2.keep sT
    have kp3 := kp2.trans (Kp.same sT)
    generalize upd H2 T (.tup [.int m, .ref L]) = H3 at e3 hp3 kp3 ⊢
    refine ⟨_, rfl, r, xs.map V.str, rfl, .inr (.inl (rd_kp kp3 hk (fun _ z => by cases z) hx)), _, rfl, by omega, by omega, ?_⟩
    rw [Int.toNat_natCast, lm]
    refine for_range (lo := 0) (n := xs.length) (fun i σ H4 => ∃ (o4 : Option V) (us : List V) (ps : List (Str × Str)), σ = [some (.ref p), some (.ref r), some (.int m), some (.ref L), o4, none] ∧ H4 L = some (.lst us) ∧ PrsV H4 us ps ∧ PrsOf xs ps ∧ ps.length ≤ 7 * i ∧ PenAt H4 p c (n + 1 + 8 * i) ∧ Kp p H H4) ⟨none, [], [], rfl, e3, trivial, (fun _ _ z => by cases z), Nat.zero_le _, hp3, kp3⟩ ?_ ?_
    · rintro i σ H4 hi ⟨o4, us, ps, rfl, e4, r4, o, l4, hp4, kp4⟩
      have e0 : (0 : Int) + (i : Int) = ((i : Nat) : Int) := by omega
      have e1 : (0 : Int) + (i : Int) + 1 = ((i + 1 : Nat) : Int) := by omega
      have ha : xs[i]? = some (xs.getD i default) := getD_at hi
      have hx4 := rd_kp kp4 hk (fun _ z => by cases z) hx
      obtain ⟨kv4, hk4⟩ := hp4.dk
      refine ⟨_, rfl, .inl ⟨rfl, _, SqL.of e4⟩, _, rfl, _, rfl, _, _, rfl, rfl, _, rfl, ?_⟩
      dsimp only [tNoPart]
      refine slA hx4 fun b H5 s5 e5 => ?_
      rw [e1, cutV_from (by omega), ← List.map_drop] at e5
      have hp5 := hp4.keep s5
      have hk5 := s5 _ _ hk4
      refine ⟨b, rfl, ⟨_, .inl e5⟩, fun D0 hD0 => ?_⟩
      refine lc_tup (K := K) (a := b) (xs := (xs.drop (i + 1)).map V.str) (fun j H6 => ∃ (ws : List V) (qs : List (Str × Str)), H6 D0 = some (.lst ws) ∧ PrsV H6 ws qs ∧ (∀ x y, (x, y) ∈ qs → x = xs.getD i default ∧ ∃ m : Nat, i < m ∧ xs[m]? = some y) ∧ qs.length ≤ j ∧ PenAt H6 p c (n + 1 + 8 * i + j) ∧ Kp p H5 H6) ⟨[], [], upd_same, trivial, (fun _ _ z => by cases z), Nat.zero_le _, hp5.keep (same_new hD0), Kp.new hD0⟩ (fun j H6 _ q => let ⟨_, _, _, _, _, _, _, kp6⟩ := q; .inl (rd_kp kp6 hk5 (fun _ z => by cases z) e5)) ?_ ?_
      · rintro j x H6 hx6 ⟨ws, qs, e6, r6, o6, l6, hp6, kp6⟩
        obtain ⟨b', hb, rfl, _⟩ := str_at hx6
        have hjl := (List.getElem?_eq_some_iff.mp hb).1
        rw [List.length_drop] at hjl
        rw [List.getElem?_drop] at hb
        refine ⟨rfl, _, rfl, _, rfl, p, c, m, _, rfl, hp6, by omega, m0, by omega, fun d H7 d0 d1 hp7 kp7 => ?_⟩
        obtain ⟨kv6, hk6⟩ := hp6.dk
        have e7 := lk_kp kp7 hk6 (fun _ z => by cases z) e6
        have r7 := r6.kp kp7 hk6
        have kp57 := kp6.trans kp7
        refine ⟨rfl, _, rfl, ?_⟩
        refine ite2 (fun e8 => ?_) (fun e8 => ?_)
        · have hx7 := rd_kp kp57 hk5 (fun _ z => by cases z) (rd_same s5 hx4)
          refine ⟨_, rfl, _, rfl, r, xs.map V.str, _, .str (xs.getD i default), rfl, rfl, .inl hx7, (by rw [e0]; exact atI_nat (by rw [List.getElem?_map, ha]; rfl)), _, rfl, by show 2 ≤ sizeLine; decide, fun T7 hT7 => ?_⟩
          have s8 : Same H7 (upd H7 T7 (.tup [.str (xs.getD i default), .str b'])) := same_new hT7
          refine ⟨ws, s8 _ _ e7, small1000 (by have := r7.len; omega), ws ++ [.ref T7], qs ++ [(xs.getD i default, b')], upd_same, ?_, ?_, ?_, ?_, ?_⟩
          · exact ((r7.same s8).append (show PrsV _ [.ref T7] [(xs.getD i default, b')] from ⟨⟨T7, rfl, upd_same⟩, trivial⟩)).mut (s8 _ _ e7)
          · intro x y z
            rcases List.mem_append.mp z with z | z
            · exact o6 x y z
            · obtain ⟨rfl, rfl⟩ := Prod.mk.inj (List.mem_singleton.mp z)
              exact ⟨rfl, i + 1 + j, by omega, hb⟩
          · rw [List.length_append]
            exact Nat.succ_le_succ l6
          · exact hp5.mut hD0 (hp7.keep s8)
          · exact (kp57.trans (Kp.same s8)).mut hD0
        · exact ⟨ws, qs, e7, r7, o6, by omega, hp7, kp57⟩
      · rintro H6 ⟨ws, qs, e6, r6, o6, l6, hp6, kp6⟩
        rw [List.length_map, List.length_drop] at l6 hp6
        have e4' := lk_kp kp6 hk5 (fun _ z => by cases z) (s5 _ _ e4)
        have r4' := (r4.same s5).kp kp6 hk5
        have lr := r4.len
        have lq := r6.len
        refine ⟨L, D0, us, ws, rfl, rfl, e4', e6, Nat.le_of_lt (small1000 (by omega)), ?_⟩
        refine ⟨_, us ++ ws, ps ++ qs, rfl, upd_same, (r4'.append r6).mut e4', ?_, ?_, ?_, ?_⟩
        · intro x y z
          rcases List.mem_append.mp z with z | z
          · exact o x y z
          · obtain ⟨rfl, j, h1, h2⟩ := o6 x y z
            exact ⟨i, j, h1, ha, h2⟩
        · rw [List.length_append]
          omega
        · exact (hp.mut hL0 hp6).mono (by omega)
        · exact ((kp4.trans (Kp.same s5)).trans kp6).mut hL0
    · rintro σ H4 ⟨o4, us, ps, rfl, e4, r4, o, l4, hp4, kp4⟩
      exact ⟨_, rfl, k L us ps H4 e4 r4 o l4 (hp4.mono (by omega)) kp4⟩
end
end Ah
set_option Elab.async false
set_option linter.all false
set_option maxRecDepth 100000
set_option maxHeartbeats 4000000
namespace Ah
open PySem PySem.Spec PyProof.Rows L2
theorem shp_sh {p : Str × Str} (h : Shp (prD p)) : SeqAt.shaped (prD p) = true := shp_tup (by have := h.1; simpa [prD, PyData.canLay0] using this) (by have := h.2; simp only [prD, PyData.depth] at this; omega)
/-- x in xs, xs a list or a tuple of data -/
def rInDL (K : PySem.W.Frag) : R2 := fun x y H Q => ∃ d ds, Dp K H x d ∧ (Dp K H y (.list ds) ∨ Dp K H y (.tuple ds)) ∧ SeqAt.shaped d = true ∧ SeqAt.shaped (.list ds) = true ∧ SeqAt.shaped (.tuple ds) = true ∧ Q (.bl (ds.any fun z => PyData.eqv z d)) H
theorem op_inDL {X : Cx} (hu : X.A.units + 65 < cLine) : OpR X (compareOp .In) (rInDL X.K) := by
  intro pins s σ H x y v u Q I rx ry h
  obtain ⟨d, ds, hd, he, sd, sl, st, q⟩ := h
  obtain ⟨as, r1⟩ := Dp.reads I d x v hd rx
  rcases he with he | he
  · obtain ⟨bs, r2⟩ := Dp.reads I (.list ds) y u he ry
    exact SeqAt.in_list_reads r2 r1 (SeqAt.canLay_of_shaped sl) (SeqAt.canLay_of_shaped sd) (room_in_shaped sd hu) ⟨.bl _, H, I, rfl, q⟩
  · obtain ⟨bs, r2⟩ := Dp.reads I (.tuple ds) y u he ry
    exact SeqAt.in_tuple_reads r2 r1 (SeqAt.canLay_of_shaped st) (SeqAt.canLay_of_shaped sd) (room_in_shaped sd hu) ⟨.bl _, H, I, rfl, q⟩
theorem eqv_pr (p q : Str × Str) : PyData.eqv (prD p) (prD q) = decide (p = q) := by
  have e : PyData.eqv (prD p) (prD q) = (PyData.eqv (.str p.1) (.str q.1) && (PyData.eqv (.str p.2) (.str q.2) && true)) := by
    simp only [prD, PyData.eqv, PyData.eqvAll]
  rw [e, eqv_str, eqv_str, Bool.and_true]
  by_cases h : p = q
  · rw [decide_eq_true h, decide_eq_true (congrArg Prod.fst h), decide_eq_true (congrArg Prod.snd h)]
    rfl
  · rw [decide_eq_false h]
    by_cases h1 : p.1 = q.1
    · rw [decide_eq_true h1, decide_eq_false fun h2 => h (Prod.ext h1 h2)]
      rfl
    · rw [decide_eq_false h1]
      rfl
theorem any_pr (ps : List (Str × Str)) (q : Str × Str) : ((ps.map prD).any fun z => PyData.eqv z (prD q)) = ps.contains q := by
  rw [List.any_map]
  have : ((fun z => PyData.eqv z (prD q)) ∘ prD) = fun p => decide (p = q) := funext fun p => eqv_pr p q
  rw [this]
  rw [Bool.eq_iff_iff, List.any_eq_true, List.contains_iff_mem]
  exact ⟨fun ⟨p, h1, h2⟩ => of_decide_eq_true h2 ▸ h1, fun h => ⟨q, h, decide_eq_true rfl⟩⟩
abbrev sAhead : Stmt := topS 9
section
variable {P : Program} {w : World} {K : PySem.W.Frag} {mg : Str → Option Value} {base : Heap}
theorem scAhead : FnScope ["hands", "pairs", "hand", "a"] ["hands", "pairs", "hand"] (defScope sAhead) := ⟨rfl, rfl, rfl, by decide +kernel, rfl, by decide +kernel, by decide +kernel⟩
def PrsOk (ps : List (Str × Str)) : Prop := ∀ x ∈ ps, PyData.strOk x.1 = true ∧ PyData.strOk x.2 = true
def spAhead : Sp := fun vs H Q _ => ∃ (a b : Addr) (xs : List Str) (us : List V) (ps : List (Str × Str)) (z : Str), vs = [.ref a, .ref b, .str z] ∧ H a = some (.lst (xs.map V.str)) ∧ LTu H b us ∧ PrsV H us ps ∧ (∀ x ∈ xs, PyData.strOk x = true) ∧ PyData.strOk z = true ∧ PrsOk ps ∧ xs.length ≤ 60 ∧
  ∀ (q : Addr) (H' : Hp), Same H H' → H' q = some (.lst ((aheadOf ps xs z).map V.str)) → Q (.ref q) H'
theorem LTu.dp {H : Hp} {b : Addr} {us : List V} {ps : List (Str × Str)} (h : LTu H b us) (r : PrsV H us ps) : Dp K H (.ref b) (.list (ps.map prD)) ∨ Dp K H (.ref b) (.tuple (ps.map prD)) := by
  rcases h with h | h
  · exact .inl (.lst (SqL.of h) r.dp)
  · exact .inr (.tup (.inl h) r.dp)
theorem ok_ahead {f : Addr} {fd : FuncData} (F : Fun K "told_ahead" "told_ahead" sAhead f fd) : FnOk P w K mg base CX0 1 f fd ["hands", "pairs", "hand"] spAhead := by
  refine F.ok scAhead (fun vs H Q E h => ?_) (fun cdv A outer s H vs Q E hr h => ?_)
  · obtain ⟨a, b, xs, us, ps, z, rfl, _⟩ := h
    rfl
  · obtain ⟨a, b, xs, us, ps, z, rfl, ha, hbl, hps, ok, okz, okp, hl, k⟩ := h
    have nd := scAhead.nd
    have hu65 : (A.deeper (envOfC "told_ahead" (defScope sAhead) s.heap.objs.size f cdv)).units + 65 < cLine := by
      have := hr.un
      omega
    refine ⟨_, pss_one (ps_ret (pe_lc (own := [("a", 3)]) (g := gName 3) (tt := tTest (tOp (rInDL K) (tTup (tCons (tVar 3) (tCons (tVar 2) tNil))) (tVar 1))) rfl nd (pi_list (pv 0))
          (blkOk_by (N := ["hands", "pairs", "hand", "a"]) (sc := defScope sAhead) (by decide +kernel)) (fun _ _ _ _ _ => pg_name (i := 3) nd rfl (Or.inl rfl))
          (fun _ _ _ _ _ => pts_one (pt_cmpR (op_inDL hu65) (pe_tup (pa_cons (pv 3) (pa_cons (pv 2) pa_nil))) (pv 1) (by rfl)))
          (fun _ _ _ _ _ => pv 3))), ?_⟩
    have shp : ∀ d ∈ ps.map prD, Shp d := fun d hd => by
      obtain ⟨y, q, rfl⟩ := List.mem_map.mp hd
      exact shp_pr (okp y q).1 (okp y q).2
    refine ⟨_, rfl, a, rfl, ⟨_, SqL.of ha⟩, fun D0 hD0 => ?_⟩
    refine lc_list (K := K) (a := a) (xs := xs.map V.str) (fun i H2 => Same H H2 ∧ H2 D0 = some (.lst (((xs.take i).filter fun x => ps.contains (x, z)).map V.str))) ⟨same_new hD0, upd_same⟩ (fun i H2 _ q => SqL.of (q.1 _ _ ha)) ?_ ?_
    · rintro i x H2 hx ⟨s2, e2⟩
      obtain ⟨b', hb, rfl, _⟩ := str_at hx
      have et : xs.take (i + 1) = xs.take i ++ [b'] := by rw [List.take_succ, hb]; rfl
      have hil := (List.getElem?_eq_some_iff.mp hb).1
      refine ⟨rfl, _, rfl, _, rfl, by show 2 ≤ sizeLine; decide, fun T hT => ?_⟩
      have sT : Same H2 (upd H2 T (.tup [.str b', .str z])) := same_new hT
      have s3 := s2.trans sT
      refine ⟨_, rfl, prD (b', z), ps.map prD, .tup (.inl (.inl upd_same)) (.cons (.str _) (.cons (.str _) .nil)), LTu.dp (hbl.same s3) (hps.same s3), shp_sh (shp_pr (ok _ (List.mem_of_getElem? hb)) okz), shp_l shp, shp_t shp, _, rfl, ?_⟩
      rw [any_pr]
      have e3 := sT _ _ e2
      rw [et, List.filter_append, List.map_append]
      by_cases q : ps.contains (b', z) = true
      · rw [q, List.filter_cons, if_pos q]
        refine iteT ⟨_, rfl, _, e3, ?_, same_mut s3 hD0, upd_same⟩
        rw [List.length_map]
        exact small1000 (Nat.le_trans (List.length_filter_le _ _) (by rw [List.length_take]; omega))
      · rw [Bool.eq_false_iff.mpr q, List.filter_cons, if_neg q]
        refine iteF ⟨s3, ?_⟩
        rw [e3]
        simp
    · rintro H2 ⟨s2, e2⟩
      rw [List.length_map, List.take_length] at e2
      exact k D0 H2 s2 e2
end
end Ah
set_option Elab.async false
set_option linter.all false
set_option maxRecDepth 100000
set_option maxHeartbeats 4000000
namespace Ah
open PySem PySem.Spec PyProof.Rows L2
abbrev sKnotted : Stmt := topS 8
section
variable {P : Program} {w : World} {K : PySem.W.Frag} {mg : Str → Option Value} {base : Heap}
theorem scKnotted : FnScope ["hands", "pairs", "left", "_", "b"] ["hands", "pairs"] (defScope sKnotted) := ⟨rfl, rfl, rfl, by decide +kernel, rfl, by decide +kernel, by decide +kernel⟩
def spKnotted : Sp := fun vs H Q _ => ∃ (a b : Addr) (xs : List Str) (us : List V) (ps : List (Str × Str)), vs = [.ref a, .ref b] ∧ LTu H a (xs.map V.str) ∧ LTu H b us ∧ PrsV H us ps ∧ (∀ x ∈ xs, PyData.strOk x = true) ∧ PrsOk ps ∧ xs.length ≤ 60 ∧
  ∀ (q : Addr) (ys : List Str) (H' : Hp), Same H H' → ys.Perm xs → sortedS ys = true → H' q = some (.lst ((Nat.repeat (peel ps) ys.length ys).map V.str)) → Q (.ref q) H'
theorem repeat_sub {α : Type} {f : List α → List α} (h : ∀ l, ∀ x ∈ f l, x ∈ l) (hl : ∀ l, (f l).length ≤ l.length) (l : List α) : ∀ n, (∀ x ∈ Nat.repeat f n l, x ∈ l) ∧ (Nat.repeat f n l).length ≤ l.length
  | 0 => ⟨fun _ z => z, Nat.le_refl _⟩
  | n + 1 => ⟨fun x z => (repeat_sub h hl l n).1 x (h _ x z), Nat.le_trans (hl _) (repeat_sub h hl l n).2⟩
/-- the truth of what told_ahead tells -/
def ttAhead (K : PySem.W.Frag) : TT := fun σ H Q => tCall spAhead [] E0 (tCons (tVar 2) (tCons (tVar 1) (tCons (tVar 4) tNil))) σ H fun x H' => ∃ k, TruV K x H' k ∧ Q k H'
theorem ok_knotted {f f1 : Addr} {fd fd1 : FuncData} (F : Fun K "knotted_hands" "knotted_hands" sKnotted f fd) (B : Blt2 mg) (D : Df P w K mg base CX0 "told_ahead" 1 f1 fd1 ["hands", "pairs", "hand"] spAhead) : FnOk P w K mg base CX0 2 f fd ["hands", "pairs"] spKnotted := by
  refine F.ok scKnotted (fun vs H Q E h => ?_) (fun cdv A outer s H vs Q E hr h => ?_)
  · obtain ⟨a, b, xs, us, ps, rfl, _⟩ := h
    rfl
  · obtain ⟨a, b, xs, us, ps, rfl, ha, hbl, hps, ok, okp, hl, k⟩ := h
    have nd := scKnotted.nd
    refine ⟨_, pss_cons (ps_set (i := 2) nd rfl (.inr rfl) (pe_callB cr_sortedTS (by rfl) B.sorted (by decide +kernel) (pa_cons (pv 0) pa_nil)))
      (pss_cons (ps_for PassesOwn.never rfl (pi_range1 rfl B.range (pa_cons (pe_callB call_len_seq (by rfl) B.len PySem.boot_len (pa_cons (pv 2) pa_nil)) pa_nil)) (pg_name (i := 3) nd rfl (.inl rfl))
        (pss_one (ps_set (i := 2) nd rfl (.inr rfl) (pe_lc (own := [("b", 4)]) (g := gName 4) (tt := ttAhead K) rfl nd (pi_list (pv 2))
          (blkOk_by (N := ["hands", "pairs", "left", "_", "b"]) (sc := defScope sKnotted) (by decide +kernel)) (fun _ _ _ _ _ => pg_name (i := 4) nd rfl (Or.inl rfl))
          (fun _ _ _ _ _ => pts_one (show PT _ _ (ttAhead K) from pt_truth (pe_call D.ok hr rfl D.g D.kp D.b .nil pass0 (pa_cons (pv 2) (pa_cons (pv 1) (pa_cons (pv 4) pa_nil)))) (by intro _; rfl)))
          (fun _ _ _ _ _ => pv 4)))))
      (pss_one (ps_ret (pv 2)))), ?_⟩
    refine ⟨_, rfl, a, xs, rfl, ha.sq, by omega, fun ys c py sy hc => ?_⟩
    have sc : Same H (upd H c (.lst (ys.map V.str))) := same_new hc
    have e1 : (upd H c (.lst (ys.map V.str))) c = some (.lst (ys.map V.str)) := upd_same
    generalize upd H c (.lst (ys.map V.str)) = H1 at sc e1 ⊢
    have ly := py.length_eq
    have lm : (ys.map V.str).length = ys.length := List.length_map ..
    refine ⟨_, rfl, c, ys.map V.str, rfl, .inl (SqL.of e1), _, rfl, by omega, by omega, ?_⟩
    rw [Int.toNat_natCast, lm]
    have rs := repeat_sub (f := peel ps) (fun l x z => (List.mem_filter.mp z).1) (fun l => List.length_filter_le _ _) ys
    refine for_range (lo := 0) (n := ys.length) (fun i σ H2 => ∃ (o3 : Option V) (d : Addr), σ = [some (.ref a), some (.ref b), some (.ref d), o3, none] ∧ Same H H2 ∧ H2 d = some (.lst ((Nat.repeat (peel ps) i ys).map V.str))) ⟨none, c, rfl, sc, e1⟩ ?_ ?_
    · rintro i σ H2 hi ⟨o3, d, rfl, s2, e2⟩
      refine ⟨_, rfl, d, rfl, ⟨_, SqL.of e2⟩, fun D0 hD0 => ?_⟩
      have hrs := rs i
      generalize hls : Nat.repeat (peel ps) i ys = ls at e2 hrs
      have okl : ∀ x ∈ ls, PyData.strOk x = true := fun x z => ok x (py.mem_iff.mp (hrs.1 x z))
      refine lc_list (K := K) (a := d) (xs := ls.map V.str) (fun j H3 => Same H2 H3 ∧ H3 D0 = some (.lst (((ls.take j).filter fun x => !(aheadOf ps ls x).isEmpty).map V.str))) ⟨same_new hD0, upd_same⟩ (fun j H3 _ q => SqL.of (q.1 _ _ e2)) ?_ ?_
      · rintro j x H3 hx ⟨s3, e3⟩
        obtain ⟨b', hb, rfl, _⟩ := str_at hx
        have et : ls.take (j + 1) = ls.take j ++ [b'] := by rw [List.take_succ, hb]; rfl
        have hil := (List.getElem?_eq_some_iff.mp hb).1
        have s23 := s2.trans s3
        refine ⟨rfl, _, rfl, _, rfl, _, rfl, d, b, ls, us, ps, b', rfl, s3 _ _ e2, hbl.same s23, hps.same s23, okl, okl _ (List.mem_of_getElem? hb), okp, by omega, fun q H4 s4 e4 => ?_⟩
        refine ⟨_, .inl ⟨_, SqL.of e4, rfl⟩, ?_⟩
        have e3' := s4 _ _ e3
        rw [et, List.filter_append, List.map_append, List.isEmpty_map]
        by_cases q : (!(aheadOf ps ls b').isEmpty) = true
        · rw [q, List.filter_cons, if_pos q]
          refine iteT ⟨_, rfl, _, e3', ?_, same_mut (s3.trans s4) hD0, upd_same⟩
          rw [List.length_map]
          exact small1000 (Nat.le_trans (List.length_filter_le _ _) (by rw [List.length_take]; omega))
        · rw [Bool.eq_false_iff.mpr q, List.filter_cons, if_neg q]
          refine iteF ⟨s3.trans s4, ?_⟩
          rw [e3']
          simp
      · rintro H3 ⟨s3, e3⟩
        rw [List.length_map, List.take_length] at e3
        exact ⟨_, D0, rfl, s2.trans s3, by
          show H3 D0 = some (.lst ((peel ps (Nat.repeat (peel ps) i ys)).map V.str))
          rw [hls]
          exact e3⟩
    · rintro σ H2 ⟨o3, d, rfl, s2, e2⟩
      exact ⟨_, rfl, k d ys H2 s2 py sy e2⟩
end
end Ah
set_option Elab.async false
set_option linter.all false
set_option maxRecDepth 100000
set_option maxHeartbeats 4000000
namespace Ah
open PySem PySem.Spec PyProof.Rows L2
abbrev sIsPair : Stmt := topS 6
theorem inV_txts (x : Str) (xs : List Str) : inV (.str x) (xs.map V.str) = decide (x ∈ xs) := by
  unfold inV
  induction xs with
  | nil => rfl
  | cons y r ih =>
    rw [List.map_cons, List.any_cons, ih]
    by_cases h : y = x
    · subst h
      have : eqV (V.str y) (V.str y) = true := by simp [eqV]
      rw [this]
      simp
    · have : eqV (V.str y) (V.str x) = false := by simp [eqV, h]
      rw [this, Bool.false_or]
      have h' : ¬ x = y := fun e => h e.symm
      simp [List.mem_cons, h']
section
variable {P : Program} {w : World} {K : PySem.W.Frag} {mg : Str → Option Value} {base : Heap}
theorem scIsPair : FnScope ["hands", "thing", "a", "b"] ["hands", "thing"] (defScope sIsPair) := ⟨rfl, rfl, rfl, by decide +kernel, rfl, by decide +kernel, by decide +kernel⟩
/-- of a pair of texts -/
def spIsPair : Sp := fun vs H Q _ => ∃ (g : Addr) (v : V) (hs : List Str) (q : Str × Str), vs = [.ref g, v] ∧ LTu H g (hs.map V.str) ∧ PrV H v q ∧ Q (.bl (decide (q.1 ∈ hs ∧ q.2 ∈ hs ∧ q.1 ≠ q.2))) H
theorem ok_isPair {f : Addr} {fd : FuncData} (F : Fun K "is_pair" "is_pair" sIsPair f fd) (B : Blt2 mg) : FnOk P w K mg base CX0 1 f fd ["hands", "thing"] spIsPair := by
  refine F.ok scIsPair (fun vs H Q E h => ?_) (fun cdv A outer s H vs Q E hr h => ?_)
  · obtain ⟨g, v, hs, q, rfl, _⟩ := h
    rfl
  · obtain ⟨g, v, hs, q, rfl, hg, ⟨T, rfl, hT⟩, k⟩ := h
    have nd := scIsPair.nd
    refine ⟨_, pss_cons (ps_if (PW.pt (pw_or (pt_not (pt_val (pe_callB call_isi (by rfl) B.isinstance (by decide +kernel) (pa_cons (pv 1) (pa_cons (pe_bltn (v := .ty "tuple") (by rfl) B.tuple (by decide +kernel) rfl) pa_nil)))))
          (pw_or1 (pt_cmpR op_ne (pe_callB call_len_seq (by rfl) B.len PySem.boot_len (pa_cons (pv 1) pa_nil)) pe_int (nomark _))))) (pss_one (ps_ret pe_bl)) pss_nil)
      (pss_cons (ps_asg (pv 1) (pg_tup rfl (pgs_cons (pg_name (i := 2) nd rfl (.inl rfl)) (pgs_cons (pg_name (i := 3) nd rfl (.inl rfl)) pgs_nil))))
      (pss_one (ps_ret (pe_and (pe_cmpR (r := rIn K false) op_in_seq (pv 2) (pv 0) (by rfl)) (pe_and (pe_cmpR (r := rIn K false) op_in_seq (pv 3) (pv 0) (by rfl)) (pe_one (pe_cmpR op_ne (pv 2) (pv 3) (nomark _)))))))), ?_⟩
    have hTr : Rd H T (.tup [.str q.1, .str q.2]) := .inl hT
    refine ⟨_, rfl, .ref T, .ty "tuple", _, _, true, rfl, .ty "tuple", ty_tup hTr, kit_ty (by decide +kernel), _, rfl, ?_⟩
    refine iteF ⟨_, rfl, T, _, rfl, .inr (.inl hTr), rfl, _, rfl, ?_⟩
    refine iteF ⟨_, rfl, T, _, rfl, .inl (.inl hT), rfl, _, _, rfl, ?_⟩
    refine ⟨_, _, rfl, rfl, ?_⟩
    refine ⟨_, rfl, _, rfl, g, _, rfl, hg.sq, rfl, flat_strs hs, _, rfl, ?_⟩
    rw [if_neg Bool.false_ne_true, inV_txts]
    have kF : ¬ (q.1 ∈ hs ∧ q.2 ∈ hs ∧ q.1 ≠ q.2) → Q (.bl false) H := fun z => by
      rw [decide_eq_false z] at k
      exact k
    by_cases h1 : q.1 ∈ hs
    · rw [decide_eq_true h1]
      refine iteT ⟨_, rfl, _, rfl, g, _, rfl, hg.sq, rfl, flat_strs hs, _, rfl, ?_⟩
      rw [if_neg Bool.false_ne_true, inV_txts]
      by_cases h2 : q.2 ∈ hs
      · rw [decide_eq_true h2]
        refine iteT ⟨_, rfl, _, rfl, rfl, ?_⟩
        by_cases h3 : q.1 = q.2
        · rw [decide_eq_true (congrArg V.str h3)]
          exact kF fun z => z.2.2 h3
        · rw [decide_eq_false fun z => h3 (V.str.inj z)]
          rw [decide_eq_true (show q.1 ∈ hs ∧ q.2 ∈ hs ∧ q.1 ≠ q.2 from ⟨h1, h2, h3⟩)] at k
          exact k
      · rw [decide_eq_false h2]
        exact iteF (kF fun z => h2 z.2.1)
    · rw [decide_eq_false h1]
      exact iteF (kF fun z => h1 z.1)
end
end Ah
set_option Elab.async false
set_option linter.all false
set_option maxRecDepth 100000
set_option maxHeartbeats 4000000
namespace Ah
open PySem PySem.Spec PyProof.Rows L2
open PySem.W (dataLt alike)
/-- x < y, alike data -/
def rLtD (K : PySem.W.Frag) : R2 := fun x y H Q => ∃ d e, Dp K H x d ∧ Dp K H y e ∧ alike d e = true ∧ d ≠ .none ∧ d.depth ≤ 60 ∧ Q (.bl (dataLt d e)) H
theorem op_ltD {X : Cx} (hu : X.A.units + 65 < cLine) : OpR X (compareOp .Lt) (rLtD X.K) := by
  intro pins s σ H x y v u Q I rx ry h
  obtain ⟨d, e, hd, he, al, nn, dp, q⟩ := h
  obtain ⟨as, r1⟩ := Dp.reads I d x v hd rx
  obtain ⟨bs, r2⟩ := Dp.reads I e y u he ry
  exact PySem.W.lt_data r1 r2 al nn (by omega) ⟨.bl _, H, I, rfl, q⟩
abbrev sRising : Stmt := topS 3
theorem pr_alike (p q : Str × Str) : alike (prD p) (prD q) = true := prs_alike [p, q] _ (by simp) _ (by simp)
section
variable {P : Program} {w : World} {K : PySem.W.Frag} {mg : Str → Option Value} {base : Heap}
theorem scRising : FnScope ["things", "k"] ["things"] (defScope sRising) := ⟨rfl, rfl, rfl, by decide +kernel, rfl, by decide +kernel, by decide +kernel⟩
/-- of a rising tuple of pairs -/
def spRising : Sp := fun vs H Q _ => ∃ (t : Addr) (us : List V) (ps : List (Str × Str)), vs = [.ref t] ∧ Rd H t (.tup us) ∧ PrsV H us ps ∧ ps.Pairwise pLt ∧ ps.length ≤ 900 ∧ ∀ H', Same H H' → Q (.bl true) H'
theorem ok_rising {f : Addr} {fd : FuncData} (F : Fun K "is_rising" "is_rising" sRising f fd) (B : Blt2 mg) : FnOk P w K mg base CX0 1 f fd ["things"] spRising := by
  refine F.ok scRising (fun vs H Q E h => ?_) (fun cdv A outer s H vs Q E hr h => ?_)
  · obtain ⟨t, us, ps, rfl, _⟩ := h
    rfl
  · obtain ⟨t, us, ps, rfl, ht, hps, hp, hl, k⟩ := h
    have nd := scRising.nd
    have hu65 : (A.deeper (envOfC "is_rising" (defScope sRising) s.heap.objs.size f cdv)).units + 65 < cLine := by
      have := hr.un
      omega
    refine ⟨_, pss_one (ps_ret (pe_callB (cr_all rfl) (by rfl) B.all (by decide +kernel) (pa_cons (pe_lc (own := [("k", 1)]) (g := gName 1) (tt := tYes) (te := tOp (rLtD K) (tOp (rIxT K) (tVar 0) (tOp (rI0 fun i j => .int (i - j)) (tVar 1) (tC (.int 1)))) (tOp (rIxT K) (tVar 0) (tVar 1))) rfl nd
        (pi_range2 rfl B.range (pa_cons pe_int (pa_cons (pe_callB call_len_seq (by rfl) B.len PySem.boot_len (pa_cons (pv 0) pa_nil)) pa_nil))) (blkOk_by (N := ["things", "k"]) (sc := defScope sRising) (by decide +kernel))
        (fun _ _ _ _ _ => pg_name (i := 1) nd rfl (Or.inl rfl)) (fun _ _ _ _ _ => pts_nil)
        (fun _ _ _ _ _ => pe_cmpR (op_ltD hu65) (pe_ix (r := rIxT K) ix_tup (pv 0) (pe_op op_sub (pv 1) pe_int) (fun _ _ => rfl)) (pe_ix (r := rIxT K) ix_tup (pv 0) (pv 1) (fun _ _ => rfl)) (nomark _))) pa_nil))), ?_⟩
    have lu := hps.len
    refine ⟨_, rfl, t, us, rfl, .inr (.inl ht), _, _, rfl, by omega, fun D0 hD0 => ?_⟩
    refine lc_range (lo := 1) (n := ((us.length : Int) - 1).toNat) (fun i H2 => Same H H2 ∧ H2 D0 = some (.lst ((List.replicate i true).map V.bl))) ⟨same_new hD0, upd_same⟩ ?_ ?_
    · rintro i H2 hi ⟨s2, e2⟩
      have g0 : us[i]? = some us[i] := List.getElem?_eq_getElem (by omega)
      have g1 : us[i + 1]? = some us[i + 1] := List.getElem?_eq_getElem (by omega)
      obtain ⟨x, hx, vx⟩ := hps.get g0
      obtain ⟨y, hy, vy⟩ := hps.get g1
      have lt : pLt x y := by
        obtain ⟨h0, rfl⟩ := List.getElem?_eq_some_iff.mp hx
        obtain ⟨h1, rfl⟩ := List.getElem?_eq_some_iff.mp hy
        exact List.pairwise_iff_getElem.mp hp i (i + 1) h0 h1 (by omega)
      have ht2 := rd_same s2 ht
      have dx : Dp K H2 us[i] (prD x) := by
        obtain ⟨T, e, hT⟩ := vx.same s2
        rw [e]
        exact .tup (.inl (.inl hT)) (.cons (.str _) (.cons (.str _) .nil))
      have dy : Dp K H2 us[i + 1] (prD y) := by
        obtain ⟨T, e, hT⟩ := vy.same s2
        rw [e]
        exact .tup (.inl (.inl hT)) (.cons (.str _) (.cons (.str _) .nil))
      have i0 : (1 : Int) + (i : Int) - 1 = ((i : Nat) : Int) := by omega
      have i1 : (1 : Int) + (i : Int) = ((i + 1 : Nat) : Int) := by omega
      refine ⟨rfl, _, rfl, _, rfl, _, _, rfl, rfl, t, us, _, _, rfl, rfl, .inl ht2, (by rw [i0]; exact atI_nat g0), _, rfl, _, rfl, t, us, _, _, rfl, rfl, .inl ht2, (by rw [i1]; exact atI_nat g1), prD x, prD y, dx, dy, pr_alike x y, (fun z => by cases z), ?_, ?_⟩
      · exact prs_depth [x] _ (by simp)
      · rw [dataLt_pr, decide_eq_true lt]
        refine ⟨_, e2, ?_, same_mut s2 hD0, ?_⟩
        · rw [List.length_map, List.length_replicate]
          exact small1000 (by omega)
        · rw [upd_same, List.replicate_succ', List.map_append]
          rfl
    · rintro H2 ⟨s2, e2⟩
      refine ⟨D0, _, rfl, SqL.of e2, ?_⟩
      rw [List.all_replicate]
      have := k H2 s2
      split
      · exact this
      · exact this
end
end Ah

set_option Elab.async false
set_option linter.all false
set_option maxRecDepth 100000
set_option maxHeartbeats 4000000
/-! sets of texts that can be gone through -/
namespace Ah
open PySem PySem.Spec PyProof.Rows L2
def keyT (e : Int × Value) : Str := match e.2 with
  | .str k _ => k
  | _ => Str.empty
def GoodT (P : Program) (w : World) (e : Int × Value) : Prop := ∃ k tk, e.2 = Value.str k tk ∧ e.1 = (PySem.strKind P w).hash k
/-- the set of texts at a: its members, their number; its table rises -/
def SetRT (P : Program) (w : World) (h : Heap) (a : Addr) (S : Str → Bool) (n : Nat) : Prop :=
  ∃ o els ep tb, h.get? a = some o ∧ o.ExactSet ∧ o.data = .set els ep tb ∧ (∀ e ∈ els.toList, GoodT P w e) ∧ (els.toList.map keyT).Nodup ∧ (∀ k, S k = true ↔ k ∈ els.toList.map keyT) ∧ els.size < scanBound ∧ tb.fits els.size = true ∧ els.size = n ∧ Ris tb.place.toList ∧
    (w.params.followText "set-order" = true ∨ tb.led = true)
section
variable {P : Program} {w : World} {h h' : Heap} {a : Addr} {S : Str → Bool} {n : Nat}
theorem SetRT.at (R : SetRT P w h a S n) (k : ∀ o, h.get? a = some o → h'.get? a = some o) : SetRT P w h' a S n := by
  obtain ⟨o, els, ep, tb, at0, r⟩ := R
  exact ⟨o, els, ep, tb, k o at0, r⟩
theorem SetRT.to {S' : Str → Bool} {m : Nat} (R : SetRT P w h a S n) (e : ∀ k, S k = S' k) (hm : n = m) : SetRT P w h a S' m := by
  subst hm
  rw [← funext e]
  exact R
theorem goodT_elems {l : List (Int × Value)} (gd : ∀ e ∈ l, GoodT P w e) : ElemsOf (PySem.strKind P w) l := fun e he => by
  obtain ⟨k, tk, e1, e2⟩ := gd e he
  exact ⟨⟨k, by rw [e1]; exact strKind_is P w k tk, e2⟩, by rw [e1]; rfl⟩
theorem goodT_is {e : Int × Value} (gd : GoodT P w e) (k : Str) : (PySem.strKind P w).is k e.2 = true ↔ keyT e = k := by
  obtain ⟨k0, tk, e1, _⟩ := gd
  have e2 : keyT e = k0 := by unfold keyT; rw [e1]
  rw [e2, e1]
  show ((Value.str k0 tk).isStrOf k = true) ↔ k0 = k
  simp [Value.isStrOf]
theorem goodT_mem {l : List (Int × Value)} (gd : ∀ e ∈ l, GoodT P w e) (k : Str) : k ∈ l.map keyT ↔ ∃ e ∈ l, (PySem.strKind P w).is k e.2 = true := by
  rw [List.mem_map]
  exact ⟨fun ⟨e, he, q⟩ => ⟨e, he, (goodT_is (gd e he) k).2 q⟩, fun ⟨e, he, q⟩ => ⟨e, he, (goodT_is (gd e he) k).1 q⟩⟩
theorem setRT_new (ho : h.get? a = some { cls := .type "set", dict := none, data := .set #[] 0 (.fresh 0 0 (!w.params.followText "set-order")) }) : SetRT P w h a (fun _ => false) 0 :=
  ⟨_, #[], 0, _, ho, ⟨rfl, rfl, rfl⟩, rfl, (fun e he => by simp at he), (by simp), (fun k => by simp), (by decide), (by rfl), rfl, List.Pairwise.nil, by
    show w.params.followText _ = true ∨ (!w.params.followText _) = true
    cases w.params.followText "set-order"
    · exact .inr rfl
    · exact .inl rfl⟩
end
section
variable {P : Program} {w : World} {A : Around} {E : Value → Shared → Prop} {s : Shared} {a : Addr} {S : Str → Bool} {n : Nat}
theorem setRT_tail {gd : Bool → Sem Unit} (gok : ∀ (b : Bool) (s₁ : Shared) (Q' : Unit → Shared → Prop), Q' () s₁ → wpAny (model P w) A (gd b) Q' E s₁)
    {o : Obj} {els : Array (Int × Value)} {ep : Nat} {tb : SetTable} (at0 : s.heap.get? a = some o) (exa : o.ExactSet) (dat : o.data = .set els ep tb)
    {els1 : Array (Int × Value)} {tb2 : SetTable} {S' : Str → Bool} (gd1 : ∀ e ∈ els1.toList, GoodT P w e) (apt1 : (els1.toList.map keyT).Nodup) (mem1 : ∀ k, S' k = true ↔ k ∈ els1.toList.map keyT)
    (few1 : els1.size < scanBound) (fit2 : tb2.fits els1.size = true) (ris : Ris tb2.place.toList) (led0 : w.params.followText "set-order" = true ∨ tb2.led = true) {dum : Bool} {R : Option Bool → Shared → Prop}
    (kR : ∀ h', Heap.SameBut a s.heap h' → SetRT P w h' a S' els1.size → R (some true) { s with heap := h' }) :
    wpAny (model P w) A (do
        storeSet a els1 tb2
        if (!dum && tb2.tooFull) = true then do
            gd (relayAll tb2 els1 (SetTable.grown els1.size)).2.2
            storeSet a (relayAll tb2 els1 (SetTable.grown els1.size)).1 (relayAll tb2 els1 (SetTable.grown els1.size)).2.1
            pure (some true)
          else pure (some true)) R E s := by
  refine wpAny_bind (wpAny_storeSet_of at0 dat ?_ (fits_of_scanBound few1))
  have at1 := store_at (es' := els1) (t' := tb2) at0 dat
  have but1 := Heap.SameBut.update s.heap a (Obj.putSet els1 tb2)
  split
  · have per := relayAll_perm tb2 els1 (SetTable.grown els1.size)
    have fit3 := relayAll_fits tb2 els1 (SetTable.grown els1.size)
    have ris3 := relayAll_ris tb2 els1 (SetTable.grown els1.size)
    have led3 := relayAll_led tb2 els1 (SetTable.grown els1.size)
    generalize relayAll tb2 els1 (SetTable.grown els1.size) = Z at per fit3 ris3 led3 ⊢
    obtain ⟨els2, tb3, gav⟩ := Z
    dsimp only at per fit3 ris3 led3 ⊢
    have siz : els2.size = els1.size := by rw [← Array.length_toList, per.length_eq, Array.length_toList]
    have few2 : els2.size < scanBound := by rw [siz]; exact few1
    refine wpAny_bind (gok _ _ _ ?_)
    refine wpAny_bind (wpAny_storeSet_of at1 rfl ?_ (fits_of_scanBound few2))
    have at2 := store_at (es' := els2) (t' := tb3) at1 rfl
    refine wpAny_pure (kR _ (but1.trans (Heap.SameBut.update _ a _)) ?_)
    exact ⟨_, els2, _, tb3, at2, exa, rfl, fun e he => gd1 e (per.mem_iff.mp he), (per.map keyT).nodup_iff.mpr apt1, fun k => (mem1 k).trans (per.map keyT).mem_iff.symm, few2, fit3, siz, ris3,
      led0.imp id fun z => by rw [led3]; exact z⟩
  · exact wpAny_pure (kR _ but1 ⟨_, els1, _, tb2, at1, exa, rfl, gd1, apt1, mem1, few1, fit2, rfl, ris, led0⟩)

theorem setRT_add {k : Str} {tk : Tok} {Q : Bool → Shared → Prop} (R : SetRT P w s.heap a S n) (room : n + 1 < scanBound)
    (kQ : ∀ h', Heap.SameBut a s.heap h' → SetRT P w h' a (fun j => S j || decide (j = k)) (if S k = true then n else n + 1) → Q (!S k) { s with heap := h' }) :
    wpAny (model P w) A (setAddHashed a (.str k tk) ((PySem.strKind P w).hash k)) Q E s := by
  obtain ⟨o, els, ep, tb, at0, exa, dat, gd, apt, mem, few, fit, cnt, ris, led0⟩ := R
  have iskey : (PySem.strKind P w).is k (.str k tk) = true := strKind_is P w k tk
  have sca : (Value.str k tk).scannable = true := rfl
  have elem : ElemsOf (PySem.strKind P w) els.toList := goodT_elems gd
  unfold setAddHashed setAddHashedIn
  refine wpAny_holding (wpAny_bind (wpAny_setState_of at0 dat fit ?_))
  dsimp only
  rw [byScan_of sca few elem]
  simp only [↓reduceIte]
  unfold setAddByScan
  refine wpAny_bind ?_
  refine wpAny_bind (wpAny_rule ?_)
  refine wpAny_bind (wpAny_setScan_of iskey at0 dat fit elem ?_)
  cases fnd : List.findIdx? (fun e => (PySem.strKind P w).is k e.2) els.toList with
  | some j =>
    dsimp only
    obtain ⟨hj, pj, _⟩ := List.findIdx?_eq_some_iff_getElem.mp fnd
    have isk : S k = true := (mem k).2 ((goodT_mem (P := P) (w := w) gd k).2 ⟨els.toList[j], List.getElem_mem hj, pj⟩)
    refine wpAny_pure (wpAny_pure ?_)
    have q := kQ s.heap (Heap.SameBut.refl a s.heap) ⟨o, els, ep, tb, at0, exa, dat, gd, apt, fun i => by
      rw [Bool.or_eq_true, decide_eq_true_eq, ← mem i]
      exact ⟨fun z => z.elim id (fun e => e ▸ isk), .inl⟩, few, fit, by rw [if_pos isk]; exact cnt, ris, led0⟩
    rw [isk] at q
    exact q
  | none =>
    dsimp only
    have nok : k ∉ els.toList.map keyT := fun z => by
      obtain ⟨e, he, q⟩ := (goodT_mem (P := P) (w := w) gd k).1 z
      have c := List.findIdx?_eq_none_iff.mp fnd e he
      rw [q] at c
      cases c
    have isk : S k = false := by
      cases q : S k with
      | false => rfl
      | true => exact absurd ((mem k).1 q) nok
    have way : ∀ (b : Bool) {s₁ : Shared} {Q' : Unit → Shared → Prop}, Q' () s₁ → wpAny (model P w) A (match b with | true => rule "set.scan.the-table-gave-way" | false => pure ()) Q' E s₁ :=
      fun b s₁ Q' q => by cases b <;> first | exact wpAny_pure q | exact wpAny_rule q
    have per := layNew_perm tb els ((PySem.strKind P w).hash k) (.str k tk)
    have fit1 := layNew_fits tb els ((PySem.strKind P w).hash k) (.str k tk)
    have ris1 := layNew_ris tb els ((PySem.strKind P w).hash k) (.str k tk) ris
    have led1 := layNew_led tb els ((PySem.strKind P w).hash k) (.str k tk)
    generalize layNew tb els ((PySem.strKind P w).hash k) (.str k tk) = Z at per fit1 ris1 led1 ⊢
    obtain ⟨els1, tb1, dum, gav⟩ := Z
    dsimp only at per fit1 ris1 led1 ⊢
    rw [Array.toList_push] at per
    have perc : els1.toList.Perm (((PySem.strKind P w).hash k, Value.str k tk) :: els.toList) := per.trans (List.perm_append_singleton _ _)
    have perk : (els1.toList.map keyT).Perm (k :: els.toList.map keyT) := perc.map keyT
    have gd1 : ∀ e ∈ els1.toList, GoodT P w e := fun e he => by
      rcases List.mem_cons.mp (perc.mem_iff.mp he) with z | z
      · rw [z]; exact ⟨k, tk, rfl, rfl⟩
      · exact gd e z
    have apt1 : (els1.toList.map keyT).Nodup := perk.nodup_iff.mpr (List.nodup_cons.mpr ⟨nok, apt⟩)
    have mem1 : ∀ i, (S i || decide (i = k)) = true ↔ i ∈ els1.toList.map keyT := fun i => by
      rw [Bool.or_eq_true, decide_eq_true_eq, mem i, perk.mem_iff, List.mem_cons]
      exact Or.comm
    have siz : els1.size = n + 1 := by rw [← Array.length_toList, perc.length_eq, List.length_cons, Array.length_toList, cnt]
    have few1 : els1.size < scanBound := by rw [siz]; exact room
    have ledd : w.params.followText "set-order" = true ∨ tb1.led = true := led0.imp id fun z => by rw [led1]; exact z
    have end_ : ∀ h', Heap.SameBut a s.heap h' → SetRT P w h' a (fun j => S j || decide (j = k)) els1.size → Q true { s with heap := h' } := fun h' but r => by
      have q := kQ h' but
      rw [isk] at q
      rw [siz] at r
      exact q r
    refine wpAny_bind (way _ ?_)
    split
    · refine wpAny_bind ?_
      rw [hashByValue_scannable 8 sca]
      refine wpAny_pure ?_
      refine setRT_tail ?_ at0 exa dat gd1 apt1 mem1 few1 ?_ ?_ ?_ ?_
      · intro b s₁ Q' q; cases b <;> first | exact wpAny_pure q | exact wpAny_rule q
      · first | (split <;> first | exact fit1 | exact SetTable.fits_plain_off fit1) | exact fit1
      · first | (split <;> exact ris1) | exact ris1
      · first | (split <;> exact ledd) | exact ledd
      · intro h' but r; dsimp only; exact wpAny_pure (end_ h' but r)
    · refine wpAny_bind (wpAny_pure ?_)
      simp only [↓reduceIte]
      refine setRT_tail ?_ at0 exa dat gd1 apt1 mem1 few1 fit1 ris1 ledd ?_
      · intro b s₁ Q' q; cases b <;> first | exact wpAny_pure q | exact wpAny_rule q
      · intro h' but r; dsimp only; exact wpAny_pure (end_ h' but r)
end
end Ah
set_option Elab.async false
set_option linter.all false
set_option maxRecDepth 100000
set_option maxHeartbeats 4000000
/-! set(xs) of texts, any number of them below the scan's bound: its members, its size -/
namespace Ah
open PySem PySem.Spec PyProof.Rows L2
/-- the unlike ones among the first i, as they come -/
def fmt (xs : List Str) : Nat → List Str
  | 0 => []
  | i + 1 => if xs.getD i Str.empty ∈ fmt xs i then fmt xs i else fmt xs i ++ [xs.getD i Str.empty]
theorem fmt_le (xs : List Str) : ∀ i, (fmt xs i).length ≤ i
  | 0 => Nat.le_refl 0
  | i + 1 => by
    have h := fmt_le xs i
    show (if _ then _ else _ : List Str).length ≤ i + 1
    split
    · omega
    · rw [List.length_append, List.length_singleton]
      omega
theorem fmt_mem (xs : List Str) : ∀ i, i ≤ xs.length → ∀ x, x ∈ fmt xs i ↔ x ∈ xs.take i
  | 0, _, x => by simp [fmt]
  | i + 1, hi, x => by
    have ih := fmt_mem xs i (Nat.le_of_succ_le hi)
    have e : xs.getD i Str.empty = xs[i]'hi := by rw [List.getD_eq_getElem?_getD, List.getElem?_eq_getElem hi]; rfl
    rw [List.take_succ, List.getElem?_eq_getElem hi, List.mem_append, ← ih x]
    show x ∈ (if _ then _ else _ : List Str) ↔ _
    rw [e]
    split
    · rename_i hm
      constructor
      · exact fun h => .inl h
      · rintro (h | h)
        · exact h
        · rw [Option.toList_some, List.mem_singleton] at h
          rw [h]
          exact hm
    · rw [List.mem_append, Option.toList_some]
theorem fmt_nodup (xs : List Str) : ∀ i, (fmt xs i).Nodup
  | 0 => List.nodup_nil
  | i + 1 => by
    show (if _ then _ else _ : List Str).Nodup
    split
    · exact fmt_nodup xs i
    · rename_i hm
      rw [List.nodup_append]
      refine ⟨fmt_nodup xs i, by simp, fun a ha b hb => ?_⟩
      rw [List.mem_singleton] at hb
      rintro rfl
      rw [hb] at ha
      exact hm ha
theorem fmt_full {xs : List Str} (h : xs.Nodup) : ∀ i, i ≤ xs.length → fmt xs i = xs.take i
  | 0, _ => by simp [fmt]
  | i + 1, hi => by
    have e : xs.getD i Str.empty = xs[i]'hi := by rw [List.getD_eq_getElem?_getD, List.getElem?_eq_getElem hi]; rfl
    show (if _ then _ else _ : List Str) = _
    rw [e, fmt_full h i (Nat.le_of_succ_le hi), if_neg, List.take_succ, List.getElem?_eq_getElem hi]
    · rfl
    · intro hm
      obtain ⟨j, hj, ej⟩ := List.getElem_of_mem hm
      rw [List.length_take] at hj
      rw [List.getElem_take] at ej
      exact absurd ej (List.pairwise_iff_getElem.mp h j i (by omega) hi (by omega))
/-- as many unlike ones as there are: just where all are unlike -/
theorem fmt_eq {xs : List Str} : (fmt xs xs.length).length = xs.length ↔ xs.Nodup := by
  constructor
  · intro h
    have key : ∀ i, i ≤ xs.length → (fmt xs i).length = i := by
      intro i hi
      have mono : ∀ k, (fmt xs (i + k)).length ≤ (fmt xs i).length + k := by
        intro k
        induction k with
        | zero => exact Nat.le_refl _
        | succ k ih =>
          show (if _ then _ else _ : List Str).length ≤ _
          split
          · exact Nat.le_trans ih (by omega)
          · have q : (fmt xs (i.add k)).length ≤ (fmt xs i).length + k := ih
            rw [List.length_append, List.length_singleton]
            omega
      have m := mono (xs.length - i)
      rw [show i + (xs.length - i) = xs.length by omega, h] at m
      have := fmt_le xs i
      omega
    refine List.pairwise_iff_getElem.mpr fun i j hi hj hij e => ?_
    have h1 := key j (Nat.le_of_lt hj)
    have h2 := key (j + 1) hj
    have ed : xs.getD j Str.empty = xs[j] := by rw [List.getD_eq_getElem?_getD, List.getElem?_eq_getElem hj]; rfl
    have hm : xs.getD j Str.empty ∈ fmt xs j := by
      rw [fmt_mem xs j (Nat.le_of_lt hj), ed, ← e]
      exact List.mem_iff_getElem.mpr ⟨i, by rw [List.length_take]; omega, List.getElem_take⟩
    have h3 : fmt xs (j + 1) = fmt xs j := if_pos hm
    rw [h3, h1] at h2
    omega
  · intro h
    rw [fmt_full h _ (Nat.le_refl _), List.take_length]
theorem any_step (l : List Str) (v k : Str) : (l.any (· == k) || decide (k = v)) = (if v ∈ l then l else l ++ [v]).any (· == k) := by
  split
  · rename_i hm
    by_cases e : k = v
    · subst e
      have : l.any (· == k) = true := List.any_eq_true.mpr ⟨k, hm, beq_self_eq_true k⟩
      rw [this]
      rfl
    · rw [decide_eq_false e, Bool.or_false]
  · rw [List.any_append]
    congr 1
    simp only [List.any_cons, List.any_nil, Bool.or_false]
    by_cases e : k = v
    · subst e
      rw [decide_eq_true rfl, beq_self_eq_true]
    · rw [decide_eq_false e]
      exact (beq_eq_false_iff_ne.mpr fun q => e q.symm).symm
section
variable {prog : Program} {w : World} {A : Around} {R : Result → Shared → Prop} {J : Addr} {fp wr : List Addr} {G : Array GenState → Array GenState → Prop} {n : Nat} {P : Nat → Value → Prop} {St : Nat → Shared → Prop}
abbrev SetUpTo (prog : Program) (w : World) (h : Heap) (a : Addr) (xs : List Str) (i : Nat) : Prop := SetRT prog w h a (fun k => (fmt xs i).any (· == k)) (fmt xs i).length
theorem setUpTo_moves {h h' : Heap} {a : Addr} {xs : List Str} {i : Nat} (x : SetUpTo prog w h a xs i) (k : ∀ o, h.get? a = some o → h'.get? a = some o) : SetUpTo prog w h' a xs i := by
  exact x.at k
/-- the loop that fills the set at S from the walk W -/
theorem fills (W : WalksS prog w A.in1 J fp wr G n P St) (S : Addr) (apart : S ∉ fp) (xs : List Str) (room : n + 1 < scanBound) (told : ∀ i v, P i v → ∃ t, v = .str (xs.getD i Str.empty) t) :
    ∀ (left i : Nat) (s : Shared), i + left = n → St i s → SetUpTo prog w s.heap S xs i → (∀ s', Moved (S :: wr) G s s' → SetUpTo prog w s'.heap S xs n → R (.ok (.ret .none)) s') →
      codeAny (model prog w) A (.builtin "set.update.loop" ⟨[.ref S, .ref J], []⟩) R s := by
  have own : S ∉ wr := fun z => apart (W.sub _ z)
  have wide : ∀ {u v : Shared}, Moved wr G u v → Moved (S :: wr) G u v := fun m => m.mono fun b hb => List.mem_cons_of_mem _ hb
  intro left
  induction left with
  | zero =>
    intro i s e st x fin
    obtain rfl : i = n := e
    refine codeAny_builtin PyProof.Rows.F.entry_set_update_loop ?_
    rw [Around.under_plainId PyProof.Rows.F.plain_set_update_loop _]
    show wpAny (model prog w) A.in1 (pyNext (.ref J) >>= fun _ => _) _ _ s
    exact wpAny_bind (W.done s _ _ st fun s1 m => wpAny_pure (fin s1 (wide m) (setUpTo_moves x fun o ho => m.heap S o own ho)))
  | succ left ih =>
    intro i s e st x fin
    refine codeAny_builtin PyProof.Rows.F.entry_set_update_loop ?_
    rw [Around.under_plainId PyProof.Rows.F.plain_set_update_loop _]
    show wpAny (model prog w) A.in1 (pyNext (.ref J) >>= fun _ => _) _ _ s
    refine wpAny_bind (W.item i s _ _ (by omega) st fun v s1 hv st1 m => ?_)
    obtain ⟨t, rfl⟩ := told i v hv
    have x1 : SetUpTo prog w s1.heap S xs i := setUpTo_moves x fun o ho => m.heap S o own ho
    have few : (fmt xs i).length + 1 < scanBound := by
      have := fmt_le xs i
      omega
    show wpAny (model prog w) A.in1 (holding [Value.str (xs.getD i Str.empty) t] (setAdd S (.str (xs.getD i Str.empty) t)) >>= fun _ => _) _ _ s1
    refine wpAny_bind (wpAny_holding ?_)
    unfold setAdd
    refine wpAny_holding (wpAny_bind ((PySem.strKind prog w).pyHash (k := xs.getD i Str.empty) (strKind_is _ _ _ _) ?_))
    refine setRT_add (s := { s1 with toks := s1.toks + 1 }) x1 few fun h2 sb x2 => ?_
    have same : ∀ b o, b ≠ S → s1.heap.get? b = some o → h2.get? b = some o := fun b o hb ho => (sb.2 b hb).trans ho
    have x3 : SetUpTo prog w h2 S xs (i + 1) := by
      refine x2.to (fun k => any_step (fmt xs i) (xs.getD i Str.empty) k) ?_
      by_cases hm : xs.getD i Str.empty ∈ fmt xs i
      · have q : (fmt xs i).any (· == xs.getD i Str.empty) = true := List.any_eq_true.mpr ⟨_, hm, beq_self_eq_true _⟩
        show (if (fmt xs i).any (· == xs.getD i Str.empty) = true then _ else _) = (if _ then fmt xs i else _ : List Str).length
        rw [if_pos q, if_pos hm]
      · have q : ¬ (fmt xs i).any (· == xs.getD i Str.empty) = true := fun z => by
          obtain ⟨y, hy, ey⟩ := List.any_eq_true.mp z
          rw [eq_of_beq ey] at hy
          exact hm hy
        show (if (fmt xs i).any (· == xs.getD i Str.empty) = true then _ else _) = (if _ then fmt xs i else _ : List Str).length
        rw [if_neg q, if_neg hm, List.length_append, List.length_singleton]
    refine wpAny_pure ⟨plainId_quiet PyProof.Rows.F.plain_set_update_loop _, ih (i + 1) _ (by omega) (W.frame _ s1 _ _ st1 (Nat.le_succ _) fun b hb o ho => same b o (fun z => apart (z ▸ hb)) ho) x3 fun s3 m3 x4 => ?_⟩
    exact fin s3 (Moved.trans W.gtrans ((wide m).then_heap (Nat.le_succ _) fun b o hb ho => same b o (fun z => hb (z ▸ List.mem_cons_self)) ho) m3) x4
end
section
variable {prog : Program} {w : World} {A : Around} {E : Value → Shared → Prop} {s : Shared}
/-- a new empty set -/
abbrev setO (led : Bool) : Obj := { cls := .type "set", dict := none, data := .set #[] 0 (.fresh 0 0 led) }
/-- set(xs), xs a list or a tuple of texts -/
theorem set_texts {l : Addr} {items : Array Value} {xs : List Str} {Q : Value → Shared → Prop} (quiet : A.handled = none) (src : s.heap.IsList l items ∨ s.heap.IsTuple l items) (texts : PyProof.Rows.StrsAre items.toList xs) (room : xs.length + 1 < scanBound)
    (h : ∀ h' tk, SetUpTo prog w h' s.heap.objs.size xs xs.length → (∀ b o, s.heap.get? b = some o → h'.get? b = some o) → Q (.ref s.heap.objs.size) { s with heap := h', toks := tk }) : wpAny (model prog w) A (call (.type "set") [.ref l]) Q E s := by
  obtain ⟨c, tl, hmro⟩ := PySem.F.called_set.mro
  have made := PySem.F.called_set.made
  have sub := PySem.F.called_set.sub
  have nt := PySem.F.called_set.notType
  have can := PySem.F.called_set.canCreate
  have tc := PySem.F.typeCall_set_1 (.ref l)
  refine wpAny_call (codeAny_of_tree ?_)
  show wpAny _ _ (callAny (.type "set") _) _ _ _
  refine wpAny_pure ⟨Code.quiet_builtin _ (by decide +kernel), codeAny_builtin PySem.F.entry_type_call ?_⟩
  rw [Around.under_plain (weight_type_call_type "set" [.ref l] []) rfl]
  repeat (any_goals (first | assumption | wp_step))
  refine codeAny_mono (code_set_led1 (.ref l) (E := E) (Q₁ := fun ob s1 => ob = .ref s.heap.objs.size ∧ s1 = { s with heap := s.heap.push (setO (!w.params.followText "set-order")) }) ⟨rfl, rfl⟩) fun r s1 hr => ?_
  match r, hr with
  | .error e, hr => exact hr
  | .ok (.ret ob), hr =>
    obtain ⟨rfl, rfl⟩ := hr
    have at' : (s.heap.push (setO (!w.params.followText "set-order"))).get? s.heap.objs.size = some (setO (!w.params.followText "set-order")) := Heap.get?_push_size _ rfl
    have ty : Shared.TypeIs { s with heap := s.heap.push (setO (!w.params.followText "set-order")) } (.ref s.heap.objs.size) "set" := ⟨_, at', rfl⟩
    have look := PySem.F.called_set.init.lookup
    have bind := PySem.F.called_set.init.bind (.ref s.heap.objs.size)
    repeat (any_goals (first | assumption | wp_step))
    refine codeAny_mono (codeAny_call_builtin (R := wants (fun r s2 => r = .none ∧ ∃ h' tk, s2 = { s with heap := h', toks := tk } ∧ SetUpTo prog w h' s.heap.objs.size xs xs.length ∧ ∀ b o, s.heap.get? b = some o → h'.get? b = some o) E)
      PySem.F.called_set.init.plain PySem.F.entry_set_init (check_set_init_1 ty ?_)) fun r2 s2 hr2 => ?_
    · have still : A.in1.in1.in1.handled = none := by simp [quiet]
      have len : xs.length = items.size := by rw [← StrsAre.len_eq texts, Array.length_toList]
      have told : ∀ (i : Nat) (v : Value), items[i]? = some v → ∃ t, v = .str (xs.getD i Str.empty) t := fun i v hv => SS.strs_at texts i v (by rw [Array.getElem?_toList]; exact hv)
      have begun : ∀ X : Obj, SetUpTo prog w ((s.heap.push (setO (!w.params.followText "set-order"))).push X) s.heap.objs.size xs 0 := fun X =>
        (setRT_new (Heap.get?_push_of_some X at')).to (fun _ => rfl) rfl
      have two : (s.heap.push (setO (!w.params.followText "set-order"))).objs.size = s.heap.objs.size + 1 := Heap.size_push ..
      have ended : ∀ {X : Obj} {G : Array GenState → Array GenState → Prop} {s' : Shared} (m : Moved (s.heap.objs.size :: [(s.heap.push (setO (!w.params.followText "set-order"))).objs.size]) G { s with heap := (s.heap.push (setO (!w.params.followText "set-order"))).push X } s'), (∀ a b, G a b → b = a) →
          ∃ h' tk, s' = { s with heap := h', toks := tk } ∧ ∀ b o, s.heap.get? b = some o → h'.get? b = some o := fun {X G s'} m hg => by
        obtain ⟨h', g', d', tk', os'⟩ := s'
        obtain rfl : g' = s.gens := hg _ _ m.gens
        obtain rfl : d' = s.drawn := m.drawn
        obtain rfl : os' = s.os := m.os
        refine ⟨h', tk', rfl, fun b o e => m.heap b o (fun z => ?_) (Heap.get?_push_of_some _ (Heap.get?_push_of_some _ e))⟩
        have lt := Heap.lt_size e
        rw [two] at z
        simp only [List.mem_cons, List.not_mem_nil, or_false] at z
        rcases z with z | z
        · exact Nat.ne_of_lt lt z
        · exact Nat.ne_of_lt (Nat.lt_succ_of_lt lt) z
      rcases src with src | src
      · obtain ⟨⟨cl, di, da, sl⟩, ho, hc, n, hd⟩ := id src
        simp only at hc hd
        subst hc hd
        have there : (s.heap.push (setO (!w.params.followText "set-order"))).get? l = some { cls := .type "list", dict := di, data := .seq items n, slots := sl } := Heap.get?_push_of_some _ ho
        have src1 : (s.heap.push (setO (!w.params.followText "set-order"))).IsList l items := ⟨_, there, rfl, n, rfl⟩
        have no1 := PySem.F.sub_list_set
        have no2 := PySem.F.sub_list_frozenset
        have no3 : (Value.type "list" == Value.type "dict") = false := by decide
        have lt := Heap.lt_size ho
        unfold Builtin.«set.__init__» noKeywords Builtin.Frozenset.updateFrom
        generalize hIt : pyIter = It
        wp_walk
        subst hIt
        refine wpAny_pyIter_list src1 (wpAny_bind (wpAny_runValue ?_))
        refine fills ((Walks.list still _ l (by rw [two]; exact Nat.ne_of_lt (Nat.lt_succ_of_lt lt)) items).toS) s.heap.objs.size (by rw [two]; simp only [List.mem_cons, List.not_mem_nil, or_false]; exact fun z => z.elim (Nat.ne_of_lt (Nat.lt_succ_self _)) (Nat.ne_of_gt lt)) xs (by rw [← len]; exact room) told items.size 0 _ (Nat.zero_add _)
          ⟨⟨_, Heap.get?_push_size _ rfl, rfl, rfl⟩, src1.push _⟩ (begun _) fun s' m x => ?_
        obtain ⟨h', tk, rfl, keep⟩ := ended m fun _ _ e => e
        rw [← len] at x
        exact wpAny_pure (wpAny_pure ⟨rfl, h', tk, rfl, x, keep⟩)
      · obtain ⟨⟨cl, di, da, sl⟩, ho, hc, n, hd⟩ := id src
        simp only at hc hd
        subst hc hd
        have there : (s.heap.push (setO (!w.params.followText "set-order"))).get? l = some { cls := .type "tuple", dict := di, data := .seq items n, slots := sl } := Heap.get?_push_of_some _ ho
        have src1 : (s.heap.push (setO (!w.params.followText "set-order"))).IsTuple l items := ⟨_, there, rfl, n, rfl⟩
        have no1 := PySem.F.sub_tuple_set
        have no2 := PySem.F.sub_tuple_frozenset
        have no3 : (Value.type "tuple" == Value.type "dict") = false := by decide
        have lt := Heap.lt_size ho
        unfold Builtin.«set.__init__» noKeywords Builtin.Frozenset.updateFrom
        generalize hIt : pyIter = It
        wp_walk
        subst hIt
        refine wpAny_pyIter_tuple src1 (wpAny_bind (wpAny_runValue ?_))
        refine fills ((Walks.tuple still _ l (by rw [two]; exact Nat.ne_of_lt (Nat.lt_succ_of_lt lt)) items).toS) s.heap.objs.size (by rw [two]; simp only [List.mem_cons, List.not_mem_nil, or_false]; exact fun z => z.elim (Nat.ne_of_lt (Nat.lt_succ_self _)) (Nat.ne_of_gt lt)) xs (by rw [← len]; exact room) told items.size 0 _ (Nat.zero_add _)
          ⟨⟨_, Heap.get?_push_size _ rfl, rfl, rfl⟩, src1.push _⟩ (begun _) fun s' m x => ?_
        obtain ⟨h', tk, rfl, keep⟩ := ended m fun _ _ e => e
        rw [← len] at x
        exact wpAny_pure (wpAny_pure ⟨rfl, h', tk, rfl, x, keep⟩)
    · match r2, hr2 with
      | .error e, hr2 => exact hr2
      | .ok (.ret v), hr2 =>
        obtain ⟨rfl, h', tk, rfl, pd, keep⟩ := hr2
        repeat (any_goals (first | assumption | wp_step))
        exact h _ _ pd keep
  | .ok .next, hr => exact hr.elim
  | .ok .brk, hr => exact hr.elim
  | .ok .cont, hr => exact hr.elim
end
end Ah
set_option Elab.async false
set_option linter.all false
set_option maxRecDepth 100000
set_option maxHeartbeats 4000000
/-! sorted(set(xs)) of texts -/
namespace Ah
open PySem PySem.Spec PyProof.Rows L2
/-- at a: the set of these texts -/
def SetT (P : Program) (w : World) (a : Addr) (xs : List Str) : HO := .ext fun h => SetUpTo P w h a xs xs.length
section
variable {X : Cx}
theorem setT_new {P : Program} {w : World} {H : Hp} {h : Heap} {a : Addr} {xs : List Str} (R : SetUpTo P w h a xs xs.length) : ObjOk P w H h a (SetT P w a xs) := by
  have ⟨o, _, _, _, ho, _⟩ := R
  exact ⟨R, ⟨o, ho⟩, fun h1 h2 p k => setUpTo_moves p k⟩
def rSetTx (K : PySem.W.Frag) (P : Program) (w : World) : List V → Hp → VK → Prop := fun vs H Q => ∃ (l : Addr) (xs : List Str), vs = [V.ref l] ∧ (SqL K H l (xs.map V.str) ∨ SqT K H l (xs.map V.str)) ∧ xs.length + 1 < scanBound ∧
  ∀ p, H p = none → Q (.ref p) (upd H p (SetT P w p xs))
theorem cr_setTx (hc : X.calm = true) : CallR X (.type "set") (rSetTx X.K X.prog X.w) := by
  intro pins s σ H vs us Q I r h
  obtain ⟨l, xs, rfl, hq, few, q⟩ := h
  rw [Vals.ref1 r]
  have src : ∃ its : List Value, Vals (xs.map V.str) its ∧ (s.heap.IsList l its.toArray ∨ s.heap.IsTuple l its.toArray) := by
    rcases hq with hq | hq
    · obtain ⟨its, rv, pl, _⟩ := I.list hq
      exact ⟨its, rv, .inl pl.isList⟩
    · obtain ⟨its, rv, pl, _⟩ := I.tuple hq
      exact ⟨its, rv, .inr pl⟩
  obtain ⟨its, rv, src⟩ := src
  refine set_texts (I.ok.hd hc) src (by simpa using strsAre_of rv) few fun h' tk x k => ?_
  exact ⟨.ref _, upd H s.heap.objs.size (SetT X.prog X.w s.heap.objs.size xs), I.laid (t' := tk) k (Nat.le_refl _) (setT_new x), rfl, q _ (I.hok.fresh (Nat.le_refl _))⟩
theorem fmt_all (xs : List Str) (x : Str) : x ∈ fmt xs xs.length ↔ x ∈ xs := by
  rw [fmt_mem xs _ (Nat.le_refl _), List.take_length]
theorem strs_of : ∀ l : List Value, (∀ v ∈ l, ∃ k tk, v = Value.str k tk) → PyProof.Rows.StrsAre l (l.map fun v => keyT (0, v))
  | [], _ => .nil
  | v :: l, h => by
    obtain ⟨k, tk, rfl⟩ := h v List.mem_cons_self
    exact .cons k tk (strs_of l fun u hu => h u (List.mem_cons_of_mem _ hu))
def rSortedSetT (P : Program) (w : World) : List V → Hp → VK → Prop := fun vs H Q => ∃ (a : Addr) (xs : List Str), vs = [V.ref a] ∧ H a = some (SetT P w a xs) ∧ xs.length < 64 ∧
  ∀ (ys : List Str) (p : Addr), ys.Nodup → (∀ y, y ∈ ys ↔ y ∈ xs) → sortedS ys = true → H p = none → Q (.ref p) (upd H p (.lst (ys.map V.str)))
theorem cr_sortedSetT (hc : X.calm = true) : CallR X (.builtin "sorted") (rSortedSetT X.prog X.w) := by
  intro pins s σ H vs us Q I r h
  obtain ⟨a, xs, rfl, ha, h64, q⟩ := h
  rw [Vals.ref1 r]
  have x : SetUpTo X.prog X.w s.heap a xs xs.length := (I.hok a _ ha).1
  obtain ⟨o, els, ep, tb, ho, exa, dat, gd, apt, mem, few, fit, cnt, ris, led0⟩ := x
  have le := fmt_le xs xs.length
  refine Calls.call_function_entry kind_sorted plain_sorted entry_sorted (args_sorted1 _) ?_
  unfold Builtin.«sorted»
  refine wpAny_bind (m := checkCount "sorted" 1 1 _) (wpAny_pure ?_)
  refine wpAny_bind (collect_set (A := X.A.in1) (I.ok.hd hc) ⟨o, ho, exa.1, dat⟩ fit few ris led0 fun s1 vs k1 hz g1 o1 pm => ?_)
  have hvl : vs.length = (fmt xs xs.length).length := by rw [pm.length_eq, List.length_map, Array.length_toList]; exact cnt
  have hS : PyProof.Rows.StrsAre vs (vs.map fun v => keyT (0, v)) := strs_of vs fun v hv => by
    obtain ⟨e, he, q⟩ := List.mem_map.mp (pm.mem_iff.mp hv)
    obtain ⟨k, tk, h1, _⟩ := gd e he
    exact ⟨k, tk, by rw [← q]; exact h1⟩
  have pk : (vs.map fun v => keyT (0, v)).Perm (els.toList.map keyT) := by
    have q := pm.map fun v => keyT (0, v)
    rw [List.map_map] at q
    exact q
  have lt64 : vs.length < 64 := by omega
  refine wpAny_bind (wpAny_newList ?_ (by rw [sizeLine_eq]; omega))
  have hoL : (s1.heap.push (seqObj "list" vs.toArray 0)).get? s1.heap.objs.size = some (seqObj "list" vs.toArray 0) := Heap.get?_push_size _ rfl
  refine wpAny_bind (wpAny_holding (wpAny_call_entry slot_list_sort ⟨_, hoL, rfl⟩ entry_list_sort (list_sort_treeK strKind_oneLt hoL hS.keysOf (fun v₁ v₂ rest e => keyKind_strs (by rw [← e]; exact hS)) lt64 fun st' a1 a2 => ⟨_, rfl, ?_⟩) (args_list_sort _)))
  refine wpAny_pure ⟨_, rfl, ?_⟩
  obtain ⟨ss', b1, b2, b3⟩ := sorted_out_str hS a1 a2
  obtain ⟨e, he⟩ := sortedHeap_at (out := (arrOf st').map (·.2)) hoL
  have pn : ss'.Perm (els.toList.map keyT) := b2.trans pk
  have hlen : (ss'.map V.str).length ≤ sizeLine := by
    rw [List.length_map, pn.length_eq, List.length_map, Array.length_toList, cnt]
    exact small64 (by omega)
  have keep : ∀ b u, s.heap.get? b = some u → (sortedHeap (s1.heap.push (seqObj "list" vs.toArray 0)) s1.heap.objs.size vs ((arrOf st').map (·.2))).get? b = some u := fun b u hb => by
    have hb1 := k1 b u hb
    have hlt := Heap.lt_size hb1
    rw [sortedHeap_old (Nat.ne_of_lt hlt) (by rw [size_push']; exact Nat.lt_succ_of_lt hlt)]
    exact Heap.get?_push_of_some _ hb1
  have mm : ∀ y, y ∈ ss' ↔ y ∈ xs := fun y => by
    rw [pn.mem_iff, ← mem y, ← fmt_all]
    rw [List.any_eq_true]
    exact ⟨fun ⟨z, h1, h2⟩ => eq_of_beq h2 ▸ h1, fun h => ⟨y, h, beq_self_eq_true y⟩⟩
  have hno : H s1.heap.objs.size = none := I.hok.fresh hz
  have J : Inv X pins σ (upd H s1.heap.objs.size (.lst (ss'.map V.str))) { s with heap := sortedHeap (s1.heap.push (seqObj "list" vs.toArray 0)) s1.heap.objs.size vs ((arrOf st').map (·.2)), gens := s1.gens, drawn := s1.drawn, toks := s1.toks } :=
    I.call (ch := []) (Un.laid keep hz hno) (I.hok.laid keep hz ⟨hlen, _, e, vals_of_strs b1, he⟩) (by rw [g1]; exact I.bare) (fun _ z => nomatch z)
  have apart : ss'.Nodup := pn.nodup_iff.mpr apt
  have es : ({ s1 with heap := sortedHeap (s1.heap.push (seqObj "list" vs.toArray 0)) s1.heap.objs.size vs ((arrOf st').map (·.2)) } : Shared) = { s with heap := sortedHeap (s1.heap.push (seqObj "list" vs.toArray 0)) s1.heap.objs.size vs ((arrOf st').map (·.2)), gens := s1.gens, drawn := s1.drawn, toks := s1.toks } := by
    cases s1
    cases s
    cases o1
    rfl
  show EP X pins σ Q (.ref s1.heap.objs.size) { s1 with heap := sortedHeap (s1.heap.push (seqObj "list" vs.toArray 0)) s1.heap.objs.size vs ((arrOf st').map (·.2)) }
  rw [es]
  exact ⟨.ref _, _, J, rfl, q ss' _ apart mm b3 hno⟩
end
end Ah
set_option Elab.async false
set_option linter.all false
set_option maxRecDepth 100000
set_option maxHeartbeats 4000000
/-! sorted(d), d a dict whose keys are tuples -/
namespace Ah
open PySem PySem.Spec PyProof.Rows L2
open PySem.W (EachIs AllAlike Sortable dataLe)
def leafD : Key → PyData
  | .inl i => .int i
  | .inr x => .str x
def keyD (k : List Key) : PyData := .tuple (k.map leafD)
theorem dp_leafs {K : PySem.W.Frag} {H : Hp} : ∀ k : List Key, DpAll K H (k.map kV) (k.map leafD)
  | [] => .nil
  | .inl i :: r => .cons (.int i) (dp_leafs r)
  | .inr x :: r => .cons (.str x) (dp_leafs r)
theorem keys_dp {K : PySem.W.Frag} {H : Hp} : ∀ {kvs : List (List Key × V)} {bs : List Addr}, IsKeys H kvs bs → DpAll K H (bs.map V.ref) (kvs.map fun kv => keyD kv.1) := by
  intro kvs bs r
  unfold IsKeys at r
  induction r with
  | nil => exact .nil
  | cons h t ih => exact .cons (.tup (.inl (.inl h)) (dp_leafs _)) ih
def rSortedT (K : PySem.W.Frag) : List V → Hp → VK → Prop := fun vs H Q => ∃ (a : Addr) (kvs : List (List Key × V)), vs = [V.ref a] ∧ Rd H a (.dT kvs) ∧ AllAlike (kvs.map fun kv => keyD kv.1) ∧ Sortable (kvs.map fun kv => keyD kv.1) ∧ (∀ d ∈ kvs.map fun kv => keyD kv.1, d.depth ≤ 60) ∧ kvs.length ≤ 16777216 ∧
  ∀ (bs : List Addr) (zs : List (V × PyData)) (p : Addr), IsKeys H kvs bs → zs.Perm ((bs.map V.ref).zip (kvs.map fun kv => keyD kv.1)) → zs.map (·.2) = sortD (kvs.map fun kv => keyD kv.1) → H p = none → Q (.ref p) (upd H p (.lst (zs.map (·.1))))
section
variable {X : Cx}
theorem cr_sortedT (hc : X.calm = true) (hu : X.A.units + 64 < cLine) : CallR X (.builtin "sorted") (rSortedT X.K) := by
  intro pins s σ H vs us Q I r h
  obtain ⟨a, kvs, rfl, hd, hal, hk, hdep, hlen, q⟩ := h
  rw [Vals.ref1 r]
  obtain ⟨z, hs, ks, pr, o, es, ep, ho, hx, hdt, he, hn⟩ := (show ObjOk X.prog X.w H s.heap a (.dT kvs) from hd.ok I.hok)
  have l1 : es.size = ks.length := size_of_entries he
  have l2 : kvs.length = ks.length := Paired.length pr
  have fits : kvs.length ≤ sizeLine := by rw [sizeLine_eq]; exact hlen
  refine Calls.call_function_entry kind_sorted plain_sorted entry_sorted (args_sorted1 _) ?_
  unfold Builtin.«sorted»
  refine wpAny_bind (m := checkCount "sorted" 1 1 _) (wpAny_pure ?_)
  refine wpAny_bind (PySem.W.kdu_collect (A := X.A.in1) (kdl_raw hs hx hdt) (I.ok.hd hc) ho (by omega) fun h1 tk acc k1 it => ?_)
  have ea : acc.toList = ks.map fun x => Value.ref x.2.1 := by
    have lacc : acc.toList.length = ks.length := by rw [Array.length_toList, it.1]; exact l1
    refine List.ext_getElem? fun j => ?_
    rw [List.getElem?_map]
    cases hj : acc.toList[j]? with
    | none =>
      have m := List.getElem?_eq_none_iff.mp hj
      rw [List.getElem?_eq_none (by omega)]
      all_goals rfl
    | some v =>
      obtain ⟨en, hen, hv⟩ := it.2 j v (by rw [← Array.getElem?_toList]; exact hj)
      have qe := entry_at he j
      rw [hen] at qe
      cases hb : ks[j]? with
      | none =>
        rw [hb] at qe
        exact nomatch (show some en = none from qe)
      | some b =>
        rw [hb] at qe
        rw [hv, show en = entryOfKey (tupleKind (mixKind X.prog X.w)) b from Option.some.inj qe]
        all_goals rfl
  generalize acc.toList = vs at ea
  have lv : vs.length = kvs.length := by rw [ea, List.length_map, l2]
  have rv : Vals ((ks.map fun x => x.2.1).map V.ref) vs := by
    rw [ea, show (ks.map fun x => Value.ref x.2.1) = (ks.map fun x => x.2.1).map Value.ref by rw [List.map_map]; rfl]
    exact vals_refs _
  have isk := isKeys_of pr
  have dp := keys_dp (K := X.K) isk
  have q := fun zs p => q (ks.map fun x => x.2.1) zs p isk
  generalize hxs : (ks.map fun x => x.2.1).map V.ref = xs at rv dp q
  generalize kvs.map (fun kv => keyD kv.1) = ds at dp hal hk hdep q
  have lx : xs.length = kvs.length := by rw [← hxs, List.length_map, List.length_map, l2]
  obtain ⟨z1, z2, z3⟩ := dpAll_zip2 dp
  have lds : ds.length = xs.length := by
    have := congrArg List.length z2
    rw [List.length_map, z3] at this
    exact this
  have e := each_of rv dp
  refine wpAny_bind (wpAny_newList ?_ (by rw [lv]; exact fits))
  have hoL : (h1.push (seqObj "list" vs.toArray 0)).get? h1.objs.size = some (seqObj "list" vs.toArray 0) := Heap.get?_push_size _ rfl
  have old : ∀ b u, s.heap.get? b = some u → (PySem.W.sortingHeap (h1.push (seqObj "list" vs.toArray 0)) h1.objs.size vs).get? b = some u := fun b u hb =>
    PySem.W.sortingHeap_old (Nat.ne_of_lt (Heap.lt_size (k1 b u hb))) (Heap.get?_push_of_some _ (k1 b u hb))
  have er : EachIs (fun (v : Value) (b : V × PyData) => ∃ as, Reads (PySem.W.sortingHeap (h1.push (seqObj "list" vs.toArray 0)) h1.objs.size vs) v b.2 as) vs (xs.zip ds) := e.mono fun v b ⟨r1, r2⟩ =>
    let ⟨as, rr⟩ := Dp.reads I b.2 b.1 v r2 r1
    ⟨as, PyProof.Rows.Reads.keeps old rr⟩
  have bound : ∀ d, d ∈ ds → X.A.in1.in1.units + d.depth < cLine := fun d hd => by
    have h1 := hdep d hd
    have h2 : X.A.in1.in1.units = X.A.units + 2 := rfl
    omega
  have hal' : AllAlike ((xs.zip ds).map fun b => b.2) := by rw [z1]; exact hal
  have eds := PySem.W.each_map (R := fun v d => ∃ as, Reads (PySem.W.sortingHeap (h1.push (seqObj "list" vs.toArray 0)) h1.objs.size vs) v d as) (fun b : V × PyData => b.2) er
  rw [z1] at eds
  refine wpAny_bind (wpAny_holding (wpAny_call_entry slot_list_sort ⟨_, hoL, rfl⟩ entry_list_sort (PySem.W.list_sort_vals (κ := PySem.W.dataKind (PySem.W.sortingHeap (h1.push (seqObj "list" vs.toArray 0)) h1.objs.size vs) ds) hoL
    (PySem.W.SortsAt.data (s := { s with heap := PySem.W.sortingHeap (h1.push (seqObj "list" vs.toArray 0)) h1.objs.size vs, toks := tk }) eds hal hk bound) (by rw [lv]; exact fits) ⟨.none, rfl, ?_⟩) (args_list_sort _)))
  refine wpAny_pure ⟨_, rfl, ?_⟩
  have eo := PySem.W.sortVals_data (enc := fun b : V × PyData => b.2) (R := fun (v : Value) (b : V × PyData) => RelV b.1 v ∧ Dp X.K H b.1 b.2) false e er hal'
  rw [z1] at eo
  generalize PySem.W.sortVals (PySem.W.dataKind (PySem.W.sortingHeap (h1.push (seqObj "list" vs.toArray 0)) h1.objs.size vs) ds) false vs vs = out at eo ⊢
  obtain ⟨v1, v2⟩ := each_vals eo
  have pm : ((xs.zip ds).mergeSort (dataLe false fun b : V × PyData => b.2)).Perm (xs.zip ds) := List.mergeSort_perm _ _
  have p1 : (((xs.zip ds).mergeSort (dataLe false fun b : V × PyData => b.2)).map (·.1)).length = kvs.length := by
    rw [List.length_map, pm.length_eq, z3, lds, lx]
  have p2 : ((xs.zip ds).mergeSort (dataLe false fun b : V × PyData => b.2)).map (·.2) = sortD ds := by
    have := PySem.W.sort_maps (r := dataLe false fun b : V × PyData => b.2) (s := dataLe false fun d : PyData => d) (fun b : V × PyData => b.2) (l := xs.zip ds) (fun a _ b _ => rfl)
    rw [z1] at this
    exact this
  have I1 : Inv X pins σ H { s with heap := h1, toks := tk } := I.kept (t' := tk) k1
  obtain ⟨ep2, at2⟩ := sortedHeap_at (vs := vs) (out := out.toArray) hoL
  refine ⟨.ref _, upd H h1.objs.size (.lst _), I1.laid (t' := tk) (fun b u hb1 => ?_) (Nat.le_refl _) ⟨?_, out, ep2, v1, at2⟩, rfl, q _ _ pm p2 (I1.hok.fresh (Nat.le_refl _))⟩
  · have hlt := Heap.lt_size hb1
    show (sortedHeap (h1.push (seqObj "list" vs.toArray 0)) h1.objs.size vs out.toArray).get? b = some u
    rw [sortedHeap_old (Nat.ne_of_lt hlt) (by rw [size_push']; exact Nat.lt_succ_of_lt hlt)]
    exact Heap.get?_push_of_some _ hb1
  · rw [p1]
    exact fits
end
end Ah
set_option Elab.async false
set_option linter.all false
set_option maxRecDepth 100000
set_option maxHeartbeats 4000000
/-! dict comprehensions whose keys are tuples -/
namespace Ah
open PySem PySem.Spec PyProof.Rows L2
theorem d_dictSetT {X : Cx} {pins : List (Addr × Obj)} {σ : L2.St} {H : Hp} {s : Shared} {E : Value → Shared → Prop} {D b : Addr} {kvs : List (List Key × V)} {k : List Key} {v : V} {r : Value} {Q : Unit → Shared → Prop} (hu : X.A.units < cLine) (I : Inv X pins σ H s) (eb : H b = some (.tup (k.map kV))) (e : H D = some (.dT kvs)) (l : kvs.length < sizeLine)
    (rv : RelV v r) (h : ∀ s', Inv X pins σ (upd H D (.dT (putK kvs k v))) s' → Q () s') : wpAny (model X.prog X.w) X.A (dictSet D (.ref b) r) Q E s := by
  obtain ⟨z, hd, xs, rel, dd⟩ := dt_of I.hok e
  have few : xs.length ≤ sizeLine := by rw [← Paired.length rel]; exact z
  have more : (putK kvs k v).length ≤ sizeLine := by have := length_putK kvs k v; omega
  refine wpAny_dictSet_heap (hsz := few) hu (key_of I.hok eb) dd fun h' dd' hs => h _ ?_
  obtain ⟨q, es, ep, hq, h2, h3, h4, _, h5⟩ := dd'
  refine d_write I (by rw [e]; exact True.intro) hs ⟨q, hq⟩ ⟨more, hd, _, (rel.put k eb rv).keeps fun c ys ec => ?_, q, es, ep, hq, h2, h3, h4, h5⟩
  exact (upd_ne (ne_of ec e fun z => nomatch z)).trans ec
section
variable {X : Cx}
def tDcT (wit : TI) (gt : TG) (tst : TT) (tke tva : TE) (nums : List Nat) : TE := fun σ H Q => wit σ H fun J H1 => ∀ D, H1 D = none → ∃ Wt : Nat → Nat → Hp → Prop, (∃ m, Wt 0 m (upd H1 D (.dT []))) ∧ ∀ i m H, Wt i m H →
  (J.stop i H ∧ Q (.ref D) H) ∨ (J.go i H ∧ ∃ Next : Hp → Prop, (∀ H', Next H' → ∃ m', m' < m ∧ Wt (i + 1) m' H') ∧ ∀ x H', J.yld i H x H' → gt x (wipe σ nums) H' fun σ2 Hp2 => wipe σ2 nums = wipe σ nums ∧ tst σ2 Hp2 fun b Hp3 =>
    if b = true then tke σ2 Hp3 fun y H4 => tva σ2 H4 fun z Hp5 => ∃ (kvs : List (List Key × V)) (k : List Key) (b : Addr), y = .ref b ∧ Hp5 b = some (.tup (k.map kV)) ∧ Hp5 D = some (.dT kvs) ∧ kvs.length < sizeLine ∧ Next (upd Hp5 D (.dT (putK kvs k z))) else Next Hp3)
theorem dcT_core {pins : List (Addr × Obj)} {s : Shared} {σ : L2.St} {H : Hp} {Q : VK} {ke ve tgt itr : Expr} {tests : List Expr} {scp : Scope} {mine : List (Str × Nat)} {ps0 ps1 : Pos} {wit : TI} {gt : TG} {tst : TT} {tke tva : TE} {use : Option (Value → Sem Unit)} {Qf : Value → Shared → Prop}
    (cal : X.calm = true) (hu : X.A.units < cLine) (ndn : X.N.Nodup) (I : Inv X pins σ H s) (pit : PI X tgt itr wit) (blo : BlkOk X.N X.env.scope scp mine)
    (pgo : ∀ (s : Shared) (H : Hp) (C : Addr) (cl : List (Str × Addr)) (foot : List Addr), PG (X.blk s H scp (compEnvC scp cl C X.env) foot) tgt gt) (pts0 : ∀ (s : Shared) (H : Hp) (C : Addr) (cl : List (Str × Addr)) (foot : List Addr), PTs (X.blk s H scp (compEnvC scp cl C X.env) foot) tests tst)
    (pke : ∀ (s : Shared) (H : Hp) (C : Addr) (cl : List (Str × Addr)) (foot : List Addr), PE (X.blk s H scp (compEnvC scp cl C X.env) foot) ke tke)
    (pee : ∀ (s : Shared) (H : Hp) (C : Addr) (cl : List (Str × Addr)) (foot : List Addr), PE (X.blk s H scp (compEnvC scp cl C X.env) foot) ve tva) (fol : ∀ x, foldedSetIterable itr X.env x = pure x)
    (hyp : tDcT wit gt tst tke tva (mine.map (·.2)) σ H Q)
    (fini : ∀ D C s' m H', Inv X pins σ H' s' → Q (.ref D) H' → s'.heap.Ns C m → FpOk X pins H' C → compPost (model X.prog X.w) X.A X.xe use Qf (.ref D) C (.ok .next) s') :
    wpAny (model X.prog X.w) X.A (comprehension (.DictComp ke ve [⟨tgt, itr, tests, 0⟩] scp ps0) scp X.env ps1 newDict false (eval itr X.env) use) Qf X.xe s := by
  have freed : ∀ y ∈ scp.names, y.2 = .free → ∃ c, X.env.cells.lookup y.1 = some c := fun y hy e => by
    rcases blo.free y hy e with k | k
    · exact I.ok.has _ (.inl k)
    · exact I.ok.has _ (.inr k)
  refine wpAny_comprehension_free (use := use) rfl fol (closure_ok freed) blo.kind (fun y hy e => by rw [blo.uniq y hy, e])
    (thn (pit.run pins s σ H _ I hyp) fun xva s1 ehx => thn ehx fun itva sh2 eh2 => ?_)
  obtain ⟨itt, foot, tur, J, Hp2, e, In2, Tn, sta2, fo2, qu⟩ := eh2
  subst e
  refine wpAny_newObj_type (newEnv_comp ?_)
  generalize eD : sh2.heap.objs.size = D
  have newD : Hp2 D = none := In2.hok.fresh (Nat.le_of_eq eD)
  obtain ⟨Wt, ⟨mm, ww⟩, each⟩ := qu D newD
  -- the new list
  generalize es3 : ({ sh2 with heap := sh2.heap.push { cls := .type "dict", data := .dict #[] } } : Shared) = sh3
  have In3 : Inv X pins σ (upd Hp2 D (.dT [])) sh3 := by
    rw [← es3]
    refine In2.laid (t' := sh2.toks) (fun b o e => Heap.get?_push_of_some _ e) (Nat.le_of_eq eD) ?_
    rw [← eD]
    exact dt_empty sh2.heap In2.big
  have eh3 : sh3.heap = sh2.heap.push { cls := .type "dict", data := .dict #[] } := by rw [← es3]
  have size : ∀ b ∈ foot, b < sh2.heap.objs.size := fun b hb => by
    obtain ⟨o, e, _⟩ := Tn.obj _ _ sta2 b hb
    exact Heap.lt_size e
  have fo3 : ∀ b ∈ foot, FpOk X pins (upd Hp2 D (.dT [])) b ∧ b < sh3.heap.objs.size := fun b hb => by
    have elt := size b hb
    refine ⟨⟨?_, (fo2 b hb).2⟩, by rw [eh3, Heap.size_push]; exact Nat.lt_succ_of_lt elt⟩
    rw [upd_ne (by rw [← eD]; exact Nat.ne_of_lt elt)]
    exact (fo2 b hb).1
  have sta3 : tur 0 sh3.heap := Tn.keep _ _ _ sta2 fun b _ o e => by rw [eh3]; exact Heap.get?_push_of_some _ e
  have In4 := block_start In3 blo ndn fo3
  have pga := pgo sh3 (upd Hp2 D (.dT [])) sh3.heap.objs.size (cellsFrom (sh3.heap.objs.size + 1) scp.names (cloFrom X.env.cells scp.names [])) foot
  have pta := pts0 sh3 (upd Hp2 D (.dT [])) sh3.heap.objs.size (cellsFrom (sh3.heap.objs.size + 1) scp.names (cloFrom X.env.cells scp.names [])) foot
  have pka := pke sh3 (upd Hp2 D (.dT [])) sh3.heap.objs.size (cellsFrom (sh3.heap.objs.size + 1) scp.names (cloFrom X.env.cells scp.names [])) foot
  have pea := pee sh3 (upd Hp2 D (.dT [])) sh3.heap.objs.size (cellsFrom (sh3.heap.objs.size + 1) scp.names (cloFrom X.env.cells scp.names [])) foot
  show codeAny _ _ (.compStart (.DictComp ke ve [⟨tgt, itr, tests, 0⟩] scp ps0) 0 (.ref itt) (.ref D) (compEnvC scp (cellsFrom (sh3.heap.objs.size + 1) scp.names (cloFrom X.env.cells scp.names [])) sh3.heap.objs.size X.env)) (compPost (model X.prog X.w) X.A X.xe use Qf (.ref D) sh3.heap.objs.size) { sh3 with heap := pushCells (sh3.heap.push { cls := .type "dict", data := .dict #[] }) scp.names }
  have nof : ∀ b ∈ foot, (upd Hp2 D (.dT [])) b = none := fun b hb => (fo3 b hb).1.1
  generalize ecen : compEnvC scp (cellsFrom (sh3.heap.objs.size + 1) scp.names (cloFrom X.env.cells scp.names [])) sh3.heap.objs.size X.env = cen at In4 pga pta pka pea ⊢
  have eloc : cen.locals = sh3.heap.objs.size := by subst ecen; rfl
  generalize eH3 : upd Hp2 D (.dT []) = Hp3 at In3 In4 pga pta pka pea ww nof fo3
  generalize es4 : ({ sh3 with heap := pushCells (sh3.heap.push { cls := .type "dict", data := .dict #[] }) scp.names } : Shared) = sh4 at In4 ⊢
  have sta4 : tur 0 sh4.heap := Tn.keep _ _ _ sta3 fun b _ o e => by rw [← es4]; exact pushCells_keeps _ _ _ _ (Heap.get?_push_of_some _ e)
  have stati : ∀ {σ' : L2.St} {H' : Hp} {s' : Shared}, Inv (X.blk sh3 Hp3 scp cen foot) [] σ' H' s' → (∀ b ∈ foot, H' b = none) → ∀ b ∈ foot, FpOk (X.blk sh3 Hp3 scp cen foot) [] H' b := fun {σ' H' s'} I' ehn b hb =>
    ⟨ehn b hb, (I'.ok.exf b hb).1, I'.ok.exfs b hb, .inl hb, fun x c e => (I'.ok.exf b hb).2 x c e, fun p hp => absurd (show p ∈ ([] : List (Addr × Obj)) ++ [] from hp) (by simp)⟩
  have looped : codeAny (model X.prog X.w) X.A (.compLoop (.DictComp ke ve [⟨tgt, itr, tests, 0⟩] scp ps0) 0 (.ref itt) (.ref D) cen) (compPost (model X.prog X.w) X.A X.xe use Qf (.ref D) sh3.heap.objs.size) sh4 := by
    refine compLoop_anyD (fun n s' => ∃ i H', Inv (X.blk sh3 Hp3 scp cen foot) [] (wipe σ (mine.map (·.2))) H' s' ∧ tur i s'.heap ∧ (∀ b ∈ foot, H' b = none) ∧ Wt i n H') ?_ mm ⟨0, Hp3, In4, sta4, nof, ww⟩
    rintro n sh5 ⟨i, Hp5, In5, sta5, no5, wt5⟩
    rcases each i n Hp5 wt5 with ⟨stops, qfin⟩ | ⟨going, Next, eNext, stepped⟩
    · have tdo := Tn.done (X.blk sh3 Hp3 scp cen foot) rfl rfl rfl cal i [] sh5 _ Hp5 (fun _ _ => False) In5 (stati In5 no5) sta5 stops
      refine thnF tdo fun r sh6 ⟨ehr, In6⟩ => ?_
      subst ehr
      -- back in the def's context
      have In7 : Inv X pins σ Hp5 sh6 := In3.call' (ch := foot) In6.os In6.base In6.hok In6.bare fun b hb => ⟨(fo3 b hb).1.2.2.2.1, (fo3 b hb).1.2.1, (fo3 b hb).1.2.2.2.2.1, (fo3 b hb).1.2.2.2.2.2⟩
      have noC : Hp5 sh3.heap.objs.size = none := by
        have z : Hp5 cen.locals = none := In6.free
        rw [eloc] at z
        exact z
      obtain ⟨m, ehn, _⟩ := In6.loc
      have ehn : sh6.heap.Ns cen.locals m := ehn
      rw [eloc] at ehn
      exact fini D sh3.heap.objs.size sh6 m Hp5 In7 qfin ehn (In3.fpOk (Nat.le_refl _) noC)
    · have tit := Tn.item (X.blk sh3 Hp3 scp cen foot) rfl rfl rfl cal i [] sh5 _ Hp5 (fun _ _ => False) In5 (stati In5 no5) sta5 going
      refine thnF tit fun r sh6 ⟨u, ehr, eh6⟩ => ?_
      subst ehr
      refine thnF eh6 fun _ sh7 ⟨x, Hp7, In7, re7, ye7, sta7, no7⟩ => ?_
      have In7' := In7.pinned (stati In7 no7) (Tn.obj _ _ sta7)
      refine thnF (pga.run _ sh7 _ Hp7 x u _ In7' re7 (stepped x Hp7 ye7)) fun _ sh8 ⟨σ8, Hp8, In8, ew8, qu8⟩ => ?_
      refine thnF (pta.run _ sh8 σ8 Hp8 _ In8 qu8) fun b sh9 ⟨Hp9, In9, qu9⟩ => ?_
      -- the turn's end
      have fin_ : ∀ {s' : Shared} {H' : Hp}, Inv (X.blk sh3 Hp3 scp cen foot) ([] ++ pinsAt foot sh7.heap) σ8 H' s' → Next H' → ∃ m, m < n ∧ ∃ i H', Inv (X.blk sh3 Hp3 scp cen foot) [] (wipe σ (mine.map (·.2))) H' s' ∧ tur i s'.heap ∧ (∀ b ∈ foot, H' b = none) ∧ Wt i m H' := fun {s' H'} I' nxt => by
        obtain ⟨m', ehm, wt'⟩ := eNext H' nxt
        have pinned_ : ∀ b ∈ foot, ∀ o, sh7.heap.get? b = some o → s'.heap.get? b = some o ∧ H' b = none := fun b hb o e =>
          let z := I'.pin (b, o) (List.mem_append_right _ (List.mem_append_right _ (mem_pinsAt hb e)))
          ⟨z.1, z.2.1⟩
        have ehl : (wipe σ (mine.map (·.2))).length = σ8.length := by rw [← ew8, wipe_length]
        refine ⟨m', ehm, i + 1, H', (I'.unpinned (pins := [])).weak ehl (fun j v e => ?_), Tn.keep _ _ _ sta7 fun b hb o e => (pinned_ b hb o e).1, fun b hb => ?_, wt'⟩
        · rw [← ew8] at e
          exact (wipe_some e).1
        · obtain ⟨o, e, _⟩ := Tn.obj _ _ sta7 b hb
          exact (pinned_ b hb o e).2
      cases b with
      | false =>
        simp only [Bool.false_eq_true, if_false] at qu9 ⊢
        exact fin_ In9 qu9
      | true =>
        simp only [if_true] at qu9 ⊢
        refine thnF (pka.run _ sh9 σ8 Hp9 _ In9 qu9) fun z sh10 ⟨yke, Hp10, In10, re10, qu10⟩ => ?_
        refine thnF (pea.run _ sh10 σ8 Hp10 _ In10 qu10) fun zz sh11 ⟨yva, Hp11, In11, re11, kvs, k, bb, eke, ebb, eD11, ez11, nxt⟩ => ?_
        subst eke
        obtain rfl : z = Value.ref bb := re10
        exact d_dictSetT (X := X.blk sh3 Hp3 scp cen foot) hu In11 ebb eD11 ez11 re11 fun sh12 In12 => fin_ In12 nxt
  exact codeAny_compStart_dict looped (Tn.self X.A 0 _ _ _ sta4 looped)
/-- as a value -/
theorem pe_dcT {ke ve tgt itr : Expr} {tests : List Expr} {scp : Scope} {mine : List (Str × Nat)} {ps0 : Pos} {wit : TI} {gt : TG} {tst : TT} {tke tva : TE} (cal : X.calm = true) (hu : X.A.units < cLine) (ndn : X.N.Nodup) (pit : PI X tgt itr wit) (blo : BlkOk X.N X.env.scope scp mine)
    (pgo : ∀ (s : Shared) (H : Hp) (C : Addr) (cl : List (Str × Addr)) (foot : List Addr), PG (X.blk s H scp (compEnvC scp cl C X.env) foot) tgt gt) (pts0 : ∀ (s : Shared) (H : Hp) (C : Addr) (cl : List (Str × Addr)) (foot : List Addr), PTs (X.blk s H scp (compEnvC scp cl C X.env) foot) tests tst)
    (pke : ∀ (s : Shared) (H : Hp) (C : Addr) (cl : List (Str × Addr)) (foot : List Addr), PE (X.blk s H scp (compEnvC scp cl C X.env) foot) ke tke)
    (pee : ∀ (s : Shared) (H : Hp) (C : Addr) (cl : List (Str × Addr)) (foot : List Addr), PE (X.blk s H scp (compEnvC scp cl C X.env) foot) ve tva) (fol : ∀ x, foldedSetIterable itr X.env x = pure x := by intro _; rfl) :
    PE X (.DictComp ke ve [⟨tgt, itr, tests, 0⟩] scp ps0) (tDcT wit gt tst tke tva (mine.map (·.2))) := by
  refine ⟨fun pins s σ H Q I hyp => ?_⟩
  rw [arm_eval_DictComp]
  refine dcT_core cal hu ndn I pit blo pgo pts0 pke pee fol hyp fun D C s' m H' I' qu ehn f => ⟨m, ehn, fun h'' sb => ?_⟩
  obtain ⟨e0, e1, fo2, fo3, f4, f5⟩ := f
  exact ⟨.ref D, H', I'.turned (t' := s'.toks) (fun b o hb e => (sb.2 b hb).trans e) e0 e1 fo3 f4 f5, rfl, qu⟩
end
end Ah
set_option Elab.async false
set_option linter.all false
set_option maxRecDepth 100000
set_option maxHeartbeats 4000000
namespace Ah
open PySem PySem.Spec PyProof.Rows L2
open PySem.W (AllAlike Sortable)
/-! ### a dict whose keys are pairs, all of them True -/
def keyP (p : Str × Str) : List Key := [.inr p.1, .inr p.2]
def kvsOf (ks : List (Str × Str)) : List (List Key × V) := ks.map fun p => (keyP p, V.bl true)
def putP (ks : List (Str × Str)) (p : Str × Str) : List (Str × Str) := if p ∈ ks then ks else ks ++ [p]
theorem keyP_inj {p q : Str × Str} (h : keyP p = keyP q) : p = q := by
  unfold keyP at h
  injection h with h1 h2
  injection h2 with h2 _
  exact Prod.ext (Sum.inr.inj h1) (Sum.inr.inj h2)
theorem valV_kvs (ks : List (Str × Str)) (p : Str × Str) : (valV (kvsOf ks) (keyP p)).isSome = decide (p ∈ ks) := by
  induction ks with
  | nil => rfl
  | cons q r ih =>
    by_cases e : q = p
    · subst e
      rw [show kvsOf (q :: r) = (keyP q, V.bl true) :: kvsOf r from rfl, valV_pos rfl, decide_eq_true (List.mem_cons_self ..)]
      rfl
    · rw [show kvsOf (q :: r) = (keyP q, V.bl true) :: kvsOf r from rfl, valV_neg (fun z => e (keyP_inj z)), ih]
      have : p ∈ q :: r ↔ p ∈ r := ⟨fun h => (List.mem_cons.mp h).resolve_left fun z => e z.symm, List.mem_cons_of_mem _⟩
      simp only [this]
theorem putK_kvs (ks : List (Str × Str)) (p : Str × Str) : putK (kvsOf ks) (keyP p) (V.bl true) = kvsOf (putP ks p) := by
  unfold putK putP
  have e1 : ((kvsOf ks).any fun kv => decide (kv.1 = keyP p)) = decide (p ∈ ks) := by
    rw [Bool.eq_iff_iff, List.any_eq_true, decide_eq_true_iff]
    constructor
    · rintro ⟨kv, h1, h2⟩
      obtain ⟨q, hq, rfl⟩ := List.mem_map.mp h1
      exact keyP_inj (of_decide_eq_true h2) ▸ hq
    · intro h
      exact ⟨_, List.mem_map.mpr ⟨p, h, rfl⟩, decide_eq_true rfl⟩
  rw [e1]
  by_cases h : p ∈ ks
  · rw [if_pos (decide_eq_true h), if_pos h]
    unfold kvsOf
    rw [List.map_map]
    refine List.map_congr_left fun q _ => ?_
    show (if keyP q = keyP p then (keyP q, V.bl true) else (keyP q, V.bl true)) = _
    split <;> rfl
  · rw [if_neg (fun z => h (of_decide_eq_true z)), if_neg h]
    unfold kvsOf
    rw [List.map_append]
    rfl
theorem putP_mem {ks : List (Str × Str)} {p q : Str × Str} : q ∈ putP ks p ↔ q ∈ ks ∨ q = p := by
  unfold putP
  split
  · rename_i h
    exact ⟨.inl, fun z => z.elim id fun e => e ▸ h⟩
  · rw [List.mem_append, List.mem_singleton]
theorem putP_nodup {ks : List (Str × Str)} {p : Str × Str} (h : ks.Nodup) : (putP ks p).Nodup := by
  unfold putP
  split
  · exact h
  · rename_i hp
    rw [List.nodup_append]
    exact ⟨h, List.nodup_cons.mpr ⟨List.not_mem_nil, List.nodup_nil⟩, fun a ha b hb e => hp (by rw [← List.mem_singleton.mp hb, ← e]; exact ha)⟩
theorem putP_len (ks : List (Str × Str)) (p : Str × Str) : (putP ks p).length ≤ ks.length + 1 := by
  unfold putP
  split
  · omega
  · rw [List.length_append]; exact Nat.le_refl _
theorem keyD_kvs (ks : List (Str × Str)) : ((kvsOf ks).map fun kv => keyD kv.1) = ks.map prD := by
  unfold kvsOf
  rw [List.map_map]
  rfl
theorem kvs_len (ks : List (Str × Str)) : (kvsOf ks).length = ks.length := List.length_map ..
/-- what sorted tells of the keys -/
theorem keys_sorted {H : Hp} {ks ds : List (Str × Str)} {bs : List Addr} {zs : List (V × PyData)} (isk : IsKeys H (kvsOf ks) bs) (pm : zs.Perm ((bs.map V.ref).zip (ks.map prD))) (e : zs.map (·.2) = ds.map prD) : PrsV H (zs.map (·.1)) ds := by
  have inj : ∀ p q : Str × Str, prD p = prD q → p = q := fun p q h => by
    unfold prD at h
    injection h with h
    injection h with h1 h2
    injection h2 with h2 _
    injection h1 with h1
    injection h2 with h2
    exact Prod.ext h1 h2
  have all : ∀ z ∈ (bs.map V.ref).zip (ks.map prD), ∃ p, z.2 = prD p ∧ PrV H z.1 p := by
    clear pm e
    unfold IsKeys at isk
    induction ks generalizing bs with
    | nil =>
      intro z hz
      rw [List.map_nil, List.zip_nil_right] at hz
      cases hz
    | cons p r ih =>
      cases isk with
      | cons h t =>
        intro z hz
        rcases List.mem_cons.mp hz with e | hz
        · subst e
          exact ⟨p, rfl, _, rfl, h⟩
        · exact ih t z hz
  have all2 : ∀ z ∈ zs, ∃ p, z.2 = prD p ∧ PrV H z.1 p := fun z hz => all z (pm.mem_iff.mp hz)
  clear pm isk all
  induction zs generalizing ds with
  | nil =>
    cases ds with
    | nil => trivial
    | cons d r => cases e
  | cons z zs ih =>
    cases ds with
    | nil => cases e
    | cons d r =>
      rw [List.map_cons, List.map_cons] at e
      injection e with e1 e2
      obtain ⟨p, h1, h2⟩ := all2 z (List.mem_cons_self ..)
      have : p = d := inj _ _ (h1.symm.trans e1)
      subst this
      exact ⟨h2, ih e2 fun y hy => all2 y (List.mem_cons_of_mem _ hy)⟩
end Ah
set_option Elab.async false
set_option linter.all false
set_option maxRecDepth 100000
set_option maxHeartbeats 4000000
namespace Ah
open PySem PySem.Spec PyProof.Rows L2
/-- a dict comprehension, keys tuples, over what stands still -/
theorem dcT_gen {J : It} {n : Nat} {item : Nat → V} {g : TG} {tt : TT} {tk tv : TE} {vs : List Nat} {σ : L2.St} {H1 : Hp} {D : Addr} {Qd : Hp → Prop} (Pv : Nat → Hp → Prop) (h0 : Pv 0 (upd H1 D (.dT [])))
    (hgo : ∀ i H, i < n → Pv i H → J.go i H) (hst : ∀ H, Pv n H → J.stop n H) (hy : ∀ i H x H', i < n → Pv i H → J.yld i H x H' → H' = H ∧ x = item i)
    (hs : ∀ i H, i < n → Pv i H → g (item i) (wipe σ vs) H fun σ2 H2 => wipe σ2 vs = wipe σ vs ∧ tt σ2 H2 fun b H3 =>
      if b = true then tk σ2 H3 fun y H4 => tv σ2 H4 fun z H5 => ∃ (kvs : List (List Key × V)) (k : List Key) (b : Addr), y = .ref b ∧ H5 b = some (.tup (k.map kV)) ∧ H5 D = some (.dT kvs) ∧ kvs.length < sizeLine ∧ Pv (i + 1) (upd H5 D (.dT (putK kvs k z))) else Pv (i + 1) H3) (hd : ∀ H, Pv n H → Qd H) :
    ∃ Wt : Nat → Nat → Hp → Prop, (∃ m, Wt 0 m (upd H1 D (.dT []))) ∧ ∀ i m H, Wt i m H →
      (J.stop i H ∧ Qd H) ∨ (J.go i H ∧ ∃ Next : Hp → Prop, (∀ H', Next H' → ∃ m', m' < m ∧ Wt (i + 1) m' H') ∧ ∀ x H', J.yld i H x H' → g x (wipe σ vs) H' fun σ2 H2 => wipe σ2 vs = wipe σ vs ∧ tt σ2 H2 fun b H3 =>
        if b = true then tk σ2 H3 fun y H4 => tv σ2 H4 fun z H5 => ∃ (kvs : List (List Key × V)) (k : List Key) (b : Addr), y = .ref b ∧ H5 b = some (.tup (k.map kV)) ∧ H5 D = some (.dT kvs) ∧ kvs.length < sizeLine ∧ Next (upd H5 D (.dT (putK kvs k z))) else Next H3) := by
  refine ⟨fun i m H => m = n - i ∧ i ≤ n ∧ Pv i H, ⟨n, rfl, Nat.zero_le _, h0⟩, ?_⟩
  rintro i m H ⟨rfl, hi, p⟩
  rcases Nat.lt_or_ge i n with hlt | hge
  · refine .inr ⟨hgo i H hlt p, Pv (i + 1), fun H' p' => ⟨n - (i + 1), by omega, rfl, hlt, p'⟩, fun x H' y => ?_⟩
    obtain ⟨rfl, rfl⟩ := hy i H x H' hlt p y
    exact hs i _ hlt p
  · obtain rfl : i = n := by omega
    exact .inl ⟨hst H p, hd H p⟩
/-- what walks a list or a tuple -/
structure Goer (J : It) (L : Hp → Prop) (xs : List V) : Prop where
  go : ∀ i H, i < xs.length → L H → J.go i H
  stop : ∀ H, L H → J.stop xs.length H
  yld : ∀ i H x H', L H → i < xs.length → J.yld i H x H' → H' = H ∧ x = xs.getD i .non
  keep : ∀ H H', Same H H' → L H → L H'
theorem goer_l (K : PySem.W.Frag) (a : Addr) (xs : List V) : Goer (Itl K a) (fun H => H a = some (.lst xs)) xs where
  go i H hi h := ⟨xs, xs[i], SqL.of h, List.getElem?_eq_getElem hi⟩
  stop H h := ⟨xs, SqL.of h, Nat.le_refl _⟩
  yld i H x H' h hi y := by
    obtain ⟨e, y⟩ := y
    refine ⟨e, ?_⟩
    have := y xs (SqL.of h)
    rw [List.getD_eq_getElem?_getD, this]
    rfl
  keep H H' s h := s _ _ h
theorem goer_t (K : PySem.W.Frag) (a : Addr) (xs : List V) : Goer (Itt K a) (fun H => Rd H a (.tup xs)) xs where
  go i H hi h := ⟨xs, xs[i], .inl h, List.getElem?_eq_getElem hi⟩
  stop H h := ⟨xs, .inl h, Nat.le_refl _⟩
  yld i H x H' h hi y := by
    obtain ⟨e, y⟩ := y
    refine ⟨e, ?_⟩
    have := y xs (.inl h)
    rw [List.getD_eq_getElem?_getD, this]
    rfl
  keep H H' s h := rd_same s h
theorem iOr_by {K : PySem.W.Frag} {tl : TE} {a : Addr} {xs : List V} {σ : L2.St} {H H1 : Hp} {R : It → Hp → Prop} (ht : ∀ Q : VK, Q (.ref a) H1 → tl σ H Q) (h : LTu H1 a xs) (k : ∀ J L, Goer J L xs → L H1 → R J H1) : iOr (iList K tl) (iTup K tl) σ H R := by
  rcases h with h | h
  · exact .inl (ht _ ⟨a, rfl, ⟨xs, SqL.of h⟩, k _ _ (goer_l K a xs) h⟩)
  · exact .inr (ht _ ⟨a, rfl, ⟨xs, .inl h⟩, k _ _ (goer_t K a xs) h⟩)
/-- the dict of these keys -/
def HeldT (H : Hp) (D : Addr) (ks : List (Str × Str)) : Prop := H D = some (.dT (kvsOf ks))
def putPs (ks : List (Str × Str)) : List (Str × Str) := ks.foldl putP []
theorem putPs_snoc (ks : List (Str × Str)) (p : Str × Str) : putPs (ks ++ [p]) = putP (putPs ks) p := by
  unfold putPs
  rw [List.foldl_append]
  rfl
theorem putPs_mem (ks : List (Str × Str)) : ∀ q, q ∈ putPs ks ↔ q ∈ ks := by
  have : ∀ (l acc : List (Str × Str)) q, q ∈ l.foldl putP acc ↔ q ∈ acc ∨ q ∈ l := by
    intro l
    induction l with
    | nil => intro acc q; simp
    | cons p r ih =>
      intro acc q
      rw [List.foldl_cons, ih, putP_mem, List.mem_cons, or_assoc]
  intro q
  exact (this ks [] q).trans (by simp)
theorem putPs_nodup (ks : List (Str × Str)) : (putPs ks).Nodup := by
  have : ∀ (l acc : List (Str × Str)), acc.Nodup → (l.foldl putP acc).Nodup := by
    intro l
    induction l with
    | nil => exact fun _ h => h
    | cons p r ih => exact fun acc h => ih _ (putP_nodup h)
  exact this ks [] List.nodup_nil
theorem putPs_len (ks : List (Str × Str)) : (putPs ks).length ≤ ks.length := by
  have : ∀ (l acc : List (Str × Str)), (l.foldl putP acc).length ≤ acc.length + l.length := by
    intro l
    induction l with
    | nil => exact fun _ => Nat.le_refl _
    | cons p r ih =>
      intro acc
      have h1 := ih (putP acc p)
      have h2 := putP_len acc p
      rw [List.foldl_cons, List.length_cons]
      omega
  have q := this ks []
  rw [List.length_nil, Nat.zero_add] at q
  exact q
abbrev sIsWeb : Stmt := topS 5
section
variable {P : Program} {w : World} {K : PySem.W.Frag} {mg : Str → Option Value} {base : Heap}
theorem scIsWeb : FnScope ["hands", "thing", "held", "pair", "a", "b", "other", "c"] ["hands", "thing"] (defScope sIsWeb) := ⟨rfl, rfl, rfl, by decide +kernel, rfl, by decide +kernel, by decide +kernel⟩
/-- of a web -/
def spIsWeb : Sp := fun vs H Q _ => ∃ (g t : Addr) (us : List V) (hs : List Str) (ps : List (Str × Str)), vs = [.ref g, .ref t] ∧ LTu H g (hs.map V.str) ∧ Rd H t (.tup us) ∧ PrsV H us ps ∧ ps.Pairwise pLt ∧ ps.length ≤ 64 ∧ (∀ x y, (x, y) ∈ ps → x ∈ hs ∧ y ∈ hs ∧ x ≠ y) ∧
  (∀ x y z, (x, y) ∈ ps → (y, z) ∈ ps → (x, z) ∈ ps) ∧ ∀ H', Same H H' → Q (.bl true) H'
theorem ok_isWeb {f f1 f2 : Addr} {fd fd1 fd2 : FuncData} (F : Fun K "is_web" "is_web" sIsWeb f fd) (B : Blt2 mg) (D1 : Df P w K mg base CX0 "is_pair" 1 f1 fd1 ["hands", "thing"] spIsPair) (D2 : Df P w K mg base CX0 "is_rising" 1 f2 fd2 ["things"] spRising) : FnOk P w K mg base CX0 2 f fd ["hands", "thing"] spIsWeb := by
  refine F.ok scIsWeb (fun vs H Q E h => ?_) (fun cdv A outer s H vs Q E hr h => ?_)
  · obtain ⟨g, t, us, hs, ps, rfl, _⟩ := h
    rfl
  · obtain ⟨g, t, us, hs, ps, rfl, hg, ht, hps, hp, hl, hin, htr, k⟩ := h
    have nd := scIsWeb.nd
    have hu := hu_of hr
    have hu1 : (A.deeper (envOfC "is_web" (defScope sIsWeb) s.heap.objs.size f cdv)).units < cLine := by
      have := hu
      omega
    refine ⟨_, pss_cons (ps_if (PW.pt (pw_or (pt_not (pt_val (pe_callB call_isi (by rfl) B.isinstance (by decide +kernel) (pa_cons (pv 1) (pa_cons (pe_bltn (v := .ty "tuple") (by rfl) B.tuple (by decide +kernel) rfl) pa_nil)))))
          (pw_or1 (pt_not (pt_val (pe_callB (cr_all rfl) (by rfl) B.all (by decide +kernel) (pa_cons (pe_lc (own := [("pair", 3)]) (g := gName 3) (tt := tYes) (te := tCall spIsPair [] E0 (tCons (tVar 0) (tCons (tVar 3) tNil))) rfl nd (pi_tup (pv 1))
            (blkOk_by (N := ["hands", "thing", "held", "pair", "a", "b", "other", "c"]) (sc := defScope sIsWeb) (by decide +kernel)) (fun _ _ _ _ _ => pg_name (i := 3) nd rfl (Or.inl rfl)) (fun _ _ _ _ _ => pts_nil)
            (fun _ _ _ _ _ => pe_call D1.ok hr rfl D1.g D1.kp D1.b .nil pass0 (pa_cons (pv 0) (pa_cons (pv 3) pa_nil)))) pa_nil))))))) (pss_one (ps_ret pe_bl)) pss_nil)
      (pss_cons (ps_if (pt_not (pt_val (pe_call D2.ok hr rfl D2.g D2.kp D2.b .nil pass0 (pa_cons (pv 1) pa_nil)))) (pss_one (ps_ret pe_bl)) pss_nil)
      (pss_cons (ps_set (i := 2) nd rfl (.inr rfl) (pe_dcT (mine := [("pair", 3)]) (tst := tYes) (gt := gName 3) (tke := tVar 3) (tva := tC (.bl true)) rfl hu1 nd (pi_tup (pv 1)) (blkOk_by (N := ["hands", "thing", "held", "pair", "a", "b", "other", "c"]) (sc := defScope sIsWeb) (by decide +kernel))
          (fun _ _ _ _ _ => pg_name (i := 3) nd rfl (Or.inl rfl)) (fun _ _ _ _ _ => pts_nil) (fun _ _ _ _ _ => pv 3) (fun _ _ _ _ _ => pe_bl)))
      (pss_one (ps_ret (pe_callB (cr_all rfl) (by rfl) B.all (by decide +kernel) (pa_cons (pe_lc2 (own := [("a", 4), ("b", 5), ("other", 6), ("c", 7)]) (vs1 := [6, 7]) (tt := tYes) (g := gTup K 2 (gCons (gName 4) (gCons (gName 5) gNil))) (wi1 := iTup K (tVar 1)) (g1 := gTup K 2 (gCons (gName 6) (gCons (gName 7) gNil))) (tt1 := tTest (tOp rEq (tVar 6) (tVar 5))) (te := tDIn (tTup (tCons (tVar 4) (tCons (tVar 7) tNil))) (tVar 2)) rfl nd (pi_tup (pv 1))
          (blkOk_by (N := ["hands", "thing", "held", "pair", "a", "b", "other", "c"]) (sc := defScope sIsWeb) (by decide +kernel)) (by decide)
          (fun _ _ _ _ _ => pg_tup rfl (pgs_cons (pg_name (i := 4) nd rfl (Or.inl rfl)) (pgs_cons (pg_name (i := 5) nd rfl (Or.inl rfl)) pgs_nil))) (fun _ _ _ _ _ => pts_nil)
          (fun _ _ _ _ _ => pi_tup (pv 1)) (fun _ _ _ _ _ => pg_tup rfl (pgs_cons (pg_name (i := 6) nd rfl (Or.inl rfl)) (pgs_cons (pg_name (i := 7) nd rfl (Or.inl rfl)) pgs_nil)))
          (fun _ _ _ _ _ => pts_one (pt_cmpR op_eq (pv 6) (pv 5) (nomark _)))
          (fun _ _ _ _ _ => pe_cmp (pc_din hu (pe_tup (pa_cons (pv 4) (pa_cons (pv 7) pa_nil))) (pv 2)))) pa_nil)))))), ?_⟩
    have lu := hps.len
    refine ⟨_, rfl, .ref t, .ty "tuple", _, _, true, rfl, .ty "tuple", ty_tup ht, kit_ty (by decide +kernel), _, rfl, ?_⟩
    refine iteF ⟨_, rfl, t, rfl, ⟨_, .inl ht⟩, fun D0 hD0 => ?_⟩
    refine lc_tup (K := K) (a := t) (xs := us) (fun i H2 => Same H H2 ∧ H2 D0 = some (.lst ((List.replicate i true).map V.bl))) ⟨same_new hD0, upd_same⟩ (fun i H2 _ q => .inl (rd_same q.1 ht)) ?_ ?_
    · rintro i x H2 hx ⟨s2, e2⟩
      obtain ⟨p, hp', vp⟩ := hps.get hx
      have hpm : (p.1, p.2) ∈ ps := List.mem_of_getElem? hp'
      have hil := (List.getElem?_eq_some_iff.mp hx).1
      refine ⟨rfl, _, rfl, _, rfl, g, x, hs, p, rfl, hg.same s2, vp.same s2, ?_⟩
      rw [decide_eq_true (hin _ _ hpm)]
      refine ⟨_, e2, ?_, same_mut s2 hD0, ?_⟩
      · rw [List.length_map, List.length_replicate]
        exact small1000 (by omega)
      · rw [upd_same, List.replicate_succ', List.map_append]
        rfl
    rintro H2 ⟨s2, e2⟩
    refine ⟨D0, _, rfl, SqL.of e2, true, ?_, ?_⟩
    · rw [List.all_replicate]
      split <;> rfl
    refine iteF ⟨_, rfl, t, us, ps, rfl, rd_same s2 ht, hps.same s2, hp, by omega, fun H3 s3 => ⟨true, rfl, ?_⟩⟩
    have s23 := s2.trans s3
    refine iteF ⟨_, rfl, t, rfl, ⟨_, .inl (rd_same s23 ht)⟩, fun D1 hD1 => ?_⟩
    refine dcT_gen (n := us.length) (item := fun i => us.getD i .non) (fun i H4 => Same H3 H4 ∧ HeldT H4 D1 (putPs (ps.take i))) ⟨same_new hD1, upd_same⟩ (fun i H4 hi q => (goer_t K t us).go i H4 hi (rd_same (s23.trans q.1) ht)) (fun H4 q => (goer_t K t us).stop H4 (rd_same (s23.trans q.1) ht)) (fun i H4 x H' hi q y => (goer_t K t us).yld i H4 x H' (rd_same (s23.trans q.1) ht) hi y) ?_ ?_
    · rintro i H4 hi ⟨s4, e4⟩
      have hx : us[i]? = some us[i] := List.getElem?_eq_getElem hi
      obtain ⟨p, hp', vp⟩ := hps.get hx
      obtain ⟨T, eT, hT⟩ := vp.same (s23.trans s4)
      have ex : us.getD i .non = .ref T := by
        rw [List.getD_eq_getElem?_getD, hx]
        exact eT
      have et : ps.take (i + 1) = ps.take i ++ [p] := by rw [List.take_succ, hp']; rfl
      rw [ex, et, putPs_snoc]
      refine ⟨rfl, _, rfl, _, keyP p, T, rfl, hT, e4, ?_, same_mut s4 hD1, ?_⟩
      · have h1 := putPs_len (ps.take i)
        rw [List.length_take] at h1
        rw [kvs_len]
        exact small1000 (by omega)
      · show upd H4 D1 _ D1 = _
        rw [upd_same, putK_kvs]
    rintro H4 ⟨s4, e4⟩
    rw [lu, List.take_length] at e4
    have s24 := s23.trans s4
    refine ⟨_, rfl, t, rfl, ⟨_, .inl (rd_same s24 ht)⟩, fun D2 hD2 => ?_⟩
    have ps_at : ∀ (i : Nat) (x : V) (H5 : Hp), us[i]? = some x → Same H4 H5 → ∃ p T, ps[i]? = some p ∧ x = .ref T ∧ H5 T = some (.tup [.str p.1, .str p.2]) := fun i x H5 hx s5 => by
      obtain ⟨p, hp', vp⟩ := hps.get hx
      obtain ⟨T, eT, hT⟩ := vp.same (s24.trans s5)
      exact ⟨p, T, hp', eT, hT⟩
    refine out_tup (K := K) (a := t) (xs := us) (fun i H5 => Same H4 H5 ∧ ∃ m, m ≤ 64 * i ∧ H5 D2 = some (.lst ((List.replicate m true).map V.bl))) ⟨same_new hD2, 0, Nat.le_refl _, upd_same⟩ (fun i H5 _ q => .inl (rd_same (s24.trans q.1) ht)) ?_ ?_
    · rintro i x H5 hx ⟨s5, m, lm, e5⟩
      obtain ⟨p, T, hp', rfl, hT⟩ := ps_at i x H5 hx s5
      have hil := (List.getElem?_eq_some_iff.mp hx).1
      refine ⟨T, _, rfl, .inl (.inl hT), rfl, _, _, rfl, _, _, rfl, rfl, rfl, ?_⟩
      refine ⟨_, rfl, t, rfl, ⟨_, .inl (rd_same (s24.trans s5) ht)⟩, ?_⟩
      refine out_tup (K := K) (a := t) (xs := us) (fun j H6 => Same H4 H6 ∧ ∃ m, m ≤ 64 * i + j ∧ H6 D2 = some (.lst ((List.replicate m true).map V.bl))) ⟨s5, m, lm, e5⟩ (fun j H6 _ q => .inl (rd_same (s24.trans q.1) ht)) ?_ ?_
      · rintro j y H6 hy ⟨s6, m6, l6, e6⟩
        obtain ⟨q, T2, hq', rfl, hT2⟩ := ps_at j y H6 hy s6
        have hjl := (List.getElem?_eq_some_iff.mp hy).1
        refine ⟨T2, _, rfl, .inl (.inl hT2), rfl, _, _, rfl, _, _, rfl, rfl, rfl, ?_⟩
        refine ⟨_, rfl, _, rfl, rfl, _, rfl, ?_⟩
        by_cases c : q.1 = p.2
        · rw [decide_eq_true (congrArg V.str c)]
          have hin3 : (p.1, q.2) ∈ ps := htr p.1 p.2 q.2 (List.mem_of_getElem? hp') (c ▸ List.mem_of_getElem? hq')
          refine iteT ⟨_, rfl, _, rfl, by show 2 ≤ sizeLine; decide, fun T3 hT3 => ?_⟩
          have s7 : Same H6 (upd H6 T3 (.tup [.str p.1, .str q.2])) := same_new hT3
          refine ⟨_, rfl, D1, _, rfl, DGet.t (k := keyP (p.1, q.2)) (s7 _ _ (s6 _ _ e4)) upd_same, ?_⟩
          rw [valV_kvs, decide_eq_true ((putPs_mem ps _).mpr hin3)]
          refine ⟨_, s7 _ _ e6, ?_, same_mut (s6.trans s7) hD2, m6 + 1, by omega, ?_⟩
          · rw [List.length_map, List.length_replicate, sizeLine_eq]
            omega
          · rw [upd_same, List.replicate_succ', List.map_append]
            rfl
        · rw [decide_eq_false fun z => c (V.str.inj z)]
          exact iteF ⟨s6, m6, by omega, e6⟩
      · rintro H6 ⟨s6, m6, l6, e6⟩
        exact ⟨s6, m6, by omega, e6⟩
    · rintro H5 ⟨s5, m, lm, e5⟩
      refine ⟨D2, _, rfl, SqL.of e5, ?_⟩
      rw [List.all_replicate]
      have := k H5 (s24.trans s5)
      split
      · exact this
      · exact this
end
end Ah
set_option Elab.async false
set_option linter.all false
set_option maxRecDepth 100000
set_option maxHeartbeats 4000000
namespace Ah
open PySem PySem.Spec PyProof.Rows L2
theorem pss_dead {X : Cx} {st : List Stmt} : PSs X st (fun _ _ _ => False) := ⟨fun _ _ _ _ _ _ h => h.elim⟩
theorem for_gen {J : It} {L : Hp → Prop} {xs : List V} (G : Goer J L xs) {g : TG} {tb : TS} {D : Ends} {σ : L2.St} {H : Hp} (Pv : Nat → L2.St → Hp → Prop) (h0 : Pv 0 σ H) (hl : ∀ i σ H, i ≤ xs.length → Pv i σ H → L H)
    (hs : ∀ i σ H, i < xs.length → Pv i σ H → g (xs.getD i .non) σ H fun σ2 H2 => tb { D with nx := Pv (i + 1), ct := Pv (i + 1), bk := D.nx } σ2 H2) (hd : ∀ σ H, Pv xs.length σ H → D.nx σ H) :
    ∃ W : Nat → Nat → L2.St → Hp → Prop, (∃ m, W 0 m σ H) ∧ ∀ i m σ H, W i m σ H →
      (J.stop i H ∧ D.nx σ H) ∨ (J.go i H ∧ ∃ N : L2.St → Hp → Prop, (∀ σ' H', N σ' H' → ∃ m', m' < m ∧ W (i + 1) m' σ' H') ∧ ∀ x H', J.yld i H x H' → g x σ H' fun σ2 H2 => tb { D with nx := N, ct := N, bk := D.nx } σ2 H2) := by
  refine ⟨fun i m σ H => m = xs.length - i ∧ i ≤ xs.length ∧ Pv i σ H, ⟨xs.length, rfl, Nat.zero_le _, h0⟩, ?_⟩
  rintro i m σ H ⟨rfl, hi, p⟩
  have q := hl i σ H hi p
  rcases Nat.lt_or_ge i xs.length with hlt | hge
  · refine .inr ⟨G.go i H hlt q, Pv (i + 1), fun σ' H' p' => ⟨xs.length - (i + 1), by omega, rfl, hlt, p'⟩, fun x H' y => ?_⟩
    obtain ⟨rfl, rfl⟩ := G.yld i H x H' q hlt y
    exact hs i σ _ hlt p
  · obtain rfl : i = xs.length := by omega
    exact .inl ⟨G.stop H q, hd σ H p⟩
theorem getD_strs (xs : List Str) {i : Nat} (h : i < xs.length) : (xs.map V.str).getD i .non = .str (xs.getD i default) := by
  rw [List.getD_eq_getElem?_getD, List.getD_eq_getElem?_getD, List.getElem?_map, List.getElem?_eq_getElem h]
  rfl
/-- how many keys there can be -/
theorem keys_few {ks : List (Str × Str)} {xs : List Str} (nd : ks.Nodup) (h : ∀ a c, (a, c) ∈ ks → a ∈ xs ∧ c ∈ xs) : ks.length ≤ xs.length * xs.length :=
  Nat.le_trans (nodup_sub_le (m := dueOf (fun _ _ => true) xs) nd fun p hp => dueOf_mem.mpr ⟨(h p.1 p.2 hp).1, (h p.1 p.2 hp).2, rfl⟩) dueOf_len
theorem iOr_by2 {K : PySem.W.Frag} {tl : TE} {a : Addr} {xs : List V} {σ : L2.St} {H H1 : Hp} {R : It → Hp → Prop} (ht : ∀ Q : VK, Q (.ref a) H1 → tl σ H1 Q) (s : Same H H1) (h : LTu H a xs) (k : ∀ J L, Goer J L xs → L H → R J H1) : iOr (iList K tl) (iTup K tl) σ H1 R := by
  rcases h with h | h
  · exact .inl (ht _ ⟨a, rfl, ⟨xs, SqL.of (s _ _ h)⟩, k _ _ (goer_l K a xs) h⟩)
  · exact .inr (ht _ ⟨a, rfl, ⟨xs, .inl (rd_same s h)⟩, k _ _ (goer_t K a xs) h⟩)
abbrev sClosed : Stmt := topS 7
section
variable {P : Program} {w : World} {K : PySem.W.Frag} {mg : Str → Option Value} {base : Heap}
theorem scClosed : FnScope ["hands", "pairs", "knotted", "held", "b", "a", "before", "c", "behind", "pair"] ["hands", "pairs"] (defScope sClosed) := ⟨rfl, rfl, rfl, by decide +kernel, rfl, by decide +kernel, by decide +kernel⟩
/-- of pairs that a row keeps -/
def spClosed : Sp := fun vs H Q _ => ∃ (a b : Addr) (xs : List Str) (us : List V) (ps : List (Str × Str)) (row hs : List Str) (R : Str → Str → Bool), vs = [.ref a, .ref b] ∧ LTu H a (xs.map V.str) ∧ LTu H b us ∧ PrsV H us ps ∧ (∀ x ∈ xs, PyData.strOk x = true) ∧ PrsOk ps ∧ xs.length ≤ 8 ∧ ps.length ≤ 100 ∧
  KeepR row ps ∧ (∀ x y, (x, y) ∈ ps → x ∈ xs ∧ y ∈ xs) ∧ xs.Perm hs ∧ hs.Pairwise sLt ∧ (∀ x y, R x y = true ↔ Lead ps x y) ∧
  ∀ (t : Addr) (ws : List V) (H' : Hp), Same H H' → Ftp H' t ws → PrsV H' ws (dueOf R hs) → Q (.ref t) H'
theorem ok_closed {f f1 : Addr} {fd fd1 : FuncData} (F : Fun K "closed" "closed" sClosed f fd) (B : Blt2 mg) (D : Df P w K mg base CX0 "knotted_hands" 2 f1 fd1 ["hands", "pairs"] spKnotted) : FnOk P w K mg base CX0 3 f fd ["hands", "pairs"] spClosed := by
  refine F.ok scClosed (fun vs H Q E h => ?_) (fun cdv A outer s H vs Q E hr h => ?_)
  · obtain ⟨a, b, xs, us, ps, row, hs, R, rfl, _⟩ := h
    rfl
  · obtain ⟨a, b, xs, us, ps, row, hs, R, rfl, ha, hb, hps, ok, okp, hl, hl2, hk, hin, hpm, hst, hR, k⟩ := h
    have nd := scClosed.nd
    have hu := hu_of hr
    have hu1 : (A.deeper (envOfC "closed" (defScope sClosed) s.heap.objs.size f cdv)).units < cLine := by
      have := hu
      omega
    refine ⟨_, pss_cons (ps_set (i := 2) nd rfl (.inl rfl) (pe_call D.ok hr rfl D.g D.kp D.b .nil pass0 (pa_cons (pv 0) (pa_cons (pv 1) pa_nil))))
      (pss_cons (ps_if (pt_truth (pv 2) (by intro _; rfl)) pss_dead pss_nil)
      (pss_cons (ps_set (i := 3) nd rfl (.inr rfl) (pe_dcT (mine := [("pair", 9)]) (tst := tYes) (gt := gName 9) (tke := tVar 9) (tva := tC (.bl true)) rfl hu1 nd (pi_or (pi_list (pv 1)) (pi_tup (pv 1))) (blkOk_by (N := ["hands", "pairs", "knotted", "held", "b", "a", "before", "c", "behind", "pair"]) (sc := defScope sClosed) (by decide +kernel))
          (fun _ _ _ _ _ => pg_name (i := 9) nd rfl (Or.inl rfl)) (fun _ _ _ _ _ => pts_nil) (fun _ _ _ _ _ => pv 9) (fun _ _ _ _ _ => pe_bl)))
      (pss_cons (ps_for PassesOwn.never rfl (pi_or (pi_list (pv 0)) (pi_tup (pv 0))) (pg_name (i := 4) nd rfl (.inr rfl))
        (pss_cons (ps_setLc (i := 6) (own := [("a", 5)]) (g := gName 5) (tt := tB (tDIn (tTup (tCons (tVar 5) (tCons (tVar 4) tNil))) (tVar 3))) (te := tVar 5) rfl nd rfl rfl (by rfl) (pi_or (pi_list (pv 0)) (pi_tup (pv 0)))
            (blkOk_by (N := ["hands", "pairs", "knotted", "held", "b", "a", "before", "c", "behind", "pair"]) (sc := defScope sClosed) (by decide +kernel)) (fun _ _ _ _ _ => pg_name (i := 5) nd rfl (Or.inl rfl))
            (fun _ _ _ _ _ => pts_one (pt_cmp (pc_din hu (pe_tup (pa_cons (pv 5) (pa_cons (pv 4) pa_nil))) (pv 3)))) (fun _ _ _ _ _ => pv 5))
        (pss_cons (ps_setLc (i := 8) (own := [("c", 7)]) (g := gName 7) (tt := tB (tDIn (tTup (tCons (tVar 4) (tCons (tVar 7) tNil))) (tVar 3))) (te := tVar 7) rfl nd rfl rfl (by rfl) (pi_or (pi_list (pv 0)) (pi_tup (pv 0)))
            (blkOk_by (N := ["hands", "pairs", "knotted", "held", "b", "a", "before", "c", "behind", "pair"]) (sc := defScope sClosed) (by decide +kernel)) (fun _ _ _ _ _ => pg_name (i := 7) nd rfl (Or.inl rfl))
            (fun _ _ _ _ _ => pts_one (pt_cmp (pc_din hu (pe_tup (pa_cons (pv 4) (pa_cons (pv 7) pa_nil))) (pv 3)))) (fun _ _ _ _ _ => pv 7))
        (pss_one (ps_for PassesOwn.never rfl (pi_list (pv 6)) (pg_name (i := 5) nd rfl (.inl rfl))
          (pss_one (ps_for PassesOwn.never rfl (pi_list (pv 8)) (pg_name (i := 7) nd rfl (.inl rfl))
            (pss_one (ps_dput hu (pv 3) (pe_tup (pa_cons (pv 5) (pa_cons (pv 7) pa_nil))) pe_bl rfl)))))))))
      (pss_one (ps_ret (pe_callTy call_tuple_ofF (by rfl) B.tuple (by decide +kernel) (pa_cons (pe_callB (cr_sortedT rfl hr.units) (by rfl) B.sorted (by decide +kernel) (pa_cons (pv 3) pa_nil)) pa_nil))))))), ?_⟩
    have lu := hps.len
    have lm : (xs.map V.str).length = xs.length := List.length_map ..
    refine ⟨_, rfl, _, rfl, a, b, xs, us, ps, rfl, ha, hb, hps, ok, okp, by omega, fun q ys H1 s1 py sy e1 => ?_⟩
    rw [peels_nil hk ys] at e1
    refine ⟨_, rfl, _, .inl ⟨_, SqL.of e1, rfl⟩, ?_⟩
    refine iteF ?_
    refine iOr_by (fun Q q => ⟨_, rfl, q⟩) (hb.same s1) fun J L G hL => fun D1 hD1 => ?_
    have hD1H : H D1 = none := none_of s1 hD1
    refine dcT_gen (n := us.length) (item := fun i => us.getD i .non) (fun i H4 => Same H1 H4 ∧ HeldT H4 D1 (putPs (ps.take i))) ⟨same_new hD1, upd_same⟩ (fun i H4 hi q => G.go i H4 hi (G.keep _ _ q.1 hL)) (fun H4 q => G.stop H4 (G.keep _ _ q.1 hL)) (fun i H4 x H' hi q y => G.yld i H4 x H' (G.keep _ _ q.1 hL) hi y) ?_ ?_
    · rintro i H4 hi ⟨s4, e4⟩
      have hx : us[i]? = some us[i] := List.getElem?_eq_getElem hi
      obtain ⟨p, hp', vp⟩ := hps.get hx
      obtain ⟨T, eT, hT⟩ := vp.same (s1.trans s4)
      have ex : us.getD i .non = .ref T := by
        rw [List.getD_eq_getElem?_getD, hx]
        exact eT
      have et : ps.take (i + 1) = ps.take i ++ [p] := by rw [List.take_succ, hp']; rfl
      rw [ex, et, putPs_snoc]
      refine ⟨rfl, _, rfl, _, keyP p, T, rfl, hT, e4, ?_, same_mut s4 hD1, ?_⟩
      · have h1 := putPs_len (ps.take i)
        rw [List.length_take] at h1
        rw [kvs_len]
        exact small1000 (by omega)
      · show upd H4 D1 _ D1 = _
        rw [upd_same, putK_kvs]
    rintro H4 ⟨s4, e4⟩
    rw [lu, List.take_length] at e4
    have s14 := s1.trans s4
    refine iOr_by2 (fun Q q => ⟨_, rfl, q⟩) s14 ha fun J2 L2' G2 hL2 => ?_
    refine for_gen G2 (fun i σ H5 => ∃ (o4 o5 o6 o7 o8 : Option V) (ks : List (Str × Str)), σ = [some (.ref a), some (.ref b), some (.ref q), some (.ref D1), o4, o5, o6, o7, o8, none] ∧ Same H H5 ∧ HeldT H5 D1 ks ∧ ks.Nodup ∧ ∀ x y, (x, y) ∈ ks ↔ vias (fun x y => (x, y) ∈ ps) (xs.take i) x y)
      ⟨none, none, none, none, none, putPs ps, rfl, s14, e4, putPs_nodup ps, fun x y => putPs_mem ps _⟩ (fun i σ H5 _ ⟨_, _, _, _, _, _, _, z, _⟩ => G2.keep _ _ z hL2) ?_ ?_
    · rintro i σ H5 hi ⟨o4, o5, o6, o7, o8, ks, rfl, s5, e5, nd5, m5⟩
      rw [lm] at hi
      rw [getD_strs xs hi]
      have eti : xs.take (i + 1) = xs.take i ++ [xs.getD i default] := by rw [List.take_succ, getD_at hi]; rfl
      generalize hb' : xs.getD i default = b' at eti
      refine iOr_by2 (fun Q q => ⟨_, rfl, q⟩) s5 ha fun J6 L6 G3 hL6 => fun D6 hD6 => ?_
      refine lc_gen (n := (xs.map V.str).length) (item := fun i => (xs.map V.str).getD i .non) (fun j H6 => Same H5 H6 ∧ H6 D6 = some (.lst (((xs.take j).filter fun x => decide ((x, b') ∈ ks)).map V.str))) ⟨same_new hD6, upd_same⟩ (fun j H6 hj q => G3.go j H6 hj (G3.keep _ _ (s5.trans q.1) hL6)) (fun H6 q => G3.stop H6 (G3.keep _ _ (s5.trans q.1) hL6)) (fun j H6 x H' hj q y => G3.yld j H6 x H' (G3.keep _ _ (s5.trans q.1) hL6) hj y) ?_ ?_
      · rintro j H6 hj ⟨s6, e6⟩
        rw [lm] at hj
        rw [getD_strs xs hj]
        have et : xs.take (j + 1) = xs.take j ++ [xs.getD j default] := by rw [List.take_succ, getD_at hj]; rfl
        generalize xs.getD j default = x at et ⊢
        refine ⟨rfl, _, rfl, _, rfl, by show 2 ≤ sizeLine; decide, fun T hT => ?_⟩
        have s7 : Same H6 (upd H6 T (.tup [.str x, .str b'])) := same_new hT
        refine ⟨_, rfl, D1, _, rfl, DGet.t (k := keyP (x, b')) (s7 _ _ (s6 _ _ e5)) upd_same, _, rfl, ?_⟩
        rw [valV_kvs, et, List.filter_append, List.map_append]
        have e7 := s7 _ _ e6
        by_cases c : (x, b') ∈ ks
        · rw [decide_eq_true c, List.filter_cons, if_pos (decide_eq_true c)]
          refine iteT ⟨_, rfl, _, e7, ?_, same_mut (s6.trans s7) hD6, upd_same⟩
          rw [List.length_map]
          exact small1000 (Nat.le_trans (List.length_filter_le _ _) (by rw [List.length_take]; omega))
        · rw [decide_eq_false c, List.filter_cons, if_neg (by rw [decide_eq_false c]; exact Bool.false_ne_true)]
          refine iteF ⟨s6.trans s7, ?_⟩
          rw [e7]
          simp
      rintro H7 ⟨s6, e6⟩
      rw [lm, List.take_length] at e6
      have s57 := s5.trans s6
      have e5 := s6 _ _ e5
      refine iOr_by2 (fun Q q => ⟨_, rfl, q⟩) s57 ha fun J8 L8 G4 hL8 => fun D8 hD8 => ?_
      refine lc_gen (n := (xs.map V.str).length) (item := fun i => (xs.map V.str).getD i .non) (fun j H6 => Same H7 H6 ∧ H6 D8 = some (.lst (((xs.take j).filter fun x => decide ((b', x) ∈ ks)).map V.str))) ⟨same_new hD8, upd_same⟩ (fun j H6 hj q => G4.go j H6 hj (G4.keep _ _ (s57.trans q.1) hL8)) (fun H6 q => G4.stop H6 (G4.keep _ _ (s57.trans q.1) hL8)) (fun j H6 x H' hj q y => G4.yld j H6 x H' (G4.keep _ _ (s57.trans q.1) hL8) hj y) ?_ ?_
      · rintro j H6 hj ⟨s6, e6⟩
        rw [lm] at hj
        rw [getD_strs xs hj]
        have et : xs.take (j + 1) = xs.take j ++ [xs.getD j default] := by rw [List.take_succ, getD_at hj]; rfl
        generalize xs.getD j default = x at et ⊢
        refine ⟨rfl, _, rfl, _, rfl, by show 2 ≤ sizeLine; decide, fun T hT => ?_⟩
        have s7 : Same H6 (upd H6 T (.tup [.str b', .str x])) := same_new hT
        refine ⟨_, rfl, D1, _, rfl, DGet.t (k := keyP (b', x)) (s7 _ _ (s6 _ _ e5)) upd_same, _, rfl, ?_⟩
        rw [valV_kvs, et, List.filter_append, List.map_append]
        have e7 := s7 _ _ e6
        by_cases c : (b', x) ∈ ks
        · rw [decide_eq_true c, List.filter_cons, if_pos (decide_eq_true c)]
          refine iteT ⟨_, rfl, _, e7, ?_, same_mut (s6.trans s7) hD8, upd_same⟩
          rw [List.length_map]
          exact small1000 (Nat.le_trans (List.length_filter_le _ _) (by rw [List.length_take]; omega))
        · rw [decide_eq_false c, List.filter_cons, if_neg (by rw [decide_eq_false c]; exact Bool.false_ne_true)]
          refine iteF ⟨s6.trans s7, ?_⟩
          rw [e7]
          simp
      rintro H8 ⟨s8, e8⟩
      rw [lm, List.take_length] at e8
      have s58 := s57.trans s8
      have e5 : HeldT H8 D1 ks := s8 _ _ e5
      have e6 := s8 _ _ e6
      have hin5 : ∀ x y, (x, y) ∈ ks → x ∈ xs ∧ y ∈ xs := fun x y h => (vias_lead _ (fun _ _ h => Lead.one h) ((m5 x y).mp h)).left hin
      generalize hbf : (xs.filter fun x => decide ((x, b') ∈ ks)) = bf at e6
      generalize hbh : (xs.filter fun x => decide ((b', x) ∈ ks)) = bh at e8
      have mf : ∀ x, x ∈ bf ↔ (x, b') ∈ ks := fun x => by
        rw [← hbf, List.mem_filter]
        exact ⟨fun h => of_decide_eq_true h.2, fun h => ⟨(hin5 _ _ h).1, decide_eq_true h⟩⟩
      have mh : ∀ x, x ∈ bh ↔ (b', x) ∈ ks := fun x => by
        rw [← hbh, List.mem_filter]
        exact ⟨fun h => of_decide_eq_true h.2, fun h => ⟨(hin5 _ _ h).2, decide_eq_true h⟩⟩
      have l64 : xs.length * xs.length ≤ 8 * 8 := Nat.mul_le_mul hl hl
      refine ⟨_, rfl, D6, rfl, ⟨_, SqL.of e6⟩, ?_⟩
      refine for_list (K := K) (a := D6) (xs := bf.map V.str) (fun u σ H9 => ∃ (o5 o7 : Option V) (kl : List (Str × Str)), σ = [some (.ref a), some (.ref b), some (.ref q), some (.ref D1), some (.str b'), o5, some (.ref D6), o7, some (.ref D8), none] ∧ Same H H9 ∧ H9 D6 = some (.lst (bf.map V.str)) ∧ H9 D8 = some (.lst (bh.map V.str)) ∧ HeldT H9 D1 kl ∧ kl.Nodup ∧ ∀ x y, (x, y) ∈ kl ↔ (x, y) ∈ ks ∨ (x ∈ bf.take u ∧ y ∈ bh))
        ⟨_, _, ks, rfl, s58, e6, e8, e5, nd5, fun x y => ⟨.inl, fun z => z.elim id fun z => by simp at z⟩⟩ (fun u σ H9 _ ⟨_, _, _, _, _, z, _⟩ => SqL.of z) ?_ ?_
      · rintro u x σ H9 hx ⟨o5', o7', kl, rfl, s9, f6, f8, e9, nd9, m9⟩
        obtain ⟨x0, hx0, rfl, hxm⟩ := str_at hx
        have etu : bf.take (u + 1) = bf.take u ++ [x0] := by rw [List.take_succ, hx0]; rfl
        refine ⟨_, rfl, D8, rfl, ⟨_, SqL.of f8⟩, ?_⟩
        refine for_list (K := K) (a := D8) (xs := bh.map V.str) (fun v σ H10 => ∃ (o7 : Option V) (kl : List (Str × Str)), σ = [some (.ref a), some (.ref b), some (.ref q), some (.ref D1), some (.str b'), some (.str x0), some (.ref D6), o7, some (.ref D8), none] ∧ Same H H10 ∧ H10 D6 = some (.lst (bf.map V.str)) ∧ H10 D8 = some (.lst (bh.map V.str)) ∧ HeldT H10 D1 kl ∧ kl.Nodup ∧ ∀ x y, (x, y) ∈ kl ↔ ((x, y) ∈ ks ∨ (x ∈ bf.take u ∧ y ∈ bh)) ∨ (x = x0 ∧ y ∈ bh.take v))
          ⟨_, kl, rfl, s9, f6, f8, e9, nd9, fun x y => (m9 x y).trans ⟨.inl, fun z => z.elim id fun z => by simp at z⟩⟩ (fun u σ H9 _ ⟨_, _, _, _, _, z, _⟩ => SqL.of z) ?_ ?_
        · rintro v y σ H10 hy ⟨o7'', kl2, rfl, s10, g6, g8, e10, nd10, m10⟩
          obtain ⟨y0, hy0, rfl, hym⟩ := str_at hy
          have etv : bh.take (v + 1) = bh.take v ++ [y0] := by rw [List.take_succ, hy0]; rfl
          have in10 : ∀ x y, (x, y) ∈ kl2 → x ∈ xs ∧ y ∈ xs := fun x y h => by
            rcases (m10 x y).mp h with (h | h) | h
            · exact hin5 x y h
            · exact ⟨(hin5 _ _ ((mf x).mp (List.mem_of_mem_take h.1))).1, (hin5 _ _ ((mh y).mp h.2)).2⟩
            · exact ⟨h.1 ▸ (hin5 _ _ ((mf x0).mp hxm)).1, (hin5 _ _ ((mh y).mp (List.mem_of_mem_take h.2))).2⟩
          have few := keys_few nd10 in10
          refine ⟨_, rfl, _, rfl, _, rfl, by show 2 ≤ sizeLine; decide, fun T hT => ?_⟩
          have sT : Same H10 (upd H10 T (.tup [.str x0, .str y0])) := same_new hT
          refine ⟨D1, _, rfl, DPut.t (k := keyP (x0, y0)) (sT _ _ e10) upd_same ?_, _, putP kl2 (x0, y0), rfl, same_mut (s10.trans sT) hD1H, ?_, ?_, ?_, putP_nodup nd10, fun x y => ?_⟩
          · rw [kvs_len]
            exact small1000 (by omega)
          · exact (upd_ne fun z => by rw [z] at g6; rw [show H10 D1 = _ from e10] at g6; cases g6).trans (sT _ _ g6)
          · exact (upd_ne fun z => by rw [z] at g8; rw [show H10 D1 = _ from e10] at g8; cases g8).trans (sT _ _ g8)
          · show upd _ D1 _ D1 = _
            rw [upd_same, putK_kvs]
          · rw [putP_mem, m10, etv, List.mem_append, List.mem_singleton, Prod.mk.injEq, or_assoc, or_assoc, or_assoc]
            constructor
            · rintro (h | h | h | h)
              · exact .inl h
              · exact .inr (.inl h)
              · exact .inr (.inr ⟨h.1, .inl h.2⟩)
              · exact .inr (.inr ⟨h.1, .inr h.2⟩)
            · rintro (h | h | ⟨h1, h2 | h2⟩)
              · exact .inl h
              · exact .inr (.inl h)
              · exact .inr (.inr (.inl ⟨h1, h2⟩))
              · exact .inr (.inr (.inr ⟨h1, h2⟩))
        · rintro σ H10 ⟨o7'', kl2, rfl, s10, g6, g8, e10, nd10, m10⟩
          rw [List.length_map, List.take_length] at m10
          refine ⟨_, _, kl2, rfl, s10, g6, g8, e10, nd10, fun x y => (m10 x y).trans ?_⟩
          rw [etu, List.mem_append, List.mem_singleton]
          constructor
          · rintro ((h | h) | h)
            · exact .inl h
            · exact .inr ⟨.inl h.1, h.2⟩
            · exact .inr ⟨.inr h.1, h.2⟩
          · rintro (h | ⟨h1 | h1, h2⟩)
            · exact .inl (.inl h)
            · exact .inl (.inr ⟨h1, h2⟩)
            · exact .inr ⟨h1, h2⟩
      · rintro σ H9 ⟨o5', o7', kl, rfl, s9, f6, f8, e9, nd9, m9⟩
        rw [List.length_map, List.take_length] at m9
        refine ⟨_, _, _, _, _, kl, rfl, s9, e9, nd9, ?_⟩
        rw [eti]
        refine fun x y => ?_
        rw [vias_snoc]
        exact via_keys m5 (fun x y => by rw [m9, mf, mh]) x y
    · rintro σ H5 ⟨o4, o5, o6, o7, o8, ks, rfl, s5, e5, nd5, m5⟩
      rw [lm, List.take_length] at m5
      have few : ks.length ≤ xs.length * xs.length := keys_few nd5 fun x y h => ((vias_all hin).mp ((m5 x y).mp h)).left hin
      have l64 : xs.length * xs.length ≤ 8 * 8 := Nat.mul_le_mul hl hl
      refine ⟨_, rfl, D1, kvsOf ks, rfl, .inl e5, ?_, ?_, ?_, ?_, fun bs zs p isk pm e hp => ?_⟩
      · rw [keyD_kvs]; exact prs_alike ks
      · rw [keyD_kvs]; exact prs_sortable ks
      · rw [keyD_kvs]; exact prs_depth ks
      · rw [kvs_len]; omega
      rw [keyD_kvs] at pm e
      rw [closed_due hR (fun x y h => ⟨hpm.mem_iff.mp (hin x y h).1, hpm.mem_iff.mp (hin x y h).2⟩) hpm hst nd5 m5] at e
      have due := keys_sorted isk pm e
      have sp : Same H5 (upd H5 p (.lst (zs.map (·.1)))) := same_new hp
      refine ⟨p, zs.map (·.1), rfl, SqL.of upd_same, newF fun t H6 s6 f6 => ?_⟩
      exact k t _ H6 ((s5.trans sp).trans s6) f6 (due.same (sp.trans s6))
end
end Ah
set_option Elab.async false
set_option linter.all false
set_option maxRecDepth 100000
set_option maxHeartbeats 4000000
namespace Ah
open PySem PySem.Spec PyProof.Rows L2
abbrev sFollows : Stmt := topS 21
section
variable {P : Program} {w : World} {K : PySem.W.Frag} {mg : Str → Option Value} {base : Heap}
theorem scFollows : FnScope ["pairs", "first", "last", "found", "at", "pair"] ["pairs", "first", "last"] (defScope sFollows) := ⟨rfl, rfl, rfl, by decide +kernel, rfl, by decide +kernel, by decide +kernel⟩
def spFollows : Sp := fun vs H Q _ => ∃ (a : Addr) (x y : Str) (us : List V) (ps : List (Str × Str)) (hs : List Str), vs = [.ref a, .str x, .str y] ∧ H a = some (.lst us) ∧ PrsV H us ps ∧ (∀ x y, (x, y) ∈ ps → x ∈ hs ∧ y ∈ hs) ∧ x ∈ hs ∧ hs.length ≤ 8 ∧ ps.length ≤ 60 ∧ (∀ x, ¬ Lead ps x x) ∧
  ∀ (H' : Hp) (k : Bool), Same H H' → (k = true ↔ Lead ps x y) → Q (.bl k) H'
theorem ok_follows {f : Addr} {fd : FuncData} (F : Fun K "_law_follows" "_law_follows" sFollows f fd) (B : Blt2 mg) : FnOk P w K mg base CX0 1 f fd ["pairs", "first", "last"] spFollows := by
  refine F.ok scFollows (fun vs H Q E h => ?_) (fun cdv A outer s H vs Q E hr h => ?_)
  · obtain ⟨a, x, y, us, ps, hs, rfl, _⟩ := h
    rfl
  · obtain ⟨a, x, y, us, ps, hs, rfl, ha, hps, hin, hx, hl, hl2, irr, k⟩ := h
    have nd := scFollows.nd
    refine ⟨_, pss_cons (ps_asg (pe_tup (pa_cons (pe_lst (pa_cons (pv 1) pa_nil)) (pa_cons pe_int pa_nil))) (pg_tup rfl (pgs_cons (pg_name (i := 3) nd rfl (.inr rfl)) (pgs_cons (pg_name (i := 4) nd rfl (.inr rfl)) pgs_nil))))
      (pss_cons (ps_while PassesOwn.never (pt_cmpR op_lt (pv 4) (pe_callB call_len_seq (by rfl) B.len PySem.boot_len (pa_cons (pv 3) pa_nil)) (nomark _))
        (pss_cons (ps_expr (pe_bm PySem.F.plainAttrs_list PySem.F.slot_list_extend PySem.F.type_list_extend mt_extend (pv 3) (pa_cons (pe_callB (cr_sortedSetT rfl) (by rfl) B.sorted (by decide +kernel) (pa_cons (pe_callTy (cr_setTx rfl) (by rfl) B.set (by decide +kernel) (pa_cons
            (pe_lc (own := [("pair", 5)]) (g := gName 5) (tt := tAnd (tTest (tOp rEq (tOp (rIxT K) (tVar 5) (tC (.int 0))) (tOp (rIxL K) (tVar 3) (tVar 4)))) (tTest (tOp (rIn K true) (tOp (rIxT K) (tVar 5) (tC (.int 1))) (tVar 3)))) (te := tOp (rIxT K) (tVar 5) (tC (.int 1))) rfl nd (pi_list (pv 0))
              (blkOk_by (N := ["pairs", "first", "last", "found", "at", "pair"]) (sc := defScope sFollows) (by decide +kernel)) (fun _ _ _ _ _ => pg_name (i := 5) nd rfl (Or.inl rfl))
              (fun _ _ _ _ _ => pts_one (PW.pt (pw_and (pt_cmpR op_eq (pe_ix (r := rIxT K) ix_tup (pv 5) pe_int (fun _ _ => rfl)) (pe_ix (r := rIxL K) ix_list (pv 3) (pv 4) (fun _ _ => rfl)) (nomark _)) (pw_and1 (pt_cmpR (r := rIn K true) op_notIn_seq (pe_ix (r := rIxT K) ix_tup (pv 5) pe_int (fun _ _ => rfl)) (pv 3) (by rfl))))))
              (fun _ _ _ _ _ => pe_ix (r := rIxT K) ix_tup (pv 5) pe_int (fun _ _ => rfl))) pa_nil)) pa_nil)) pa_nil)))
        (pss_one (ps_set (i := 4) nd rfl (.inr rfl) (pe_op op_add (pv 4) pe_int)))))
      (pss_one (ps_ret (pe_and (pe_cmpR op_ne (pv 1) (pv 2) (nomark _)) (pe_one (pe_cmpR (r := rIn K false) op_in_seq (pv 2) (pv 3) (by rfl))))))), ?_⟩
    have lu := hps.len
    refine ⟨_, rfl, by show 1 ≤ sizeLine; decide, fun Fa hF => ?_⟩
    have sF : Same H (upd H Fa (.lst [.str x])) := same_new hF
    have eF : (upd H Fa (.lst [.str x])) Fa = some (.lst ([x].map V.str)) := upd_same
    generalize upd H Fa (.lst [.str x]) = H1 at sF eF ⊢
    refine ⟨by show 2 ≤ sizeLine; decide, fun T hT => ?_⟩
    have sT : Same H1 (upd H1 T (.tup [.ref Fa, .int 0])) := same_new hT
    refine ⟨T, _, rfl, .inl (.inl upd_same), rfl, _, _, rfl, ?_⟩
    refine ⟨_, _, rfl, rfl, ?_⟩
    have eF1 := sT _ _ eF
    have sF1 := sF.trans sT
    generalize upd H1 T (.tup [.ref Fa, .int 0]) = H1' at sF1 eF1 ⊢
    refine ⟨fun m σ H2 => ∃ (n : Nat) (fs : List Str), m = hs.length - n ∧ σ = [some (.ref a), some (.str x), some (.str y), some (.ref Fa), some (.int (n : Int)), none] ∧ Same H H2 ∧ H2 Fa = some (.lst (fs.map V.str)) ∧ Goes ps x fs n, ⟨_, 0, [x], rfl, rfl, sF1, eF1, Goes.init ps x⟩, ?_⟩
    rintro m σ H2 ⟨n, fs, rfl, rfl, s2, e2, g⟩
    have lf := g.len hin hx
    have lm : (fs.map V.str).length = fs.length := List.length_map ..
    refine ⟨_, rfl, _, rfl, Fa, _, rfl, .inl (SqL.of e2), _, _, rfl, rfl, _, rfl, ?_⟩
    by_cases c : n < fs.length
    · have hc : decide ((n : Int) < ((fs.map V.str).length : Int)) = true := decide_eq_true (by rw [lm]; omega)
      rw [hc]
      have hf0 : fs[n]? = some (fs.getD n default) := getD_at c
      generalize fs.getD n default = f0 at hf0
      have hfm : f0 ∈ fs := List.mem_of_getElem? hf0
      refine iteT ⟨fun σ' H' => ∃ (fs' : List Str), σ' = [some (.ref a), some (.str x), some (.str y), some (.ref Fa), some (.int ((n + 1 : Nat) : Int)), none] ∧ Same H H' ∧ H' Fa = some (.lst (fs'.map V.str)) ∧ Goes ps x fs' (n + 1), ?_, ?_⟩
      · rintro σ' H' ⟨fs', rfl, s', e', g'⟩
        exact ⟨_, by omega, n + 1, fs', rfl, rfl, s', e', g'⟩
      refine ⟨_, rfl, .inl ⟨rfl, _, SqL.of e2⟩, _, rfl, a, rfl, ⟨_, SqL.of (s2 _ _ ha)⟩, fun D0 hD0 => ?_⟩
      refine lc_list (K := K) (a := a) (xs := us) (fun i H3 => Same H2 H3 ∧ H3 D0 = some (.lst ((((ps.take i).filter fun p => decide (p.1 = f0 ∧ p.2 ∉ fs)).map fun p => p.2).map V.str))) ⟨same_new hD0, upd_same⟩ (fun i H3 _ q => SqL.of (q.1 _ _ (s2 _ _ ha))) ?_ ?_
      · rintro i v H3 hv ⟨s3, e3⟩
        obtain ⟨p, hp, vp⟩ := hps.get hv
        obtain ⟨T, rfl, hT⟩ := vp.same (s2.trans s3)
        have et : ps.take (i + 1) = ps.take i ++ [p] := by rw [List.take_succ, hp]; rfl
        have hil := (List.getElem?_eq_some_iff.mp hv).1
        refine ⟨rfl, _, rfl, T, _, (0 : Nat), .str p.1, rfl, rfl, .inl (.inl hT), atI_nat rfl, _, rfl, _, rfl, Fa, _, n, .str f0, rfl, rfl, SqL.of (s3 _ _ e2), atI_nat (by rw [List.getElem?_map, hf0]; rfl), rfl, _, rfl, ?_⟩
        have no : ¬ (p.1 = f0 ∧ p.2 ∉ fs) → Same H2 H3 ∧ H3 D0 = some (.lst ((((ps.take (i + 1)).filter fun p => decide (p.1 = f0 ∧ p.2 ∉ fs)).map fun p => p.2).map V.str)) := fun c2 => by
          rw [et, List.filter_append, List.filter_cons, if_neg (by rw [decide_eq_false c2]; exact Bool.false_ne_true)]
          exact ⟨s3, by rw [e3]; simp⟩
        by_cases c1 : p.1 = f0
        · rw [decide_eq_true (congrArg V.str c1)]
          refine iteT ⟨_, rfl, T, _, (1 : Nat), .str p.2, rfl, rfl, .inl (.inl hT), atI_nat rfl, _, rfl, Fa, _, rfl, .inl (SqL.of (s3 _ _ e2)), rfl, flat_strs fs, _, rfl, ?_⟩
          rw [if_pos rfl, inV_txts]
          by_cases c2 : p.2 ∈ fs
          · rw [decide_eq_true c2]
            exact iteF (no fun z => z.2 c2)
          · rw [decide_eq_false c2]
            refine iteT ⟨_, rfl, T, _, (1 : Nat), .str p.2, rfl, rfl, .inl (.inl hT), atI_nat rfl, _, e3, ?_, same_mut s3 hD0, ?_⟩
            · rw [List.length_map, List.length_map]
              exact small1000 (Nat.le_trans (List.length_filter_le _ _) (by rw [List.length_take]; omega))
            · rw [upd_same, et, List.filter_append, List.filter_cons, if_pos (decide_eq_true ⟨c1, c2⟩), List.map_append, List.map_append]
              rfl
        · rw [decide_eq_false fun z => c1 (V.str.inj z)]
          exact iteF (iteF (no fun z => c1 z.1))
      · rintro H3 ⟨s3, e3⟩
        rw [lu, List.take_length] at e3
        generalize hnw : ((ps.filter fun p => decide (p.1 = f0 ∧ p.2 ∉ fs)).map fun p => p.2) = nw at e3
        have mnw : ∀ z, z ∈ nw ↔ (f0, z) ∈ ps ∧ z ∉ fs := fun z => by
          rw [← hnw, List.mem_map]
          constructor
          · rintro ⟨p, hp, rfl⟩
            obtain ⟨h1, h2⟩ := List.mem_filter.mp hp
            obtain ⟨h3, h4⟩ := of_decide_eq_true h2
            exact ⟨by rw [← h3]; exact h1, h4⟩
          · rintro ⟨h1, h2⟩
            exact ⟨(f0, z), List.mem_filter.mpr ⟨h1, decide_eq_true ⟨rfl, h2⟩⟩, rfl⟩
        have lnw : nw.length ≤ 60 := by
          rw [← hnw, List.length_map]
          exact Nat.le_trans (List.length_filter_le _ _) hl2
        refine ⟨D0, nw, rfl, .inl (SqL.of e3), by unfold scanBound; omega, fun S hS => ?_⟩
        have sS : Same H3 (upd H3 S (SetT P w S nw)) := same_new hS
        refine ⟨S, nw, rfl, upd_same, by omega, fun zs q ndz mz sz hq => ?_⟩
        have sq : Same (upd H3 S (SetT P w S nw)) (upd (upd H3 S (SetT P w S nw)) q (.lst (zs.map V.str))) := same_new hq
        have s23 := (s3.trans sS).trans sq
        have eq : (upd (upd H3 S (SetT P w S nw)) q (.lst (zs.map V.str))) q = some (.lst (zs.map V.str)) := upd_same
        have g' := g.step hf0 ndz (fun z => (mz z).trans (mnw z))
        have lf' := g'.len hin hx
        rw [List.length_append] at lf'
        refine ⟨Fa, q, fs.map V.str, zs.map V.str, rfl, rfl, s23 _ _ e2, eq, Nat.le_of_lt (small1000 (by rw [List.length_map, List.length_map]; omega)), ?_⟩
        refine ⟨_, rfl, _, _, rfl, rfl, ?_⟩
        refine ⟨fs ++ zs, ?_, same_mut (s2.trans s23) hF, ?_, g'⟩
        · rfl
        · rw [upd_same, List.map_append]
    · have hc : decide ((n : Int) < ((fs.map V.str).length : Int)) = false := decide_eq_false (by rw [lm]; omega)
      rw [hc]
      refine iteF ⟨_, rfl, _, rfl, rfl, ?_⟩
      have dn := g.done (by omega) (last := y)
      refine ⟨_, rfl, ?_⟩
      by_cases c2 : x = y
      · rw [decide_eq_true (congrArg V.str c2)]
        refine iteF (k H2 false s2 ⟨(fun z => by cases z), fun z => ?_⟩)
        subst c2
        exact absurd z (irr _)
      · rw [decide_eq_false fun z => c2 (V.str.inj z)]
        refine iteT ⟨_, rfl, _, rfl, Fa, _, rfl, .inl (SqL.of e2), rfl, flat_strs fs, ?_⟩
        rw [if_neg Bool.false_ne_true, inV_txts]
        refine k H2 _ s2 ?_
        rw [decide_eq_true_iff, dn]
        exact ⟨fun z => z.resolve_left fun e => c2 e.symm, .inr⟩
end
end Ah
set_option Elab.async false
set_option linter.all false
set_option maxRecDepth 100000
set_option maxHeartbeats 4000000
namespace Ah
open PySem PySem.Spec PyProof.Rows L2
abbrev sPen : Stmt := topS 12
theorem pen_new (c : Addr) (a l : Int) : mergeK [] (penK c a l) = penK c a l := by
  have e1 : (putK ([] : List (Key × V)) (.inr "cells" : Key) (V.ref c)) = [((.inr "cells" : Key), V.ref c)] := rfl
  have n1 : valV [((.inr "cells" : Key), V.ref c)] (.inr "at" : Key) = none := (valV_neg fun e => k_ca (Sum.inr.inj e)).trans rfl
  have n2 : valV [((.inr "cells" : Key), V.ref c), (.inr "at", .int a)] (.inr "left" : Key) = none := (valV_neg fun e => k_cl (Sum.inr.inj e)).trans ((valV_neg fun e => k_al (Sum.inr.inj e)).trans rfl)
  show putK (putK (putK ([] : List (Key × V)) (.inr "cells" : Key) (V.ref c)) (.inr "at" : Key) (V.int a)) (.inr "left" : Key) (V.int l) = _
  rw [e1, putK_new _ n1]
  show putK [((.inr "cells" : Key), V.ref c), (.inr "at", .int a)] (.inr "left" : Key) (V.int l) = _
  rw [putK_new _ n2]
  rfl
section
variable {P : Program} {w : World} {K : PySem.W.Frag} {mg : Str → Option Value} {base : Heap}
theorem scPen : FnScope ["script"] ["script"] (defScope sPen) := ⟨rfl, rfl, rfl, by decide +kernel, rfl, by decide +kernel, by decide +kernel⟩
def spPen (K : PySem.W.Frag) : Sp := fun vs H Q _ => ∃ (a : Addr) (ns : List Int), vs = [.ref a] ∧ SqL K H a (ns.map V.int) ∧ ∀ (p c : Addr) (H' : Hp), PenAt H' p c 0 → Q (.ref p) H'
theorem ok_pen {f : Addr} {fd : FuncData} (F : Fun K "_law_pen" "_law_pen" sPen f fd) (B : Blt2 mg) : FnOk P w K mg base CX0 1 f fd ["script"] (spPen K) := by
  refine F.ok scPen (fun vs H Q E h => ?_) (fun cdv A outer s H vs Q E hr h => ?_)
  · obtain ⟨a, ns, rfl, _⟩ := h
    rfl
  · obtain ⟨a, ns, rfl, ha, k⟩ := h
    refine ⟨_, pss_one (ps_ret (pe_disp (pps_cons pe_str (pe_callTy call_list_of (by rfl) B.list (by decide +kernel) (pa_cons (pe_slice sl_list (pv 0) po_none (po_some pe_int)) pa_nil)) (pps_cons pe_str pe_int (pps_cons pe_str pe_int pps_nil))) rfl rfl (by simp) (by decide))), ?_⟩
    refine fun p hp => ⟨_, rfl, _, rfl, a, ns.map V.int, rfl, (same_new hp).seq ha, fun l1 hl1 => ?_⟩
    refine ⟨l1, _, rfl, .inl (SqL.of upd_same), fun l2 hl2 => ?_⟩
    have s12 := (same_new (o := .lst (cutV (ns.map V.int) none (some 63))) hl1).trans (same_new (o := .lst (cutV (ns.map V.int) none (some 63))) hl2)
    refine ⟨s12 _ _ upd_same, penK l2 0 0, rfl, (by show 3 ≤ 15; decide), ?_⟩
    rw [pen_new]
    have nlp : l2 ≠ p := fun e => by
      rw [e] at hl2
      have := (same_new (o := .lst (cutV (ns.map V.int) none (some 63))) hl1) p _ upd_same
      rw [hl2] at this
      cases this
    refine k p l2 _ ⟨(ns.take (min 63 ns.length)), 0, 0, upd_same, ?_, by decide, by decide, by decide⟩
    rw [upd_ne nlp, upd_same]
    have ec : cutV (ns.map V.int) none (some 63) = (ns.take (min 63 ns.length)).map V.int := by
      unfold cutV
      rw [HT.sIx_none, show (63 : Int) = ((63 : Nat) : Int) from rfl, HT.sIx_nat, List.drop_zero, Nat.sub_zero, List.length_map, List.map_take]
    rw [ec]
end
end Ah
set_option Elab.async false
set_option linter.all false
set_option maxRecDepth 100000
set_option maxHeartbeats 8000000
namespace Ah
open PySem PySem.Spec PyProof.Rows L2
abbrev sLaw : Stmt := topS 22
theorem eqv_prs (ds : List (Str × Str)) : PyData.eqvAll (ds.map prD) (ds.map prD) = true := by
  induction ds with
  | nil => simp [PyData.eqvAll]
  | cons p r ih =>
    have e : PyData.eqv (prD p) (prD p) = true := by rw [eqv_pr, decide_eq_true rfl]
    simp only [List.map_cons, PyData.eqvAll, e, ih, Bool.and_true]
theorem eqv_prsT (ds : List (Str × Str)) : PyData.eqv (.tuple (ds.map prD)) (.tuple (ds.map prD)) = true := by
  simp only [PyData.eqv]
  exact eqv_prs ds
theorem eqv_prsL (ds : List (Str × Str)) : PyData.eqv (.list (ds.map prD)) (.list (ds.map prD)) = true := by
  simp only [PyData.eqv]
  exact eqv_prs ds
theorem eqv_strsL : ∀ xs : List Str, PyData.eqv (.list (xs.map PyData.str)) (.list (xs.map PyData.str)) = true := fun xs => by
  have : PyData.eqvAll (xs.map PyData.str) (xs.map PyData.str) = true := by
    induction xs with
    | nil => simp [PyData.eqvAll]
    | cons x r ih =>
      have e : PyData.eqv (.str x) (.str x) = true := by simp [PyData.eqv]
      simp only [List.map_cons, PyData.eqvAll, e, ih, Bool.and_true]
  simp only [PyData.eqv]
  exact this
theorem sorted_one {ys zs : List Str} (h : ys.Pairwise sLt) (k : zs.Pairwise sLt) (p : ys.Perm zs) : ys = zs :=
  List.Perm.eq_of_pairwise (le := sLt) (fun a b _ _ h k => absurd (sLt_trans h k) (sLt_irr a)) h k p
theorem keepR_of {xs : List Str} {ps qs : List (Str × Str)} (nd : xs.Nodup) (o : PrsOf xs ps) (m : ∀ x, x ∈ qs ↔ x ∈ ps) : KeepR xs qs := fun x y h => by
  obtain ⟨i, j, hij, hx, hy⟩ := o x y ((m _).mp h)
  have hi := (List.getElem?_eq_some_iff.mp hx)
  have hj := (List.getElem?_eq_some_iff.mp hy)
  refine ⟨List.mem_of_getElem? hx, List.mem_of_getElem? hy, ?_⟩
  have e1 : i = xs.idxOf x := (List.getElem?_inj hi.1 nd).mp (hx.trans (idx_at (List.mem_of_getElem? hx)).symm)
  have e2 : j = xs.idxOf y := (List.getElem?_inj hj.1 nd).mp (hy.trans (idx_at (List.mem_of_getElem? hy)).symm)
  omega
theorem ltu_kp {p a : Addr} {xs : List V} {H H' : Hp} (k : Kp p H H') {kvs : List (Key × V)} (hp : H p = some (.dK kvs)) (h : LTu H a xs) : LTu H' a xs :=
  h.imp (lk_kp k hp (fun _ z => by cases z)) (rd_kp k hp (fun _ z => by cases z))
def dueTo (R : Str → Str → Bool) (ys l : List Str) : List (Str × Str) := l.flatMap fun a => (ys.filter (R a)).map fun b => (a, b)
theorem dueTo_len {R : Str → Str → Bool} {ys : List Str} : ∀ l : List Str, (dueTo R ys l).length ≤ l.length * ys.length
  | [] => Nat.zero_le _
  | a :: l => by
    have ih := dueTo_len (R := R) (ys := ys) l
    have e : (dueTo R ys (a :: l)).length = (ys.filter (R a)).length + (dueTo R ys l).length := by
      unfold dueTo
      rw [List.flatMap_cons, List.length_append, List.length_map]
    have := List.length_filter_le (R a) ys
    rw [e, List.length_cons, Nat.succ_mul]
    omega
theorem dueTo_snoc {R : Str → Str → Bool} {ys l : List Str} {a : Str} : dueTo R ys (l ++ [a]) = dueTo R ys l ++ (ys.filter (R a)).map fun b => (a, b) := by
  unfold dueTo
  rw [List.flatMap_append, List.flatMap_cons, List.flatMap_nil, List.append_nil]
theorem prs_shp {ps : List (Str × Str)} (ok : PrsOk ps) : ∀ d ∈ ps.map prD, Shp d := fun d hd => by
  obtain ⟨y, q, rfl⟩ := List.mem_map.mp hd
  exact shp_pr (ok y q).1 (ok y q).2
section
variable {P : Program} {w : World} {K : PySem.W.Frag} {mg : Str → Option Value} {base : Heap}
theorem scLaw : FnScope ["script", "pen", "bout", "hands", "folk", "pairs", "kept", "names", "due", "first", "found", "last"] ["script"] (defScope sLaw) := ⟨rfl, rfl, rfl, by decide +kernel, rfl, by decide +kernel, by decide +kernel⟩
def spLaw (K : PySem.W.Frag) : Sp := fun vs H Q _ => ∃ (a : Addr) (ns : List Int), vs = [.ref a] ∧ SqL K H a (ns.map V.int) ∧ ns.length ≤ 63 ∧ ∀ H', Q (.bl true) H'
structure Defs (P : Program) (w : World) (K : PySem.W.Frag) (mg : Str → Option Value) (base : Heap) (g1 g2 g3 g4 g5 g6 g7 g8 g9 g10 : Addr) (h1 h2 h3 h4 h5 h6 h7 h8 h9 h10 : FuncData) : Prop where
  pen : Df P w K mg base CX0 "_law_pen" 1 g1 h1 ["script"] (spPen K)
  draw : Df P w K mg base CX0 "_law_draw" 1 g2 h2 ["pen", "many"] spDraw
  hands : Df P w K mg base CX0 "_law_hands" 3 g3 h3 ["pen", "many"] (spHands K)
  row : Df P w K mg base CX0 "_law_row" 3 g4 h4 ["pen", "hands"] spLawRow
  listed : Df P w K mg base CX0 "_law_listed" 3 g5 h5 ["pen", "hands"] spListed
  handed : Df P w K mg base CX0 "_law_handed" 3 g6 h6 ["pen", "some"] spHanded
  pairs : Df P w K mg base CX0 "_law_pairs_of_row" 3 g7 h7 ["pen", "row"] spPairsRow
  follows : Df P w K mg base CX0 "_law_follows" 1 g8 h8 ["pairs", "first", "last"] spFollows
  closed : Df P w K mg base CX0 "closed" 3 g9 h9 ["hands", "pairs"] spClosed
  web : Df P w K mg base CX0 "is_web" 2 g10 h10 ["hands", "thing"] spIsWeb
theorem ok_law {f g1 g2 g3 g4 g5 g6 g7 g8 g9 g10 : Addr} {fd h1 h2 h3 h4 h5 h6 h7 h8 h9 h10 : FuncData} (F : Fun K "law" "law" sLaw f fd) (B : Blt2 mg) (D : Defs P w K mg base g1 g2 g3 g4 g5 g6 g7 g8 g9 g10 h1 h2 h3 h4 h5 h6 h7 h8 h9 h10) : FnOk P w K mg base CX0 4 f fd ["script"] (spLaw K) := by
  refine F.ok scLaw (fun vs H Q E h => ?_) (fun cdv A outer s H vs Q E hr h => ?_)
  · obtain ⟨a, ns, rfl, _⟩ := h
    rfl
  · obtain ⟨a, ns, rfl, ha, hl, k⟩ := h
    have nd := scLaw.nd
    have r1 : Room 1 _ := hr.mono (by decide)
    have r2 : Room 2 _ := hr.mono (by decide)
    refine ⟨_, pss_cons (ps_set (i := 1) nd rfl (.inl rfl) (pe_call D.pen.ok r1 rfl D.pen.g D.pen.kp D.pen.b .nil pass0 (pa_cons (pv 0) pa_nil)))
      (pss_cons (ps_for PassesOwn.never rfl (pi_range1 rfl B.range (pa_cons pe_int pa_nil)) (pg_name (i := 2) nd rfl (.inl rfl))
        (pss_cons (ps_set (i := 3) nd rfl (.inl rfl) (pe_call D.hands.ok hr rfl D.hands.g D.hands.kp D.hands.b .nil pass0 (pa_cons (pv 1) (pa_cons (pe_op op_add pe_int (pe_call D.draw.ok r1 rfl D.draw.g D.draw.kp D.draw.b .nil pass0 (pa_cons (pv 1) (pa_cons pe_int pa_nil)))) pa_nil))))
        (pss_cons (ps_set (i := 4) nd rfl (.inl rfl) (pe_call D.listed.ok hr rfl D.listed.g D.listed.kp D.listed.b .nil pass0 (pa_cons (pv 1) (pa_cons (pv 3) pa_nil))))
        (pss_cons (ps_set (i := 5) nd rfl (.inl rfl) (pe_call D.handed.ok hr rfl D.handed.g D.handed.kp D.handed.b .nil pass0 (pa_cons (pv 1) (pa_cons (pe_call D.pairs.ok hr rfl D.pairs.g D.pairs.kp D.pairs.b .nil pass0 (pa_cons (pv 1) (pa_cons (pe_call D.row.ok hr rfl D.row.g D.row.kp D.row.b .nil pass0 (pa_cons (pv 1) (pa_cons (pv 3) pa_nil))) pa_nil))) pa_nil))))
        (pss_cons (ps_asg (pe_tup (pa_cons (pe_callTy call_list_of (by rfl) B.list (by decide +kernel) (pa_cons (pv 5) pa_nil)) (pa_cons (pe_callTy call_list_of (by rfl) B.list (by decide +kernel) (pa_cons (pv 4) pa_nil)) pa_nil))) (pg_tup rfl (pgs_cons (pg_name (i := 6) nd rfl (.inr rfl)) (pgs_cons (pg_name (i := 7) nd rfl (.inl rfl)) pgs_nil))))
        (pss_cons (ps_set (i := 8) nd rfl (.inl rfl) (pe_lst pa_nil))
        (pss_cons (ps_for PassesOwn.never rfl (pi_list (pe_callB cr_sortedTS (by rfl) B.sorted (by decide +kernel) (pa_cons (pv 3) pa_nil))) (pg_name (i := 9) nd rfl (.inr rfl))
          (pss_one (ps_expr (pe_bm PySem.F.plainAttrs_list PySem.F.slot_list_extend PySem.F.type_list_extend mt_extend (pv 8) (pa_cons (pe_lc (own := [("last", 11)]) (g := gName 11) (tt := tTest (tCall spFollows [] E0 (tCons (tVar 6) (tCons (tVar 9) (tCons (tVar 11) tNil))))) (te := tTup (tCons (tVar 9) (tCons (tVar 11) tNil))) rfl nd (pi_list (pe_callB cr_sortedTS (by rfl) B.sorted (by decide +kernel) (pa_cons (pv 3) pa_nil)))
            (blkOk_by (N := ["script", "pen", "bout", "hands", "folk", "pairs", "kept", "names", "due", "first", "found", "last"]) (sc := defScope sLaw) (by decide +kernel)) (fun _ _ _ _ _ => pg_name (i := 11) nd rfl (Or.inl rfl))
            (fun _ _ _ _ _ => pts_one (pt_val (pe_call D.follows.ok r1 rfl D.follows.g D.follows.kp D.follows.b .nil pass0 (pa_cons (pv 6) (pa_cons (pv 9) (pa_cons (pv 11) pa_nil))))))
            (fun _ _ _ _ _ => pe_tup (pa_cons (pv 9) (pa_cons (pv 11) pa_nil)))) pa_nil)))))
        (pss_cons (ps_set (i := 10) nd rfl (.inl rfl) (pe_call D.closed.ok hr rfl D.closed.g D.closed.kp D.closed.b .nil pass0 (pa_cons (pv 4) (pa_cons (pv 5) pa_nil))))
        (pss_cons (ps_if (PW.pt (pw_or (pt_cmpR (op_neD hr.units) (pv 10) (pe_callTy call_tuple_ofF (by rfl) B.tuple (by decide +kernel) (pa_cons (pv 8) pa_nil)) (nomark _)) (pw_or (pt_cmpR (op_neD hr.units) (pe_callTy call_list_of (by rfl) B.list (by decide +kernel) (pa_cons (pv 5) pa_nil)) (pv 6) (nomark _)) (pw_or1 (pt_cmpR (op_neD hr.units) (pe_callTy call_list_of (by rfl) B.list (by decide +kernel) (pa_cons (pv 4) pa_nil)) (pv 7) (nomark _)))))) (pss_one (ps_ret pe_bl)) pss_nil)
        (pss_cons (ps_if (PW.pt (pw_or (pt_cmpR (op_neD hr.units) (pe_call D.closed.ok hr rfl D.closed.g D.closed.kp D.closed.b .nil pass0 (pa_cons (pv 4) (pa_cons (pv 10) pa_nil))) (pv 10) (nomark _)) (pw_or1 (pt_cmpR (op_neD hr.units) (pe_call D.closed.ok hr rfl D.closed.g D.closed.kp D.closed.b .nil pass0 (pa_cons (pv 4) (pa_cons (pe_revL (pe_callTy call_list_of (by rfl) B.list (by decide +kernel) (pa_cons (pv 10) pa_nil))) pa_nil))) (pv 10) (nomark _))))) (pss_one (ps_ret pe_bl)) pss_nil)
        (pss_one (ps_if (pt_cmpR op_notBl (pe_call D.web.ok r2 rfl D.web.g D.web.kp D.web.b .nil pass0 (pa_cons (pv 4) (pa_cons (pv 10) pa_nil))) pe_bl (nomark _)) (pss_one (ps_ret pe_bl)) pss_nil))))))))))))
      (pss_one (ps_ret pe_bl))), ?_⟩
    refine ⟨_, rfl, a, ns, rfl, ha, fun p c H1 hp1 => ?_⟩
    refine ⟨2, rfl, by decide, by decide, ?_⟩
    refine for_range (lo := 0) (n := 2) (fun i σ H2 => ∃ o2 o3 o4 o5 o6 o7 o8 o9 o10 : Option V, σ = [some (.ref a), some (.ref p), o2, o3, o4, o5, o6, o7, o8, o9, o10, none] ∧ PenAt H2 p c (300 * i)) ⟨_, _, _, _, _, _, _, _, _, rfl, hp1⟩ ?_ ?_
    · rintro i σ H2 hi ⟨o2, o3, o4, o5, o6, o7, o8, o9, o10, rfl, hp2⟩
      refine ⟨_, rfl, _, rfl, p, c, 8, _, rfl, hp2, by omega, by decide, by decide, fun d H3 d0 d8 hp3 kp3 => ?_⟩
      obtain ⟨j, rfl⟩ : ∃ j : Nat, d = j := ⟨d.toNat, by omega⟩
      refine ⟨_, _, rfl, rfl, p, c, j + 1, _, by show [V.ref p, V.int ((1 : Int) + (j : Int))] = _; rw [show (1 : Int) + (j : Int) = ((j + 1 : Nat) : Int) by omega], by omega, by omega, hp3, by omega, fun q hs H4 hl4 nd4 hh4 hq4 e4 hp4 kp4 => ?_⟩
      obtain ⟨kv4, hk4⟩ := hp4.dk
      have nqp : q ≠ p := fun e => by rw [e, hk4] at e4; cases e4
      refine ⟨_, rfl, _, rfl, p, c, q, hs, _, rfl, e4, hh4, by omega, hp4, by omega, fun b5 folk H5 pf5 f5 hp5 kp5 => ?_⟩
      have e5 := kp5 q _ nqp e4
      obtain ⟨kv5, hk5⟩ := hp5.dk
      refine ⟨_, rfl, _, rfl, _, rfl, _, rfl, p, c, q, hs, _, rfl, .inl e5, hh4, by omega, hp5, by omega, fun b6 rw H6 p6 f6 hp6 kp6 => ?_⟩
      obtain ⟨kv6, hk6⟩ := hp6.dk
      have lrw := p6.length_eq
      refine ⟨p, c, b6, rw, _, rfl, f6.rd, by omega, hp6, by omega, fun b7 us0 ps0 H7 e7 r7 o7' l7 hp7 kp7 => ?_⟩
      obtain ⟨kv7, hk7⟩ := hp7.dk
      have hrw : ∀ x ∈ rw, IsHand x := fun x z => hh4 x (p6.mem_iff.mp z)
      have in0 : ∀ x y, (x, y) ∈ ps0 → x ∈ rw ∧ y ∈ rw := fun x y z => by
        obtain ⟨i, j, _, hx, hy⟩ := o7' x y z
        exact ⟨List.mem_of_getElem? hx, List.mem_of_getElem? hy⟩
      refine ⟨p, c, b7, us0, ps0, _, rfl, e7, r7, fun x z => ⟨(hrw _ (in0 x.1 x.2 z).1).ok, (hrw _ (in0 x.1 x.2 z).2).ok⟩, by omega, hp7, by omega, fun b8 us ps H8 m8 l8 f8 r8 hp8 kp8 => ?_⟩
      have e8 := kp8 q _ nqp (kp7 q _ nqp (kp6 q _ nqp e5))
      have f58 := ltu_kp kp8 hk7 (ltu_kp kp7 hk6 (ltu_kp kp6 hk5 f5))
      have ndr : rw.Nodup := p6.nodup_iff.mpr nd4
      have keep := keepR_of ndr o7' m8
      have hin : ∀ x y, (x, y) ∈ ps → x ∈ folk ∧ y ∈ folk := fun x y z =>
        have h := in0 x y ((m8 _).mp z)
        ⟨pf5.mem_iff.mpr (p6.mem_iff.mp h.1), pf5.mem_iff.mpr (p6.mem_iff.mp h.2)⟩
      have okf : ∀ x ∈ folk, PyData.strOk x = true := fun x z => (hh4 x (pf5.mem_iff.mp z)).ok
      have okp : PrsOk ps := fun x z => ⟨okf _ (hin x.1 x.2 z).1, okf _ (hin x.1 x.2 z).2⟩
      have lfk : folk.length ≤ 8 := by rw [pf5.length_eq]; omega
      have lps : ps.length ≤ 60 := by omega
      have irr : ∀ x, ¬ Lead ps x x := fun x => keep.irr
      clear kp3 kp4 kp5 kp6 kp7 kp8 f5 f6 e5 e7 r7 o7' in0 hk4 hk5 hk6 hk7 e4
      obtain ⟨R, hR⟩ : ∃ R : Str → Str → Bool, ∀ x y, R x y = true ↔ Lead ps x y := ⟨fun x y => @decide (Lead ps x y) (Classical.propDecidable _), fun x y => @decide_eq_true_iff _ (Classical.propDecidable _)⟩
      refine ⟨_, rfl, b8, us, rfl, f8.sq, fun l1 hl1 => ?_⟩
      have s1 : Same H8 (upd H8 l1 (.lst us)) := same_new hl1
      refine ⟨_, rfl, b5, folk.map V.str, rfl, (f58.same s1).sq, fun l2 hl2 => ?_⟩
      have s2 : Same (upd H8 l1 (.lst us)) (upd (upd H8 l1 (.lst us)) l2 (.lst (folk.map V.str))) := same_new hl2
      have el1 := s2 _ _ (upd_same (H := H8) (a := l1) (o := .lst us))
      have el2 : (upd (upd H8 l1 (.lst us)) l2 (.lst (folk.map V.str))) l2 = some (.lst (folk.map V.str)) := upd_same
      have s9 := s1.trans s2
      generalize upd (upd H8 l1 (.lst us)) l2 (.lst (folk.map V.str)) = H9 at s9 el1 el2 ⊢
      refine ⟨by show 2 ≤ sizeLine; decide, fun T hT => ⟨T, _, rfl, .inl (.inl upd_same), rfl, _, _, rfl, ⟨_, _, rfl, rfl, ?_⟩⟩⟩
      have sT : Same H9 (upd H9 T (.tup [.ref l1, .ref l2])) := same_new hT
      replace el1 := sT _ _ el1
      replace el2 := sT _ _ el2
      have s10 := s9.trans sT
      generalize upd H9 T (.tup [.ref l1, .ref l2]) = H10 at s10 el1 el2 ⊢
      refine ⟨Nat.zero_le _, fun Ld hLd => ?_⟩
      have sL : Same H10 (upd H10 Ld (.lst [])) := same_new hLd
      refine ⟨_, rfl, q, hs, rfl, .inl (SqL.of (sL _ _ (s10 _ _ e8))), by omega, fun ys q2 py sy hq2 => ⟨q2, rfl, ⟨_, SqL.of upd_same⟩, ?_⟩⟩
      have ndy : ys.Nodup := py.nodup_iff.mpr nd4
      have ry : ys.Pairwise sLt := rises_of_sorted sy ndy
      have lys : ys.length ≤ 8 := by rw [py.length_eq]; omega
      have lm : (ys.map V.str).length = ys.length := List.length_map ..
      have nq2 : q2 ≠ Ld := fun e => by rw [e, upd_same] at hq2; cases hq2
      have s11 := sL.trans (same_new (o := .lst (ys.map V.str)) hq2)
      have eLd : (upd (upd H10 Ld (.lst [])) q2 (.lst (ys.map V.str))) Ld = some (.lst []) := (same_new hq2) _ _ upd_same
      have eq2 : (upd (upd H10 Ld (.lst [])) q2 (.lst (ys.map V.str))) q2 = some (.lst (ys.map V.str)) := upd_same
      generalize upd (upd H10 Ld (.lst [])) q2 (.lst (ys.map V.str)) = H11 at s11 eLd eq2 ⊢
      have fk : ∀ x ∈ ys, x ∈ folk := fun x z => pf5.mem_iff.mpr (py.mem_iff.mp z)
      have l64 : ys.length * ys.length ≤ 8 * 8 := Nat.mul_le_mul lys lys
      refine for_list (K := K) (a := q2) (xs := ys.map V.str) (fun u σ H12 => ∃ (o9 : Option V) (ws : List V), σ = [some (.ref a), some (.ref p), some (.int (0 + (i : Int))), some (.ref q), some (.ref b5), some (.ref b8), some (.ref l1), some (.ref l2), some (.ref Ld), o9, o10, none] ∧ Same H10 H12 ∧ H12 q2 = some (.lst (ys.map V.str)) ∧ H12 Ld = some (.lst ws) ∧ PrsV H12 ws (dueTo R ys (ys.take u)))
        ⟨_, [], rfl, s11, eq2, eLd, trivial⟩ (fun u σ H12 _ ⟨_, _, _, _, z, _⟩ => SqL.of z) ?_ ?_
      · rintro u x σ H12 hx ⟨o9', ws, rfl, s12, f2, fd2, r12⟩
        obtain ⟨f0, hf0, rfl, hfm⟩ := str_at hx
        have etu : ys.take (u + 1) = ys.take u ++ [f0] := by rw [List.take_succ, hf0]; rfl
        refine ⟨_, rfl, .inl ⟨rfl, _, SqL.of fd2⟩, ?_⟩
        refine ⟨_, rfl, q, hs, rfl, .inl (SqL.of ((s10.trans s12) _ _ e8)), by omega, fun zs q3 pz sz hq3 => ⟨q3, rfl, ⟨_, SqL.of upd_same⟩, fun D0 hD0 => ?_⟩⟩
        have ez : ys = zs := sorted_one ry (rises_of_sorted sz (pz.nodup_iff.mpr nd4)) (py.trans pz.symm)
        subst ez
        have s13 : Same H12 (upd H12 q3 (.lst (ys.map V.str))) := same_new hq3
        have e13 : (upd H12 q3 (.lst (ys.map V.str))) q3 = some (.lst (ys.map V.str)) := upd_same
        generalize upd H12 q3 (.lst (ys.map V.str)) = H13 at s13 e13 hD0 ⊢
        have s813 := (s10.trans s12).trans s13
        refine lc_list (K := K) (a := q3) (xs := ys.map V.str) (fun v H14 => Same H13 H14 ∧ ∃ ws2, H14 D0 = some (.lst ws2) ∧ PrsV H14 ws2 (((ys.take v).filter (R f0)).map fun b => (f0, b))) ⟨same_new hD0, [], upd_same, trivial⟩ (fun v H14 _ q => SqL.of (q.1 _ _ e13)) ?_ ?_
        · rintro v z H14 hz ⟨s14, ws2, e14, r14⟩
          obtain ⟨z0, hz0, rfl, hzm⟩ := str_at hz
          have etv : ys.take (v + 1) = ys.take v ++ [z0] := by rw [List.take_succ, hz0]; rfl
          have s814 := s813.trans s14
          refine ⟨rfl, _, rfl, _, rfl, _, rfl, l1, f0, z0, us, ps, folk, rfl, (s12.trans (s13.trans s14)) _ _ el1, r8.same s814, hin, fk _ hfm, lfk, lps, irr, fun H15 bq s15 hbq => ⟨_, rfl, ?_⟩⟩
          have eb : bq = R f0 z0 := Bool.eq_iff_iff.mpr (hbq.trans (hR f0 z0).symm)
          rw [eb]
          have l14 := r14.len
          rw [List.length_map] at l14
          have lf := List.length_filter_le (R f0) (ys.take v)
          rw [List.length_take] at lf
          by_cases c : R f0 z0 = true
          · rw [c]
            refine iteT ⟨_, rfl, _, rfl, by show 2 ≤ sizeLine; decide, fun T2 hT2 => ?_⟩
            have s16 : Same H15 (upd H15 T2 (.tup [.str f0, .str z0])) := same_new hT2
            refine ⟨ws2, s16 _ _ (s15 _ _ e14), small1000 (by omega), same_mut (s14.trans (s15.trans s16)) hD0, ws2 ++ [.ref T2], upd_same, ?_⟩
            rw [etv, List.filter_append, List.filter_cons, if_pos c, List.map_append]
            exact ((r14.same (s15.trans s16)).append (show PrsV _ [.ref T2] [(f0, z0)] from ⟨⟨T2, rfl, upd_same⟩, trivial⟩)).mut (s16 _ _ (s15 _ _ e14))
          · rw [Bool.eq_false_iff.mpr c]
            refine iteF ⟨s14.trans s15, ws2, s15 _ _ e14, ?_⟩
            rw [etv, List.filter_append, List.filter_cons, if_neg c]
            simpa using r14.same s15
        · rintro H14 ⟨s14, ws2, e14, r14⟩
          rw [lm, List.take_length] at r14
          have eL14 := (s13.trans s14) _ _ fd2
          have r12' := r12.same (s13.trans s14)
          have h1 := r12.len
          have h2 := r14.len
          have h3 := dueTo_len (R := R) (ys := ys) (ys.take u)
          have h4 : (ys.take u).length * ys.length ≤ 8 * 8 := Nat.mul_le_mul (by rw [List.length_take]; omega) lys
          have h5 := List.length_filter_le (R f0) ys
          rw [List.length_map] at h2
          refine ⟨Ld, D0, ws, ws2, rfl, rfl, eL14, e14, Nat.le_of_lt (small1000 (by omega)), ?_⟩
          refine ⟨_, ws ++ ws2, rfl, same_mut ((s12.trans s13).trans s14) hLd, (upd_ne nq2).trans ((s13.trans s14) _ _ f2), upd_same, ?_⟩
          rw [etu, dueTo_snoc]
          exact (r12'.append r14).mut eL14
      rintro σ H12 ⟨o9', wsd, rfl, s12, f2, fd2, r12⟩
      rw [lm, List.take_length] at r12
      generalize hdue : dueTo R ys ys = due at r12
      have edue : dueOf R ys = due := hdue
      have s812 := s10.trans s12
      refine ⟨_, rfl, _, rfl, b5, b8, folk, us, ps, rw, ys, R, rfl, f58.same s812, f8.same s812, r8.same s812, okf, okp, lfk, by omega, keep, hin, pf5.trans py.symm, ry, hR, fun t ws' H13 s13 ft rt => ?_⟩
      rw [edue] at rt
      have s813 := s812.trans s13
      have ld : due.length ≤ 64 := by
        have h := dueOf_len (R := R) (hs := ys)
        rw [edue] at h
        omega
      have hind : ∀ x y, (x, y) ∈ due → x ∈ folk ∧ y ∈ folk := fun x y z => by
        rw [← edue] at z
        obtain ⟨z1, z2, _⟩ := dueOf_mem.mp z
        exact ⟨fk _ z1, fk _ z2⟩
      have hled : ∀ x y, (x, y) ∈ due → Lead ps x y := fun x y z => by
        rw [← edue] at z
        exact (hR _ _).mp (dueOf_mem.mp z).2.2
      have keepd : KeepR rw due := keep.of_lead hled
      have inp : ∀ x y, (x, y) ∈ ps → x ∈ ys ∧ y ∈ ys := fun x y z => ⟨py.mem_iff.mpr (pf5.mem_iff.mp (hin x y z).1), py.mem_iff.mpr (pf5.mem_iff.mp (hin x y z).2)⟩
      have hRd : ∀ (qs : List (Str × Str)), (∀ z, z ∈ qs ↔ z ∈ due) → ∀ x y, R x y = true ↔ Lead qs x y := fun qs e x y => by
        rw [due_again hR inp (fun z => by rw [edue]; exact e z)]
        exact hR x y
      have okd : PrsOk due := fun x z => ⟨okf _ (hind x.1 x.2 z).1, okf _ (hind x.1 x.2 z).2⟩
      have shd := prs_shp okd
      -- found != tuple(due) or list(pairs) != kept or list(folk) != names
      refine ⟨_, rfl, _, rfl, Ld, wsd, rfl, SqL.of (s13 _ _ fd2), newF fun b H14 s14 f14 => ⟨.tuple (due.map prD), .tuple (due.map prD), .tup (.inl (ft.same s14).rd) (rt.same s14).dp, .tup (.inl f14.rd) ((r12.same s13).same s14).dp, shp_t shd, shp_t shd, _, rfl, ?_⟩⟩
      rw [eqv_prsT]
      have s814 := s813.trans s14
      refine iteF ⟨_, rfl, b8, us, rfl, (f8.same s814).sq, fun l3 hl3 => ?_⟩
      have s15 : Same H14 (upd H14 l3 (.lst us)) := same_new hl3
      have e15 : (upd H14 l3 (.lst us)) l3 = some (.lst us) := upd_same
      generalize upd H14 l3 (.lst us) = H15 at s15 e15 ⊢
      have s815 := s814.trans s15
      have el1' := (s12.trans (s13.trans (s14.trans s15))) _ _ el1
      have el2' := (s12.trans (s13.trans (s14.trans s15))) _ _ el2
      refine ⟨_, rfl, .list (ps.map prD), .list (ps.map prD), .lst (SqL.of e15) (r8.same s815).dp, .lst (SqL.of el1') (r8.same s815).dp, shp_l (prs_shp okp), shp_l (prs_shp okp), _, rfl, ?_⟩
      rw [eqv_prsL]
      refine iteF ⟨_, rfl, b5, folk.map V.str, rfl, (f58.same s815).sq, fun l4 hl4' => ?_⟩
      have s16 : Same H15 (upd H15 l4 (.lst (folk.map V.str))) := same_new hl4'
      have e16 : (upd H15 l4 (.lst (folk.map V.str))) l4 = some (.lst (folk.map V.str)) := upd_same
      generalize upd H15 l4 (.lst (folk.map V.str)) = H16 at s16 e16 ⊢
      have s816 := s815.trans s16
      refine ⟨_, rfl, .list (folk.map PyData.str), .list (folk.map PyData.str), .lst (SqL.of e16) (dp_strs folk), .lst (SqL.of (s16 _ _ el2')) (dp_strs folk), shp_strs okf, shp_strs okf, _, rfl, ?_⟩
      rw [eqv_strsL]
      refine iteF ?_
      -- closed(folk, found) != found or closed(folk, list(found)[::-1]) != found
      have ft16 := ft.same ((s14.trans s15).trans s16)
      have rt16 := rt.same ((s14.trans s15).trans s16)
      refine ⟨_, rfl, _, rfl, b5, t, folk, ws', due, rw, ys, R, rfl, f58.same s816, .inr ft16.rd, rt16, okf, okd, lfk, by omega, keepd, hind, pf5.trans py.symm, ry, hRd due (fun _ => Iff.rfl), fun t2 ws2 H17 s17 ft2 rt2 => ?_⟩
      rw [edue] at rt2
      refine ⟨_, rfl, .tuple (due.map prD), .tuple (due.map prD), .tup (.inl ft2.rd) rt2.dp, .tup (.inl (ft16.same s17).rd) (rt16.same s17).dp, shp_t shd, shp_t shd, _, rfl, ?_⟩
      rw [eqv_prsT]
      have s817 := s816.trans s17
      refine iteF ⟨_, rfl, _, rfl, t, ws', rfl, .inr (.inl (ft16.same s17).rd), fun l5 hl5 => ?_⟩
      have s18 : Same H17 (upd H17 l5 (.lst ws')) := same_new hl5
      have e18 : (upd H17 l5 (.lst ws')) l5 = some (.lst ws') := upd_same
      generalize upd H17 l5 (.lst ws') = H18 at s18 e18 ⊢
      refine ⟨l5, ws', rfl, SqL.of e18, fun l6 hl6 => ?_⟩
      have s19 : Same H18 (upd H18 l6 (.lst ws'.reverse)) := same_new hl6
      have e19 : (upd H18 l6 (.lst ws'.reverse)) l6 = some (.lst ws'.reverse) := upd_same
      generalize upd H18 l6 (.lst ws'.reverse) = H19 at s19 e19 ⊢
      have s819 := (s817.trans s18).trans s19
      have rt19 := rt16.same ((s17.trans s18).trans s19)
      have ft19 := ft16.same ((s17.trans s18).trans s19)
      obtain ⟨qs, pq, rq⟩ := rt19.perm (List.reverse_perm ws')
      have mq : ∀ z, z ∈ qs ↔ z ∈ due := fun z => pq.mem_iff
      have lq := pq.length_eq
      refine ⟨b5, l6, folk, ws'.reverse, qs, rw, ys, R, rfl, f58.same s819, .inl e19, rq, okf, fun x z => okd x ((mq x).mp z), lfk, by omega, keep.of_lead (fun x y z => hled x y ((mq _).mp z)), fun x y z => hind x y ((mq _).mp z), pf5.trans py.symm, ry, hRd qs mq, fun t3 ws3 H20 s20 ft3 rt3 => ?_⟩
      rw [edue] at rt3
      refine ⟨_, rfl, .tuple (due.map prD), .tuple (due.map prD), .tup (.inl ft3.rd) rt3.dp, .tup (.inl (ft19.same s20).rd) (rt19.same s20).dp, shp_t shd, shp_t shd, _, rfl, ?_⟩
      rw [eqv_prsT]
      refine iteF ?_
      -- is_web(folk, found) is not True
      have s820 := s819.trans s20
      have ft20 := ft19.same s20
      have rt20 := rt19.same s20
      refine ⟨_, rfl, _, rfl, b5, t, ws', folk, due, rfl, f58.same s820, ft20.rd, rt20, by rw [← edue]; exact dueOf_rises ry, ld, fun x y z => ⟨(hind x y z).1, (hind x y z).2, ?_⟩, ?_, fun H21 s21 => ?_⟩
      · rw [← edue] at z
        exact due_irr hR keep z
      · rw [← edue]
        exact due_thru hR
      · refine ⟨true, true, rfl, rfl, _, rfl, ?_⟩
        refine iteF ?_
        exact ⟨_, _, _, _, _, _, _, _, _, rfl, (hp8.keep (s820.trans s21)).mono (by omega)⟩
    · rintro σ H2 ⟨o2, o3, o4, o5, o6, o7, o8, o9, o10, rfl, hp2⟩
      exact k H2
end
end Ah
set_option Elab.async false
set_option linter.all false
set_option maxRecDepth 100000
set_option maxHeartbeats 8000000
namespace Ah
open PySem PySem.Spec PyProof.Rows L2

theorem all_mk {l : PySem.W.OpenLaw} {w : World} {K : PySem.W.Frag} {h : Heap} {mg : Str → Option Value} {fa f1 f2 f3 f4 f5 f6 f7 f8 f9 f10 f11 f12 f13 f14 f15 f16 f17 : Addr} (X : K.In h) (G : h.Ns mainGlobals mg) (hfa : mg "law" = some (.ref fa))
    {od1 an1 od2 an2 od3 an3 od4 an4 od5 an5 od6 an6 od7 an7 od8 an8 od9 an9 od10 an10 od11 an11 od12 an12 od13 an13 od14 an14 od15 an15 od16 an16 od17 an17 : Option Addr} {sl1 sl2 sl3 sl4 sl5 sl6 sl7 sl8 sl9 sl10 sl11 sl12 sl13 sl14 sl15 sl16 sl17 : Array (Option Value)} {oc1 kV1 dc1 pm1 cd1 ct1 oc2 kV2 dc2 pm2 cd2 ct2 oc3 kV3 dc3 pm3 cd3 ct3 oc4 kV4 dc4 pm4 cd4 ct4 oc5 kV5 dc5 pm5 cd5 ct5 oc6 kV6 dc6 pm6 cd6 ct6 oc7 kV7 dc7 pm7 cd7 ct7 oc8 kV8 dc8 pm8 cd8 ct8 oc9 kV9 dc9 pm9 cd9 ct9 oc10 kV10 dc10 pm10 cd10 ct10 oc11 kV11 dc11 pm11 cd11 ct11 oc12 kV12 dc12 pm12 cd12 ct12 oc13 kV13 dc13 pm13 cd13 ct13 oc14 kV14 dc14 pm14 cd14 ct14 oc15 kV15 dc15 pm15 cd15 ct15 oc16 kV16 dc16 pm16 cd16 ct16 oc17 kV17 dc17 pm17 cd17 ct17 : Value}
    (a1 : PySem.W.nsIn K mainGlobals "is_rising" = some (some (.ref f1)))
    (l1 : K.lookup f1 = some ⟨oc1, od1, .func (PySem.W.fnOf "is_rising" "is_rising" (defArgs sRising) (defBody sRising) (defScope sRising) .none kV1 dc1 pm1 an1 cd1 ct1), sl1⟩)
    (c1 : PySem.W.codeIn K cd1 "is_rising" = true)
    (k1 : PySem.W.keepIn K (.ref f1) = true)
    (a2 : PySem.W.nsIn K mainGlobals "is_web" = some (some (.ref f2)))
    (l2 : K.lookup f2 = some ⟨oc2, od2, .func (PySem.W.fnOf "is_web" "is_web" (defArgs sIsWeb) (defBody sIsWeb) (defScope sIsWeb) .none kV2 dc2 pm2 an2 cd2 ct2), sl2⟩)
    (c2 : PySem.W.codeIn K cd2 "is_web" = true)
    (k2 : PySem.W.keepIn K (.ref f2) = true)
    (a3 : PySem.W.nsIn K mainGlobals "is_pair" = some (some (.ref f3)))
    (l3 : K.lookup f3 = some ⟨oc3, od3, .func (PySem.W.fnOf "is_pair" "is_pair" (defArgs sIsPair) (defBody sIsPair) (defScope sIsPair) .none kV3 dc3 pm3 an3 cd3 ct3), sl3⟩)
    (c3 : PySem.W.codeIn K cd3 "is_pair" = true)
    (k3 : PySem.W.keepIn K (.ref f3) = true)
    (a4 : PySem.W.nsIn K mainGlobals "closed" = some (some (.ref f4)))
    (l4 : K.lookup f4 = some ⟨oc4, od4, .func (PySem.W.fnOf "closed" "closed" (defArgs sClosed) (defBody sClosed) (defScope sClosed) .none kV4 dc4 pm4 an4 cd4 ct4), sl4⟩)
    (c4 : PySem.W.codeIn K cd4 "closed" = true)
    (k4 : PySem.W.keepIn K (.ref f4) = true)
    (a5 : PySem.W.nsIn K mainGlobals "knotted_hands" = some (some (.ref f5)))
    (l5 : K.lookup f5 = some ⟨oc5, od5, .func (PySem.W.fnOf "knotted_hands" "knotted_hands" (defArgs sKnotted) (defBody sKnotted) (defScope sKnotted) .none kV5 dc5 pm5 an5 cd5 ct5), sl5⟩)
    (c5 : PySem.W.codeIn K cd5 "knotted_hands" = true)
    (k5 : PySem.W.keepIn K (.ref f5) = true)
    (a6 : PySem.W.nsIn K mainGlobals "told_ahead" = some (some (.ref f6)))
    (l6 : K.lookup f6 = some ⟨oc6, od6, .func (PySem.W.fnOf "told_ahead" "told_ahead" (defArgs sAhead) (defBody sAhead) (defScope sAhead) .none kV6 dc6 pm6 an6 cd6 ct6), sl6⟩)
    (c6 : PySem.W.codeIn K cd6 "told_ahead" = true)
    (k6 : PySem.W.keepIn K (.ref f6) = true)
    (a7 : PySem.W.nsIn K mainGlobals "_law_pen" = some (some (.ref f7)))
    (l7 : K.lookup f7 = some ⟨oc7, od7, .func (PySem.W.fnOf "_law_pen" "_law_pen" (defArgs sPen) (defBody sPen) (defScope sPen) .none kV7 dc7 pm7 an7 cd7 ct7), sl7⟩)
    (c7 : PySem.W.codeIn K cd7 "_law_pen" = true)
    (k7 : PySem.W.keepIn K (.ref f7) = true)
    (a8 : PySem.W.nsIn K mainGlobals "_law_draw" = some (some (.ref f8)))
    (l8 : K.lookup f8 = some ⟨oc8, od8, .func (PySem.W.fnOf "_law_draw" "_law_draw" (defArgs sDraw) (defBody sDraw) (defScope sDraw) .none kV8 dc8 pm8 an8 cd8 ct8), sl8⟩)
    (c8 : PySem.W.codeIn K cd8 "_law_draw" = true)
    (k8 : PySem.W.keepIn K (.ref f8) = true)
    (a9 : PySem.W.nsIn K mainGlobals "_law_pick" = some (some (.ref f9)))
    (l9 : K.lookup f9 = some ⟨oc9, od9, .func (PySem.W.fnOf "_law_pick" "_law_pick" (defArgs sPick) (defBody sPick) (defScope sPick) .none kV9 dc9 pm9 an9 cd9 ct9), sl9⟩)
    (c9 : PySem.W.codeIn K cd9 "_law_pick" = true)
    (k9 : PySem.W.keepIn K (.ref f9) = true)
    (a10 : PySem.W.nsIn K mainGlobals "_law_shuffled" = some (some (.ref f10)))
    (l10 : K.lookup f10 = some ⟨oc10, od10, .func (PySem.W.fnOf "_law_shuffled" "_law_shuffled" (defArgs sShuf) (defBody sShuf) (defScope sShuf) .none kV10 dc10 pm10 an10 cd10 ct10), sl10⟩)
    (c10 : PySem.W.codeIn K cd10 "_law_shuffled" = true)
    (k10 : PySem.W.keepIn K (.ref f10) = true)
    (a11 : PySem.W.nsIn K mainGlobals "_law_hands" = some (some (.ref f11)))
    (l11 : K.lookup f11 = some ⟨oc11, od11, .func (PySem.W.fnOf "_law_hands" "_law_hands" (defArgs sHands) (defBody sHands) (defScope sHands) .none kV11 dc11 pm11 an11 cd11 ct11), sl11⟩)
    (c11 : PySem.W.codeIn K cd11 "_law_hands" = true)
    (k11 : PySem.W.keepIn K (.ref f11) = true)
    (a12 : PySem.W.nsIn K mainGlobals "_law_row" = some (some (.ref f12)))
    (l12 : K.lookup f12 = some ⟨oc12, od12, .func (PySem.W.fnOf "_law_row" "_law_row" (defArgs sLawRow) (defBody sLawRow) (defScope sLawRow) .none kV12 dc12 pm12 an12 cd12 ct12), sl12⟩)
    (c12 : PySem.W.codeIn K cd12 "_law_row" = true)
    (k12 : PySem.W.keepIn K (.ref f12) = true)
    (a13 : PySem.W.nsIn K mainGlobals "_law_handed" = some (some (.ref f13)))
    (l13 : K.lookup f13 = some ⟨oc13, od13, .func (PySem.W.fnOf "_law_handed" "_law_handed" (defArgs sHanded) (defBody sHanded) (defScope sHanded) .none kV13 dc13 pm13 an13 cd13 ct13), sl13⟩)
    (c13 : PySem.W.codeIn K cd13 "_law_handed" = true)
    (k13 : PySem.W.keepIn K (.ref f13) = true)
    (a14 : PySem.W.nsIn K mainGlobals "_law_listed" = some (some (.ref f14)))
    (l14 : K.lookup f14 = some ⟨oc14, od14, .func (PySem.W.fnOf "_law_listed" "_law_listed" (defArgs sListed) (defBody sListed) (defScope sListed) .none kV14 dc14 pm14 an14 cd14 ct14), sl14⟩)
    (c14 : PySem.W.codeIn K cd14 "_law_listed" = true)
    (k14 : PySem.W.keepIn K (.ref f14) = true)
    (a15 : PySem.W.nsIn K mainGlobals "_law_pairs_of_row" = some (some (.ref f15)))
    (l15 : K.lookup f15 = some ⟨oc15, od15, .func (PySem.W.fnOf "_law_pairs_of_row" "_law_pairs_of_row" (defArgs sPairsRow) (defBody sPairsRow) (defScope sPairsRow) .none kV15 dc15 pm15 an15 cd15 ct15), sl15⟩)
    (c15 : PySem.W.codeIn K cd15 "_law_pairs_of_row" = true)
    (k15 : PySem.W.keepIn K (.ref f15) = true)
    (a16 : PySem.W.nsIn K mainGlobals "_law_follows" = some (some (.ref f16)))
    (l16 : K.lookup f16 = some ⟨oc16, od16, .func (PySem.W.fnOf "_law_follows" "_law_follows" (defArgs sFollows) (defBody sFollows) (defScope sFollows) .none kV16 dc16 pm16 an16 cd16 ct16), sl16⟩)
    (c16 : PySem.W.codeIn K cd16 "_law_follows" = true)
    (k16 : PySem.W.keepIn K (.ref f16) = true)
    (a17 : PySem.W.nsIn K mainGlobals "law" = some (some (.ref f17)))
    (l17 : K.lookup f17 = some ⟨oc17, od17, .func (PySem.W.fnOf "law" "law" (defArgs sLaw) (defBody sLaw) (defScope sLaw) .none kV17 dc17 pm17 an17 cd17 ct17), sl17⟩)
    (c17 : PySem.W.codeIn K cd17 "law" = true)
    (k17 : PySem.W.keepIn K (.ref f17) = true)
    (z_len : PySem.W.nsIn K mainGlobals "len" = some none)
    (z_abs : PySem.W.nsIn K mainGlobals "abs" = some none)
    (z_list : PySem.W.nsIn K mainGlobals "list" = some none)
    (z_isinstance : PySem.W.nsIn K mainGlobals "isinstance" = some none)
    (z_str : PySem.W.nsIn K mainGlobals "str" = some none)
    (z_tuple : PySem.W.nsIn K mainGlobals "tuple" = some none)
    (z_dict : PySem.W.nsIn K mainGlobals "dict" = some none)
    (z_all : PySem.W.nsIn K mainGlobals "all" = some none)
    (z_set : PySem.W.nsIn K mainGlobals "set" = some none)
    (z_enumerate : PySem.W.nsIn K mainGlobals "enumerate" = some none)
    (z_sorted : PySem.W.nsIn K mainGlobals "sorted" = some none)
    (z_range : PySem.W.nsIn K mainGlobals "range" = some none) :
    ∃ fd : FuncData, (∀ (s : Shared) (v : Value), BindsTo s fd ⟨[v], []⟩ [("script", v)]) ∧ ∀ base : Heap, K.In base → base.Ns mainGlobals mg → FnOk l.prog w K mg base CX0 4 fa fd ["script"] (spLaw K) := by
  have e := hfa.symm.trans (PySem.W.mg_of X G a17)
  cases e
  have B1 : Blt mg := ⟨PySem.W.mg_none_of X G z_len, PySem.W.mg_none_of X G z_abs, PySem.W.mg_none_of X G z_list⟩
  have B2 : Blt2 mg := ⟨PySem.W.mg_none_of X G z_isinstance, PySem.W.mg_none_of X G z_str, PySem.W.mg_none_of X G z_list, PySem.W.mg_none_of X G z_tuple, PySem.W.mg_none_of X G z_dict, PySem.W.mg_none_of X G z_all, PySem.W.mg_none_of X G z_set, PySem.W.mg_none_of X G z_len, PySem.W.mg_none_of X G z_enumerate, PySem.W.mg_none_of X G z_sorted, PySem.W.mg_none_of X G z_range⟩
  have F1 := fun_mk (st := sRising) l1 c1 k1
  have b1 := F1.binds (ps := ["things"]) fun _ _ _ _ _ _ us hl => match us, hl with | [_], _ => rfl
  have F2 := fun_mk (st := sIsWeb) l2 c2 k2
  have b2 := F2.binds (ps := ["hands", "thing"]) fun _ _ _ _ _ _ us hl => match us, hl with | [_, _], _ => rfl
  have F3 := fun_mk (st := sIsPair) l3 c3 k3
  have b3 := F3.binds (ps := ["hands", "thing"]) fun _ _ _ _ _ _ us hl => match us, hl with | [_, _], _ => rfl
  have F4 := fun_mk (st := sClosed) l4 c4 k4
  have b4 := F4.binds (ps := ["hands", "pairs"]) fun _ _ _ _ _ _ us hl => match us, hl with | [_, _], _ => rfl
  have F5 := fun_mk (st := sKnotted) l5 c5 k5
  have b5 := F5.binds (ps := ["hands", "pairs"]) fun _ _ _ _ _ _ us hl => match us, hl with | [_, _], _ => rfl
  have F6 := fun_mk (st := sAhead) l6 c6 k6
  have b6 := F6.binds (ps := ["hands", "pairs", "hand"]) fun _ _ _ _ _ _ us hl => match us, hl with | [_, _, _], _ => rfl
  have F7 := fun_mk (st := sPen) l7 c7 k7
  have b7 := F7.binds (ps := ["script"]) fun _ _ _ _ _ _ us hl => match us, hl with | [_], _ => rfl
  have F8 := fun_mk (st := sDraw) l8 c8 k8
  have b8 := F8.binds (ps := ["pen", "many"]) fun _ _ _ _ _ _ us hl => match us, hl with | [_, _], _ => rfl
  have F9 := fun_mk (st := sPick) l9 c9 k9
  have b9 := F9.binds (ps := ["pen", "some"]) fun _ _ _ _ _ _ us hl => match us, hl with | [_, _], _ => rfl
  have F10 := fun_mk (st := sShuf) l10 c10 k10
  have b10 := F10.binds (ps := ["pen", "some"]) fun _ _ _ _ _ _ us hl => match us, hl with | [_, _], _ => rfl
  have F11 := fun_mk (st := sHands) l11 c11 k11
  have b11 := F11.binds (ps := ["pen", "many"]) fun _ _ _ _ _ _ us hl => match us, hl with | [_, _], _ => rfl
  have F12 := fun_mk (st := sLawRow) l12 c12 k12
  have b12 := F12.binds (ps := ["pen", "hands"]) fun _ _ _ _ _ _ us hl => match us, hl with | [_, _], _ => rfl
  have F13 := fun_mk (st := sHanded) l13 c13 k13
  have b13 := F13.binds (ps := ["pen", "some"]) fun _ _ _ _ _ _ us hl => match us, hl with | [_, _], _ => rfl
  have F14 := fun_mk (st := sListed) l14 c14 k14
  have b14 := F14.binds (ps := ["pen", "hands"]) fun _ _ _ _ _ _ us hl => match us, hl with | [_, _], _ => rfl
  have F15 := fun_mk (st := sPairsRow) l15 c15 k15
  have b15 := F15.binds (ps := ["pen", "row"]) fun _ _ _ _ _ _ us hl => match us, hl with | [_, _], _ => rfl
  have F16 := fun_mk (st := sFollows) l16 c16 k16
  have b16 := F16.binds (ps := ["pairs", "first", "last"]) fun _ _ _ _ _ _ us hl => match us, hl with | [_, _, _], _ => rfl
  have F17 := fun_mk (st := sLaw) l17 c17 k17
  have b17 := F17.binds (ps := ["script"]) fun _ _ _ _ _ _ us hl => match us, hl with | [_], _ => rfl
  refine ⟨PySem.W.fnOf "law" "law" (defArgs sLaw) (defBody sLaw) (defScope sLaw) .none kV17 dc17 pm17 an17 cd17 ct17, fun s v => .of_eq rfl, fun base _ _ => ?_⟩
  have dRis : Df l.prog w K mg base CX0 "is_rising" 1 f1 _ ["things"] spRising := ⟨ok_rising F1 B2, PySem.W.mg_of X G a1, k1, b1⟩
  have dPair : Df l.prog w K mg base CX0 "is_pair" 1 f3 _ ["hands", "thing"] spIsPair := ⟨ok_isPair F3 B2, PySem.W.mg_of X G a3, k3, b3⟩
  have dWeb : Df l.prog w K mg base CX0 "is_web" 2 f2 _ ["hands", "thing"] spIsWeb := ⟨ok_isWeb F2 B2 dPair dRis, PySem.W.mg_of X G a2, k2, b2⟩
  have dAhead : Df l.prog w K mg base CX0 "told_ahead" 1 f6 _ ["hands", "pairs", "hand"] spAhead := ⟨ok_ahead F6, PySem.W.mg_of X G a6, k6, b6⟩
  have dKn : Df l.prog w K mg base CX0 "knotted_hands" 2 f5 _ ["hands", "pairs"] spKnotted := ⟨ok_knotted F5 B2 dAhead, PySem.W.mg_of X G a5, k5, b5⟩
  have dCl : Df l.prog w K mg base CX0 "closed" 3 f4 _ ["hands", "pairs"] spClosed := ⟨ok_closed F4 B2 dKn, PySem.W.mg_of X G a4, k4, b4⟩
  have dPen : Df l.prog w K mg base CX0 "_law_pen" 1 f7 _ ["script"] (spPen K) := ⟨ok_pen F7 B2, PySem.W.mg_of X G a7, k7, b7⟩
  have dDraw : Df l.prog w K mg base CX0 "_law_draw" 1 f8 _ ["pen", "many"] spDraw := ⟨ok_draw F8 B1, PySem.W.mg_of X G a8, k8, b8⟩
  have dPick : Df l.prog w K mg base CX0 "_law_pick" 2 f9 _ ["pen", "some"] (spPick K) := ⟨ok_pick F9 B1 dDraw, PySem.W.mg_of X G a9, k9, b9⟩
  have dShuf : Df l.prog w K mg base CX0 "_law_shuffled" 2 f10 _ ["pen", "some"] (spShuf K) := ⟨ok_shuf F10 B1 dDraw, PySem.W.mg_of X G a10, k10, b10⟩
  have dHands : Df l.prog w K mg base CX0 "_law_hands" 3 f11 _ ["pen", "many"] (spHands K) := ⟨ok_hands F11 B1 B2.range dDraw dPick, PySem.W.mg_of X G a11, k11, b11⟩
  have dRow : Df l.prog w K mg base CX0 "_law_row" 3 f12 _ ["pen", "hands"] spLawRow := ⟨ok_lawRow F12 B2 dShuf, PySem.W.mg_of X G a12, k12, b12⟩
  have dList : Df l.prog w K mg base CX0 "_law_listed" 3 f14 _ ["pen", "hands"] spListed := ⟨ok_listed F14 B2 dDraw dShuf, PySem.W.mg_of X G a14, k14, b14⟩
  have dHand : Df l.prog w K mg base CX0 "_law_handed" 3 f13 _ ["pen", "some"] spHanded := ⟨ok_handed F13 B2 dDraw dShuf dPick, PySem.W.mg_of X G a13, k13, b13⟩
  have dPR : Df l.prog w K mg base CX0 "_law_pairs_of_row" 3 f15 _ ["pen", "row"] spPairsRow := ⟨ok_pairsRow F15 B2 dDraw dPick, PySem.W.mg_of X G a15, k15, b15⟩
  have dFo : Df l.prog w K mg base CX0 "_law_follows" 1 f16 _ ["pairs", "first", "last"] spFollows := ⟨ok_follows F16 B2, PySem.W.mg_of X G a16, k16, b16⟩
  exact ok_law F17 B2 ⟨dPen, dDraw, dHands, dRow, dList, dHand, dPR, dFo, dCl, dWeb⟩
theorem walk {l : PySem.W.OpenLaw} {q : Program} {loose : List Str} {XP : (Str → Option Value) → Heap → Prop} {YP : World → Heap → Prop} {d : DefRec} {K : Params → PySem.W.Frag} (hn : l.most = some 63) (hdf : d.params.defaults = [])
    (hY : ∀ (w : World) (h : Heap), YP w h → (K w.params).In h)
    (F : ∀ (w : World) (mg : Str → Option Value) (fa : Addr) (h : Heap), (K w.params).In h → h.Ns mainGlobals mg → mg d.name = some (.ref fa) →
      ∃ fd : FuncData, (∀ (s : Shared) (u : Value), BindsTo s fd ⟨[u], []⟩ [("script", u)]) ∧ ∀ base : Heap, (K w.params).In base → base.Ns mainGlobals mg → FnOk l.prog w (K w.params) mg base CX0 4 fa fd ["script"] (spLaw (K w.params))) :
    PySem.W.WalkO q loose XP YP l.row.toRowW d [] (fun f vs => PySem.call f vs) :=
  L2.walk_of (n := 63) (k := 4) (x := "script") (CX := fun _ => CX0) (sp := fun w => spLaw (K w.params)) hn (by decide) hdf ⟨rfl, by decide, by decide⟩ hY F (fun _ _ a ns hl _ hS => ⟨a, ns, rfl, hS, hl, fun _ => rfl⟩) fun _ _ _ _ _ z => z
end Ah
open PySem PySem.W PyProof.Rows in
set_option maxRecDepth 100000 in
set_option maxHeartbeats 0 in
theorem PySem.Challenge.cw_aheadbook_k32_webs_closed_holds : PySem.Challenge.rw_aheadbook_k32_webs_closed.Holds := by
  w_on; o_law; k_head; (case hw => w_witness2)
  k_fill
  refine Ah.walk (l := PySem.Challenge.rw_aheadbook_k32_webs_closed) rfl rfl (fun w h Y => PySem.W.kIn_of Y) ?F
  case F =>
    intro w mg fa h KX G hmg
    refine' Ah.all_mk KX G hmg ?a1 ?l1 ?c1 ?k1 ?a2 ?l2 ?c2 ?k2 ?a3 ?l3 ?c3 ?k3 ?a4 ?l4 ?c4 ?k4 ?a5 ?l5 ?c5 ?k5 ?a6 ?l6 ?c6 ?k6 ?a7 ?l7 ?c7 ?k7 ?a8 ?l8 ?c8 ?k8 ?a9 ?l9 ?c9 ?k9 ?a10 ?l10 ?c10 ?k10 ?a11 ?l11 ?c11 ?k11 ?a12 ?l12 ?c12 ?k12 ?a13 ?l13 ?c13 ?k13 ?a14 ?l14 ?c14 ?k14 ?a15 ?l15 ?c15 ?k15 ?a16 ?l16 ?c16 ?k16 ?a17 ?l17 ?c17 ?k17 ?z_len ?z_abs ?z_list ?z_isinstance ?z_str ?z_tuple ?z_dict ?z_all ?z_set ?z_enumerate ?z_sorted ?z_range
    (case a1 => k_is)
    (case l1 => k_is)
    (case c1 => k_is)
    (case k1 => k_is)
    (case a2 => k_is)
    (case l2 => k_is)
    (case c2 => k_is)
    (case k2 => k_is)
    (case a3 => k_is)
    (case l3 => k_is)
    (case c3 => k_is)
    (case k3 => k_is)
    (case a4 => k_is)
    (case l4 => k_is)
    (case c4 => k_is)
    (case k4 => k_is)
    (case a5 => k_is)
    (case l5 => k_is)
    (case c5 => k_is)
    (case k5 => k_is)
    (case a6 => k_is)
    (case l6 => k_is)
    (case c6 => k_is)
    (case k6 => k_is)
    (case a7 => k_is)
    (case l7 => k_is)
    (case c7 => k_is)
    (case k7 => k_is)
    (case a8 => k_is)
    (case l8 => k_is)
    (case c8 => k_is)
    (case k8 => k_is)
    (case a9 => k_is)
    (case l9 => k_is)
    (case c9 => k_is)
    (case k9 => k_is)
    (case a10 => k_is)
    (case l10 => k_is)
    (case c10 => k_is)
    (case k10 => k_is)
    (case a11 => k_is)
    (case l11 => k_is)
    (case c11 => k_is)
    (case k11 => k_is)
    (case a12 => k_is)
    (case l12 => k_is)
    (case c12 => k_is)
    (case k12 => k_is)
    (case a13 => k_is)
    (case l13 => k_is)
    (case c13 => k_is)
    (case k13 => k_is)
    (case a14 => k_is)
    (case l14 => k_is)
    (case c14 => k_is)
    (case k14 => k_is)
    (case a15 => k_is)
    (case l15 => k_is)
    (case c15 => k_is)
    (case k15 => k_is)
    (case a16 => k_is)
    (case l16 => k_is)
    (case c16 => k_is)
    (case k16 => k_is)
    (case a17 => k_is)
    (case l17 => k_is)
    (case c17 => k_is)
    (case k17 => k_is)
    (case z_len => k_is)
    (case z_abs => k_is)
    (case z_list => k_is)
    (case z_isinstance => k_is)
    (case z_str => k_is)
    (case z_tuple => k_is)
    (case z_dict => k_is)
    (case z_all => k_is)
    (case z_set => k_is)
    (case z_enumerate => k_is)
    (case z_sorted => k_is)
    (case z_range => k_is)
