import PyProof.Rows.All
import Wide.All
import OpenK.AllK
import Wide.FinOn
import HandS.Base
import HandS.Call
import HandS.List
import HandS.Comp
import HandS.Ends
import HandS.Dict
import HandS.Iter
import HandS.Text
import HandS.Words
import HandS.WordsList
import HandS.Codes
import PySem.Challenge.RW_aheadbook_k39_whole_rows_counted_at_any
import HandS.Style
import HandS.TupAny
import KE.SortData
import PyProof.EnumMake
import PyProof.Draws
import KE.GoesMore
import HandS.IsInst
import HandS.DictComp
import HandS.Strs
import HandS.DictSub
import HandS.Deep
import HandS.Flow
import KE.DataCmp
import KE.KDictSum
import HandS.Conv
import PyProof.DictFindH
import KE.SortKeyHeap
import KE.KSortKey
import HandS.SortKw
import KE.KDictKeyed
import KE.KDictCopyH
set_option Elab.async false
set_option linter.all false
set_option maxRecDepth 100000
set_option maxHeartbeats 2000000
namespace Ah
open PySem PySem.Spec PyProof.Rows L2
/-! ### heaps that keep all but one object -/
def Kp (p : Addr) (H H' : Hp) : Prop := ∀ b o, b ≠ p → H b = some o → H' b = some o
theorem Kp.refl (p : Addr) (H : Hp) : Kp p H H := fun _ _ _ h => h
theorem Kp.trans {p : Addr} {H H1 H2 : Hp} (a : Kp p H H1) (b : Kp p H1 H2) : Kp p H H2 := fun c o n h => b c o n (a c o n h)
theorem Kp.same {p : Addr} {H H' : Hp} (a : Same H H') : Kp p H H' := fun c o _ h => a c o h
theorem Kp.new {p q : Addr} {H : Hp} {o : HO} (h : H q = none) : Kp p H (upd H q o) := fun b x _ e => by
  rw [upd_ne (ne_of_none e h)]
  exact e
theorem Kp.put {p : Addr} {H : Hp} {o : HO} : Kp p H (upd H p o) := fun b x n e => by
  rw [upd_ne n]
  exact e
/-- what is not tracked at first may change -/
theorem Kp.mut {p q : Addr} {H H' : Hp} {o : HO} (k : Kp p H H') (h : H q = none) : Kp p H (upd H' q o) := fun b x n e => by
  rw [upd_ne (ne_of_none e h)]
  exact k b x n e
theorem same_new {q : Addr} {H : Hp} {o : HO} (h : H q = none) : Same H (upd H q o) := fun b x e => by
  rw [upd_ne (ne_of_none e h)]
  exact e
theorem same_mut {q : Addr} {H H' : Hp} {o : HO} (k : Same H H') (h : H q = none) : Same H (upd H' q o) := fun b x e => by
  rw [upd_ne (ne_of_none e h)]
  exact k b x e
theorem rd_kp {p a : Addr} {u : HO} {H H' : Hp} (k : Kp p H H') {kvs : List (Key × V)} (hp : H p = some (.dK kvs)) (hu : ∀ kvs, u ≠ .dK kvs) (h : Rd H a u) : Rd H' a u := by
  rcases h with h | ⟨o, h⟩
  · refine .inl (k a _ (fun e => ?_) h)
    rw [e, hp] at h
    exact hu _ (Option.some.inj h).symm
  · refine .inr ⟨o, k a _ (fun e => ?_) h⟩
    rw [e, hp] at h
    cases h
theorem seq_kp {K : PySem.W.Frag} {p a : Addr} {xs : List V} {H H' : Hp} (k : Kp p H H') {kvs : List (Key × V)} (hp : H p = some (.dK kvs)) (h : SqL K H a xs) : SqL K H' a xs := by
  rcases h with h | h
  · exact .inl (rd_kp k hp (fun _ z => by cases z) h)
  · exact .inr h
theorem tup_kp {K : PySem.W.Frag} {p a : Addr} {xs : List V} {H H' : Hp} (k : Kp p H H') {kvs : List (Key × V)} (hp : H p = some (.dK kvs)) (h : SqT K H a xs) : SqT K H' a xs := by
  rcases h with h | h
  · exact .inl (rd_kp k hp (fun _ z => by cases z) h)
  · exact .inr h
theorem tup_same {K : PySem.W.Frag} {a : Addr} {xs : List V} {H H' : Hp} (k : Same H H') (h : SqT K H a xs) : SqT K H' a xs := by
  rcases h with (h | ⟨o, h⟩) | h
  · exact .inl (.inl (k _ _ h))
  · exact .inl (.inr ⟨o, k _ _ h⟩)
  · exact .inr h
/-! ### the pen -/
def penK (c : Addr) (a l : Int) : List (Key × V) := [(.inr "cells", .ref c), (.inr "at", .int a), (.inr "left", .int l)]
def PenAt (H : Hp) (p c : Addr) (n : Nat) : Prop := ∃ (ns : List Int) (a l : Int), H p = some (.dK (penK c a l)) ∧ H c = some (.lst (ns.map V.int)) ∧ 0 ≤ a ∧ a ≤ n ∧ 0 ≤ l
theorem k_ca : ¬ (("cells" : Str) = "at") := by decide +kernel
theorem k_cl : ¬ (("cells" : Str) = "left") := by decide +kernel
theorem k_al : ¬ (("at" : Str) = "left") := by decide +kernel
theorem pen_cells (c : Addr) (a l : Int) : valV (penK c a l) (.inr "cells" : Key) = some (.ref c) := valV_pos rfl
theorem pen_at (c : Addr) (a l : Int) : valV (penK c a l) (.inr "at" : Key) = some (.int a) := (valV_neg fun e => k_ca (Sum.inr.inj e)).trans (valV_pos rfl)
theorem pen_left (c : Addr) (a l : Int) : valV (penK c a l) (.inr "left" : Key) = some (.int l) := (valV_neg fun e => k_cl (Sum.inr.inj e)).trans ((valV_neg fun e => k_al (Sum.inr.inj e)).trans (valV_pos rfl))
theorem pen_putAt (c : Addr) (a l b : Int) : putK (penK c a l) (.inr "at" : Key) (.int b) = penK c b l := by
  have h : ((penK c a l).any fun kv => decide (kv.1 = (.inr "at" : Key))) = true := by rw [valV_any, pen_at]; rfl
  unfold putK
  rw [if_pos h]
  show [if (Sum.inr ("cells" : Str) : Key) = Sum.inr ("at" : Str) then ((Sum.inr ("cells" : Str) : Key), V.int b) else (Sum.inr ("cells" : Str), V.ref c), if (Sum.inr ("at" : Str) : Key) = Sum.inr ("at" : Str) then ((Sum.inr ("at" : Str) : Key), V.int b) else (Sum.inr ("at" : Str), V.int a), if (Sum.inr ("left" : Str) : Key) = Sum.inr ("at" : Str) then ((Sum.inr ("left" : Str) : Key), V.int b) else (Sum.inr ("left" : Str), V.int l)] = penK c b l
  rw [if_neg (fun e => k_ca (Sum.inr.inj e)), if_pos rfl, if_neg (fun e => k_al (Sum.inr.inj e).symm)]
  rfl
theorem pen_putLeft (c : Addr) (a l b : Int) : putK (penK c a l) (.inr "left" : Key) (.int b) = penK c a b := by
  have h : ((penK c a l).any fun kv => decide (kv.1 = (.inr "left" : Key))) = true := by rw [valV_any, pen_left]; rfl
  unfold putK
  rw [if_pos h]
  show [if (Sum.inr ("cells" : Str) : Key) = Sum.inr ("left" : Str) then ((Sum.inr ("cells" : Str) : Key), V.int b) else (Sum.inr ("cells" : Str), V.ref c), if (Sum.inr ("at" : Str) : Key) = Sum.inr ("left" : Str) then ((Sum.inr ("at" : Str) : Key), V.int b) else (Sum.inr ("at" : Str), V.int a), if (Sum.inr ("left" : Str) : Key) = Sum.inr ("left" : Str) then ((Sum.inr ("left" : Str) : Key), V.int b) else (Sum.inr ("left" : Str), V.int l)] = penK c a b
  rw [if_neg (fun e => k_cl (Sum.inr.inj e)), if_neg (fun e => k_al (Sum.inr.inj e)), if_pos rfl]
  rfl
theorem PenAt.mono {H : Hp} {p c : Addr} {n m : Nat} (h : PenAt H p c n) (hm : n ≤ m) : PenAt H p c m := by
  obtain ⟨ns, a, l, h1, h2, h3, h4, h5⟩ := h
  exact ⟨ns, a, l, h1, h2, h3, by omega, h5⟩
theorem PenAt.keep {H H' : Hp} {p c : Addr} {n : Nat} (h : PenAt H p c n) (k : Same H H') : PenAt H' p c n := by
  obtain ⟨ns, a, l, h1, h2, h3, h4, h5⟩ := h
  exact ⟨ns, a, l, k _ _ h1, k _ _ h2, h3, h4, h5⟩
theorem PenAt.dk {H : Hp} {p c : Addr} {n : Nat} (h : PenAt H p c n) : ∃ kvs : List (Key × V), H p = some (.dK kvs) := by
  obtain ⟨ns, a, l, h1, _⟩ := h
  exact ⟨_, h1⟩
/-- an object that was not there when the pen stood is changed -/
theorem PenAt.mut {H H' : Hp} {p c q : Addr} {n m : Nat} {o : HO} (h : PenAt H p c n) (hq : H q = none) (h' : PenAt H' p c m) : PenAt (upd H' q o) p c m := by
  obtain ⟨_, _, _, g1, g2, _⟩ := h
  obtain ⟨ns, a, l, h1, h2, h3, h4, h5⟩ := h'
  exact ⟨ns, a, l, (upd_ne (ne_of_none g1 hq)).trans h1, (upd_ne (ne_of_none g2 hq)).trans h2, h3, h4, h5⟩
theorem Kp.free {H H' : Hp} {p c q : Addr} {n : Nat} (k : Kp p H H') (hp : PenAt H' p c n) (h : H' q = none) : H q = none := by
  obtain ⟨kvs, hk⟩ := hp.dk
  have nq : q ≠ p := fun e => by
    rw [e, hk] at h
    cases h
  cases e : H q with
  | none => rfl
  | some o =>
    rw [k q o nq e] at h
    cases h
/-! ### equal data -/
theorem dp_ints {K : PySem.W.Frag} {H : Hp} : ∀ ns : List Int, DpAll K H (ns.map V.int) (ns.map PyData.int)
  | [] => .nil
  | n :: ns => .cons (.int n) (dp_ints ns)
theorem dp_strs {K : PySem.W.Frag} {H : Hp} : ∀ ns : List Str, DpAll K H (ns.map V.str) (ns.map PyData.str)
  | [] => .nil
  | n :: ns => .cons (.str n) (dp_strs ns)
theorem lay_ints : ∀ ns : List Int, PyData.canLayAll0 (ns.map PyData.int) = true ∧ PyData.depthAll (ns.map PyData.int) ≤ 1
  | [] => ⟨rfl, by simp [PyData.depthAll]⟩
  | n :: ns => by
    obtain ⟨h1, h2⟩ := lay_ints ns
    refine ⟨by simp [PyData.canLayAll0, PyData.canLay0, h1], ?_⟩
    simp only [List.map_cons, PyData.depthAll, PyData.depth]
    omega
theorem lay_strs : ∀ ns : List Str, (∀ x ∈ ns, PyData.strOk x = true) → PyData.canLayAll0 (ns.map PyData.str) = true ∧ PyData.depthAll (ns.map PyData.str) ≤ 1
  | [], _ => ⟨rfl, by simp [PyData.depthAll]⟩
  | n :: ns, h => by
    obtain ⟨h1, h2⟩ := lay_strs ns fun x hx => h x (List.mem_cons_of_mem _ hx)
    refine ⟨by simp [PyData.canLayAll0, PyData.canLay0, h1, h n List.mem_cons_self], ?_⟩
    simp only [List.map_cons, PyData.depthAll, PyData.depth]
    omega
theorem shp_list {ds : List PyData} (h : PyData.canLayAll0 ds = true) (hd : PyData.depthAll ds ≤ 63) : SeqAt.shaped (.list ds) = true := by
  unfold SeqAt.shaped
  simp only [PyData.canLay0, PyData.depth, h, Bool.true_and]
  exact decide_eq_true (by omega)
theorem shp_tup {ds : List PyData} (h : PyData.canLayAll0 ds = true) (hd : PyData.depthAll ds ≤ 63) : SeqAt.shaped (.tuple ds) = true := by
  unfold SeqAt.shaped
  simp only [PyData.canLay0, PyData.depth, h, Bool.true_and]
  exact decide_eq_true (by omega)
theorem shp_ints (ns : List Int) : SeqAt.shaped (.list (ns.map PyData.int)) = true := shp_list (lay_ints ns).1 (Nat.le_trans (lay_ints ns).2 (by decide))
theorem shp_strs {ns : List Str} (h : ∀ x ∈ ns, PyData.strOk x = true) : SeqAt.shaped (.list (ns.map PyData.str)) = true := shp_list (lay_strs ns h).1 (Nat.le_trans (lay_strs ns h).2 (by decide))
theorem shp_strsT {ns : List Str} (h : ∀ x ∈ ns, PyData.strOk x = true) : SeqAt.shaped (.tuple (ns.map PyData.str)) = true := shp_tup (lay_strs ns h).1 (Nat.le_trans (lay_strs ns h).2 (by decide))
theorem shp_nil : SeqAt.shaped (.list []) = true := shp_list rfl (by simp [PyData.depthAll])
theorem eqv_nil {α : Type} (f : α → PyData) (ns : List α) : PyData.eqv (.list (ns.map f)) (.list []) = ns.isEmpty := by
  cases ns with
  | nil => simp [PyData.eqv, PyData.eqvAll]
  | cons n ns => simp [PyData.eqv, PyData.eqvAll]
end Ah
set_option Elab.async false
set_option linter.all false
set_option maxRecDepth 100000
set_option maxHeartbeats 2000000
namespace Ah
open PySem PySem.Spec PyProof.Rows L2
def topS (i : Nat) : Stmt := PySem.Challenge.pw_aheadbook_k39_whole_rows_counted_at_any.main.body.getD i (.Pass ⟨0, 0, 0, 0⟩)
abbrev sDraw : Stmt := topS 26
/-- the built-in names that the text uses -/
structure Blt (mg : Str → Option Value) : Prop where
  len : mg "len" = none
  abs : mg "abs" = none
  list : mg "list" = none
theorem dg_left {H : Hp} {p c : Addr} {a l : Int} (h : H p = some (.dK (penK c a l))) : DGet H p (.str "left") (some (.int l)) := by
  have q := DGet.k (k := (Sum.inr ("left" : Str) : Key)) h
  rw [pen_left] at q
  exact q
theorem dg_at {H : Hp} {p c : Addr} {a l : Int} (h : H p = some (.dK (penK c a l))) : DGet H p (.str "at") (some (.int a)) := by
  have q := DGet.k (k := (Sum.inr ("at" : Str) : Key)) h
  rw [pen_at] at q
  exact q
theorem dg_cells {H : Hp} {p c : Addr} {a l : Int} (h : H p = some (.dK (penK c a l))) : DGet H p (.str "cells") (some (.ref c)) := by
  have q := DGet.k (k := (Sum.inr ("cells" : Str) : Key)) h
  rw [pen_cells] at q
  exact q
theorem dp_left {H : Hp} {p c : Addr} {a l b : Int} (h : H p = some (.dK (penK c a l))) : DPut H p (.str "left") (.int b) (upd H p (.dK (penK c a b))) := by
  have q := DPut.k (k := (Sum.inr ("left" : Str) : Key)) (v := V.int b) h (by show 3 < sizeLine; decide)
  rw [pen_putLeft] at q
  exact q
theorem dp_at {H : Hp} {p c : Addr} {a l b : Int} (h : H p = some (.dK (penK c a l))) : DPut H p (.str "at") (.int b) (upd H p (.dK (penK c b l))) := by
  have q := DPut.k (k := (Sum.inr ("at" : Str) : Key)) (v := V.int b) h (by show 3 < sizeLine; decide)
  rw [pen_putAt] at q
  exact q
theorem blend_lt {x m : Int} (h : 0 < m) : 0 ≤ x % m ∧ x % m < m := ⟨Int.emod_nonneg _ (by omega), Int.emod_lt_of_pos _ h⟩
section
variable {P : Program} {w : World} {K : PySem.W.Frag} {mg : Str → Option Value} {base : Heap}
theorem scDraw : FnScope ["pen", "many", "digit", "at", "cell", "blend"] ["pen", "many"] (defScope sDraw) := ⟨rfl, rfl, rfl, by decide +kernel, rfl, by decide +kernel, by decide +kernel⟩
def spDraw : Sp := fun vs H Q _ => ∃ (p c : Addr) (m : Int) (n : Nat), vs = [.ref p, .int m] ∧ PenAt H p c n ∧ n < 1000000 ∧ 0 < m ∧ m < 1073741824 ∧
  ∀ (d : Int) (H' : Hp), 0 ≤ d → d < m → PenAt H' p c (n + 1) → Kp p H H' → Q (.int d) H'
theorem ok_draw {f : Addr} {fd : FuncData} (F : Fun K "_law_draw" "_law_draw" sDraw f fd) (B : Blt mg) : FnOk P w K mg base CX0 1 f fd ["pen", "many"] spDraw := by
  refine F.ok scDraw (fun vs H Q E h => ?_) (fun cdv A outer s H vs Q E hr h => ?_)
  · obtain ⟨p, c, m, n, rfl, _⟩ := h
    rfl
  · obtain ⟨p, c, m, n, rfl, ⟨ns, a, l, hp, hc, a0, an, l0⟩, hn, m0, m1, k⟩ := h
    have hu := hu_of hr
    have nd := scDraw.nd
    have ncp : c ≠ p := fun e => by
      rw [e, hp] at hc
      cases hc
    refine ⟨_, pss_cons (ps_if (pt_cmpR op_gt (pe_dget hu (pv 0) pe_str (fun _ _ => rfl)) pe_int (nomark _))
        (pss_cons (ps_set (i := 2) nd rfl (.inl rfl) (pe_op op_mod (pe_dget hu (pv 0) pe_str (fun _ _ => rfl)) (pv 1)))
        (pss_cons (ps_dput hu (pv 0) pe_str (pe_op op_fdiv (pe_dget hu (pv 0) pe_str (fun _ _ => rfl)) (pv 1)) rfl)
        (pss_one (ps_ret (pv 2))))) pss_nil)
      (pss_cons (ps_set (i := 3) nd rfl (.inl rfl) (pe_dget hu (pv 0) pe_str (fun _ _ => rfl)))
      (pss_cons (ps_dput hu (pv 0) pe_str (pe_op op_add (pv 3) pe_int) rfl)
      (pss_cons (ps_set (i := 4) nd rfl (.inl rfl) (pe_op op_add (pe_op op_mul pe_int (pv 3)) pe_int))
      (C8.pss_cut (ps_if (pt_cmpR (op_neD hr.units) (pe_dget hu (pv 0) pe_str (fun _ _ => rfl)) (pe_lst pa_nil) (nomark _))
        (pss_one (ps_set (i := 4) nd rfl (.inl rfl) (pe_ix ix_list (pe_dget hu (pv 0) pe_str (fun _ _ => rfl)) (pe_op op_mod (pv 3) (pe_callB call_len_seq (by rfl) B.len PySem.boot_len (pa_cons (pe_dget hu (pv 0) pe_str (fun _ _ => rfl)) pa_nil))) (fun _ _ => rfl)))) pss_nil)
      (C8.pss_cut (ps_if (PW.pt (pw_and (pt_cmpR op_lt (pv 3) (pe_callB call_len_seq (by rfl) B.len PySem.boot_len (pa_cons (pe_dget hu (pv 0) pe_str (fun _ _ => rfl)) pa_nil)) (nomark _))
            (pw_and1 (pt_cmpR op_ge (pe_callB call_abs (by rfl) B.abs (by decide +kernel) (pa_cons (pv 4) pa_nil)) (pe_op op_pow pe_int pe_int) (nomark _)))))
        (pss_cons (ps_dput hu (pv 0) pe_str (pe_op op_fdiv (pe_op op_sub (pe_callB call_abs (by rfl) B.abs (by decide +kernel) (pa_cons (pv 4) pa_nil)) (pe_op op_pow pe_int pe_int)) (pv 1)) rfl)
        (pss_one (ps_ret (pe_op op_mod (pe_op op_sub (pe_callB call_abs (by rfl) B.abs (by decide +kernel) (pa_cons (pv 4) pa_nil)) (pe_op op_pow pe_int pe_int)) (pv 1))))) pss_nil)
      (pss_cons (ps_set (i := 5) nd rfl (.inl rfl) (pe_op op_mod (pe_op op_add (pe_op op_add (pe_op op_add (pe_op op_mul (pe_op op_mod (pv 4) pe_int) pe_int) (pe_op op_mul (pe_op op_mul pe_int (pv 3)) (pv 3))) (pe_op op_mul pe_int (pv 3))) pe_int) pe_int))
      (pss_cons (ps_set (i := 5) nd rfl (.inl rfl) (pe_op op_mod (pe_op op_add (pe_op op_add (pe_op op_add (pe_op op_mul (pv 5) (pv 5)) (pe_op op_mul pe_int (pv 5))) (pe_op op_mul pe_int (pv 3))) pe_int) pe_int))
      (pss_one (ps_ret (pe_op op_mod (pe_op op_fdiv (pe_op op_mod (pe_op op_mul (pv 5) (pe_op op_add (pv 5) pe_int)) pe_int) pe_int) (pv 1))))))))))), ?_⟩
    -- if pen['left'] > 0
    refine ⟨_, rfl, p, _, rfl, dg_left hp, _, _, rfl, rfl, _, rfl, ?_⟩
    refine ite2 (fun e => ?_) (fun e => ?_)
    · have e : 0 < l := of_decide_eq_true e
      refine ⟨_, rfl, p, _, rfl, dg_left hp, _, rfl, _, _, rfl, rfl, m0, ?_⟩
      refine ⟨_, rfl, p, _, rfl, dg_left hp, _, rfl, _, _, rfl, rfl, ⟨m0, m1⟩, _, rfl, p, _, rfl, dp_left hp, ?_⟩
      refine ⟨_, rfl, k _ _ (blend_lt m0).1 (blend_lt m0).2 ⟨ns, a, l / m, upd_same, (upd_ne ncp).trans hc, a0, by omega, Int.ediv_nonneg l0 (by omega)⟩ Kp.put⟩
    -- at = pen['at']; pen['at'] = at + 1
    refine ⟨_, rfl, p, _, rfl, dg_at hp, ?_⟩
    refine ⟨_, rfl, _, _, rfl, rfl, _, rfl, p, _, rfl, dp_at hp, ?_⟩
    have hp1 : (upd H p (.dK (penK c (a + 1) l))) p = some (.dK (penK c (a + 1) l)) := upd_same
    have hc1 : (upd H p (.dK (penK c (a + 1) l))) c = some (.lst (ns.map V.int)) := (upd_ne ncp).trans hc
    have k1 : Kp p H (upd H p (.dK (penK c (a + 1) l))) := Kp.put
    generalize upd H p (.dK (penK c (a + 1) l)) = H1 at hp1 hc1 k1 ⊢
    -- cell = 17 * at + 3
    refine ⟨_, rfl, _, _, rfl, rfl, .inl (by omega), _, _, rfl, rfl, ?_⟩
    -- if pen['cells'] != []
    refine ⟨fun σ' H' => ∃ cell : Int, σ' = [some (.ref p), some (.int m), none, some (.int a), some (.int cell), none] ∧ H' p = some (.dK (penK c (a + 1) l)) ∧ H' c = some (.lst (ns.map V.int)) ∧ Kp p H H', ?_, ?_⟩
    · refine ⟨_, rfl, p, _, rfl, dg_cells hp1, Nat.zero_le _, fun q hq => ?_⟩
      have hp2 : (upd H1 q (.lst [])) p = some (.dK (penK c (a + 1) l)) := (upd_ne (ne_of_none hp1 hq)).trans hp1
      have hc2 : (upd H1 q (.lst [])) c = some (.lst (ns.map V.int)) := (upd_ne (ne_of_none hc1 hq)).trans hc1
      have hq2 : (upd H1 q (.lst [])) q = some (.lst []) := upd_same
      have k2 : Kp p H (upd H1 q (.lst [])) := k1.trans (Kp.new hq)
      generalize upd H1 q (.lst []) = H2 at hp2 hc2 hq2 k2 ⊢
      refine ⟨.list (ns.map PyData.int), .list [], .lst (SqL.of hc2) (dp_ints ns), .lst (SqL.of hq2) .nil, shp_ints ns, shp_nil, _, rfl, ?_⟩
      rw [eqv_nil]
      refine ite2 (fun e => ?_) (fun e => ⟨_, rfl, hp2, hc2, k2⟩)
      have hne : 0 < ns.length := by
        cases ns with
        | nil => cases e
        | cons x r => exact Nat.succ_pos _
      have hlen : (0 : Int) < ((ns.map V.int).length : Int) := by
        rw [List.length_map]
        omega
      have hm := blend_lt (x := a) hlen
      rw [List.length_map] at hm
      obtain ⟨j, hj⟩ : ∃ j : Nat, (a % (ns.length : Int)) = (j : Int) := ⟨(a % (ns.length : Int)).toNat, by omega⟩
      have hjl : j < ns.length := by omega
      refine ⟨_, rfl, p, _, rfl, dg_cells hp2, _, rfl, _, rfl, p, _, rfl, dg_cells hp2, c, _, rfl, .inl (SqL.of hc2), _, _, rfl, rfl, hlen, c, ns.map V.int, _, .int (ns[j]), rfl, rfl, SqL.of hc2, ?_, ⟨_, rfl, hp2, hc2, k2⟩⟩
      rw [List.length_map, hj]
      refine atI_nat ?_
      rw [List.getElem?_map, List.getElem?_eq_getElem hjl]
      rfl
    rintro σ' H2 ⟨cell, rfl, hp2, hc2, k2⟩
    have fin : ∀ (H' : Hp) (b : Int), 0 ≤ b → H' p = some (.dK (penK c (a + 1) b)) → H' c = some (.lst (ns.map V.int)) → PenAt H' p c (n + 1) := fun H' b hb q1 q2 => ⟨ns, a + 1, b, q1, q2, by omega, by omega, hb⟩
    -- if at < len(pen['cells']) and abs(cell) >= 10 ** 18
    refine ⟨fun σ' H' => σ' = [some (.ref p), some (.int m), none, some (.int a), some (.int cell), none] ∧ H' = H2, ?_, ?_⟩
    · refine ⟨_, rfl, _, rfl, p, _, rfl, dg_cells hp2, c, _, rfl, .inl (SqL.of hc2), _, _, rfl, rfl, _, rfl, ?_⟩
      refine ite2 (fun e1 => ?_) (fun e1 => iteF ⟨rfl, rfl⟩)
      refine ⟨_, rfl, cell, rfl, _, _, rfl, rfl, ⟨by decide, by decide, by decide⟩, _, _, rfl, rfl, _, rfl, ?_⟩
      refine ite2 (fun e2 => ?_) (fun e2 => ⟨rfl, rfl⟩)
      have e2 : (10 : Int) ^ (18 : Int).toNat ≤ (if cell < 0 then -cell else cell) := of_decide_eq_true e2
      refine ⟨_, rfl, cell, rfl, _, _, rfl, rfl, ⟨by decide, by decide, by decide⟩, _, _, rfl, rfl, _, rfl, _, _, rfl, rfl, ⟨m0, m1⟩, _, rfl, p, _, rfl, dp_left hp2, ?_⟩
      refine ⟨_, rfl, cell, rfl, _, _, rfl, rfl, ⟨by decide, by decide, by decide⟩, _, _, rfl, rfl, _, rfl, _, _, rfl, rfl, m0, ?_⟩
      exact k _ _ (blend_lt m0).1 (blend_lt m0).2 (fin _ _ (Int.ediv_nonneg (by omega) (by omega)) upd_same ((upd_ne ncp).trans hc2)) (k2.trans Kp.put)
    rintro σ' H3 ⟨rfl, rfl⟩
    -- the blends
    have b0 := blend_lt (x := cell) (m := 2147483659) (by decide)
    refine ⟨_, rfl, _, _, rfl, rfl, (by show (0 : Int) < 2147483659; decide), _, _, rfl, rfl, .inl (by show -(2 ^ 64) < cell % 2147483659 ∧ cell % 2147483659 < 2 ^ 64; omega), _, rfl, _, _, rfl, rfl, .inl (by decide), _, rfl, _, _, rfl, rfl, .inl (by omega), _, _, rfl, rfl, _, rfl, _, _, rfl, rfl, .inl (by decide), _, _, rfl, rfl, _, _, rfl, rfl, _, _, rfl, rfl, (by show (0 : Int) < 2147483693; decide), ?_⟩
    have b1 := blend_lt (x := cell % 2147483659 * 48271 + 30011 * a * a + 12289 * a + 7) (m := 2147483693) (by decide)
    obtain ⟨x, hx⟩ : ∃ x, x = (cell % 2147483659 * 48271 + 30011 * a * a + 12289 * a + 7) % 2147483693 := ⟨_, rfl⟩
    rw [← hx] at b1
    dsimp only
    rw [← hx]
    refine ⟨_, rfl, _, rfl, _, _, rfl, rfl, .inl (by omega), _, rfl, _, _, rfl, rfl, .inl (by decide), _, _, rfl, rfl, _, rfl, _, _, rfl, rfl, .inl (by decide), _, _, rfl, rfl, _, _, rfl, rfl, _, _, rfl, rfl, (by show (0 : Int) < 2147483713; decide), ?_⟩
    have b2 := blend_lt (x := x * x + 16807 * x + 5 * a + 1) (m := 2147483713) (by decide)
    obtain ⟨y, hy⟩ : ∃ y, y = (x * x + 16807 * x + 5 * a + 1) % 2147483713 := ⟨_, rfl⟩
    rw [← hy] at b2
    dsimp only
    rw [← hy]
    refine ⟨_, rfl, _, rfl, _, _, rfl, rfl, _, _, rfl, rfl, .inl (by omega), _, _, rfl, rfl, (by show (0 : Int) < 2147483743; decide), _, _, rfl, rfl, ⟨by decide, by decide⟩, _, rfl, _, _, rfl, rfl, m0, ?_⟩
    exact k _ _ (blend_lt m0).1 (blend_lt m0).2 (fin _ l l0 hp2 hc2) k2
end
end Ah
set_option Elab.async false
set_option linter.all false
set_option maxRecDepth 100000
set_option maxHeartbeats 2000000
namespace Ah
open PySem PySem.Spec PyProof.Rows L2
/-! ### data over heaps -/
/-- what data lean on: lists and tuples that are to be read -/
def Sq (K : PySem.W.Frag) (H H' : Hp) : Prop := (∀ a xs, SqL K H a xs → SqL K H' a xs) ∧ ∀ a xs, SqT K H a xs → SqT K H' a xs
theorem Sq.kp {K : PySem.W.Frag} {p : Addr} {H H' : Hp} (k : Kp p H H') {kvs : List (Key × V)} (hp : H p = some (.dK kvs)) : Sq K H H' := ⟨fun _ _ h => seq_kp k hp h, fun _ _ h => tup_kp k hp h⟩
theorem Sq.same {K : PySem.W.Frag} {H H' : Hp} (k : Same H H') : Sq K H H' := ⟨fun _ _ h => k.seq h, fun _ _ h => tup_same k h⟩
mutual
theorem dp_sq {K : PySem.W.Frag} {H H' : Hp} (k : Sq K H H') : ∀ (d : PyData) (v : V), Dp K H v d → Dp K H' v d
  | .none, _, h => by
    cases h
    exact .non
  | .bool b, _, h => by
    cases h
    exact .bl b
  | .int i, _, h => by
    cases h
    exact .int i
  | .str x, _, h => by
    cases h
    exact .str x
  | .list ds, _, h => by
    cases h with
    | lst hs ha => exact .lst (k.1 _ _ hs) (dpAll_sq k ds _ ha)
  | .tuple ds, _, h => by
    cases h with
    | tup hs ha => exact .tup (k.2 _ _ hs) (dpAll_sq k ds _ ha)
  | .dict _, _, h => by cases h
theorem dpAll_sq {K : PySem.W.Frag} {H H' : Hp} (k : Sq K H H') : ∀ (ds : List PyData) (vs : List V), DpAll K H vs ds → DpAll K H' vs ds
  | [], _, h => by
    cases h
    exact .nil
  | d :: ds, _, h => by
    cases h with
    | cons h1 h2 => exact .cons (dp_sq k d _ h1) (dpAll_sq k ds _ h2)
end
def Shp (d : PyData) : Prop := d.canLay0 = true ∧ d.depth ≤ 60
theorem shp_all : ∀ {ds : List PyData}, (∀ d ∈ ds, Shp d) → PyData.canLayAll0 ds = true ∧ PyData.depthAll ds ≤ 60
  | [], _ => ⟨rfl, by simp [PyData.depthAll]⟩
  | d :: ds, h => by
    obtain ⟨h1, h2⟩ := shp_all fun x hx => h x (List.mem_cons_of_mem _ hx)
    obtain ⟨h3, h4⟩ := h d List.mem_cons_self
    refine ⟨by simp [PyData.canLayAll0, h1, h3], ?_⟩
    simp only [PyData.depthAll]
    omega
theorem shp_l {ds : List PyData} (h : ∀ d ∈ ds, Shp d) : SeqAt.shaped (.list ds) = true := shp_list (shp_all h).1 (Nat.le_trans (shp_all h).2 (by decide))
theorem shp_t {ds : List PyData} (h : ∀ d ∈ ds, Shp d) : SeqAt.shaped (.tuple ds) = true := shp_tup (shp_all h).1 (Nat.le_trans (shp_all h).2 (by decide))
theorem shp_str {x : Str} (h : PyData.strOk x = true) : Shp (.str x) := ⟨by simp [PyData.canLay0, h], by simp [PyData.depth]⟩
theorem dpAll_len {K : PySem.W.Frag} {H : Hp} : ∀ {vs : List V} {ds : List PyData}, DpAll K H vs ds → vs.length = ds.length
  | _, _, .nil => rfl
  | _, _, .cons _ t => by rw [List.length_cons, List.length_cons, dpAll_len t]
theorem dpAll_erase {K : PySem.W.Frag} {H : Hp} : ∀ {vs : List V} {ds : List PyData} (i : Nat), DpAll K H vs ds → DpAll K H (vs.eraseIdx i) (ds.eraseIdx i)
  | _, _, _, .nil => .nil
  | _, _, 0, .cons _ t => t
  | _, _, i + 1, .cons h t => .cons h (dpAll_erase i t)
theorem eqv_nils {ds : List PyData} : PyData.eqv (.list ds) (.list []) = ds.isEmpty := by
  cases ds with
  | nil => simp [PyData.eqv, PyData.eqvAll]
  | cons n ns => simp [PyData.eqv, PyData.eqvAll]
/-! ### a def, as its callers see it -/
structure Df (P : Program) (w : World) (K : PySem.W.Frag) (mg : Str → Option Value) (base : Heap) (CX : CXT) (x : Str) (k : Nat) (f : Addr) (fd : FuncData) (ps : List Str) (sp : Sp) : Prop where
  ok : FnOk P w K mg base CX k f fd ps sp
  g : mg x = some (.ref f)
  kp : PySem.W.keepIn K (.ref f) = true
  b : Binds K fd ps []
/-- a sequence of values: a list, a tuple, a text's signs -/
def Seqv (K : PySem.W.Frag) (H : Hp) (x : V) (ys : List V) : Prop := (∃ a, x = .ref a ∧ SqL K H a ys) ∨ (∃ a, x = .ref a ∧ SqT K H a ys) ∨ ∃ z : Str, x = .str z ∧ z.length ≤ sizeLine ∧ ys = z.cps.toList.map fun c => V.str ⟨#[c]⟩
theorem Seqv.sq {K : PySem.W.Frag} {H H' : Hp} {x : V} {ys : List V} (k : Sq K H H') (h : Seqv K H x ys) : Seqv K H' x ys := by
  rcases h with ⟨a, e, h⟩ | ⟨a, e, h⟩ | h
  · exact .inl ⟨a, e, k.1 _ _ h⟩
  · exact .inr (.inl ⟨a, e, k.2 _ _ h⟩)
  · exact .inr (.inr h)
theorem Seqv.len {K : PySem.W.Frag} {H : Hp} {x : V} {ys : List V} (h : Seqv K H x ys) : LenV K x H ys.length := by
  rcases h with ⟨a, rfl, h⟩ | ⟨a, rfl, h⟩ | ⟨z, rfl, hz, rfl⟩
  · exact .inl ⟨ys, h, rfl⟩
  · exact .inr ⟨ys, h, rfl⟩
  · exact ⟨hz, by rw [List.length_map, Array.length_toList]; rfl⟩
theorem perm_erase {α : Type} : ∀ {l : List α} {i : Nat} (h : i < l.length), (l[i] :: l.eraseIdx i).Perm l
  | x :: l, 0, _ => List.Perm.refl _
  | x :: l, i + 1, h => by
    have ih := perm_erase (l := l) (i := i) (Nat.lt_of_succ_lt_succ h)
    show (l[i]'(Nat.lt_of_succ_lt_succ h) :: x :: l.eraseIdx i).Perm (x :: l)
    exact (List.Perm.swap _ _ _).trans (ih.cons x)
theorem seqIx {j n : Nat} (h : j < n) : seqIndex? (j : Int) n = some j := by
  unfold seqIndex?
  simp
  omega
abbrev sPick : Stmt := topS 27
abbrev sShuf : Stmt := topS 28
section
variable {P : Program} {w : World} {K : PySem.W.Frag} {mg : Str → Option Value} {base : Heap}
theorem scPick : FnScope ["pen", "some"] ["pen", "some"] (defScope sPick) := ⟨rfl, rfl, rfl, by decide +kernel, rfl, by decide +kernel, by decide +kernel⟩
def spPick (K : PySem.W.Frag) : Sp := fun vs H Q _ => ∃ (p c : Addr) (x : V) (ys : List V) (n : Nat), vs = [.ref p, x] ∧ Seqv K H x ys ∧ PenAt H p c n ∧ n < 1000000 ∧ 0 < ys.length ∧ ys.length < 1000000 ∧
  ∀ (i : Nat) (y : V) (H' : Hp), ys[i]? = some y → PenAt H' p c (n + 1) → Kp p H H' → Q y H'
theorem ok_pick {f f1 : Addr} {fd fd1 : FuncData} (F : Fun K "_law_pick" "_law_pick" sPick f fd) (B : Blt mg) (D : Df P w K mg base CX0 "_law_draw" 1 f1 fd1 ["pen", "many"] spDraw) : FnOk P w K mg base CX0 2 f fd ["pen", "some"] (spPick K) := by
  refine F.ok scPick (fun vs H Q E h => ?_) (fun cdv A outer s H vs Q E hr h => ?_)
  · obtain ⟨p, c, x, ys, n, rfl, _⟩ := h
    rfl
  · obtain ⟨p, c, x, ys, n, rfl, hx, hp, hn, h0, h1, k⟩ := h
    refine ⟨_, pss_one (ps_ret (pe_ix ix_seq (pv 1) (pe_call D.ok hr rfl D.g D.kp D.b .nil pass0 (pa_cons (pv 0) (pa_cons (pe_callB call_len (by rfl) B.len PySem.boot_len (pa_cons (pv 1) pa_nil)) pa_nil))) (fun _ _ => rfl))), ?_⟩
    refine ⟨_, rfl, _, rfl, x, rfl, x, _, rfl, hx.len, p, c, _, n, rfl, hp, hn, by omega, by omega, fun d H' d0 d1 hp' kp => ?_⟩
    obtain ⟨kvs, hk⟩ := hp.dk
    have hx' := hx.sq (Sq.kp kp hk)
    obtain ⟨j, rfl⟩ : ∃ j : Nat, d = j := ⟨d.toNat, by omega⟩
    have hj : j < ys.length := by omega
    have hjj : ys[j]? = some ys[j] := List.getElem?_eq_getElem hj
    rcases hx' with ⟨a, e, h⟩ | ⟨a, e, h⟩ | ⟨z, e, hz, rfl⟩
    · exact .inl ⟨a, ys, _, _, e, rfl, h, atI_nat hjj, k j _ _ hjj hp' kp⟩
    · exact .inr (.inl ⟨a, ys, _, _, e, rfl, h, atI_nat hjj, k j _ _ hjj hp' kp⟩)
    · obtain ⟨b, hc, ec⟩ : ∃ b, z.cps.toList[j]? = some b ∧ V.str ⟨#[b]⟩ = (z.cps.toList.map fun c => V.str ⟨#[c]⟩)[j] := by
        rw [List.length_map] at hj
        refine ⟨z.cps.toList[j], List.getElem?_eq_getElem hj, by rw [List.getElem_map]⟩
      refine .inr (.inr ⟨z, _, b, e, rfl, hz, ?_, ?_⟩)
      · unfold atI
        unfold ixN
        rw [if_pos (by omega)]
        rw [List.length_map] at hj
        rw [if_pos (by omega)]
        exact hc
      · rw [ec]
        exact k j _ _ hjj hp' kp
theorem scShuf : FnScope ["pen", "some", "left", "found"] ["pen", "some"] (defScope sShuf) := ⟨rfl, rfl, rfl, by decide +kernel, rfl, by decide +kernel, by decide +kernel⟩
def spShuf (K : PySem.W.Frag) : Sp := fun vs H Q _ => ∃ (p c a : Addr) (xs : List V) (ds : List PyData) (n : Nat), vs = [.ref p, .ref a] ∧ (SqL K H a xs ∨ SqT K H a xs) ∧ DpAll K H xs ds ∧ (∀ d ∈ ds, Shp d) ∧ xs.length ≤ 1000 ∧ PenAt H p c n ∧ n + xs.length < 1000000 ∧
  ∀ (q : Addr) (ys : List V) (H' : Hp), ys.Perm xs → H q = none → H' q = some (.lst ys) → PenAt H' p c (n + xs.length) → Kp p H H' → Q (.ref q) H'
theorem ok_shuf {f f1 : Addr} {fd fd1 : FuncData} (F : Fun K "_law_shuffled" "_law_shuffled" sShuf f fd) (B : Blt mg) (D : Df P w K mg base CX0 "_law_draw" 1 f1 fd1 ["pen", "many"] spDraw) : FnOk P w K mg base CX0 2 f fd ["pen", "some"] (spShuf K) := by
  refine F.ok scShuf (fun vs H Q E h => ?_) (fun cdv A outer s H vs Q E hr h => ?_)
  · obtain ⟨p, c, a, xs, ds, n, rfl, _⟩ := h
    rfl
  · obtain ⟨p, c, a, xs, ds, n, rfl, hx, hd, hs, h0, hp, hn, k⟩ := h
    have nd := scShuf.nd
    refine ⟨_, pss_cons (ps_par (i := 2) (j := 3) rfl nd rfl rfl (by decide) rfl rfl (pa_cons (pe_callTy call_list_of (by rfl) B.list (by decide +kernel) (pa_cons (pv 1) pa_nil)) (pa_cons (pe_lst pa_nil) pa_nil)) (by rfl))
      (pss_cons (ps_while PassesOwn.never (pt_cmpR (op_neD hr.units) (pv 2) (pe_lst pa_nil) (nomark _))
        (pss_one (ps_expr (pe_bm PySem.F.plainAttrs_list PySem.F.slot_list_append PySem.F.type_list_append mt_append (pv 3) (pa_cons (pe_bm PySem.F.plainAttrs_list PySem.F.slot_list_pop PySem.F.type_list_pop mt_popAt (pv 2)
          (pa_cons (pe_call D.ok hr rfl D.g D.kp D.b .nil pass0 (pa_cons (pv 0) (pa_cons (pe_callB call_len_seq (by rfl) B.len PySem.boot_len (pa_cons (pv 2) pa_nil)) pa_nil))) pa_nil)) pa_nil)))))
      (pss_one (ps_ret (pv 3)))), ?_⟩
    obtain ⟨kvs, hk⟩ := hp.dk
    refine ⟨_, rfl, a, xs, rfl, hx, fun l hl => ?_⟩
    have ha1 : Same H (upd H l (.lst xs)) := same_new hl
    have e1 : (upd H l (.lst xs)) l = some (.lst xs) := upd_same
    generalize upd H l (.lst xs) = H1 at ha1 e1 ⊢
    refine ⟨Nat.zero_le _, fun g hg => ?_⟩
    have ha2 : Same H (upd H1 g (.lst [])) := ha1.trans (same_new hg)
    have e2 : (upd H1 g (.lst [])) l = some (.lst xs) := (upd_ne (ne_of_none e1 hg)).trans e1
    have e3 : (upd H1 g (.lst [])) g = some (.lst []) := upd_same
    have nlg : l ≠ g := ne_of_none e1 hg
    have hg0 : H g = none := ha1.free hg
    generalize upd H1 g (.lst []) = H2 at ha2 e2 e3 ⊢
    refine ⟨_, _, rfl, ?_⟩
    -- the loop
    refine ⟨fun m σ H' => ∃ (us ys : List V) (es : List PyData), m = us.length ∧ σ = [some (.ref p), some (.ref a), some (.ref l), some (.ref g)] ∧ H' l = some (.lst us) ∧ H' g = some (.lst ys) ∧ (ys ++ us).Perm xs ∧ DpAll K H us es ∧ (∀ d ∈ es, Shp d) ∧ PenAt H' p c (n + ys.length) ∧ Kp p H H',
      ⟨_, xs, [], ds, rfl, rfl, e2, e3, List.Perm.refl _, hd, hs, hp.keep ha2, Kp.same ha2⟩, ?_⟩
    rintro m σ H3 ⟨us, ys, es, rfl, rfl, f2, f3, pm, hdu, hsu, hp3, kp3⟩
    have len := pm.length_eq
    rw [List.length_append] at len
    refine ⟨_, rfl, Nat.zero_le _, fun t ht => ?_⟩
    have g2 : (upd H3 t (.lst [])) l = some (.lst us) := (upd_ne (ne_of_none f2 ht)).trans f2
    have g3 : (upd H3 t (.lst [])) g = some (.lst ys) := (upd_ne (ne_of_none f3 ht)).trans f3
    have gt : (upd H3 t (.lst [])) t = some (.lst []) := upd_same
    have hp4 := hp3.keep (same_new (o := .lst []) ht)
    have kp4 : Kp p H (upd H3 t (.lst [])) := kp3.trans (Kp.new ht)
    generalize upd H3 t (.lst []) = H4 at g2 g3 gt hp4 kp4 ⊢
    have hdu4 : DpAll K H4 us es := dpAll_sq (Sq.kp kp4 hk) _ _ hdu
    refine ⟨.list es, .list [], .lst (SqL.of g2) hdu4, .lst (SqL.of gt) .nil, shp_l hsu, shp_nil, _, rfl, ?_⟩
    rw [eqv_nils]
    have eil := dpAll_len hdu
    refine ite2 (fun e => ?_) (fun e => ?_)
    · have hne : 0 < us.length := by
        cases es with
        | nil => cases e
        | cons x r =>
          rw [eil]
          exact Nat.succ_pos _
      refine ⟨fun σ' H' => ∃ (us' ys' : List V) (es' : List PyData), us'.length < us.length ∧ σ' = [some (.ref p), some (.ref a), some (.ref l), some (.ref g)] ∧ H' l = some (.lst us') ∧ H' g = some (.lst ys') ∧ (ys' ++ us').Perm xs ∧ DpAll K H us' es' ∧ (∀ d ∈ es', Shp d) ∧ PenAt H' p c (n + ys'.length) ∧ Kp p H H',
        fun σ' H' ⟨us', ys', es', h1, h2, h3, h4, h5, h6, h7, h8, h9⟩ => ⟨_, h1, us', ys', es', rfl, h2, h3, h4, h5, h6, h7, h8, h9⟩, ?_⟩
      refine ⟨_, rfl, .inl ⟨rfl, _, SqL.of g3⟩, _, rfl, .inl ⟨rfl, _, SqL.of g2⟩, _, rfl, _, rfl, l, us, rfl, .inl (SqL.of g2), p, c, _, _, rfl, hp4, by omega, by omega, by omega, fun d H5 d0 d1 hp5 kp5 => ?_⟩
      obtain ⟨kvs4, hk4⟩ := hp4.dk
      have npl : l ≠ p := fun q => by
        rw [q, hk4] at g2
        cases g2
      have npg : g ≠ p := fun q => by
        rw [q, hk4] at g3
        cases g3
      have i2 : H5 l = some (.lst us) := kp5 _ _ npl g2
      have i3 : H5 g = some (.lst ys) := kp5 _ _ npg g3
      obtain ⟨j, rfl⟩ : ∃ j : Nat, d = j := ⟨d.toNat, by omega⟩
      have hj : j < us.length := by omega
      refine ⟨l, us, j, j, us[j], rfl, rfl, i2, by omega, by omega, ?_, List.getElem?_eq_getElem hj, ?_⟩
      · exact seqIx hj
      refine ⟨g, ys, us[j], rfl, rfl, (upd_ne nlg.symm).trans i3, ?_, ?_⟩
      · exact small1000 (by omega)
      refine ⟨us.eraseIdx j, ys ++ [us[j]], es.eraseIdx j, ?_, rfl, (upd_ne nlg).trans upd_same, upd_same, ?_, dpAll_erase j hdu, fun d hd => hsu d (List.eraseIdx_subset hd), ?_, ?_⟩
      · rw [List.length_eraseIdx, if_pos hj]
        omega
      · rw [List.append_assoc]
        exact (List.Perm.append_left ys (perm_erase hj)).trans pm
      · rw [List.length_append, List.length_singleton]
        exact hp.mut hg0 (hp.mut hl hp5)
      · exact (kp4.trans kp5).mut hl |>.mut hg0
    · have hne : us = [] := by
        cases es with
        | nil => exact List.length_eq_zero_iff.mp eil
        | cons x r => exact absurd rfl e
      subst hne
      rw [List.append_nil] at pm
      have q := hp4
      refine ⟨_, rfl, k g ys H4 pm hg0 g3 ?_ kp4⟩
      have : ys.length = xs.length := pm.length_eq
      rw [← this]
      exact hp4
end
end Ah
set_option Elab.async false
set_option linter.all false
set_option maxRecDepth 100000
set_option maxHeartbeats 2000000
namespace Ah
open PySem PySem.Spec PyProof.Rows L2
/-! ### hands -/
def IsHand (x : Str) : Prop := 1 ≤ x.length ∧ x.length ≤ 8 ∧ ∀ b ∈ x.cps.toList, 97 ≤ b ∧ b ≤ 122
instance (x : Str) : Decidable (IsHand x) := by unfold IsHand; infer_instance
theorem IsHand.ok {x : Str} (h : IsHand x) : PyData.strOk x = true := by
  unfold PyData.strOk
  rw [← Array.all_toList, List.all_eq_true]
  intro b hb
  have := h.2.2 b hb
  exact decide_eq_true (by omega)
def letters : Str := "abcdefghijklmnopqrstuvwxyz"
theorem letters_cs : letters.cps.toList = (List.range 26).map (· + 97) := by decide +kernel
def wordsT : Str := "let hands a ab abc abcd ann anna b ba lets hand z zz zzz le row rows an bar bars c ca"
def wordsL : List Str := ["let", "hands", "a", "ab", "abc", "abcd", "ann", "anna", "b", "ba", "lets", "hand", "z", "zz", "zzz", "le", "row", "rows", "an", "bar", "bars", "c", "ca"]
theorem words_split : Txt.split wordsT " " = wordsL := by decide +kernel
theorem words_nd : wordsL.Nodup := by decide +kernel
theorem words_hand : ∀ x ∈ wordsL, IsHand x := by decide +kernel
def bysL : List Int := [1, 3, 5, 7, 9, 11, 15, 17, 19, 21, 23, 25]
/-- the k-th hand -/
def handAt (B : List Nat) (at' first by' cut k : Nat) : Str := ⟨(B.take at' ++ [(first + by' * k) % 26 + 97] ++ (B.drop (at' + 1)).take (if cut = 0 then 8 else k % 3)).toArray⟩
theorem handAt_cs (B : List Nat) (a f b c k : Nat) : (handAt B a f b c k).cps.toList = B.take a ++ [(f + b * k) % 26 + 97] ++ (B.drop (a + 1)).take (if c = 0 then 8 else k % 3) := rfl
theorem handAt_is {B : List Nat} {a f b c k : Nat} (h1 : B.length ≤ 8) (h2 : ∀ x ∈ B, 97 ≤ x ∧ x ≤ 122) (ha : a < B.length) : IsHand (handAt B a f b c k) := by
  have hl : (handAt B a f b c k).length = (B.take a ++ [(f + b * k) % 26 + 97] ++ (B.drop (a + 1)).take (if c = 0 then 8 else k % 3)).length := by
    show ((B.take a ++ [(f + b * k) % 26 + 97] ++ (B.drop (a + 1)).take (if c = 0 then 8 else k % 3)).toArray).size = _
    rw [List.size_toArray]
  have hl2 : (handAt B a f b c k).length = a + 1 + min (if c = 0 then 8 else k % 3) (B.length - (a + 1)) := by
    rw [hl, List.length_append, List.length_append, List.length_take, List.length_take, List.length_drop, List.length_singleton]
    omega
  refine ⟨by omega, by omega, fun x hx => ?_⟩
  rw [handAt_cs] at hx
  rcases List.mem_append.mp hx with hx | hx
  · rcases List.mem_append.mp hx with hx | hx
    · exact h2 x (List.mem_of_mem_take hx)
    · rw [List.mem_singleton] at hx
      omega
  · exact h2 x (List.mem_of_mem_drop (List.mem_of_mem_take hx))
theorem handAt_inj {B : List Nat} {a f b c k k' : Nat} (ha : a < B.length) (hb : (b : Int) ∈ bysL) (h25 : b ≠ 25) (hk : k < 8) (hk' : k' < 8) (e : handAt B a f b c k = handAt B a f b c k') : k = k' := by
  have q := congrArg (fun x : Str => x.cps.toList[a]?) e
  have lt : (B.take a).length = a := by rw [List.length_take]; omega
  have g : ∀ k, (handAt B a f b c k).cps.toList[a]? = some ((f + b * k) % 26 + 97) := fun k => by
    rw [handAt_cs, List.append_assoc, List.getElem?_append_right (by omega), lt, Nat.sub_self]
    rfl
  have q : (handAt B a f b c k).cps.toList[a]? = (handAt B a f b c k').cps.toList[a]? := q
  rw [g, g] at q
  have q := Option.some.inj q
  have hb' : b = 1 ∨ b = 3 ∨ b = 5 ∨ b = 7 ∨ b = 9 ∨ b = 11 ∨ b = 15 ∨ b = 17 ∨ b = 19 ∨ b = 21 ∨ b = 23 := by
    simp only [bysL, List.mem_cons, List.not_mem_nil, or_false] at hb
    omega
  rcases hb' with h | h | h | h | h | h | h | h | h | h | h <;> subst h <;> omega
theorem handsAt_nd {g : Nat → Str} {m : Nat} (hm : m ≤ 8) (inj : ∀ k k', k < 8 → k' < 8 → g k = g k' → k = k') : ((List.range m).map g).Nodup := by
  unfold List.Nodup
  rw [List.pairwise_map]
  refine List.Pairwise.imp_of_mem (fun {k k'} hk hk' hne e => ?_) (List.nodup_range (n := m))
  rw [List.mem_range] at hk hk'
  exact hne (inj k k' (by omega) (by omega) e)
theorem nd_inj {α : Type} {l : List α} (h : l.Nodup) {i j : Nat} (hi : i < l.length) (hj : j < l.length) (e : l[i] = l[j]) : i = j := by
  rcases Nat.lt_trichotomy i j with c | c | c
  · exact absurd e (List.pairwise_iff_getElem.mp h i j hi hj c)
  · exact c
  · exact absurd e.symm (List.pairwise_iff_getElem.mp h j i hj hi c)
theorem cutS_cs (l : List Nat) (lo hi : Option Int) : cutS ⟨l.toArray⟩ lo hi = ⟨((l.drop (HT.sIx l.length 0 lo)).take (HT.sIx l.length l.length hi - HT.sIx l.length 0 lo)).toArray⟩ := by
  have e : (⟨l.toArray⟩ : Str).length = l.length := by
    show l.toArray.size = _
    rw [List.size_toArray]
  unfold cutS
  rw [e]
theorem str_app (a b : List Nat) : (⟨a.toArray⟩ : Str) ++ ⟨b.toArray⟩ = ⟨(a ++ b).toArray⟩ := SX.S_cat a b
theorem str_len (a : List Nat) : (⟨a.toArray⟩ : Str).length = a.length := SX.S_len a
theorem joinL_ones : ∀ bs : List Nat, TL.joinL [] (bs.map fun b => [b]) = bs
  | [] => rfl
  | [b] => rfl
  | b :: d :: r => by
    show [b] ++ ([] ++ TL.joinL [] ((d :: r).map fun b => [b])) = b :: d :: r
    rw [joinL_ones (d :: r)]
    rfl
theorem join_nil (bs : List Nat) : Txt.join ("" : Str) (bs.map fun b => (⟨#[b]⟩ : Str)) = ⟨bs.toArray⟩ := by
  have e := SX.join_S [] (bs.map fun b => [b])
  rw [joinL_ones, List.map_map] at e
  exact e
end Ah
set_option Elab.async false
set_option linter.all false
set_option maxRecDepth 100000
set_option maxHeartbeats 4000000
namespace Ah
open PySem PySem.Spec PyProof.Rows L2
abbrev sHands : Stmt := topS 29
section
variable {P : Program} {w : World} {K : PySem.W.Frag} {mg : Str → Option Value} {base : Heap}
theorem scHands : FnScope ["pen", "many", "letters", "k", "base", "at", "first", "cut", "by", "found", "some", "tail"] ["pen", "many"] (defScope sHands) := ⟨rfl, rfl, rfl, by decide +kernel, rfl, by decide +kernel, by decide +kernel⟩
def spHands (K : PySem.W.Frag) : Sp := fun vs H Q _ => ∃ (p c : Addr) (m n : Nat), vs = [.ref p, .int (m : Int)] ∧ 1 ≤ m ∧ m ≤ 8 ∧ PenAt H p c n ∧ n + 20 < 1000000 ∧
  ∀ (q : Addr) (hs : List Str) (H' : Hp), hs.length = m → hs.Nodup → (∀ h ∈ hs, IsHand h) → H q = none → H' q = some (.lst (hs.map V.str)) → PenAt H' p c (n + 20) → Kp p H H' → Q (.ref q) H'
theorem ok_hands {f f1 f2 : Addr} {fd fd1 fd2 : FuncData} (F : Fun K "_law_hands" "_law_hands" sHands f fd) (B : Blt mg) (Br : mg "range" = none) (D : Df P w K mg base CX0 "_law_draw" 1 f1 fd1 ["pen", "many"] spDraw) (D2 : Df P w K mg base CX0 "_law_pick" 2 f2 fd2 ["pen", "some"] (spPick K)) : FnOk P w K mg base CX0 3 f fd ["pen", "many"] (spHands K) := by
  refine F.ok scHands (fun vs H Q E h => ?_) (fun cdv A outer s H vs Q E hr h => ?_)
  · obtain ⟨p, c, m, n, rfl, _⟩ := h
    rfl
  · obtain ⟨p, c, m, n, rfl, m1, m8, hp, hn, k⟩ := h
    have nd := scHands.nd
    have hr1 : Room 1 _ := hr.mono (by decide)
    refine ⟨_, pss_cons (ps_set (i := 2) nd rfl (.inr rfl) pe_str)
      (C8.pss_cut (ps_set (i := 4) nd rfl (.inl rfl) (pe_join pe_str (pe_lc (own := [("k", 3)]) (g := gName 3) (tt := tYes) rfl nd (pi_range1 rfl Br (pa_cons (pe_op op_add pe_int (pe_call D.ok hr1 rfl D.g D.kp D.b .nil pass0 (pa_cons (pv 0) (pa_cons pe_int pa_nil)))) pa_nil))
          (blkOk_by (N := ["pen", "many", "letters", "k", "base", "at", "first", "cut", "by", "found", "some", "tail"]) (sc := defScope sHands) (by decide +kernel)) (fun _ _ _ _ _ => pg_name (i := 3) nd rfl (Or.inl rfl)) (fun _ _ _ _ _ => pts_nil)
          (fun _ _ _ _ _ => pe_call D2.ok hr rfl D2.g D2.kp D2.b .nil pass0 (pa_cons (pv 0) (pa_cons (pv 2) pa_nil))))))
      (pss_cons (ps_asg (pe_tup (pa_cons (pe_call D.ok hr1 rfl D.g D.kp D.b .nil pass0 (pa_cons (pv 0) (pa_cons (pe_callB call_len_str (by rfl) B.len PySem.boot_len (pa_cons (pv 4) pa_nil)) pa_nil)))
            (pa_cons (pe_call D.ok hr1 rfl D.g D.kp D.b .nil pass0 (pa_cons (pv 0) (pa_cons pe_int pa_nil))) (pa_cons (pe_call D.ok hr1 rfl D.g D.kp D.b .nil pass0 (pa_cons (pv 0) (pa_cons pe_int pa_nil))) pa_nil))))
          (pg_tup rfl (pgs_cons (pg_name (i := 5) nd rfl (.inl rfl)) (pgs_cons (pg_name (i := 6) nd rfl (.inr rfl)) (pgs_cons (pg_name (i := 7) nd rfl (.inl rfl)) pgs_nil)))))
      (pss_cons (ps_par (i := 8) (j := 9) rfl nd rfl rfl (by decide) rfl rfl (pa_cons (pe_call D2.ok hr rfl D2.g D2.kp D2.b .nil pass0 (pa_cons (pv 0) (pa_cons (pe_lst (pa_cons pe_int (pa_cons pe_int (pa_cons pe_int (pa_cons pe_int (pa_cons pe_int (pa_cons pe_int (pa_cons pe_int (pa_cons pe_int (pa_cons pe_int (pa_cons pe_int (pa_cons pe_int (pa_cons pe_int pa_nil))))))))))))) pa_nil)))
          (pa_cons (pe_lst pa_nil) pa_nil)) (by rfl))
      (pss_cons (ps_if (pt_cmpR op_eq (pv 8) pe_int (nomark _))
        (pss_cons (ps_set (i := 10) nd rfl (.inr rfl) pe_str)
        (pss_one (ps_ret (pe_lc (own := [("k", 3)]) (g := gName 3) (tt := tYes) rfl nd (pi_range1 rfl Br (pa_cons (pv 1) pa_nil))
          (blkOk_by (N := ["pen", "many", "letters", "k", "base", "at", "first", "cut", "by", "found", "some", "tail"]) (sc := defScope sHands) (by decide +kernel)) (fun _ _ _ _ _ => pg_name (i := 3) nd rfl (Or.inl rfl)) (fun _ _ _ _ _ => pts_nil)
          (fun _ _ _ _ _ => pe_ix (r := rIxL K) ix_list (pe_split (pv 10) pe_str) (pe_op op_mod (pe_op op_add (pv 6) (pe_op op_mul pe_int (pv 3))) pe_int) (fun _ _ => rfl)))))) pss_nil)
      (pss_cons (ps_for PassesOwn.never rfl (pi_range1 rfl Br (pa_cons (pv 1) pa_nil)) (pg_name (i := 3) nd rfl (.inl rfl))
        (pss_cons (ps_set (i := 11) nd rfl (.inl rfl) (pe_slice sl_str (pe_slice sl_str (pv 4) (po_some (pe_op op_add (pv 5) pe_int)) po_none) po_none (po_some (pe_ix ix_list (pe_lst (pa_cons pe_int (pa_cons (pe_op op_mod (pv 3) pe_int) pa_nil))) (pv 7) (fun _ _ => rfl)))))
        (pss_one (ps_expr (pe_bm PySem.F.plainAttrs_list PySem.F.slot_list_append PySem.F.type_list_append mt_append (pv 9) (pa_cons (pe_op op_add_str (pe_op op_add_str (pe_slice sl_str (pv 4) po_none (po_some (pv 5))) (pe_ix ix_str (pv 2) (pe_op op_mod (pe_op op_add (pv 6) (pe_op op_mul (pv 8) (pv 3))) pe_int) (fun _ _ => rfl))) (pv 11)) pa_nil))))))
      (pss_one (ps_ret (pv 9)))))))), ?_⟩
    -- base
    obtain ⟨kvs, hk⟩ := hp.dk
    refine ⟨fun σ' H' => ∃ bs : List Nat, 1 ≤ bs.length ∧ bs.length ≤ 8 ∧ (∀ b ∈ bs, 97 ≤ b ∧ b ≤ 122) ∧ σ' = [some (.ref p), some (.int m), some (.str letters), none, some (.str ⟨bs.toArray⟩), none, none, none, none, none, none, none] ∧ PenAt H' p c (n + 9) ∧ Kp p H H', ?_, ?_⟩
    · refine ⟨⟨_, rfl⟩, _, rfl, p, c, 8, n, rfl, hp, by omega, by decide, by decide, fun d H1 d0 d1 hp1 kp1 => ?_⟩
      obtain ⟨j, rfl⟩ : ∃ j : Nat, d = j := ⟨d.toNat, by omega⟩
      refine ⟨_, _, rfl, rfl, _, rfl, by omega, by omega, fun D0 hD => ?_⟩
      have hj : (1 + (j : Int)).toNat = j + 1 := by omega
      rw [hj]
      have hl1 := hp1
      refine lc_range (lo := 0) (n := j + 1) (fun i H2 => ∃ bs : List Nat, bs.length = i ∧ (∀ b ∈ bs, 97 ≤ b ∧ b ≤ 122) ∧ H2 D0 = some (.lst ((bs.map fun b => (⟨#[b]⟩ : Str)).map V.str)) ∧ PenAt H2 p c (n + 1 + i) ∧ Kp p H H2)
        ⟨[], rfl, by simp, upd_same, hp1.keep (same_new hD), kp1.trans (Kp.new hD)⟩ ?_ ?_
      · rintro i H2 hi ⟨bs, rfl, hb, h2, hp2, kp2⟩
        refine ⟨rfl, _, rfl, _, rfl, p, c, .str letters, _, n + 1 + bs.length, rfl, .inr (.inr ⟨letters, rfl, by decide +kernel, rfl⟩), hp2, by omega, ?_, ?_, ?_⟩
        · decide +kernel
        · decide +kernel
        rintro i y H3 hy hp3 kp3
        obtain ⟨b, hb1, rfl⟩ : ∃ b, (97 ≤ b ∧ b ≤ 122) ∧ y = V.str ⟨#[b]⟩ := by
          rw [letters_cs, List.getElem?_map] at hy
          obtain ⟨z, hz, rfl⟩ := Option.map_eq_some_iff.mp hy
          have := List.mem_of_getElem? hz
          rw [List.mem_map] at this
          obtain ⟨u, hu, rfl⟩ := this
          rw [List.mem_range] at hu
          exact ⟨_, by omega, rfl⟩
        obtain ⟨kvs2, hk2⟩ := hp2.dk
        have nD : D0 ≠ p := fun q => by
          rw [q, hk2] at h2
          cases h2
        refine ⟨_, kp3 _ _ nD h2, ?_, bs ++ [b], by simp, ?_, ?_, ?_, ?_⟩
        · rw [List.length_map, List.length_map]
          exact small1000 (by omega)
        · intro x hx
          rcases List.mem_append.mp hx with hx | hx
          · exact hb x hx
          · rw [List.mem_singleton.mp hx]
            exact hb1
        · rw [upd_same, List.map_append, List.map_append]
          rfl
        · exact hp1.mut hD hp3
        · exact (kp2.trans kp3).mut (kp1.free hp1 hD)
      · rintro H2 ⟨bs, hl, hb, h2, hp2, kp2⟩
        refine ⟨_, D0, bs.map fun b => (⟨#[b]⟩ : Str), rfl, rfl, .inl (SqL.of h2), ?_, bs, by omega, by omega, hb, ?_, hp2.mono (by omega), kp2⟩
        · have e1 : ∀ l : List Nat, ((l.map fun b => (⟨#[b]⟩ : Str)).map (·.length)).sum = l.length := fun l => by
            induction l with
            | nil => rfl
            | cons x r ih =>
              rw [List.map_cons, List.map_cons, List.sum_cons, ih, List.length_cons]
              show 1 + r.length = r.length + 1
              omega
          rw [e1, List.length_map]
          have e2 : ("" : Str).length = 0 := by decide +kernel
          rw [e2]
          omega
        · rw [join_nil]
          rfl
    rintro σ' H1 ⟨bs, b1, b8, hb, rfl, hp1, kp1⟩
    -- at, first, cut
    have lb : (⟨bs.toArray⟩ : Str).length = bs.length := by
      show bs.toArray.size = _
      rw [List.size_toArray]
    refine ⟨_, rfl, _, rfl, _, rfl, by rw [lb]; exact Nat.le_trans b8 (by decide), p, c, _, _, rfl, hp1, by omega, by rw [lb]; omega, by rw [lb]; omega, fun at' H2 a0 a1 hp2 kp2 => ?_⟩
    refine ⟨_, rfl, p, c, _, _, rfl, hp2, by omega, by decide, by decide, fun first H3 f0 f1 hp3 kp3 => ?_⟩
    refine ⟨_, rfl, p, c, _, _, rfl, hp3, by omega, by decide, by decide, fun cut H4 c0 c1 hp4 kp4 => ?_⟩
    refine ⟨(by show 3 ≤ sizeLine; decide), fun t ht => ?_⟩
    refine ⟨t, _, rfl, .inl (.inl upd_same), rfl, _, _, rfl, _, _, rfl, _, _, rfl, rfl, ?_⟩
    have kp5 : Kp p H (upd H4 t (.tup [.int at', .int first, .int cut])) := ((kp1.trans kp2).trans (kp3.trans kp4)).trans (Kp.new ht)
    have hp5 := hp4.keep (same_new (o := .tup [.int at', .int first, .int cut]) ht)
    generalize upd H4 t (.tup [.int at', .int first, .int cut]) = H5 at kp5 hp5 ⊢
    rw [lb] at a1
    obtain ⟨a, rfl⟩ : ∃ j : Nat, at' = j := ⟨at'.toNat, by omega⟩
    obtain ⟨fi, rfl⟩ : ∃ j : Nat, first = j := ⟨first.toNat, by omega⟩
    obtain ⟨cu, rfl⟩ : ∃ j : Nat, cut = j := ⟨cut.toNat, by omega⟩
    -- by, found
    refine ⟨_, rfl, (by show 12 ≤ sizeLine; decide), fun t2 ht2 => ?_⟩
    have hp6 := hp5.keep (same_new (o := .lst (bysL.map V.int)) ht2)
    have kp6 := kp5.trans (Kp.new (o := .lst (bysL.map V.int)) ht2)
    refine ⟨p, c, .ref t2, bysL.map V.int, _, rfl, .inl ⟨t2, rfl, SqL.of upd_same⟩, hp6, by omega, (by decide), (by decide), fun i y H7 hy hp7 kp7 => ?_⟩
    obtain ⟨b, hb25, rfl⟩ : ∃ b : Nat, (b : Int) ∈ bysL ∧ y = V.int b := by
      rw [List.getElem?_map] at hy
      obtain ⟨z, hz, rfl⟩ := Option.map_eq_some_iff.mp hy
      have hm := List.mem_of_getElem? hz
      have z0 : 0 ≤ z := by
        have : ∀ z ∈ bysL, (0 : Int) ≤ z := by decide
        exact this z hm
      exact ⟨z.toNat, by rw [Int.toNat_of_nonneg z0]; exact hm, by rw [Int.toNat_of_nonneg z0]⟩
    have b26 : b < 26 := by
      have : ∀ z ∈ bysL, z < (26 : Int) := by decide
      have := this _ hb25
      omega
    refine ⟨Nat.zero_le _, fun g hg => ?_⟩
    have hp8 := hp7.keep (same_new (o := .lst []) hg)
    have kp8 := (kp6.trans kp7).trans (Kp.new (o := .lst []) hg)
    have g0 : H g = none := (kp6.trans kp7).free hp7 hg
    have e8 : (upd H7 g (.lst [])) g = some (.lst []) := upd_same
    generalize upd H7 g (.lst []) = H8 at hp8 kp8 e8 ⊢
    refine ⟨_, _, rfl, ?_⟩
    -- if by == 25
    refine ⟨_, rfl, rfl, _, rfl, ?_⟩
    refine ite2 (fun e => ?_) (fun e => ?_)
    · -- the words
      refine ⟨_, rfl, _, rfl, by omega, by omega, fun D0 hD => ?_⟩
      rw [Int.toNat_natCast]
      have hD0 : H D0 = none := kp8.free hp8 hD
      refine lc_range (lo := 0) (n := m) (fun i H2 => H2 D0 = some (.lst (((List.range i).map fun k => wordsL.getD ((fi + 5 * k) % 23) "").map V.str)) ∧ PenAt H2 p c (n + 20) ∧ Kp p H H2)
        ⟨upd_same, (hp8.keep (same_new hD)).mono (by omega), kp8.trans (Kp.new hD)⟩ ?_ ?_
      · rintro i H2 hi ⟨h2, hp2, kp2⟩
        refine ⟨rfl, _, rfl, ⟨_, rfl⟩, _, _, rfl, rfl, rfl, by decide +kernel, fun t hT => ?_⟩
        have hx : ((fi : Int) + 5 * (0 + (i : Int))) % 23 = (((fi + 5 * i) % 23 : Nat) : Int) := by omega
        have hl : (fi + 5 * i) % 23 < wordsL.length := Nat.mod_lt _ (by decide)
        refine ⟨_, rfl, _, rfl, _, _, rfl, rfl, .inl (by decide), _, _, rfl, rfl, _, _, rfl, rfl, (by show (0 : Int) < 23; decide), t, wordsL.map V.str, _, .str (wordsL.getD ((fi + 5 * i) % 23) ""), rfl, rfl, ?_, ?_, ?_⟩
        · rw [← words_split]
          exact SqL.of upd_same
        · rw [hx]
          refine atI_nat ?_
          rw [List.getElem?_map, List.getElem?_eq_getElem hl, List.getD_eq_getElem?_getD, List.getElem?_eq_getElem hl]
          rfl
        · refine ⟨_, (upd_ne (ne_of_none h2 hT)).trans h2, ?_, ?_, ?_, ?_⟩
          · rw [List.length_map, List.length_map, List.length_range]
            exact small1000 (by omega)
          · rw [upd_same, List.range_succ, List.map_append, List.map_append]
            rfl
          · exact hp.mut hD0 (hp2.keep (same_new hT))
          · exact (kp2.trans (Kp.new hT)).mut hD0
      · rintro H2 ⟨h2, hp2, kp2⟩
        refine k D0 _ H2 (by rw [List.length_map, List.length_range]) (handsAt_nd m8 fun k k' hk hk' e => ?_) (fun h hh => ?_) hD0 h2 hp2 kp2
        · have hl : (fi + 5 * k) % 23 < wordsL.length := Nat.mod_lt _ (by decide)
          have hl' : (fi + 5 * k') % 23 < wordsL.length := Nat.mod_lt _ (by decide)
          rw [List.getD_eq_getElem?_getD, List.getD_eq_getElem?_getD, List.getElem?_eq_getElem hl, List.getElem?_eq_getElem hl'] at e
          have e' : wordsL[(fi + 5 * k) % 23] = wordsL[(fi + 5 * k') % 23] := e
          have := nd_inj words_nd hl hl' e'
          omega
        · rw [List.mem_map] at hh
          obtain ⟨k, _, rfl⟩ := hh
          have hl : (fi + 5 * k) % 23 < wordsL.length := Nat.mod_lt _ (by decide)
          refine words_hand _ ?_
          rw [List.getD_eq_getElem?_getD, List.getElem?_eq_getElem hl]
          exact List.getElem_mem hl
    · -- the letters
      have h25 : b ≠ 25 := fun q => e (by subst q; rfl)
      refine ⟨_, rfl, _, rfl, by omega, by omega, ?_⟩
      rw [Int.toNat_natCast]
      refine for_range (lo := 0) (n := m) (fun i σ H2 => ∃ v3 v11 : Option V, σ = [some (.ref p), some (.int m), some (.str letters), v3, some (.str ⟨bs.toArray⟩), some (.int a), some (.int fi), some (.int cu), some (.int b), some (.ref g), none, v11] ∧ H2 g = some (.lst (((List.range i).map fun k => handAt bs a fi b cu k).map V.str)) ∧ PenAt H2 p c (n + 20) ∧ Kp p H H2)
        ⟨none, none, rfl, e8, hp8.mono (by omega), kp8⟩ ?_ ?_
      · rintro i σ H2 hi ⟨v3, v11, rfl, h2, hp2, kp2⟩
        have lb8 : (⟨bs.toArray⟩ : Str).length ≤ sizeLine := by rw [str_len]; exact Nat.le_trans b8 (by decide)
        refine ⟨_, rfl, _, rfl, _, _, rfl, rfl, _, rfl, _, rfl, lb8, ?_⟩
        rw [cutS_cs]
        have s1 : HT.sIx bs.length 0 (some ((a : Int) + 1)) = a + 1 := by
          rw [show ((a : Int) + 1) = ((a + 1 : Nat) : Int) from rfl, HT.sIx_nat]
          omega
        dsimp only
        rw [s1, HT.sIx_none, show (List.drop (a + 1) bs).take (bs.length - (a + 1)) = List.drop (a + 1) bs from List.take_of_length_le (by rw [List.length_drop]; omega)]
        refine ⟨_, rfl, _, _, rfl, rfl, (by show (0 : Int) < 3; decide), (by show 2 ≤ sizeLine; decide), fun t hT => ?_⟩
        refine ⟨_, rfl, t, _, _, .int (if cu = 0 then 8 else ((i % 3 : Nat) : Int)), rfl, rfl, SqL.of upd_same, ?_, _, rfl, _, rfl, ?_, ?_⟩
        · by_cases hc : cu = 0
          · subst hc
            exact atI_nat (j := 0) rfl
          · have : cu = 1 := by omega
            subst this
            rw [if_neg (by decide)]
            refine atI_nat (j := 1) ?_
            show some (V.int ((0 + (i : Int)) % 3)) = some (V.int ((i % 3 : Nat) : Int))
            rw [Int.zero_add]
            rfl
        · rw [str_len, List.length_drop]
          exact Nat.le_trans (by omega : bs.length - (a + 1) ≤ 8) (by decide)
        rw [cutS_cs]
        have h2t : (upd H2 t (.lst [.int 8, .int ((0 + (i : Int)) % 3)])) g = some (.lst (((List.range i).map fun k => handAt bs a fi b cu k).map V.str)) := (upd_ne (ne_of_none h2 hT)).trans h2
        have hp2t := hp2.keep (same_new (o := .lst [.int 8, .int ((0 + (i : Int)) % 3)]) hT)
        have kp2t := kp2.trans (Kp.new (o := .lst [.int 8, .int ((0 + (i : Int)) % 3)]) hT)
        show tDrop _ _ _ (upd H2 t (.lst [.int 8, .int ((0 + (i : Int)) % 3)]))
        generalize upd H2 t (.lst [.int 8, .int ((0 + (i : Int)) % 3)]) = H3 at h2t hp2t kp2t ⊢
        have s2 : ∀ l : List Nat, HT.sIx l.length l.length (some (if cu = 0 then 8 else ((i % 3 : Nat) : Int))) = min (if cu = 0 then 8 else i % 3) l.length := fun l => by
          by_cases hc : cu = 0
          · rw [if_pos hc, if_pos hc]
            exact HT.sIx_nat _ _ 8
          · rw [if_neg hc, if_neg hc]
            exact HT.sIx_nat _ _ _
        rw [s2, HT.sIx_none, List.drop_zero, Nat.sub_zero]
        have s3 : (List.drop (a + 1) bs).take (min (if cu = 0 then 8 else i % 3) (List.drop (a + 1) bs).length) = (List.drop (a + 1) bs).take (if cu = 0 then 8 else i % 3) := by
          rw [List.take_eq_take_iff]
          omega
        rw [s3]
        -- found.append(base[:at] + letters[..] + tail)
        refine ⟨_, rfl, .inl ⟨rfl, _, SqL.of h2t⟩, _, rfl, _, rfl, _, rfl, _, rfl, lb8, ?_⟩
        rw [cutS_cs]
        rw [HT.sIx_none, HT.sIx_nat, show min a bs.length = a by omega, List.drop_zero, Nat.sub_zero]
        have hx : ((fi : Int) + (b : Int) * (0 + (i : Int))) % 26 = (((fi + b * i) % 26 : Nat) : Int) := by
          rw [Int.zero_add]
          rfl
        have hl : (fi + b * i) % 26 < 26 := Nat.mod_lt _ (by decide)
        refine ⟨_, rfl, _, rfl, _, rfl, _, rfl, _, _, rfl, rfl, .inl (by omega), _, _, rfl, rfl, _, _, rfl, rfl, (by show (0 : Int) < 26; decide), letters, _, (fi + b * i) % 26 + 97, rfl, rfl, by decide +kernel, ?_, ?_⟩
        · rw [hx]
          refine atI_nat ?_
          rw [letters_cs, List.getElem?_map, List.getElem?_range hl]
          rfl
        have l1 : (List.take a bs).length ≤ 8 := by rw [List.length_take]; omega
        have l2 : (List.take (if cu = 0 then 8 else i % 3) (List.drop (a + 1) bs)).length ≤ 8 := by rw [List.length_take, List.length_drop]; omega
        refine ⟨_, _, rfl, rfl, ?_, ?_⟩
        · rw [str_len]
          exact Nat.le_trans (Nat.add_le_add l1 (Nat.le_refl 1)) (by decide)
        refine ⟨_, rfl, _, _, rfl, rfl, ?_, ?_⟩
        · rw [str_app, str_len, str_len, List.length_append]
          exact Nat.le_trans (Nat.add_le_add (Nat.add_le_add l1 (Nat.le_refl 1)) l2) (by decide)
        rw [str_app, str_app]
        refine ⟨g, _, _, rfl, rfl, h2t, ?_, ?_⟩
        · rw [List.length_map, List.length_map, List.length_range]
          exact small1000 (by omega)
        refine ⟨_, _, rfl, ?_, hp.mut g0 hp2t, kp2t.mut g0⟩
        rw [upd_same, List.range_succ, List.map_append, List.map_append]
        rfl
      · rintro σ H2 ⟨v3, v11, rfl, h2, hp2, kp2⟩
        refine ⟨_, rfl, k g _ H2 (by rw [List.length_map, List.length_range]) (handsAt_nd m8 fun k k' hk hk' e => handAt_inj (by omega) hb25 h25 hk hk' e) (fun h hh => ?_) g0 h2 hp2 kp2⟩
        rw [List.mem_map] at hh
        obtain ⟨k, _, rfl⟩ := hh
        exact handAt_is b8 hb (by omega)
end
end Ah
set_option Elab.async false
set_option linter.all false
set_option maxRecDepth 100000
set_option maxHeartbeats 2000000
/-! sorted(xs), xs a list of data that can be compared -/
namespace Ah
open PySem PySem.Spec PyProof.Rows L2
open PySem.W (EachIs AllAlike Sortable dataLe)
def sortD (ds : List PyData) : List PyData := ds.mergeSort (dataLe false (fun d => d))
def rSortedD (K : PySem.W.Frag) : List V → Hp → VK → Prop := fun vs H Q => ∃ (a : Addr) (xs : List V) (ds : List PyData), vs = [V.ref a] ∧ SqL K H a xs ∧ DpAll K H xs ds ∧ AllAlike ds ∧ Sortable ds ∧ (∀ d ∈ ds, d.depth ≤ 60) ∧
  ∀ (ys : List V) (p : Addr), ys.Perm xs → DpAll K H ys (sortD ds) → H p = none → Q (.ref p) (upd H p (.lst ys))
theorem each_of {K : PySem.W.Frag} {H : Hp} : ∀ {xs : List V} {its : List Value} {ds : List PyData}, Vals xs its → DpAll K H xs ds → EachIs (fun (v : Value) (b : V × PyData) => RelV b.1 v ∧ Dp K H b.1 b.2) its (xs.zip ds)
  | _, _, _, .nil, .nil => .nil
  | _, _, _, .cons r t, .cons h t' => .cons ⟨r, h⟩ (each_of t t')
theorem each_vals {K : PySem.W.Frag} {H : Hp} : ∀ {its : List Value} {zs : List (V × PyData)}, EachIs (fun (v : Value) (b : V × PyData) => RelV b.1 v ∧ Dp K H b.1 b.2) its zs → Vals (zs.map (·.1)) its ∧ DpAll K H (zs.map (·.1)) (zs.map (·.2))
  | _, _, .nil => ⟨.nil, .nil⟩
  | _, _, .cons ⟨r, h⟩ t => ⟨.cons r (each_vals t).1, .cons h (each_vals t).2⟩
theorem dpAll_zip2 {K : PySem.W.Frag} {H : Hp} : ∀ {xs : List V} {ds : List PyData}, DpAll K H xs ds → (xs.zip ds).map (·.2) = ds ∧ (xs.zip ds).map (·.1) = xs ∧ (xs.zip ds).length = ds.length
  | _, _, .nil => ⟨rfl, rfl, rfl⟩
  | _, _, .cons _ t => by
    obtain ⟨h1, h2, h3⟩ := dpAll_zip2 t
    exact ⟨by rw [List.zip_cons_cons, List.map_cons, h1], by rw [List.zip_cons_cons, List.map_cons, h2], by rw [List.zip_cons_cons, List.length_cons, List.length_cons, h3]⟩
section
variable {X : Cx}
theorem cr_sortedD (hu : X.A.units + 64 < cLine) : CallR X (.builtin "sorted") (rSortedD X.K) := by
  intro pins s σ H vs us Q I r h
  obtain ⟨a, xs, ds, rfl, hs, hd, hal, hk, hdep, q⟩ := h
  obtain ⟨its, rv, hl, hz⟩ := I.list hs
  rw [Vals.ref1 r]
  obtain ⟨z1, z2, z3⟩ := dpAll_zip2 hd
  have e := each_of rv hd
  have er : EachIs (fun (v : Value) (b : V × PyData) => ∃ as, Reads s.heap v b.2 as) its (xs.zip ds) := e.mono fun v b ⟨r1, r2⟩ => Dp.reads I b.2 b.1 v r2 r1
  have hlen : ds.length = xs.length := by
    have := congrArg List.length z2
    rw [List.length_map, z3] at this
    exact this
  refine PySem.W.sorted_data (enc := fun b : V × PyData => b.2) hl.isList e er (by rw [z1]; exact hal) (by rw [z1]; exact hk) (by rw [z3, hlen]; exact hz) (fun b hb => ?_) fun out ho eo => ?_
  · have hm : b.2 ∈ ds := by
      rw [← z1]
      exact List.mem_map.mpr ⟨b, hb, rfl⟩
    have := hdep _ hm
    omega
  · obtain ⟨ep, he'⟩ := PyProof.Rows.sortedAll_at s.heap its out.toArray
    obtain ⟨v1, v2⟩ := each_vals eo
    have pm : ((xs.zip ds).mergeSort (dataLe false fun b : V × PyData => b.2)).Perm (xs.zip ds) := List.mergeSort_perm _ _
    have p1 : (((xs.zip ds).mergeSort (dataLe false fun b : V × PyData => b.2)).map (·.1)).Perm xs := by
      have := pm.map (·.1)
      rw [z2] at this
      exact this
    have p2 : ((xs.zip ds).mergeSort (dataLe false fun b : V × PyData => b.2)).map (·.2) = sortD ds := by
      have := PySem.W.sort_maps (r := dataLe false fun b : V × PyData => b.2) (s := dataLe false fun d : PyData => d) (fun b : V × PyData => b.2) (l := xs.zip ds) (fun a _ b _ => rfl)
      rw [z1] at this
      exact this
    rw [p2] at v2
    refine ⟨.ref _, upd H (s.heap.objs.size + 1) (.lst _), I.laid (t' := s.toks) (fun _ _ => PyProof.Rows.sortedAll_old) (Nat.le_succ _) ⟨?_, out, ep, v1, he'⟩, rfl, q _ _ p1 v2 (I.hok.fresh (Nat.le_succ _))⟩
    rw [p1.length_eq]
    exact hz
end
end Ah
set_option Elab.async false
set_option linter.all false
set_option maxRecDepth 100000
set_option maxHeartbeats 4000000
/-! enumerate(t), t a tuple, walked by a for or a comprehension -/
namespace Ah
open PySem PySem.Spec PyProof.Rows L2
open AutoSeq1 (wpAny_loadPart')
abbrev tupIt (t : Addr) : Obj := { cls := .type "tuple_iterator", data := .fields #[.ref t, .int 0 0] }
abbrev enumO (it : Addr) : Obj := { cls := .type "enumerate", data := .fields #[.none, .bool false, .ref it, rawInt 0, .none, .none] }
theorem enum_new_tuple (t : Addr) (items : Array Value) (n : Nat) (di : Option Addr) (sl : Array (Option Value)) :
    Meets (Builtin.«enumerate.__new__» ⟨[.type "enumerate", .ref t], []⟩) (fun _ R s => s.heap.get? t = some { cls := .type "tuple", dict := di, data := .seq items n, slots := sl } ∧
      R (.ok (.ret (.ref (s.heap.push (tupIt t)).objs.size))) { s with heap := (s.heap.push (tupIt t)).push (enumO s.heap.objs.size) }) :=
  .of_wp fun prog w A R s h => by
    obtain ⟨hp, g, d, tk, os⟩ := s
    obtain ⟨there, h⟩ := h
    have sube := sub_enumerate
    have isT : Heap.IsTuple (Shared.heap ⟨hp, g, d, tk, os⟩) t items := ⟨_, there, rfl, n, rfl⟩
    wp_walk using wpAny_loadPart' there
    refine wpAny_stack_any fun st => wpAny_pure ?_
    split
    · rename_i c _ _ _ _ _
      cases (c == Value.type "enumerate") <;> (wp_walk using wpAny_loadPart' there, wpAny_pyIter_tuple isT; exact ⟨_, rfl, h⟩)
    · wp_walk using wpAny_loadPart' there, wpAny_pyIter_tuple isT
      exact ⟨_, rfl, h⟩
section
variable {prog : Program} {w : World} {A : Around} {E : Value → Shared → Prop} {s : Shared}
theorem call_enum_tuple {t : Addr} {items : Array Value} {Q : Value → Shared → Prop} (isT : s.heap.IsTuple t items)
    (h : ∀ h', IsEnum h' (s.heap.objs.size + 1) s.heap.objs.size 0 .none → h'.IsTupleIter s.heap.objs.size t 0 → (∀ b o, s.heap.get? b = some o → h'.get? b = some o) → Q (.ref (s.heap.objs.size + 1)) { s with heap := h' }) :
    wpAny (model prog w) A (call (.type "enumerate") [.ref t]) Q E s := by
  obtain ⟨⟨c, di, dt, sl⟩, there, hc, n, hd⟩ := isT
  simp only at hc hd
  subst hc hd
  refine callType_new F.called_enumerate (by decide) (F.typeCall_enumerate_1 _) (F.newCall_enumerate_1 _) (fun ob => F.args_object_init_2 ob _) F.entry_enumerate_new (enum_new_tuple t items n di sl) ⟨there, ?_⟩
  have two : (s.heap.push (tupIt t)).objs.size = s.heap.objs.size + 1 := Heap.size_push ..
  have isE : IsEnum ((s.heap.push (tupIt t)).push (enumO s.heap.objs.size)) (s.heap.objs.size + 1) s.heap.objs.size 0 .none := by
    have q := Heap.get?_push_size (s.heap.push (tupIt t)) (o := enumO s.heap.objs.size) rfl
    rw [two] at q
    exact q
  show _ ∧ _
  rw [two]
  exact ⟨⟨_, isE, rfl⟩, h _ isE ⟨_, Heap.get?_push_of_some _ (Heap.get?_push_size _ rfl), rfl, rfl⟩ fun b o x => Heap.get?_push_of_some _ (Heap.get?_push_of_some _ x)⟩
end
theorem tup_one {X : Cx} {pins : List (Addr × Obj)} {σ : L2.St} {H : Hp} {s : Shared} {a : Addr} {xs ys : List V} (I : Inv X pins σ H s) (h : SqT X.K H a xs) (h' : SqT X.K H a ys) : xs = ys := by
  obtain ⟨us, r, ⟨o, ho, _, _, hd⟩, _⟩ := I.tuple h
  obtain ⟨vs, r', ⟨o', ho', _, _, hd'⟩, _⟩ := I.tuple h'
  rw [ho] at ho'
  cases ho'
  rw [hd] at hd'
  injection hd' with e _
  have e2 : us = vs := by simpa using congrArg Array.toList e
  subst e2
  exact r.inj r'
theorem enum_end_tuple {prog : Program} {w : World} {A : Around} {E : Value → Shared → Prop} {s : Shared} {e it t : Addr} {i : Nat} {k : Int} {old : Value} {items : Array Value} {Q : Option Value → Shared → Prop} (quiet : A.handled = none)
    (isE : IsEnum s.heap e it k old) (isI : s.heap.IsTupleIter it t i) (isT : s.heap.IsTuple t items) (over : items[i]? = none) (h : ∀ h', Heap.ExtBut it s.heap h' → Q none { s with heap := h' }) : wpAny (model prog w) A (pyNext (.ref e)) Q E s := by
  have ty : s.TypeIs (.ref e) "enumerate" := ⟨_, isE, rfl⟩
  unfold pyNext
  refine wpAny_bind (wpAny_attempt (wpAny_callSpecial?_slot (name := Str.ofString "__next__") ty F.slot_enumerate_next (wpAny_call_entry F.slot_enumerate_next ty F.entry_enumerate_next ?_ (F.args_enumerate_next_1 _))))
  show wpAny _ _ (field (.ref e) 2 >>= fun _ => _) _ _ _
  refine wpAny_bind (wpAny_field isE rfl (x := .ref it) rfl (wpAny_bind (wpAny_nextOf_tuple_end quiet isI isT over fun h' x ex hx => ?_)))
  obtain ⟨o, ho, hc⟩ := hx
  exact wpAny_bind (wpAny_isInstance (b := true) (T := "StopIteration") ⟨o, ho, hc⟩ isSubtype_stop (wpAny_pure (h _ ex)))
/-- the tuple at a, each item in a new pair -/
def IteT (K : PySem.W.Frag) (a : Addr) : It :=
  ⟨fun i H => ∃ (xs : List V) (x : V), SqT K H a xs ∧ xs[i]? = some x, fun i H v H' => ∃ T x, v = .ref T ∧ H T = none ∧ H' = upd H T (.tup [.int (i : Nat), x]) ∧ ∀ xs, SqT K H a xs → xs[i]? = some x, fun i H => ∃ xs : List V, SqT K H a xs ∧ xs.length ≤ i⟩
theorem turn_enumT {P : Program} {w : World} {K : PySem.W.Frag} {elts : List Expr} {kk : Nat} {tpos : Pos} (a e it : Addr) :
    Turn P w K (.Tuple elts kk tpos) (IteT K a) [e, it] e (fun i h => (∃ old, IsEnum h e it ((i : Nat) : Int) old) ∧ h.IsTupleIter it a i ∧ e ≠ it ∧ a ≠ it ∧ a ≠ e) where
  mem := by simp
  obj := fun i h st b hb => by
    obtain ⟨⟨old, isE⟩, ⟨o, ho, hc, hd⟩, _⟩ := st
    rcases (show b = e ∨ b = it by simpa using hb) with z | z
    · rw [z]; exact ⟨_, isE, fun v q => nomatch q⟩
    · rw [z]; exact ⟨o, ho, fun v q => by rw [hd] at q; cases q⟩
  keep := fun i h h' st k => ⟨⟨st.1.choose, k e (by simp) _ st.1.choose_spec⟩, st.2.1.at fun o q => k it (by simp) o q, st.2.2⟩
  item := by
    intro X hP hw hK hc i pins s σ H E I hf st hg
    subst hP hw hK
    obtain ⟨⟨old, isE⟩, isI, nei, nai, nae⟩ := st
    obtain ⟨xs, x, hq, hx⟩ := hg
    obtain ⟨its, rv, isT, hz⟩ := I.tuple hq
    obtain ⟨u, hu, ru⟩ := rv.get hx
    have elt : e < s.heap.objs.size := Heap.lt_size isE
    have ilt : it < s.heap.objs.size := isI.elim fun _ q => Heap.lt_size q.1
    have hul : i < its.length := (List.getElem?_eq_some_iff.mp hu).1
    refine wpAny_pyNext_enum_itemD (Draws.tuple (A := X.A.in1) (I.ok.hd hc) it a nai its.toArray) isE ⟨isI, isT⟩ (by simpa using hul) nei (by simp [nei, Ne.symm nae]) fun y h1 tk hy out st1 newT hsz keep => ?_
    have ey : y = u := by
      have q : its[i]? = some y := by simpa using hy
      rw [hu] at q
      exact (Option.some.inj q).symm
    subst ey
    refine ⟨_, rfl, wpAny_letOwnedTupleGo_enum (s := { s with heap := h1, toks := tk + 1 }) out fun h2 isE2 sb => ?_⟩
    have newT2 : h2.get? s.heap.objs.size = some { cls := .type "tuple", data := .seq #[.int i tk, y] } := (sb.2 _ (Nat.ne_of_gt elt)).trans newT
    have okT : ObjOk X.prog X.w (upd H s.heap.objs.size (.tup [.int (i : Nat), x])) h2 s.heap.objs.size (.tup [.int (i : Nat), x]) :=
      ⟨by show 2 ≤ sizeLine; decide, [.int i tk, y], .cons ⟨_, rfl⟩ (.cons ru .nil), ⟨_, newT2, rfl, _, rfl⟩⟩
    have I1 : Inv X pins σ (upd H s.heap.objs.size (.tup [.int (i : Nat), x])) { s with heap := h2, toks := tk + 1 } :=
      I.turnedNew (ch := [e, it]) (fun b ob hb q => (sb.2 b (fun z => hb (by simp [z]))).trans (keep b ob (fun z => hb (by simp [z])) (fun z => hb (by simp [z])) q)) hf (Nat.le_refl _) okT
    refine ⟨.ref s.heap.objs.size, _, I1, rfl, ⟨_, x, rfl, I.hok.fresh (Nat.le_refl _), rfl, fun ys hy => ?_⟩, ⟨⟨y, ?_⟩, st1.1.at fun o q => (sb.2 it (Ne.symm nei)).trans q, nei, nai, nae⟩, fun b hb => ?_⟩
    · have e1 : ys = xs := by
        exact tup_one I hy hq
      rw [e1]
      exact hx
    · rw [show ((i + 1 : Nat) : Int) = (i : Int) + 1 by omega]
      exact isE2
    · have old' : b < s.heap.objs.size := by
        rcases (show b = e ∨ b = it by simpa using hb) with z | z
        · rw [z]; exact elt
        · rw [z]; exact ilt
      rw [upd_ne (Nat.ne_of_lt old')]
      exact (hf b hb).1
  done := by
    intro X hP hw hK hc i pins s σ H E I hf st hg
    subst hP hw hK
    obtain ⟨⟨old, isE⟩, isI, nei, nai, nae⟩ := st
    obtain ⟨xs, hq, hx⟩ := hg
    obtain ⟨its, rv, isT, hz⟩ := I.tuple hq
    obtain ⟨f0, f1, f2, f3, f4, f5⟩ := hf it (by simp)
    have hl := rv.length
    exact enum_end_tuple (I.ok.hd hc) isE isI isT (by simp; omega) fun h1 eb => ⟨rfl, I.turned (t' := s.toks) (fun b o hb q => eb b o hb q) f0 f1 f3 f4 f5⟩
  self := fun A i s Q E st h => wpAny_pyIter_enum st.1.choose_spec h
def iEnumT (K : PySem.W.Frag) (ta : TA) : TI := fun σ H R => ta σ H fun vs H1 => ∃ a xs, vs = [.ref a] ∧ SqT K H1 a xs ∧ R (IteT K a) H1
theorem pi_enumT {X : Cx} {e : Expr} {ta : TA} {p pos tpos : Pos} {elts : List Expr} {kk : Nat} (hg : Gl X "enumerate") (hm : X.mg "enumerate" = none) (ha : PA X [e] ta) (one : starEach [e] X.env = [(false, eval e X.env)] := by rfl) :
    PI X (.Tuple elts kk tpos) (.Call (.Name "enumerate" p) [e] [] pos) (iEnumT X.K ta) := by
  refine ⟨fun pins s σ H R I h => ?_⟩
  refine Call_ (ld_blt I hg hm boot_enumerate (PyProof.Rows.callWith_type1 (thn (ha.run pos pins s σ H _ I h) fun us s1 ⟨vs, H1, I1, r1, q1⟩ => ?_) one rfl))
  obtain ⟨a, xs, rfl, hq, q⟩ := q1
  rw [Vals.ref1 r1]
  obtain ⟨its, rv, isT, hz⟩ := I1.tuple hq
  have alt : a < s1.heap.objs.size := isT.elim fun _ q => Heap.lt_size q.1
  refine call_enum_tuple isT fun h1 isE isI keep => wpAny_pyIter_enum isE ?_
  have I2 : Inv X pins σ H1 { s1 with heap := h1 } := I1.kept (t' := s1.toks) keep
  refine ⟨s1.heap.objs.size + 1, [s1.heap.objs.size + 1, s1.heap.objs.size], _, _, H1, rfl, I2, turn_enumT a (s1.heap.objs.size + 1) s1.heap.objs.size, ⟨⟨.none, isE⟩, isI, Nat.succ_ne_self _, Nat.ne_of_lt alt, Nat.ne_of_lt (Nat.lt_succ_of_lt alt)⟩, fun b hb => ?_, q⟩
  have new : s1.heap.objs.size ≤ b := by
    rcases (show b = s1.heap.objs.size + 1 ∨ b = s1.heap.objs.size by simpa using hb) with z | z
    · rw [z]; exact Nat.le_succ _
    · rw [z]; exact Nat.le_refl _
  exact I1.fpOk new (I1.hok.fresh new)
end Ah
set_option Elab.async false
set_option linter.all false
set_option maxRecDepth 100000
set_option maxHeartbeats 4000000
namespace Ah
open PySem PySem.Spec PyProof.Rows L2
/-! ### comprehensions that change nothing -/
def CompSt (H0 : Hp) (D : Addr) (xs : List V) (f : V → V) (i : Nat) (H : Hp) : Prop := Same H0 H ∧ H D = some (.lst ((xs.take i).map f))
theorem CompSt.start {H0 H : Hp} {D : Addr} {xs : List V} {f : V → V} (h : Same H0 H) (hD : H D = none) : CompSt H0 D xs f 0 (upd H D (.lst [])) := ⟨h.trans (same_new hD), upd_same⟩
theorem CompSt.step {H0 H : Hp} {D : Addr} {xs : List V} {f : V → V} {i : Nat} {x : V} (h : Same H0 H) (hD : H D = some (.lst ((xs.take i).map f))) (hx : xs[i]? = some x) (n0 : H0 D = none) (hl : xs.length ≤ 1000) :
    ∃ acc, H D = some (.lst acc) ∧ acc.length < sizeLine ∧ CompSt H0 D xs f (i + 1) (upd H D (.lst (acc ++ [f x]))) := by
  refine ⟨_, hD, ?_, same_mut h n0, ?_⟩
  · rw [List.length_map, List.length_take]
    exact small1000 (by omega)
  · rw [upd_same, List.take_succ, hx, List.map_append]
    rfl
theorem lc_gen {J : It} {n : Nat} {item : Nat → V} {g : TG} {tt : TT} {te : TE} {vs : List Nat} {σ : L2.St} {H1 : Hp} {D : Addr} {Qd : Hp → Prop} (Pv : Nat → Hp → Prop) (h0 : Pv 0 (upd H1 D (.lst [])))
    (hgo : ∀ i H, i < n → Pv i H → J.go i H) (hst : ∀ H, Pv n H → J.stop n H) (hy : ∀ i H x H', i < n → Pv i H → J.yld i H x H' → H' = H ∧ x = item i)
    (hs : ∀ i H, i < n → Pv i H → g (item i) (wipe σ vs) H fun σ2 H2 => wipe σ2 vs = wipe σ vs ∧ tt σ2 H2 fun b H3 =>
      if b = true then te σ2 H3 fun y H4 => ∃ acc, H4 D = some (.lst acc) ∧ acc.length < sizeLine ∧ Pv (i + 1) (upd H4 D (.lst (acc ++ [y]))) else Pv (i + 1) H3) (hd : ∀ H, Pv n H → Qd H) :
    ∃ W : Nat → Nat → Hp → Prop, (∃ m, W 0 m (upd H1 D (.lst []))) ∧ ∀ i m H, W i m H →
      (J.stop i H ∧ Qd H) ∨ (J.go i H ∧ ∃ Nx : Hp → Prop, (∀ H', Nx H' → ∃ m', m' < m ∧ W (i + 1) m' H') ∧ ∀ x H', J.yld i H x H' → g x (wipe σ vs) H' fun σ2 H2 => wipe σ2 vs = wipe σ vs ∧ tt σ2 H2 fun b H3 =>
        if b = true then te σ2 H3 fun y H4 => ∃ acc, H4 D = some (.lst acc) ∧ acc.length < sizeLine ∧ Nx (upd H4 D (.lst (acc ++ [y]))) else Nx H3) := by
  refine ⟨fun i m H => m = n - i ∧ i ≤ n ∧ Pv i H, ⟨n, rfl, Nat.zero_le _, h0⟩, ?_⟩
  rintro i m H ⟨rfl, hi, p⟩
  rcases Nat.lt_or_ge i n with hlt | hge
  · refine .inr ⟨hgo i H hlt p, Pv (i + 1), fun H' p' => ⟨n - (i + 1), by omega, rfl, hlt, p'⟩, fun x H' y => ?_⟩
    obtain ⟨rfl, rfl⟩ := hy i H x H' hlt p y
    exact hs i _ hlt p
  · obtain rfl : i = n := by omega
    exact .inl ⟨hst H p, hd H p⟩
/-! ### the program's own -/
structure Blt2 (mg : Str → Option Value) : Prop where
  isinstance : mg "isinstance" = none
  str : mg "str" = none
  list : mg "list" = none
  tuple : mg "tuple" = none
  dict : mg "dict" = none
  all : mg "all" = none
  set : mg "set" = none
  len : mg "len" = none
  enum : mg "enumerate" = none
  sorted : mg "sorted" = none
  range : mg "range" = none
section
variable {P : Program} {w : World} {K : PySem.W.Frag} {mg : Str → Option Value} {base : Heap}
end
end Ah
set_option Elab.async false
set_option linter.all false
set_option maxRecDepth 100000
set_option maxHeartbeats 4000000
namespace Ah
open PySem PySem.Spec PyProof.Rows L2
/-! ### a list or a tuple walked -/
def iOr (a b : TI) : TI := fun σ H R => a σ H R ∨ b σ H R
theorem pi_or {X : Cx} {tg e : Expr} {a b : TI} (h1 : PI X tg e a) (h2 : PI X tg e b) : PI X tg e (iOr a b) := ⟨fun pins s σ H R I h => h.elim (h1.run pins s σ H R I) (h2.run pins s σ H R I)⟩
/-- [.. for x in xs], xs a list or a tuple that stands still -/
theorem rd_same {H H' : Hp} {a : Addr} {u : HO} (k : Same H H') (h : Rd H a u) : Rd H' a u := h.imp (k _ _) fun ⟨o, h⟩ => ⟨o, k _ _ h⟩
theorem rd_some {H : Hp} {a : Addr} {u : HO} (h : Rd H a u) : ∃ o, H a = some o := h.elim (fun h => ⟨_, h⟩) fun ⟨_, h⟩ => ⟨_, h⟩
theorem rd_eq {H H' : Hp} {a : Addr} {u : HO} (e : H' a = H a) (h : Rd H a u) : Rd H' a u := h.imp e.trans fun ⟨o, h⟩ => ⟨o, e.trans h⟩
theorem ty_tup {K : PySem.W.Frag} {H : Hp} {a : Addr} {xs : List V} (h : Rd H a (.tup xs)) : TyX K H (.ref a) (.type "tuple") := h.elim (fun h => .base (.tup h)) fun ⟨_, h⟩ => .fTuple h
/-- a tuple whose object has no dict -/
def Ftp (H : Hp) (a : Addr) (xs : List V) : Prop := ∃ o : Obj, o.dict = none ∧ H a = some (.frz o (.tup xs))
theorem Ftp.rd {H : Hp} {a : Addr} {xs : List V} (h : Ftp H a xs) : Rd H a (.tup xs) := let ⟨o, _, h⟩ := h; .inr ⟨o, h⟩
theorem Ftp.same {H H' : Hp} {a : Addr} {xs : List V} (k : Same H H') (h : Ftp H a xs) : Ftp H' a xs := let ⟨o, d, h⟩ := h; ⟨o, d, k _ _ h⟩
def LTu (H : Hp) (a : Addr) (xs : List V) : Prop := H a = some (.lst xs) ∨ Rd H a (.tup xs)
theorem LTu.same {H H' : Hp} {a : Addr} {xs : List V} (k : Same H H') (h : LTu H a xs) : LTu H' a xs := h.imp (k _ _) (rd_same k)
theorem LTu.sq {K : PySem.W.Frag} {H : Hp} {a : Addr} {xs : List V} (h : LTu H a xs) : SqL K H a xs ∨ SqT K H a xs := h.imp (fun h => SqL.of h) fun h => .inl h
theorem iOr_lc {K : PySem.W.Frag} {a : Addr} {xs : List V} {g : TG} {tt : TT} {tx te : TE} {vs : List Nat} {σ : L2.St} {H : Hp} {Q : VK} (hx : ∀ R, R (.ref a) H → tx σ H R) (hs0 : LTu H a xs) (Pv : Addr → Nat → Hp → Prop)
    (h0 : ∀ D, H D = none → Pv D 0 (upd H D (.lst []))) (hl : ∀ D i H', H D = none → i ≤ xs.length → Pv D i H' → H' a = H a)
    (hs : ∀ D i x H', H D = none → xs[i]? = some x → Pv D i H' → g x (wipe σ vs) H' fun σ2 H2 => wipe σ2 vs = wipe σ vs ∧ tt σ2 H2 fun b H3 =>
      if b = true then te σ2 H3 fun y H4 => ∃ acc, H4 D = some (.lst acc) ∧ acc.length < sizeLine ∧ Pv D (i + 1) (upd H4 D (.lst (acc ++ [y]))) else Pv D (i + 1) H3) (hd : ∀ D H', H D = none → Pv D xs.length H' → Q (.ref D) H') :
    tLc (iOr (iList K tx) (iTup K tx)) g tt te vs σ H Q := by
  rcases hs0 with h1 | h1
  · exact .inl (hx _ ⟨a, rfl, ⟨xs, SqL.of h1⟩, fun D hD => lc_list (K := K) (a := a) (xs := xs) (Pv D) (h0 D hD) (fun i H' hi p => SqL.of ((hl D i H' hD hi p).trans h1)) (fun i x H' hxi p => hs D i x H' hD hxi p) fun H' p => hd D H' hD p⟩)
  · exact .inr (hx _ ⟨a, rfl, ⟨xs, .inl h1⟩, fun D hD => lc_tup (K := K) (a := a) (xs := xs) (Pv D) (h0 D hD) (fun i H' hi p => .inl (rd_eq (hl D i H' hD hi p) h1)) (fun i x H' hxi p => hs D i x H' hD hxi p) fun H' p => hd D H' hD p⟩)
theorem LTu.some {H : Hp} {a : Addr} {xs : List V} (h : LTu H a xs) : ∃ o, H a = some o := h.elim (fun h => ⟨_, h⟩) rd_some
theorem str_at {xs : List Str} {i : Nat} {v : V} (h : (xs.map V.str)[i]? = some v) : ∃ x, xs[i]? = some x ∧ v = .str x ∧ x ∈ xs := by
  rw [List.getElem?_map] at h
  obtain ⟨x, hx, rfl⟩ := Option.map_eq_some_iff.mp h
  exact ⟨x, hx, rfl, List.mem_of_getElem? hx⟩
section
variable {P : Program} {w : World} {K : PySem.W.Frag} {mg : Str → Option Value} {base : Heap}
/-- other things: nothing, a text, a number, an empty dict -/
inductive Od where
  | non | str (x : Str) | int (i : Int) | dic
def Od.isDic : Od → Bool
  | .dic => true
  | _ => false
def OdAt (H : Hp) (v : V) : Od → Prop
  | .non => v = .non
  | .str x => v = .str x
  | .int i => v = .int i
  | .dic => ∃ a, v = .ref a ∧ Rd H a (.dK [])
theorem OdAt.same {H H' : Hp} {v : V} {d : Od} (k : Same H H') (h : OdAt H v d) : OdAt H' v d := by
  cases d with
  | non => exact h
  | str x => exact h
  | int i => exact h
  | dic => exact h.imp fun _ h => ⟨h.1, rd_same k h.2⟩
theorem ty_dict {K : PySem.W.Frag} {H : Hp} {a : Addr} {kvs : List (Key × V)} (h : Rd H a (.dK kvs)) : TyX K H (.ref a) (.type "dict") := h.elim (fun h => .base (.dK h)) fun ⟨_, h⟩ => .fDict h
theorem OdAt.ty {K : PySem.W.Frag} {H : Hp} {v : V} {d : Od} (h : OdAt H v d) : ∃ ty, TyX K H v ty ∧ PySem.W.kitOne K ty (.type "list") = some false ∧ PySem.W.kitOne K ty (.type "tuple") = some false ∧ PySem.W.kitOne K ty (.type "dict") = some d.isDic := by
  cases d with
  | non =>
    cases (show v = .non from h)
    exact ⟨_, .base .non, kit_ty (by decide +kernel), kit_ty (by decide +kernel), kit_ty (by decide +kernel)⟩
  | str x =>
    cases (show v = .str x from h)
    exact ⟨_, .base (.str x), kit_ty (by decide +kernel), kit_ty (by decide +kernel), kit_ty (r := false) (by decide +kernel)⟩
  | int i =>
    cases (show v = .int i from h)
    exact ⟨_, .base (.int i), kit_ty (by decide +kernel), kit_ty (by decide +kernel), kit_ty (r := false) (by decide +kernel)⟩
  | dic =>
    obtain ⟨a, rfl, h⟩ := h
    exact ⟨_, ty_dict h, kit_ty (by decide +kernel), kit_ty (by decide +kernel), kit_ty (by decide +kernel)⟩
end
end Ah
set_option Elab.async false
set_option linter.all false
set_option maxRecDepth 100000
set_option maxHeartbeats 4000000
/-! tuples whose object is known: made, joined, cut, turned round; t.index(text) of one -/
namespace Ah
open PySem PySem.Spec PyProof.Rows L2
section
variable {prog : Program} {w : World} {A : Around} {E : Value → Shared → Prop} {s : Shared}
theorem adjust_rev (n : Nat) : Builtin.Slice.sliceAdjust none none (-1) (n : Int) = ((n : Int) - 1, -1) := by
  unfold Builtin.Slice.sliceAdjust
  simp
theorem places_rev (n : Nat) : Builtin.Slice.slicePlaces ((n : Int) - 1) (-1) (-1) = n := by
  unfold Builtin.Slice.slicePlaces
  have h1 : ¬ ((-1 : Int) > 0) := by decide
  simp only [h1, if_false]
  by_cases h : (n : Int) - 1 > -1
  · rw [if_pos h, show (- -1 : Int) = 1 by decide, Int.ediv_one]
    omega
  · rw [if_neg h]
    omega
theorem fm_congr {α β : Type} {f g : α → Option β} : ∀ {l : List α}, (∀ x ∈ l, f x = g x) → l.filterMap f = l.filterMap g
  | [], _ => rfl
  | a :: l, h => by
    rw [List.filterMap_cons, List.filterMap_cons, h a List.mem_cons_self, fm_congr fun x hx => h x (List.mem_cons_of_mem _ hx)]
theorem pick_rev (xs : Array Value) : ((List.range xs.size).filterMap fun (m : Nat) => xs[(((xs.size : Int) - 1) + (m : Int) * (-1)).toNat]?).toArray = xs.toList.reverse.toArray := by
  have e : (List.range xs.size).filterMap (fun (m : Nat) => xs[(((xs.size : Int) - 1) + (m : Int) * (-1)).toNat]?) = ((List.range xs.size).map fun k => xs.size - 1 - k).filterMap (xs[·]?) := by
    rw [List.filterMap_map]
    refine fm_congr fun m hm => ?_
    have := List.mem_range.mp hm
    show xs[(((xs.size : Int) - 1) + (m : Int) * (-1)).toNat]? = xs[xs.size - 1 - m]?
    rw [show (((xs.size : Int) - 1) + (m : Int) * (-1)).toNat = xs.size - 1 - m by omega]
  rw [e, PySem.W.krv_range, List.filterMap_reverse, PySem.W.krv_all]
theorem getItem_tuple_rev {t sl : Addr} {items : Array Value} {k : Tok} {Q : Value → Shared → Prop} (ht : IsTup s.heap t items) (hs : s.heap.IsSliceOf sl .none .none (.int (-1) k))
    (h : Q (.ref s.heap.objs.size) { s with heap := s.heap.push { cls := .type "tuple", data := .seq items.toList.reverse.toArray } }) (hsz : items.size ≤ sizeLine) : wpAny (model prog w) A (getItem (.ref t) (.ref sl)) Q E s := by
  have htake : sizeOk (.seq items.toList.reverse.toArray) := by
    show items.toList.reverse.toArray.size ≤ sizeLine
    rw [List.size_toArray, List.length_reverse, Array.length_toList]
    exact hsz
  obtain ⟨os, hos, hcs, hds⟩ := id hs
  have hTs : s.TypeIs (.ref sl) "slice" := ⟨os, hos, hcs⟩
  unfold getItem
  try with_reducible refine wpAny_holding ?_
  first | refine wpAny_bind (wpAny_pure ?_) | skip
  refine wpAny_bind (wpAny_sequenceKey ht.typeIs (by decide) ?_)
  refine wpAny_bind (wpAny_callSpecial?_slot (name := Str.ofString "__getitem__") ht.typeIs PyProof.Rows.slot_tuple_getitem
    (wpAny_call_entry PyProof.Rows.slot_tuple_getitem ht.typeIs PyProof.Rows.entry_tuple_getitem ?_ (PyProof.Rows.args_tuple_getitem _ _)))
  show wpAny _ _ (Builtin.Tuple.tupleItemsOf (.ref t) >>= _) _ _ s
  refine wpAny_bind (PyProof.Rows.tupleItemsOf_ ht ?_)
  refine wpAny_bind (wpAny_typeOf hTs ?_)
  rw [if_pos (by decide)]
  refine wpAny_bind ?_
  · unfold Builtin.Slice.sliceApplied Builtin.Slice.sliceFields
    refine wpAny_bind (wpAny_bind (wpAny_field hos hds (x := .none) rfl (wpAny_bind (wpAny_field hos hds (x := .none) rfl (wpAny_bind (wpAny_field hos hds (x := .int (-1) k) rfl (wpAny_pure ?_)))))))
    refine wpAny_bind (PyProof.Rows.slicePart_int ?_)
    show wpAny _ _ (if ((-1 : Int) == 0) = true then _ else _) _ _ s
    rw [if_neg (by decide)]
    refine wpAny_bind (PyProof.Rows.slicePart_none (wpAny_bind (PyProof.Rows.slicePart_none (wpAny_bind (wpAny_pure ?_)))))
    show wpAny _ _ (match Builtin.Slice.sliceAdjust none none (-1) (items.size : Int) with | (lo, hi) => pure (lo, (-1 : Int), Builtin.Slice.slicePlaces lo hi (-1))) _ _ s
    rw [adjust_rev]
    show wpAny _ _ (pure (((items.size : Int) - 1), (-1 : Int), Builtin.Slice.slicePlaces ((items.size : Int) - 1) (-1) (-1))) _ _ s
    rw [places_rev]
    refine wpAny_pure ?_
    have hno : ¬ ((((items.size : Int) - 1) == 0 && (-1 : Int) == 1 && items.size == items.size) = true) := by simp
    show wpAny _ _ (if (((items.size : Int) - 1) == 0 && (-1 : Int) == 1 && items.size == items.size) = true then _ else _) _ _ s
    rw [if_neg hno, pick_rev]
    first
      | exact wpAny_bind (m := Builtin.Tuple.tupleExact _) (wpAny_newObj_type (wpAny_pure ⟨_, rfl, wpAny_pure h⟩) htake)
      | exact wpAny_bind (m := Builtin.Tuple.tupleExact _) (wpAny_newObj_type (wpAny_bind (wpAny_pure (wpAny_pure ⟨_, rfl, wpAny_pure h⟩))) htake)
      | exact wpAny_bind (wpAny_bind (m := Builtin.Tuple.tupleExact _) (wpAny_newObj_type (wpAny_pure (wpAny_pure ⟨_, rfl, wpAny_pure h⟩)) htake))
      | exact wpAny_bind (wpAny_bind (m := Builtin.Tuple.tupleExact _) (wpAny_newObj_type (wpAny_pure ⟨_, rfl, wpAny_pure h⟩) htake))
end
section
variable {X : Cx}
/-- a new tuple, its object known -/
def NewF (H : Hp) (xs : List V) (Q : VK) : Prop := ∀ (p : Addr) (o : Obj), o.dict = none → H p = none → Q (.ref p) (upd H p (.frz o (.tup xs)))
def tRevT (K : PySem.W.Frag) (te : TE) : TE := fun σ H Q => te σ H fun x H1 => ∃ a xs, x = .ref a ∧ SqT K H1 a xs ∧ NewF H1 xs.reverse Q
theorem pe_revT {e : Expr} {te : TE} {k : Nat} {p1 p2 p3 pos : Pos} (he : PE X e te) : PE X (.Subscript e (.Slice none none (some (.UnaryOp .USub (.Constant (.int 1) k p1) p2)) p3) pos) (tRevT X.K te) := by
  refine ⟨fun pins s σ H Q I h => ?_⟩
  refine Subscript_ (thn (he.run pins s σ H _ I h) fun v s1 ⟨x, H1, I1, r1, q1⟩ => ?_)
  obtain ⟨a, xs, ex, hx, q⟩ := q1
  subst ex
  cases r1
  have hst : PO X (some (.UnaryOp .USub (.Constant (.int 1) k p1) p2)) (tPart (tUn (rU fun i => .int (-i)) (tC (.int 1)))) := po_some (pe_un un_neg pe_int)
  refine wpAny_Slice (thn (po_none.run pins s1 σ H1 (fun o H2 => o = none ∧ H2 = H1) I1 ⟨rfl, rfl⟩) fun vl s2 ⟨l, H2, I2, pl, el, e2⟩ => ?_)
  subst el e2
  refine thn (po_none.run pins s2 σ H2 (fun o H3 => o = none ∧ H3 = H2) I2 ⟨rfl, rfl⟩) fun vu s3 ⟨u, H3, I3, pu, eu, e3⟩ => ?_
  subst eu e3
  refine thn (hst.run pins s3 σ H3 (fun o H4 => o = some (-1) ∧ H4 = H3) I3 ⟨1, rfl, -1, rfl, rfl, rfl⟩) fun vs s4 ⟨o, H4, I4, ps, eo, e4⟩ => ?_
  subst eo e4
  have I5 : Inv X pins σ H4 { s4 with heap := s4.heap.push { cls := .type "slice", data := .fields #[vl, vu, vs] } } := I4.kept (t' := s4.toks) fun b ob q => Heap.get?_push_of_some _ q
  obtain ⟨its, r, ht, hz⟩ := I5.tuple hx
  have hlen := r.length
  cases pl
  cases pu
  obtain ⟨kk, rfl⟩ : ∃ kk, vs = Value.int (-1) kk := by
    cases ps
    exact ⟨_, rfl⟩
  show wpAny (model X.prog X.w) X.A (subscriptTail e (.Slice none none (some (.UnaryOp .USub (.Constant (.int 1) k p1) p2)) p3) (.ref a) (.ref s4.heap.objs.size)) (EP X pins σ Q) X.xe { s4 with heap := s4.heap.push { cls := .type "slice", data := .fields #[.none, .none, .int (-1) kk] } }
  refine tail_any (ops := [.ref a, .ref s4.heap.objs.size]) ht.typeIs (PyProof.Rows.slot_tuple_getitem.lookup) ?_ (by with_unfolding_all rfl)
  refine getItem_tuple_rev ht (Heap.IsSliceOf.new _ _ _ _) ?_ (by rw [List.size_toArray]; omega)
  refine ⟨.ref _, _, I5.laid (t' := s4.toks) (o := .frz { cls := .type "tuple", data := .seq its.reverse.toArray } (.tup xs.reverse)) (fun b ob q => Heap.get?_push_of_some _ q) (Nat.le_refl _) ?_, rfl, q _ _ rfl (I5.hok.fresh (Nat.le_refl _))⟩
  exact ⟨Heap.get?_push_size _ rfl, by rw [List.length_reverse]; omega, _, r.reverse, IsTup.new _ _⟩
def tTupF (t : TA) : TE := fun σ H Q => t σ H fun xs H1 => xs.length ≤ sizeLine ∧ NewF H1 xs Q
theorem pe_tupF {es : List Expr} {t : TA} {pos : Pos} {x1 : Nat} (h : PA X es t) : PE X (.Tuple es x1 pos) (tTupF t) := by
  refine ⟨fun pins s σ H Q I hq => ?_⟩
  refine wpAny_Tuple_spliced (thn (h.run pos pins s σ H _ I hq) fun us s1 ⟨xs, H1, I1, r, z, q⟩ => ⟨by rw [← r.length]; exact z, ?_⟩)
  have hf : H1 s1.heap.objs.size = none := I1.hok.fresh (Nat.le_refl _)
  refine ⟨.ref s1.heap.objs.size, _, I1.laid (t' := s1.toks) (o := .frz { cls := .type "tuple", data := .seq us.toArray } (.tup xs)) (fun b u e => Heap.get?_push_of_some _ e) (Nat.le_refl _) ?_, rfl, q _ _ rfl hf⟩
  exact ⟨Heap.get?_push_size _ rfl, z, us, r, ⟨_, Heap.get?_push_size _ rfl, rfl, _, rfl⟩⟩
def rCatF (K : PySem.W.Frag) : R2 := fun x y H Q => ∃ a b xs ys, x = .ref a ∧ y = .ref b ∧ SqT K H a xs ∧ SqT K H b ys ∧ xs.length + ys.length ≤ sizeLine ∧
  (xs = [] → Q (.ref b) H) ∧ (xs ≠ [] → ys = [] → Q (.ref a) H) ∧ (xs ≠ [] → ys ≠ [] → NewF H (xs ++ ys) Q)
theorem op_catF : OpR X (binaryOp .Add) (rCatF X.K) := by
  intro pins s σ H x y v u Q I rx ry h
  obtain ⟨a, b, xs, ys, rfl, rfl, ha, hb, hz, q0, q1, q2⟩ := h
  cases rx
  cases ry
  obtain ⟨its, r1, p1, _⟩ := I.tuple ha
  obtain ⟨its2, r2, p2, _⟩ := I.tuple hb
  by_cases hx : xs = []
  · subst hx
    cases r1
    exact cat_tup0 p1 p2 ⟨.ref b, H, I, rfl, q0 rfl⟩
  · refine HT.cat_tup p1 p2 (fun z => hx (r1.nil_iff.mp z)) (fun z => ⟨.ref a, H, I, rfl, q1 hx (r2.nil_iff.mp z)⟩) (fun z => ?_) (by rw [← r1.length, ← r2.length]; exact hz)
    refine ⟨.ref s.heap.objs.size, _, I.laid (t' := s.toks) (o := .frz { cls := .type "tuple", data := .seq (its ++ its2).toArray } (.tup (xs ++ ys))) (fun b ob q => Heap.get?_push_of_some _ q) (Nat.le_refl _) ?_, rfl, q2 hx (fun w => z (r2.nil_iff.mpr w)) _ _ rfl (I.hok.fresh (Nat.le_refl _))⟩
    exact ⟨Heap.get?_push_size _ rfl, by rw [List.length_append]; exact hz, _, r1.append r2, IsTup.new _ _⟩
theorem call_tuple_ofF : CallR X (.type "tuple") (fun xs H Q => ∃ p ys, xs = [.ref p] ∧ SqL X.K H p ys ∧ NewF H ys Q) := by
  intro pins s σ H xs us Q I r h
  obtain ⟨p, ys, rfl, hq, q⟩ := h
  obtain ⟨u, rfl, rx⟩ := vals1 r
  cases rx
  obtain ⟨its, r', pl, hz⟩ := I.list hq
  have hlen := r'.length
  refine call_tuple_list pl.isList (fun h' kp => ?_) (by simp only [List.size_toArray] <;> omega)
  have I1 : Inv X pins σ H { s with heap := h' } := I.kept (t' := s.toks) kp
  have I2 : Inv X pins σ (upd H h'.objs.size (.frz { cls := .type "tuple", data := .seq its.toArray } (.tup ys))) { s with heap := h'.push { cls := .type "tuple", data := .seq its.toArray } } :=
    I1.laid (t' := s.toks) (fun b o e => Heap.get?_push_of_some _ e) (Nat.le_refl _) (show ObjOk X.prog X.w _ _ _ (.frz _ (.tup ys)) from ⟨Heap.get?_push_size _ rfl, hz, its, r', IsTup.new _ _⟩)
  exact ⟨.ref h'.objs.size, _, I2, rfl, q _ _ rfl (I1.hok.fresh (Nat.le_refl _))⟩
/-- t.index(text), t a tuple of unlike texts, its object known -/
def tTix (K : PySem.W.Frag) (to : TE) (t : TA) : TE := fun σ H Q => to σ H fun x H1 => ∃ a ys, x = .ref a ∧ Ftp H1 a ys ∧ t σ H1 fun vs H2 => ∃ (zs : List Str) (z : Str) (j : Nat), vs = [.str z] ∧ SqT K H2 a (zs.map V.str) ∧ zs[j]? = some z ∧ (∀ m, m < j → zs[m]? ≠ some z) ∧ Q (.int (j : Nat)) H2
variable {o e : Expr} {to : TE} {t : TA} {apos cpos : Pos}
theorem pe_tix (ho : PE X o to) (ha : PA X [e] t)
    (hbase : attributeBase o "index" X.env (eval o X.env) = eval o X.env := by rfl)
    (hfew : ((backTo cpos (starEach [e] X.env)).all (fun x => !x.1) && (backToKw cpos (keywordEach [] X.env)).all (fun x => x.1.isSome)
      && decide ([e].length + ([] : List Keyword).length + (if ([] : List Keyword).isEmpty then 0 else 1) < 30)) = true := by rfl)
    (hline : (apos.endLine == cpos.line) = true := by rfl) (hs : starEach [e] X.env = (false, eval e X.env) :: starEach [] X.env := by rfl) (hplain : (backTo cpos (starEach [] X.env)).any (·.1) = false := by rfl) :
    PE X (.Call (.Attribute o "index" apos) [e] [] cpos) (tTix X.K to t) := by
  refine ⟨fun pins s σ H Q I h => ?_⟩
  refine wpAny_Call_method_late hbase hfew hline rfl (thn (ho.run pins s σ H _ I h) fun v s1 ⟨x, H1, I1, r1, a, ys, ex, ⟨ob, hd, hob⟩, q1⟩ => ?_)
  subst ex
  cases r1
  obtain ⟨g1, _, its, _, isT⟩ := (show ObjOk X.prog X.w H1 s1.heap a (.frz ob (.tup ys)) from I1.hok a _ hob)
  refine ⟨"tuple", "tuple.index", PySem.F.plainAttrs_tuple, PySem.F.slot_tuple_index, PySem.F.type_tuple_index, isT.typeIs, fun b eb => ?_, ?_⟩
  · cases eb
    exact ⟨ob, g1, hd⟩
  · have hA := ha.run cpos pins s1 σ H1 _ I1 q1
    rw [hs] at hA ⊢
    refine Calls.callWith_builtin (by show (false || (backTo cpos (starEach [] X.env)).any (·.1)) = false; rw [hplain] <;> rfl) (Calls.evalArgs_plain ?_)
    exact thn hA fun us s2 ⟨vs, H2, I2, r2, zs, z, j, ev, q2, q3, q4, q5⟩ => mt_tup_index pins s2 σ H2 (.ref a) vs (.ref a) us Q I2 rfl r2 ⟨a, zs, z, j, rfl, ev, q2, q3, q4, q5⟩
end
end Ah
set_option Elab.async false
set_option linter.all false
set_option maxRecDepth 100000
set_option maxHeartbeats 2000000
/-! sorted(t), t a tuple (or list) of texts -/
namespace PySem
open Sem (wp)
open AutoSeq1 (wpAny_loadPart')
section
variable {prog : Program} {w : World} {A : Around} {E : Value → Shared → Prop} {s : Shared}
/-- what a sequence holds, as a list: the heap behind -/
theorem collect_at {Q : List Value → Shared → Prop} (it : Addr) {T : String} {o : Obj} {items : Array Value} {n : Nat} (hT : T = "list" ∨ T = "tuple") (ho : s.heap.get? it = some o) (hc : o.cls = .type T) (hd : o.data = .seq items n)
    (hQ : ∀ h' : Heap, (∀ b u, s.heap.get? b = some u → h'.get? b = some u) → s.heap.objs.size ≤ h'.objs.size → Q items.toList { s with heap := h' }) (hsz : items.size ≤ sizeLine) : wpAny (model prog w) A (collect (.ref it)) Q E s := by
  unfold collect
  refine wpAny_bind (wpAny_runValue (codeAny_builtin F.entry_proto_collect ?_))
  rw [Around.under_plainId F.plain_proto_collect _]
  show wpAny _ A.in1 (newList [] >>= fun l => again (.builtin "list.__iadd__" ⟨[l, .ref it], []⟩)) _ _ s
  refine wpAny_bind (wpAny_newObj_type (wpAny_pure ⟨plainId_quiet F.plain_list_iadd _, codeAny_builtin F.entry_list_iadd ?_⟩))
  rw [Around.under_plainId F.plain_list_iadd _]
  have new : (s.heap.push { cls := .type "list", data := .seq ([] : List Value).toArray }).get? s.heap.objs.size = some { cls := .type "list", data := .seq #[] 0 } := Heap.get?_push_size _ rfl
  have read : wpAny (model prog w) A (match Value.ref s.heap.objs.size with
      | Value.ref a => do
        match (← load a).data with
          | Data.seq xs _ => pure xs.toList
          | _ => unsupported "internal:collect"
      | _ => unsupported "internal:collect") Q E { s with heap := (s.heap.push { cls := .type "list", data := .seq ([] : List Value).toArray }).update s.heap.objs.size (Obj.mapSeq (· ++ items)) } := by
    show wpAny _ A (load s.heap.objs.size >>= _) _ _ _
    refine wpAny_bind (wpAny_load (Heap.get?_update_self (Obj.mapSeq (· ++ items)) new rfl) (wpAny_pure ?_))
    show Q ((#[] : Array Value) ++ items).toList _
    rw [show ((#[] : Array Value) ++ items).toList = items.toList by simp]
    refine hQ _ (fun b u hb => (Heap.get?_update_other _ _ (Nat.ne_of_gt (Heap.lt_size hb))).trans (Heap.get?_push_of_some _ hb)) ?_
    rw [Heap.size_update, PyProof.Rows.size_push']
    exact Nat.le_succ _
  show wpAny _ A.in1 (Builtin.List.listExtendWith (.ref s.heap.objs.size) (.ref it) (.ref s.heap.objs.size)) _ _ _
  refine wpAny_mono (wpAny_extend_seq (hsz := hsz) (A := A) (R := fun r s' => r = .ok (.ret (.ref s.heap.objs.size)) ∧ s' = { s with heap := (s.heap.push { cls := .type "list", data := .seq ([] : List Value).toArray }).update s.heap.objs.size (Obj.mapSeq (· ++ items)) })
    (s := { s with heap := s.heap.push { cls := .type "list", data := .seq ([] : List Value).toArray } }) _ it _ 0 hT new (Heap.get?_push_of_some _ ho) hc hd ⟨rfl, rfl⟩) (fun r s2 z => ?_) fun r s2 z => absurd z.1 (by simp)
  match r, z with
  | .done f, z =>
    obtain ⟨e, rfl⟩ := z
    cases e
    exact read
  | .again c', z =>
    refine ⟨z.1, codeAny_mono z.2 fun r s3 q => ?_⟩
    obtain ⟨rfl, rfl⟩ := q
    exact read
end
end PySem
namespace PyProof.Rows
open PySem PyProof
section
variable {prog : Program} {w : World} {A : Around} {E : Value → Shared → Prop} {s : Shared}
theorem sorted_seqS {l : Addr} {T : String} {o : Obj} {vs : List Value} {n : Nat} {ss : List Str} {Q : Value → Shared → Prop} (hT : T = "list" ∨ T = "tuple") (ho : s.heap.get? l = some o) (hc : o.cls = .type T) (hd : o.data = .seq vs.toArray n) (hS : StrsAre vs ss) (h64 : vs.length < 64)
    (h : ∀ (h' : Heap) (a e : Nat) (out : List Value) (ss' : List Str), (∀ b u, s.heap.get? b = some u → h'.get? b = some u) → s.heap.objs.size ≤ a → h'.get? a = some (seqObj "list" out.toArray e) → StrsAre out ss' → ss'.Perm ss → sortedS ss' = true → Q (.ref a) { s with heap := h' }) :
    wpAny (model prog w) A (call (.builtin "sorted") [.ref l]) Q E s := by
  refine Calls.call_function_entry kind_sorted plain_sorted entry_sorted (args_sorted1 _) ?_
  unfold Builtin.«sorted»
  refine wpAny_bind (m := checkCount "sorted" 1 1 _) (wpAny_pure ?_)
  have hz : vs.toArray.size ≤ sizeLine := by rw [List.size_toArray, sizeLine_eq]; omega
  refine wpAny_bind (PySem.collect_at l hT ho hc hd (fun h1 k1 big => ?_) hz)
  refine wpAny_bind (wpAny_newList ?_)
  have hoL : (h1.push (seqObj "list" vs.toArray 0)).get? h1.objs.size = some (seqObj "list" vs.toArray 0) := Heap.get?_push_size _ rfl
  show wpAny _ _ _ _ _ { s with heap := h1.push (seqObj "list" vs.toArray 0) }
  refine wpAny_bind (wpAny_holding (wpAny_call_entry slot_list_sort ⟨_, hoL, rfl⟩ entry_list_sort (list_sort_treeK strKind_oneLt hoL hS.keysOf (fun v₁ v₂ rest e => keyKind_strs (by rw [← e]; exact hS)) h64 fun st' a1 a2 => ⟨_, rfl, ?_⟩) (args_list_sort _)))
  refine wpAny_pure ⟨_, rfl, ?_⟩
  obtain ⟨ss', b1, b2, b3⟩ := sorted_out_str hS a1 a2
  obtain ⟨e, he⟩ := sortedHeap_at (out := (arrOf st').map (·.2)) hoL
  refine h _ _ e ((arrOf st').map (·.2)).toList ss' (fun b u hb => ?_) big he b1 b2 b3
  have hb1 := k1 b u hb
  have hlt := Heap.lt_size hb1
  rw [sortedHeap_old (Nat.ne_of_lt hlt) (by rw [size_push']; exact Nat.lt_succ_of_lt hlt)]
  exact Heap.get?_push_of_some _ hb1
end
end PyProof.Rows
namespace Ah
open PySem PySem.Spec PyProof.Rows L2
def rSortedTS (K : PySem.W.Frag) : List V → Hp → VK → Prop := fun vs H Q => ∃ (a : Addr) (xs : List Str), vs = [V.ref a] ∧ (SqL K H a (xs.map V.str) ∨ SqT K H a (xs.map V.str)) ∧ xs.length < 64 ∧ ∀ (ys : List Str) (p : Addr), ys.Perm xs → sortedS ys = true → H p = none → Q (.ref p) (upd H p (.lst (ys.map V.str)))
section
variable {X : Cx}
theorem cr_sortedTS : CallR X (.builtin "sorted") (rSortedTS X.K) := by
  intro pins s σ H vs us Q I r h
  obtain ⟨a, xs, rfl, hs, h64, q⟩ := h
  have fin : ∀ (h' : Heap) (a e : Nat) (out : List Value) (ys : List Str), (∀ b u, s.heap.get? b = some u → h'.get? b = some u) → s.heap.objs.size ≤ a → h'.get? a = some (seqObj "list" out.toArray e) → StrsAre out ys → ys.Perm xs → sortedS ys = true → EP X pins σ Q (.ref a) { s with heap := h' } := fun h' a e out ys k ha he h1 h2 h3 => by
    have hlen : (ys.map V.str).length ≤ sizeLine := by rw [List.length_map, h2.length_eq]; exact small64 h64
    exact ⟨.ref _, upd H a (.lst (ys.map V.str)), I.laid (t' := s.toks) k ha ⟨hlen, out, e, vals_of_strs h1, he⟩, rfl, q ys _ h2 h3 (I.hok.fresh ha)⟩
  rcases hs with hs | hs
  · obtain ⟨its, rv, ⟨o, n, e, c, d, dd⟩, _⟩ := I.list hs
    rw [Vals.ref1 r]
    have hlen0 := rv.length
    rw [List.length_map] at hlen0
    exact PyProof.Rows.sorted_seqS (.inl rfl) e c dd rv.strs (by rw [← hlen0]; exact h64) fin
  · obtain ⟨its, rv, ⟨o, e, c, n, dd⟩, _⟩ := I.tuple hs
    rw [Vals.ref1 r]
    have hlen0 := rv.length
    rw [List.length_map] at hlen0
    exact PyProof.Rows.sorted_seqS (.inr rfl) e c dd rv.strs (by rw [← hlen0]; exact h64) fin
end
end Ah
set_option Elab.async false
set_option linter.all false
set_option maxRecDepth 100000
set_option maxHeartbeats 4000000
namespace Ah
open PySem PySem.Spec PyProof.Rows L2
theorem drop_one {α : Type} {l : List α} {p : Nat} {x : α} (h : l[p]? = some x) : (l.drop p).take 1 = [x] := by
  obtain ⟨hp, e⟩ := List.getElem?_eq_some_iff.mp h
  rw [List.drop_eq_getElem_cons hp, e]
  rfl
theorem rd_to {H : Hp} {a : Addr} {xs ys : List V} (h : Rd H a (.tup xs)) (e : xs = ys) : Rd H a (.tup ys) := e ▸ h
theorem slA {K : PySem.W.Frag} {H : Hp} {a : Addr} {xs : List V} {lo hi : Option Int} {Q : VK} (ha : Rd H a (.tup xs)) (k : ∀ b H', Same H H' → Rd H' b (.tup (cutV xs lo hi)) → Q (.ref b) H') : rSlA K (.ref a) lo hi H Q := by
  refine ⟨a, xs, rfl, .inl ha, fun w => k a H (Same.refl H) ?_, fun _ b hb => k b _ (same_new hb) (.inl upd_same)⟩
  unfold cutV
  rw [w.1, w.2, List.drop_zero, Nat.sub_zero, List.take_length]
  exact ha
theorem catA {K : PySem.W.Frag} {H : Hp} {a b : Addr} {xs ys : List V} {Q : VK} (ha : Rd H a (.tup xs)) (hb : Rd H b (.tup ys)) (hz : xs.length + ys.length ≤ 1000) (k : ∀ c H', Same H H' → Rd H' c (.tup (xs ++ ys)) → Q (.ref c) H') : rCatA K (.ref a) (.ref b) H Q := by
  refine ⟨a, b, xs, ys, rfl, rfl, .inl ha, .inl hb, ?_, fun e => ?_, fun _ e => ?_, fun _ _ c hc => k c _ (same_new hc) (.inl upd_same)⟩
  · exact Nat.le_of_lt (small1000 hz)
  · subst e
    exact k b H (Same.refl H) hb
  · subst e
    exact k a H (Same.refl H) (by rw [List.append_nil]; exact ha)
theorem cutV_to {xs : List V} {p : Nat} (h : p ≤ xs.length) : cutV xs none (some (p : Int)) = xs.take p := by
  unfold cutV
  rw [HT.sIx_none, HT.sIx_nat, List.drop_zero, Nat.sub_zero, Nat.min_eq_left h]
theorem cutV_from {xs : List V} {p : Nat} (h : p ≤ xs.length) : cutV xs (some (p : Int)) none = xs.drop p := by
  unfold cutV
  rw [HT.sIx_none, HT.sIx_nat, Nat.min_eq_left h]
  exact List.take_of_length_le (by rw [List.length_drop]; omega)
section
variable {P : Program} {w : World} {K : PySem.W.Frag} {mg : Str → Option Value} {base : Heap}
end
end Ah
set_option Elab.async false
set_option linter.all false
set_option maxRecDepth 100000
set_option maxHeartbeats 4000000
namespace Ah
open PySem PySem.Spec PyProof.Rows L2
theorem newF {H : Hp} {xs : List V} {Q : VK} (k : ∀ b H', Same H H' → Ftp H' b xs → Q (.ref b) H') : NewF H xs Q := fun p o d hp => k p _ (same_new hp) ⟨o, d, upd_same⟩
theorem ftp_kp {p a : Addr} {xs : List V} {H H' : Hp} (k : Kp p H H') {kvs : List (Key × V)} (hp : H p = some (.dK kvs)) (h : Ftp H a xs) : Ftp H' a xs := by
  obtain ⟨o, d, h⟩ := h
  refine ⟨o, d, k a _ (fun e => ?_) h⟩
  rw [e, hp] at h
  cases h
theorem catF {K : PySem.W.Frag} {H : Hp} {a b : Addr} {xs ys : List V} {Q : VK} (ha : Rd H a (.tup xs)) (hb : Rd H b (.tup ys)) (h1 : xs = [] → Ftp H b ys) (h2 : ys = [] → Ftp H a xs) (hz : xs.length + ys.length ≤ 1000) (k : ∀ c H', Same H H' → Ftp H' c (xs ++ ys) → Q (.ref c) H') : rCatF K (.ref a) (.ref b) H Q := by
  refine ⟨a, b, xs, ys, rfl, rfl, .inl ha, .inl hb, Nat.le_of_lt (small1000 hz), fun e => ?_, fun _ e => ?_, fun _ _ => newF k⟩
  · have := h1 e
    subst e
    exact k b H (Same.refl H) this
  · have := h2 e
    subst e
    exact k a H (Same.refl H) (by rw [List.append_nil]; exact this)
theorem perm_map_inv {α β : Type} {f : α → β} {l ys : List β} (h : ys.Perm l) : ∀ {xs : List α}, l = xs.map f → ∃ zs : List α, zs.Perm xs ∧ ys = zs.map f := by
  induction h with
  | nil =>
    intro xs e
    cases xs with
    | nil => exact ⟨[], .nil, rfl⟩
    | cons _ _ => cases e
  | cons x _ ih =>
    intro xs e
    cases xs with
    | nil => cases e
    | cons a r =>
      obtain ⟨rfl, e2⟩ := List.cons.inj e
      obtain ⟨zs, h1, h2⟩ := ih e2
      exact ⟨a :: zs, h1.cons a, by rw [List.map_cons, h2]⟩
  | swap x y l =>
    intro xs e
    cases xs with
    | nil => cases e
    | cons a r =>
      obtain ⟨rfl, e2⟩ := List.cons.inj e
      cases r with
      | nil => cases e2
      | cons b t =>
        obtain ⟨rfl, rfl⟩ := List.cons.inj e2
        exact ⟨b :: a :: t, List.Perm.swap a b t, rfl⟩
  | trans _ _ ih1 ih2 =>
    intro xs e
    obtain ⟨zs, h1, h2⟩ := ih2 e
    obtain ⟨ws, h3, h4⟩ := ih1 h2
    exact ⟨ws, h3.trans h1, h4⟩
abbrev sLawRow : Stmt := topS 30
section
variable {P : Program} {w : World} {K : PySem.W.Frag} {mg : Str → Option Value} {base : Heap}
theorem scLawRow : FnScope ["pen", "hands"] ["pen", "hands"] (defScope sLawRow) := ⟨rfl, rfl, rfl, by decide +kernel, rfl, by decide +kernel, by decide +kernel⟩
def spLawRow : Sp := fun vs H Q _ => ∃ (p c a : Addr) (xs : List Str) (n : Nat), vs = [.ref p, .ref a] ∧ LTu H a (xs.map V.str) ∧ (∀ x ∈ xs, IsHand x) ∧ xs.length ≤ 60 ∧ PenAt H p c n ∧ n + 60 < 1000000 ∧
  ∀ (b : Addr) (ys : List Str) (H' : Hp), ys.Perm xs → Ftp H' b (ys.map V.str) → PenAt H' p c (n + xs.length) → Kp p H H' → Q (.ref b) H'
theorem ok_lawRow {f f1 : Addr} {fd fd1 : FuncData} (F : Fun K "_law_row" "_law_row" sLawRow f fd) (B : Blt2 mg) (D : Df P w K mg base CX0 "_law_shuffled" 2 f1 fd1 ["pen", "some"] (spShuf K)) : FnOk P w K mg base CX0 3 f fd ["pen", "hands"] spLawRow := by
  refine F.ok scLawRow (fun vs H Q E h => ?_) (fun cdv A outer s H vs Q E hr h => ?_)
  · obtain ⟨p, c, a, xs, n, rfl, _⟩ := h
    rfl
  · obtain ⟨p, c, a, xs, n, rfl, ha, hh, hl, hp, hn, k⟩ := h
    refine ⟨_, pss_one (ps_ret (pe_callTy call_tuple_ofF (by rfl) B.tuple (by decide +kernel) (pa_cons (pe_call D.ok hr rfl D.g D.kp D.b .nil pass0 (pa_cons (pv 0) (pa_cons (pe_callB cr_sortedTS (by rfl) B.sorted (by decide +kernel) (pa_cons (pv 1) pa_nil)) pa_nil))) pa_nil))), ?_⟩
    refine ⟨_, rfl, _, rfl, a, xs, rfl, ha.sq, by omega, fun ys s py sy hs => ?_⟩
    have hy : ∀ y ∈ ys, IsHand y := fun y z => hh y (py.mem_iff.mp z)
    refine ⟨p, c, s, ys.map V.str, ys.map PyData.str, n, rfl, .inl (SqL.of upd_same), dp_strs ys, fun d hd => ?_, ?_, hp.keep (same_new hs), ?_, fun q zs H2 pz hq eq hp2 kp2 => ?_⟩
    · obtain ⟨y, z, rfl⟩ := List.mem_map.mp hd
      exact shp_str (hy y z).ok
    · rw [List.length_map, py.length_eq]
      omega
    · rw [List.length_map, py.length_eq]
      omega
    obtain ⟨ws, pw, rfl⟩ := perm_map_inv pz rfl
    refine ⟨q, ws.map V.str, rfl, SqL.of eq, newF fun b H3 s3 f3 => ?_⟩
    rw [List.length_map, py.length_eq] at hp2
    exact k b ws H3 (pw.trans py) f3 (hp2.keep s3) ((Kp.new hs).trans (kp2.trans (Kp.same s3)))
end
end Ah
set_option Elab.async false
set_option linter.all false
set_option maxRecDepth 100000
set_option maxHeartbeats 4000000
namespace Ah
open PySem PySem.Spec PyProof.Rows L2
/-- over a tuple's numbered items, a dict -/
theorem dc_enumT {K : PySem.W.Frag} {a : Addr} {xs : List V} {g : TG} {tt : TT} {tk tv : TE} {vs : List Nat} {σ : L2.St} {H1 : Hp} {D : Addr} {Qd : Hp → Prop} (Pv : Nat → Hp → Prop) (h0 : Pv 0 (upd H1 D (.dK []))) (hl : ∀ i H, i ≤ xs.length → Pv i H → SqT K H a xs)
    (hs : ∀ i x H T, xs[i]? = some x → Pv i H → H T = none → g (.ref T) (wipe σ vs) (upd H T (.tup [.int (i : Nat), x])) fun σ2 H2 => wipe σ2 vs = wipe σ vs ∧ tt σ2 H2 fun b H3 =>
      if b = true then tk σ2 H3 fun y H4 => tv σ2 H4 fun z H5 => ∃ kvs k, y = kV k ∧ H5 D = some (.dK kvs) ∧ kvs.length < sizeLine ∧ Pv (i + 1) (upd H5 D (.dK (putK kvs k z))) else Pv (i + 1) H3) (hd : ∀ H, Pv xs.length H → Qd H) :
    ∃ W : Nat → Nat → Hp → Prop, (∃ m, W 0 m (upd H1 D (.dK []))) ∧ ∀ i m H, W i m H →
      ((IteT K a).stop i H ∧ Qd H) ∨ ((IteT K a).go i H ∧ ∃ Nx : Hp → Prop, (∀ H', Nx H' → ∃ m', m' < m ∧ W (i + 1) m' H') ∧ ∀ x H', (IteT K a).yld i H x H' → g x (wipe σ vs) H' fun σ2 H2 => wipe σ2 vs = wipe σ vs ∧ tt σ2 H2 fun b H3 =>
        if b = true then tk σ2 H3 fun y H4 => tv σ2 H4 fun z H5 => ∃ kvs k, y = kV k ∧ H5 D = some (.dK kvs) ∧ kvs.length < sizeLine ∧ Nx (upd H5 D (.dK (putK kvs k z))) else Nx H3) := by
  refine ⟨fun i m H => m = xs.length - i ∧ i ≤ xs.length ∧ Pv i H, ⟨xs.length, by simp, Nat.zero_le _, h0⟩, ?_⟩
  rintro i m H ⟨rfl, hi, p⟩
  have q := hl i H hi p
  by_cases hlt : i < xs.length
  · refine .inr ⟨⟨xs, xs[i], q, by simp [hlt]⟩, Pv (i + 1), fun H' p' => ⟨xs.length - (i + 1), by omega, rfl, hlt, p'⟩, fun x H' y => ?_⟩
    obtain ⟨T, u, rfl, hT, rfl, y⟩ := y
    exact hs i u _ T (y xs q) p hT
  · have e : i = xs.length := by omega
    subst e
    exact .inl ⟨⟨xs, q, Nat.le_refl _⟩, hd H p⟩
/-- where each of them stands -/
def SpotsN (H : Hp) (D : Addr) (xs : List Str) (n : Nat) : Prop := ∃ kvs, H D = some (.dK kvs) ∧ kvs.length ≤ n ∧ ∀ j x, j < n → xs[j]? = some x → valV kvs (Sum.inr x : Key) = some (.int (j : Nat))
theorem SpotsN.same {H H' : Hp} {D : Addr} {xs : List Str} {n : Nat} (k : Same H H') (h : SpotsN H D xs n) : SpotsN H' D xs n := by
  obtain ⟨kvs, h1, h2⟩ := h
  exact ⟨kvs, k _ _ h1, h2⟩
theorem SpotsN.put {H : Hp} {D : Addr} {xs : List Str} {n : Nat} {x : Str} (nd : xs.Nodup) (hx : xs[n]? = some x) (h : SpotsN H D xs n) (hn : n ≤ 1000) :
    ∃ kvs, H D = some (.dK kvs) ∧ kvs.length < sizeLine ∧ SpotsN (upd H D (.dK (putK kvs (Sum.inr x : Key) (.int (n : Nat))))) D xs (n + 1) := by
  obtain ⟨kvs, h1, h2, h3⟩ := h
  refine ⟨kvs, h1, small1000 (by omega), _, upd_same, ?_, fun j y hj hy => ?_⟩
  · exact Nat.le_trans (DSub.putK_len _ _ _) (by omega)
  · rw [valV_put]
    by_cases e : j = n
    · subst e
      rw [hx] at hy
      obtain rfl := Option.some.inj hy
      rw [if_pos rfl]
    · have hl := (List.getElem?_eq_some_iff.mp hy)
      have hl2 := (List.getElem?_eq_some_iff.mp hx)
      rw [if_neg (fun z => e ?_)]
      · exact h3 j y (by omega) hy
      · obtain ⟨a1, a2⟩ := hl
        obtain ⟨b1, b2⟩ := hl2
        have z' : y = x := Sum.inr.inj z
        exact nd_inj nd a1 b1 (by rw [a2, b2, z'])
theorem none_of {H H' : Hp} {a : Addr} (k : Same H H') (h : H' a = none) : H a = none := by
  cases e : H a with
  | none => rfl
  | some o => rw [k a o e] at h; cases h
theorem getD_at {xs : List Str} {i : Nat} (h : i < xs.length) : xs[i]? = some (xs.getD i default) := by
  rw [List.getD_eq_getElem?_getD, List.getElem?_eq_getElem h]
  rfl
theorem idx_at {ys : List Str} {x : Str} (h : x ∈ ys) : ys[ys.idxOf x]? = some x := by
  have hl := List.idxOf_lt_length_of_mem h
  rw [List.getElem?_eq_getElem hl, List.getElem_idxOf hl]
theorem SpotsN.start {H : Hp} {D : Addr} {xs : List Str} : SpotsN (upd H D (.dK [])) D xs 0 := ⟨[], upd_same, Nat.le_refl _, fun j _ h => absurd h (Nat.not_lt_zero _)⟩
theorem spots_get {H : Hp} {D : Addr} {xs : List Str} {j : Nat} {x : Str} (h : SpotsN H D xs xs.length) (hx : xs[j]? = some x) : DGet H D (.str x) (some (.int (j : Nat))) := by
  obtain ⟨kvs, h1, _, h3⟩ := h
  have q := DGet.k (k := (Sum.inr x : Key)) h1
  rw [h3 j x (List.getElem?_eq_some_iff.mp hx).1 hx] at q
  exact q
section
variable {P : Program} {w : World} {K : PySem.W.Frag} {mg : Str → Option Value} {base : Heap}
end
end Ah
set_option Elab.async false
set_option linter.all false
set_option maxRecDepth 100000
set_option maxHeartbeats 4000000
namespace Ah
open PySem PySem.Spec PyProof.Rows L2
open PySem.W (AllAlike Sortable)
/-- one walk over a tuple's numbered items -/
theorem out_enumT {K : PySem.W.Frag} {a : Addr} {xs : List V} {H0 : Hp} {Qd : Hp → Prop} {body : V → Hp → (Hp → Prop) → Prop} (Pv : Nat → Hp → Prop) (h0 : Pv 0 H0) (hl : ∀ i H, i ≤ xs.length → Pv i H → SqT K H a xs)
    (hs : ∀ i x H T, xs[i]? = some x → Pv i H → H T = none → body (.ref T) (upd H T (.tup [.int (i : Nat), x])) (Pv (i + 1))) (hd : ∀ H, Pv xs.length H → Qd H) :
    ∃ W : Nat → Nat → Hp → Prop, (∃ m, W 0 m H0) ∧ ∀ i m H, W i m H →
      ((IteT K a).stop i H ∧ Qd H) ∨ ((IteT K a).go i H ∧ ∃ Nx : Hp → Prop, (∀ H', Nx H' → ∃ m', m' < m ∧ W (i + 1) m' H') ∧ ∀ x H', (IteT K a).yld i H x H' → body x H' Nx) := by
  refine ⟨fun i m H => m = xs.length - i ∧ i ≤ xs.length ∧ Pv i H, ⟨xs.length, by simp, Nat.zero_le _, h0⟩, ?_⟩
  rintro i m H ⟨rfl, hi, p⟩
  have q := hl i H hi p
  by_cases hlt : i < xs.length
  · refine .inr ⟨⟨xs, xs[i], q, by simp [hlt]⟩, Pv (i + 1), fun H' p' => ⟨xs.length - (i + 1), by omega, rfl, hlt, p'⟩, fun x H' y => ?_⟩
    obtain ⟨T, u, rfl, hT, rfl, y⟩ := y
    exact hs i u _ T (y xs q) p hT
  · have e : i = xs.length := by omega
    subst e
    exact .inl ⟨⟨xs, q, Nat.le_refl _⟩, hd H p⟩
/-- one walk over a tuple -/
theorem out_tup {K : PySem.W.Frag} {a : Addr} {xs : List V} {H0 : Hp} {Qd : Hp → Prop} {body : V → Hp → (Hp → Prop) → Prop} (Pv : Nat → Hp → Prop) (h0 : Pv 0 H0) (hl : ∀ i H, i ≤ xs.length → Pv i H → SqT K H a xs)
    (hs : ∀ i x H, xs[i]? = some x → Pv i H → body x H (Pv (i + 1))) (hd : ∀ H, Pv xs.length H → Qd H) :
    ∃ W : Nat → Nat → Hp → Prop, (∃ m, W 0 m H0) ∧ ∀ i m H, W i m H →
      ((Itt K a).stop i H ∧ Qd H) ∨ ((Itt K a).go i H ∧ ∃ Nx : Hp → Prop, (∀ H', Nx H' → ∃ m', m' < m ∧ W (i + 1) m' H') ∧ ∀ x H', (Itt K a).yld i H x H' → body x H' Nx) := by
  refine ⟨fun i m H => m = xs.length - i ∧ i ≤ xs.length ∧ Pv i H, ⟨xs.length, by simp, Nat.zero_le _, h0⟩, ?_⟩
  rintro i m H ⟨rfl, hi, p⟩
  have q := hl i H hi p
  by_cases hlt : i < xs.length
  · refine .inr ⟨⟨xs, xs[i], q, by simp [hlt]⟩, Pv (i + 1), fun H' p' => ⟨xs.length - (i + 1), by omega, rfl, hlt, p'⟩, fun x H' y => ?_⟩
    obtain ⟨rfl, y⟩ := y
    exact hs i x _ (y xs q) p
  · have e : i = xs.length := by omega
    subst e
    exact .inl ⟨⟨xs, q, Nat.le_refl _⟩, hd H p⟩
/-- how many pairs stand the other way round by rk -/
def cntLt (rk : Str → Nat) (a : Str) (l : List Str) : Nat := (l.filter fun b => decide (rk b < rk a)).length
def invsN (rk : Str → Nat) (xs : List Str) (n : Nat) : Nat := ((List.range n).map fun k => cntLt rk (xs.getD k default) (xs.drop (k + 1))).sum
def invs (rk : Str → Nat) (xs : List Str) : Nat := invsN rk xs xs.length
theorem invsN_succ (rk : Str → Nat) (xs : List Str) (n : Nat) : invsN rk xs (n + 1) = invsN rk xs n + cntLt rk (xs.getD n default) (xs.drop (n + 1)) := by
  unfold invsN
  rw [List.range_succ, List.map_append, List.sum_append]
  simp
theorem cntLt_le (rk : Str → Nat) (a : Str) (l : List Str) : cntLt rk a l ≤ l.length := List.length_filter_le _ _
theorem invsN_le (rk : Str → Nat) (xs : List Str) : ∀ n, invsN rk xs n ≤ n * xs.length
  | 0 => by simp [invsN]
  | n + 1 => by
    rw [invsN_succ, Nat.succ_mul]
    have := invsN_le rk xs n
    have h2 := cntLt_le rk (xs.getD n default) (xs.drop (n + 1))
    rw [List.length_drop] at h2
    omega
def prD (p : Str × Str) : PyData := .tuple [.str p.1, .str p.2]
theorem dpAll_snoc {K : PySem.W.Frag} {H : Hp} : ∀ {vs : List V} {ds : List PyData} {v : V} {d : PyData}, DpAll K H vs ds → Dp K H v d → DpAll K H (vs ++ [v]) (ds ++ [d])
  | _, _, _, _, .nil, h => .cons h .nil
  | _, _, _, _, .cons h t, h' => .cons h (dpAll_snoc t h')
theorem prs_alike (ps : List (Str × Str)) : AllAlike (ps.map prD) := AllAlike.of fun b b' => by
  unfold prD
  simp [PySem.W.alike, PySem.W.alikeAll]
theorem prs_sortable (ps : List (Str × Str)) : Sortable (ps.map prD) := Sortable.tuples fun b => ⟨_, _, rfl⟩
theorem prs_depth (ps : List (Str × Str)) : ∀ d ∈ ps.map prD, d.depth ≤ 60 := by
  intro d hd
  obtain ⟨p, _, rfl⟩ := List.mem_map.mp hd
  unfold prD
  simp [PyData.depth, PyData.depthAll]
def PrAt (H : Hp) (v : V) : Prop := ∃ (T : Addr) (p : Str × Str), v = .ref T ∧ H T = some (.tup [.str p.1, .str p.2])
def PrsAt (H : Hp) (D : Addr) (m : Nat) : Prop := ∃ acc : List V, H D = some (.lst acc) ∧ (∀ v ∈ acc, PrAt H v) ∧ acc.length = m
theorem rd_ne {H : Hp} {b D : Addr} {acc xs : List V} (hD : H D = some (.lst acc)) (h : Rd H b (.tup xs)) : b ≠ D := fun z => by
  subst z
  rcases h with h | ⟨o, h⟩
  · rw [hD] at h; cases h
  · rw [hD] at h; cases h
theorem PrAt.same {H H' : Hp} {v : V} (k : Same H H') (h : PrAt H v) : PrAt H' v := by
  obtain ⟨T, p, e, h⟩ := h
  exact ⟨T, p, e, k _ _ h⟩
theorem PrAt.mut {H : Hp} {v : V} {D : Addr} {acc acc' : List V} (hD : H D = some (.lst acc)) (h : PrAt H v) : PrAt (upd H D (.lst acc')) v := by
  obtain ⟨T, p, e, h⟩ := h
  refine ⟨T, p, e, ?_⟩
  rw [upd_ne (fun z => by rw [z, hD] at h; cases h)]
  exact h
theorem PrsAt.same {H H' : Hp} {D : Addr} {m : Nat} (k : Same H H') (h : PrsAt H D m) : PrsAt H' D m := by
  obtain ⟨acc, h1, h2, h3⟩ := h
  exact ⟨acc, k _ _ h1, fun v hv => (h2 v hv).same k, h3⟩
theorem PrsAt.snoc {H : Hp} {D T : Addr} {m : Nat} {a b : Str} (hT : H T = none) (hm : m ≤ 1000) (h : PrsAt H D m) : ∃ acc, upd H T (.tup [.str a, .str b]) D = some (.lst acc) ∧ acc.length < sizeLine ∧ PrsAt (upd (upd H T (.tup [.str a, .str b])) D (.lst (acc ++ [.ref T]))) D (m + 1) := by
  obtain ⟨acc, h1, h2, h3⟩ := h.same (same_new (o := .tup [.str a, .str b]) hT)
  refine ⟨acc, h1, small1000 (by omega), acc ++ [.ref T], upd_same, fun v hv => ?_, by rw [List.length_append, h3]; rfl⟩
  rcases List.mem_append.mp hv with z | z
  · exact (h2 v z).mut h1
  · rw [List.mem_singleton.mp z]
    exact PrAt.mut h1 ⟨T, (a, b), rfl, upd_same⟩
theorem prs_data {K : PySem.W.Frag} {H : Hp} : ∀ {acc : List V}, (∀ v ∈ acc, PrAt H v) → ∃ ps : List (Str × Str), DpAll K H acc (ps.map prD)
  | [], _ => ⟨[], .nil⟩
  | v :: acc, h => by
    obtain ⟨ps, hp⟩ := prs_data (K := K) fun u hu => h u (List.mem_cons_of_mem _ hu)
    obtain ⟨T, p, rfl, hT⟩ := h v List.mem_cons_self
    exact ⟨p :: ps, .cons (.tup (.inl (.inl hT)) (.cons (.str _) (.cons (.str _) .nil))) hp⟩
theorem prs_sorted {K : PySem.W.Frag} {H : Hp} {D : Addr} {m : Nat} {Q : VK} (h : PrsAt H D m) (k : ∀ b zs, H b = none → zs.length = m → Q (.ref b) (upd H b (.lst zs))) : rSortedD K [.ref D] H Q := by
  obtain ⟨acc, h1, h2, h3⟩ := h
  obtain ⟨ps, hp⟩ := prs_data (K := K) h2
  exact ⟨D, acc, ps.map prD, rfl, SqL.of h1, hp, prs_alike ps, prs_sortable ps, prs_depth ps, fun ys b hy _ hb => k b ys hb (by rw [hy.length_eq, h3])⟩
section
variable {P : Program} {w : World} {K : PySem.W.Frag} {mg : Str → Option Value} {base : Heap}
end
end Ah
set_option Elab.async false
set_option linter.all false
namespace Ah
/-! ### pairs: what follows of them -/
/-- a row of pairs leads from the one to the other -/
inductive Lead {α : Type} (ps : List (α × α)) : α → α → Prop
  | one {a b : α} : (a, b) ∈ ps → Lead ps a b
  | step {a b c : α} : Lead ps a b → (b, c) ∈ ps → Lead ps a c
section
variable {α : Type}
theorem Lead.trans {ps : List (α × α)} {a b c : α} (h : Lead ps a b) (k : Lead ps b c) : Lead ps a c := by
  induction k with
  | one m => exact .step h m
  | step _ m ih => exact .step ih m
theorem Lead.sub {ps qs : List (α × α)} {a b : α} (s : ∀ x y, (x, y) ∈ ps → Lead qs x y) (h : Lead ps a b) : Lead qs a b := by
  induction h with
  | one m => exact s _ _ m
  | step _ m ih => exact ih.trans (s _ _ m)
theorem Lead.left {ps : List (α × α)} {hs : List α} (s : ∀ x y, (x, y) ∈ ps → x ∈ hs ∧ y ∈ hs) {a b : α} (h : Lead ps a b) : a ∈ hs ∧ b ∈ hs := by
  induction h with
  | one m => exact s _ _ m
  | step _ m ih => exact ⟨ih.1, (s _ _ m).2⟩
/-- what is led to, if it is closed, is what stands there -/
theorem Lead.closed {ps : List (α × α)} (t : ∀ x y z, (x, y) ∈ ps → (y, z) ∈ ps → (x, z) ∈ ps) {a b : α} : Lead ps a b ↔ (a, b) ∈ ps := by
  refine ⟨fun h => ?_, .one⟩
  induction h with
  | one m => exact m
  | step _ m ih => exact t _ _ _ ih m
theorem Lead.same {ps qs : List (α × α)} (e : ∀ x y, (x, y) ∈ qs ↔ Lead ps x y) {a b : α} : Lead qs a b ↔ Lead ps a b := by
  rw [Lead.closed fun x y z h k => (e _ _).mpr (((e _ _).mp h).trans ((e _ _).mp k))]
  exact e a b
theorem Lead.congr {ps qs : List (α × α)} (e : ∀ p, p ∈ ps ↔ p ∈ qs) {a b : α} : Lead ps a b ↔ Lead qs a b :=
  ⟨Lead.sub fun _ _ h => .one ((e _).mp h), Lead.sub fun _ _ h => .one ((e _).mpr h)⟩
/-! one hand behind the other: all ways by it -/
def via (R : α → α → Prop) (b a c : α) : Prop := R a c ∨ (R a b ∧ R b c)
def vias (R : α → α → Prop) : List α → α → α → Prop
  | [] => R
  | b :: bs => vias (via R b) bs
theorem vias_snoc (R : α → α → Prop) : ∀ (bs : List α) (b : α), vias R (bs ++ [b]) = via (vias R bs) b := by
  intro bs
  induction bs generalizing R with
  | nil => intro b; rfl
  | cons c bs ih => intro b; exact ih (via R c) b
theorem vias_grows {R : α → α → Prop} : ∀ (bs : List α) {a c : α}, R a c → vias R bs a c := by
  intro bs
  induction bs generalizing R with
  | nil => exact fun h => h
  | cons b bs ih => exact fun h => ih (.inl h)
theorem via_thru {R : α → α → Prop} {b d : α} (t : ∀ a c, R a d → R d c → R a c) : ∀ a c, via R b a d → via R b d c → via R b a c := by
  intro a c h k
  rcases h with h | ⟨h1, h2⟩ <;> rcases k with k | ⟨k1, k2⟩
  · exact .inl (t a c h k)
  · exact .inr ⟨t a b h k1, k2⟩
  · exact .inr ⟨h1, t b c h2 k⟩
  · exact .inr ⟨h1, k2⟩
theorem via_self {R : α → α → Prop} {b : α} : ∀ a c, via R b a b → via R b b c → via R b a c := by
  intro a c h k
  have h' : R a b := by
    rcases h with h | h
    · exact h
    · exact h.1
  have k' : R b c := by
    rcases k with k | k
    · exact k
    · exact k.2
  exact .inr ⟨h', k'⟩
theorem vias_thru {R : α → α → Prop} : ∀ (bs : List α) (d : α), (d ∈ bs ∨ ∀ a c, R a d → R d c → R a c) → ∀ a c, vias R bs a d → vias R bs d c → vias R bs a c := by
  intro bs
  induction bs generalizing R with
  | nil =>
    intro d h
    rcases h with h | h
    · cases h
    · exact h
  | cons b bs ih =>
    intro d h
    rcases h with h | h
    · rcases List.mem_cons.mp h with h | h
      · subst h
        exact ih d (.inr via_self)
      · exact ih d (.inl h)
    · exact ih d (.inr (via_thru h))
theorem vias_lead {ps : List (α × α)} {R : α → α → Prop} : ∀ (bs : List α), (∀ a c, R a c → Lead ps a c) → ∀ {a c : α}, vias R bs a c → Lead ps a c := by
  intro bs
  induction bs generalizing R with
  | nil => exact fun h a c => h a c
  | cons b bs ih =>
    refine fun h => ih fun a c k => ?_
    rcases k with k | ⟨k1, k2⟩
    · exact h _ _ k
    · exact (h _ _ k1).trans (h _ _ k2)
/-- gone through all hands: just what follows -/
theorem vias_all {ps : List (α × α)} {hs : List α} (s : ∀ x y, (x, y) ∈ ps → x ∈ hs ∧ y ∈ hs) {a c : α} : vias (fun x y => (x, y) ∈ ps) hs a c ↔ Lead ps a c := by
  refine ⟨vias_lead hs fun _ _ h => .one h, fun h => ?_⟩
  induction h with
  | one m => exact vias_grows hs m
  | step _ m ih => exact vias_thru hs _ (.inl (s _ _ m).1) _ _ ih (vias_grows hs m)
end
section
variable {α : Type} [BEq α] [LawfulBEq α]
/-- pairs that a row keeps -/
def KeepR (row : List α) (ps : List (α × α)) : Prop := ∀ x y, (x, y) ∈ ps → x ∈ row ∧ y ∈ row ∧ row.idxOf x < row.idxOf y
theorem KeepR.lead {row : List α} {ps : List (α × α)} (k : KeepR row ps) {a b : α} (h : Lead ps a b) : a ∈ row ∧ b ∈ row ∧ row.idxOf a < row.idxOf b := by
  induction h with
  | one m => exact k _ _ m
  | step _ m ih =>
    obtain ⟨h1, h2, h3⟩ := k _ _ m
    exact ⟨ih.1, h2, Nat.lt_trans ih.2.2 h3⟩
theorem KeepR.irr {row : List α} {ps : List (α × α)} (k : KeepR row ps) {a : α} : ¬ Lead ps a a := fun h => Nat.lt_irrefl _ (k.lead h).2.2
theorem KeepR.of_lead {row : List α} {ps qs : List (α × α)} (k : KeepR row ps) (e : ∀ x y, (x, y) ∈ qs → Lead ps x y) : KeepR row qs := fun x y h => k.lead (e x y h)
/-! hands taken off: those with none of the rest ahead of them -/
def aheadOf (ps : List (α × α)) (left : List α) (b : α) : List α := left.filter fun a => ps.contains (a, b)
def peel (ps : List (α × α)) (left : List α) : List α := left.filter fun b => !(aheadOf ps left b).isEmpty
theorem least_of (f : α → Nat) : ∀ (l : List α), l ≠ [] → ∃ m ∈ l, ∀ x ∈ l, f m ≤ f x
  | [], h => absurd rfl h
  | [a], _ => ⟨a, List.mem_singleton.mpr rfl, fun x hx => by rw [List.mem_singleton.mp hx]; exact Nat.le_refl _⟩
  | a :: b :: l, _ => by
    obtain ⟨m, hm, h⟩ := least_of f (b :: l) (by simp)
    by_cases q : f a ≤ f m
    · refine ⟨a, List.mem_cons_self .., fun x hx => ?_⟩
      rcases List.mem_cons.mp hx with e | hx
      · rw [e]; exact Nat.le_refl _
      · exact Nat.le_trans q (h x hx)
    · refine ⟨m, List.mem_cons_of_mem _ hm, fun x hx => ?_⟩
      rcases List.mem_cons.mp hx with e | hx
      · rw [e]; exact Nat.le_of_lt (Nat.lt_of_not_le q)
      · exact h x hx
theorem peel_lt {row : List α} {ps : List (α × α)} (k : KeepR row ps) {left : List α} (h : left ≠ []) : (peel ps left).length < left.length := by
  obtain ⟨m, hm, hle⟩ := least_of (fun x => row.idxOf x) left h
  unfold peel
  rw [List.length_filter_lt_length_iff_exists]
  refine ⟨m, hm, ?_⟩
  have e : aheadOf ps left m = [] := by
    unfold aheadOf
    rw [List.filter_eq_nil_iff]
    intro a ha c
    have c' : (a, m) ∈ ps := List.contains_iff_mem.mp c
    exact Nat.not_lt.mpr (hle a ha) (k _ _ c').2.2
  rw [e]
  exact fun z => by cases z
theorem peels_le {row : List α} {ps : List (α × α)} (k : KeepR row ps) (left : List α) : ∀ n, (Nat.repeat (peel ps) n left).length ≤ left.length - n
  | 0 => Nat.le_refl _
  | n + 1 => by
    have ih := peels_le k left n
    show (peel ps (Nat.repeat (peel ps) n left)).length ≤ _
    by_cases q : Nat.repeat (peel ps) n left = []
    · rw [q]; exact Nat.zero_le _
    · have := peel_lt k q
      omega
theorem peels_nil {row : List α} {ps : List (α × α)} (k : KeepR row ps) (left : List α) : Nat.repeat (peel ps) left.length left = [] := by
  have := peels_le k left left.length
  exact List.eq_nil_of_length_eq_zero (by omega)
/-! going: what is led to from a hand -/
structure Goes (ps : List (α × α)) (first : α) (found : List α) (n : Nat) : Prop where
  nd : found.Nodup
  hd : first ∈ found
  snd : ∀ x ∈ found, x = first ∨ Lead ps first x
  cl : ∀ i f, i < n → found[i]? = some f → ∀ x, (f, x) ∈ ps → x ∈ found
  le : n ≤ found.length
theorem Goes.init (ps : List (α × α)) (first : α) : Goes ps first [first] 0 :=
  ⟨List.nodup_cons.mpr ⟨List.not_mem_nil, List.nodup_nil⟩, List.mem_singleton.mpr rfl, fun x hx => .inl (List.mem_singleton.mp hx), fun i f h => absurd h (Nat.not_lt_zero _), Nat.zero_le _⟩
theorem Goes.step {ps : List (α × α)} {first f : α} {found new : List α} {n : Nat} (g : Goes ps first found n) (hf : found[n]? = some f) (nd : new.Nodup) (h : ∀ x, x ∈ new ↔ (f, x) ∈ ps ∧ x ∉ found) : Goes ps first (found ++ new) (n + 1) := by
  have hn : n < found.length := by
    rw [List.getElem?_eq_some_iff] at hf
    exact hf.1
  have hfm : f ∈ found := List.mem_of_getElem? hf
  have lf : ∀ x, (f, x) ∈ ps → Lead ps first x := fun x m => by
    rcases g.snd f hfm with e | l
    · rw [← e]; exact .one m
    · exact l.step m
  refine ⟨?_, List.mem_append_left _ g.hd, fun x hx => ?_, fun i f' hi hf' x hx => ?_, ?_⟩
  · rw [List.nodup_append]
    exact ⟨g.nd, nd, fun a ha b hb e => ((h b).mp hb).2 (e ▸ ha)⟩
  · rcases List.mem_append.mp hx with hx | hx
    · exact g.snd x hx
    · exact .inr (lf x ((h x).mp hx).1)
  · rw [List.getElem?_append_left (by omega)] at hf'
    rcases Nat.lt_succ_iff_lt_or_eq.mp hi with q | q
    · exact List.mem_append_left _ (g.cl i f' q hf' x hx)
    · subst q
      rw [hf] at hf'
      obtain rfl := Option.some.inj hf'
      by_cases z : x ∈ found
      · exact List.mem_append_left _ z
      · exact List.mem_append_right _ ((h x).mpr ⟨hx, z⟩)
  · rw [List.length_append]; omega
theorem Goes.done {ps : List (α × α)} {first : α} {found : List α} {n : Nat} (g : Goes ps first found n) (h : found.length ≤ n) {last : α} : last ∈ found ↔ last = first ∨ Lead ps first last := by
  refine ⟨g.snd last, fun k => ?_⟩
  have step : ∀ f, f ∈ found → ∀ x, (f, x) ∈ ps → x ∈ found := fun f hf x hx => by
    obtain ⟨i, hi⟩ := List.mem_iff_getElem?.mp hf
    have : i < found.length := by
      rw [List.getElem?_eq_some_iff] at hi
      exact hi.1
    exact g.cl i f (by omega) hi x hx
  rcases k with e | l
  · rw [e]; exact g.hd
  · induction l with
    | one m => exact step _ g.hd _ m
    | step _ m ih => exact step _ ih _ m
theorem nodup_sub_le : ∀ {l m : List α}, l.Nodup → (∀ x ∈ l, x ∈ m) → l.length ≤ m.length
  | [], _, _, _ => Nat.zero_le _
  | a :: l, m, nd, h => by
    have ha : a ∈ m := h a (List.mem_cons_self ..)
    have nd' := List.nodup_cons.mp nd
    have ih := nodup_sub_le (l := l) (m := m.erase a) nd'.2 fun x hx => by
      have ne : x ≠ a := fun e => nd'.1 (e ▸ hx)
      exact (List.mem_erase_of_ne ne).mpr (h x (List.mem_cons_of_mem _ hx))
    rw [List.length_erase_of_mem ha] at ih
    have : 0 < m.length := List.length_pos_of_mem ha
    rw [List.length_cons]
    omega
theorem Goes.len {ps : List (α × α)} {first : α} {found hs : List α} {n : Nat} (g : Goes ps first found n) (s : ∀ x y, (x, y) ∈ ps → x ∈ hs ∧ y ∈ hs) (hf : first ∈ hs) : found.length ≤ hs.length :=
  nodup_sub_le g.nd fun x hx => by
    rcases g.snd x hx with e | l
    · rw [e]; exact hf
    · exact (l.left s).2
end
end Ah
set_option Elab.async false
set_option linter.all false
set_option maxRecDepth 100000
namespace Ah
open PySem PySem.Spec PyProof.Rows L2
open PySem.W (dataLt dataLe dataLt_pair dataLt_str alike)
/-! ### the order of pairs of texts -/
def sLt (x y : Str) : Prop := x.cps.toList < y.cps.toList
def pLt (p q : Str × Str) : Prop := sLt p.1 q.1 ∨ (p.1 = q.1 ∧ sLt p.2 q.2)
instance (x y : Str) : Decidable (sLt x y) := by unfold sLt; infer_instance
instance (p q : Str × Str) : Decidable (pLt p q) := by unfold pLt; infer_instance
theorem str_of_cps {x y : Str} (h : x.cps.toList = y.cps.toList) : x = y := by
  cases x
  cases y
  exact congrArg Str.mk (Array.toList_inj.mp h)
theorem sLt_irr (x : Str) : ¬ sLt x x := List.lt_irrefl _
theorem sLt_trans {x y z : Str} (h : sLt x y) (k : sLt y z) : sLt x z := List.lt_trans h k
theorem sLt_tri {x y : Str} (h : ¬ sLt x y) (k : ¬ sLt y x) : x = y := str_of_cps (List.le_antisymm (List.not_lt.mp k) (List.not_lt.mp h))
theorem pLt_irr (p : Str × Str) : ¬ pLt p p := fun h => by
  rcases h with h | h
  · exact sLt_irr _ h
  · exact sLt_irr _ h.2
theorem pLt_trans {p q r : Str × Str} (h : pLt p q) (k : pLt q r) : pLt p r := by
  rcases h with h | ⟨h1, h2⟩ <;> rcases k with k | ⟨k1, k2⟩
  · exact .inl (sLt_trans h k)
  · exact .inl (k1 ▸ h)
  · exact .inl (h1 ▸ k)
  · exact .inr ⟨h1.trans k1, sLt_trans h2 k2⟩
theorem pLt_tri {p q : Str × Str} (h : ¬ pLt p q) (k : ¬ pLt q p) : p = q := by
  have e1 : p.1 = q.1 := sLt_tri (fun z => h (.inl z)) (fun z => k (.inl z))
  have e2 : p.2 = q.2 := sLt_tri (fun z => h (.inr ⟨e1, z⟩)) (fun z => k (.inr ⟨e1.symm, z⟩))
  exact Prod.ext e1 e2
theorem eqv_str (x y : Str) : PyData.eqv (.str x) (.str y) = decide (x = y) := by
  have : PyData.eqv (.str x) (.str y) = (x == y) := by simp only [PyData.eqv]
  rw [this]
  by_cases e : x = y
  · rw [decide_eq_true e, e]; simp
  · rw [decide_eq_false e]; simp [e]
theorem dataLt_pr (p q : Str × Str) : dataLt (prD p) (prD q) = decide (pLt p q) := by
  unfold prD
  rw [dataLt_pair (by simp [alike]) (by simp [alike]), dataLt_str, dataLt_str, eqv_str, eqv_str]
  by_cases e : p.1 = q.1
  · rw [if_pos (decide_eq_true e)]
    by_cases e2 : p.2 = q.2
    · rw [if_pos (decide_eq_true e2)]
      symm
      rw [decide_eq_false_iff_not, show p = q from Prod.ext e e2]
      exact pLt_irr q
    · rw [if_neg (by rw [decide_eq_false e2]; exact Bool.false_ne_true)]
      by_cases z : sLt p.2 q.2
      · rw [decide_eq_true (show p.2.cps.toList < q.2.cps.toList from z), decide_eq_true (show pLt p q from .inr ⟨e, z⟩)]
      · rw [decide_eq_false (show ¬ p.2.cps.toList < q.2.cps.toList from z), decide_eq_false (show ¬ pLt p q from fun y => by
          rcases y with y | y
          · rw [e] at y; exact sLt_irr _ y
          · exact z y.2)]
  · rw [if_neg (by rw [decide_eq_false e]; exact Bool.false_ne_true)]
    by_cases z : sLt p.1 q.1
    · rw [decide_eq_true (show p.1.cps.toList < q.1.cps.toList from z), decide_eq_true (show pLt p q from .inl z)]
    · rw [decide_eq_false (show ¬ p.1.cps.toList < q.1.cps.toList from z), decide_eq_false (show ¬ pLt p q from fun y => by
        rcases y with y | y
        · exact z y
        · exact e y.1)]
theorem pLt_nodup {ds : List (Str × Str)} (h : ds.Pairwise pLt) : ds.Nodup := by
  unfold List.Nodup
  refine h.imp ?_
  intro a b h e
  subst e
  exact pLt_irr a h
/-- sorted: just the rising row of the same pairs -/
theorem sort_due {us ds : List (Str × Str)} (nd : us.Nodup) (e : ∀ p, p ∈ us ↔ p ∈ ds) (hp : ds.Pairwise pLt) : sortD (us.map prD) = ds.map prD := by
  unfold sortD
  have s1 := PySem.W.sort_maps (r := fun p q : Str × Str => !decide (pLt q p)) (s := dataLe false fun d : PyData => d) prD (l := us) (fun a _ b _ => by
    show (!decide (pLt b a)) = !dataLt (prD b) (prD a)
    rw [dataLt_pr])
  rw [← s1]
  congr 1
  have ndd : ds.Nodup := pLt_nodup hp
  refine List.Perm.eq_of_pairwise (le := fun p q => (!decide (pLt q p)) = true) (fun a b _ _ h k => ?_) ?_ ?_ ((List.mergeSort_perm _ _).trans ((List.perm_ext_iff_of_nodup nd ndd).mpr e))
  · have h' : ¬ pLt b a := by simpa using h
    have k' : ¬ pLt a b := by simpa using k
    exact pLt_tri k' h'
  · refine List.pairwise_mergeSort (fun a b c h k => ?_) (fun a b => ?_) us
    · have h' : ¬ pLt b a := by simpa using h
      have k' : ¬ pLt c b := by simpa using k
      have : ¬ pLt c a := fun z => by
        by_cases y : pLt a b
        · exact k' (pLt_trans z y)
        · have := pLt_tri h' y
          subst this
          exact k' z
      simpa using this
    · by_cases y : pLt b a
      · have : ¬ pLt a b := fun z => pLt_irr _ (pLt_trans y z)
        simp [this]
      · simp [y]
  · exact hp.imp fun {a b} h => by
      have : ¬ pLt b a := fun z => pLt_irr _ (pLt_trans h z)
      simp [this]
/-! the rising row of all pairs that stand so -/
def dueOf (R : Str → Str → Bool) (hs : List Str) : List (Str × Str) := hs.flatMap fun a => (hs.filter (R a)).map fun b => (a, b)
theorem dueOf_mem {R : Str → Str → Bool} {hs : List Str} {p : Str × Str} : p ∈ dueOf R hs ↔ p.1 ∈ hs ∧ p.2 ∈ hs ∧ R p.1 p.2 = true := by
  unfold dueOf
  rw [List.mem_flatMap]
  constructor
  · rintro ⟨a, ha, hp⟩
    obtain ⟨b, hb, rfl⟩ := List.mem_map.mp hp
    obtain ⟨h1, h2⟩ := List.mem_filter.mp hb
    exact ⟨ha, h1, h2⟩
  · rintro ⟨h1, h2, h3⟩
    exact ⟨p.1, h1, List.mem_map.mpr ⟨p.2, List.mem_filter.mpr ⟨h2, h3⟩, rfl⟩⟩
theorem dueOf_rises {R : Str → Str → Bool} {hs : List Str} (h : hs.Pairwise sLt) : (dueOf R hs).Pairwise pLt := by
  unfold dueOf
  rw [List.pairwise_flatMap]
  refine ⟨fun a _ => ?_, h.imp fun {a b} hab x hx y hy => ?_⟩
  · rw [List.pairwise_map]
    exact (h.filter _).imp fun {b c} hbc => .inr ⟨rfl, hbc⟩
  · obtain ⟨x2, _, rfl⟩ := List.mem_map.mp hx
    obtain ⟨y2, _, rfl⟩ := List.mem_map.mp hy
    exact .inl hab
theorem dueOf_len {R : Str → Str → Bool} {hs : List Str} : (dueOf R hs).length ≤ hs.length * hs.length := by
  have : ∀ l : List Str, (l.flatMap fun a => (hs.filter (R a)).map fun b => (a, b)).length ≤ l.length * hs.length := by
    intro l
    induction l with
    | nil => exact Nat.zero_le _
    | cons a l ih =>
      rw [List.flatMap_cons, List.length_append, List.length_map, List.length_cons, Nat.succ_mul]
      have := List.length_filter_le (R a) hs
      omega
  exact this hs
/-- texts in order, each once, rise -/
theorem rises_of_sorted : ∀ {ys : List Str}, sortedS ys = true → ys.Nodup → ys.Pairwise sLt := by
  have ltb : ∀ x y : Str, ltCps x.cps.toList y.cps.toList = true ↔ sLt x y := fun x y => by
    rw [← lt_meets]
    exact decide_eq_true_iff
  have rise : ∀ (l : List Str) (p : Str), risingS p l = true → (p :: l).Nodup → (p :: l).Pairwise sLt := by
    intro l
    induction l with
    | nil => exact fun p _ _ => List.pairwise_singleton _ _
    | cons x l ih =>
      intro p h nd
      have h' : (!ltCps x.cps.toList p.cps.toList && risingS x l) = true := h
      rw [Bool.and_eq_true] at h'
      have nd' := List.nodup_cons.mp nd
      have q := ih x h'.2 nd'.2
      have px : sLt p x := by
        by_cases z : sLt p x
        · exact z
        · refine absurd (sLt_tri z fun y => ?_) fun e => nd'.1 (e ▸ List.mem_cons_self ..)
          have := (ltb x p).mpr y
          rw [this] at h'
          exact Bool.noConfusion h'.1
      refine List.pairwise_cons.mpr ⟨fun y hy => ?_, q⟩
      rcases List.mem_cons.mp hy with e | hy
      · rw [e]; exact px
      · exact sLt_trans px ((List.pairwise_cons.mp q).1 y hy)
  intro ys h nd
  cases ys with
  | nil => exact List.Pairwise.nil
  | cons x l => exact rise l x h nd
end Ah
set_option Elab.async false
set_option linter.all false
set_option maxRecDepth 100000
namespace Ah
open PySem PySem.Spec PyProof.Rows L2
/-- what all hands were gone through for, sorted: just the rising row of what follows -/
theorem closed_due {R : Str → Str → Bool} {hs folk : List Str} {ps held : List (Str × Str)} (hr : ∀ x y, R x y = true ↔ Lead ps x y) (s : ∀ x y, (x, y) ∈ ps → x ∈ hs ∧ y ∈ hs) (pf : folk.Perm hs) (srt : hs.Pairwise sLt) (nd : held.Nodup) (e : ∀ a c, (a, c) ∈ held ↔ vias (fun x y => (x, y) ∈ ps) folk a c) :
    sortD (held.map prD) = (dueOf R hs).map prD := by
  refine sort_due nd (fun p => ?_) (dueOf_rises srt)
  have q : (p.1, p.2) ∈ held ↔ Lead ps p.1 p.2 := (e p.1 p.2).trans (vias_all fun x y z => ⟨pf.mem_iff.mpr (s x y z).1, pf.mem_iff.mpr (s x y z).2⟩)
  rw [dueOf_mem, hr]
  exact q.trans ⟨fun h => ⟨(h.left s).1, (h.left s).2, h⟩, fun h => h.2.2⟩
/-- one hand gone through: the pairs that it brings -/
theorem via_keys {R : Str → Str → Prop} {b : Str} {kl kl' : List (Str × Str)} (e : ∀ a c, (a, c) ∈ kl ↔ R a c) (h : ∀ a c, (a, c) ∈ kl' ↔ (a, c) ∈ kl ∨ ((a, b) ∈ kl ∧ (b, c) ∈ kl)) : ∀ a c, (a, c) ∈ kl' ↔ via R b a c := fun a c => by
  rw [h, e, e, e]
  exact Iff.rfl
/-- the row of what follows holds all that follows of it -/
theorem due_thru {R : Str → Str → Bool} {hs : List Str} {ps : List (Str × Str)} (hr : ∀ x y, R x y = true ↔ Lead ps x y) : ∀ x y z, (x, y) ∈ dueOf R hs → (y, z) ∈ dueOf R hs → (x, z) ∈ dueOf R hs := fun x y z h k => by
  obtain ⟨h1, h2, h3⟩ := dueOf_mem.mp h
  obtain ⟨k1, k2, k3⟩ := dueOf_mem.mp k
  exact dueOf_mem.mpr ⟨h1, k2, (hr _ _).mpr (((hr _ _).mp h3).trans ((hr _ _).mp k3))⟩
/-- closed again it is the same: what follows of the due row is the due row -/
theorem due_again {R : Str → Str → Bool} {hs : List Str} {ps qs : List (Str × Str)} (hr : ∀ x y, R x y = true ↔ Lead ps x y) (s : ∀ x y, (x, y) ∈ ps → x ∈ hs ∧ y ∈ hs) (e : ∀ p, p ∈ qs ↔ p ∈ dueOf R hs) {x y : Str} : Lead qs x y ↔ Lead ps x y := by
  rw [Lead.congr e, Lead.closed (due_thru hr), dueOf_mem, hr]
  exact ⟨fun h => h.2.2, fun h => ⟨(h.left s).1, (h.left s).2, h⟩⟩
/-- no pair of one hand follows where a row keeps all pairs -/
theorem due_irr {R : Str → Str → Bool} {hs row : List Str} {ps : List (Str × Str)} (hr : ∀ x y, R x y = true ↔ Lead ps x y) (k : KeepR row ps) {x y : Str} (h : (x, y) ∈ dueOf R hs) : x ≠ y := fun e => by
  subst e
  exact k.irr ((hr _ _).mp (dueOf_mem.mp h).2.2)
end Ah
set_option Elab.async false
set_option linter.all false
set_option maxRecDepth 100000
namespace Ah
section
variable {α : Type} [BEq α] [LawfulBEq α]
theorem peel_eq_of_len {ps : List (α × α)} {l : List α} (h : (peel ps l).length = l.length) : peel ps l = l := (List.filter_sublist).eq_of_length h
theorem peels_or (ps : List (α × α)) (l : List α) : ∀ n, (Nat.repeat (peel ps) n l).length + n ≤ l.length ∨ peel ps (Nat.repeat (peel ps) n l) = Nat.repeat (peel ps) n l
  | 0 => .inl (Nat.le_refl _)
  | n + 1 => by
    show (peel ps (Nat.repeat (peel ps) n l)).length + (n + 1) ≤ l.length ∨ peel ps (peel ps (Nat.repeat (peel ps) n l)) = peel ps (Nat.repeat (peel ps) n l)
    rcases peels_or ps l n with h | h
    · have le : (peel ps (Nat.repeat (peel ps) n l)).length ≤ (Nat.repeat (peel ps) n l).length := List.length_filter_le _ _
      by_cases e : (peel ps (Nat.repeat (peel ps) n l)).length = (Nat.repeat (peel ps) n l).length
      · have q := peel_eq_of_len e
        right
        rw [q, q]
      · left
        omega
    · right
      rw [h, h]
/-- gone through as often as there are hands: nothing more is taken off -/
theorem peels_stand (ps : List (α × α)) (l : List α) : peel ps (Nat.repeat (peel ps) l.length l) = Nat.repeat (peel ps) l.length l := by
  rcases peels_or ps l l.length with h | h
  · have : Nat.repeat (peel ps) l.length l = [] := List.eq_nil_of_length_eq_zero (by omega)
    rw [this]
    rfl
  · exact h
theorem ahead_some {ps : List (α × α)} {l : List α} (h : peel ps l = l) {b : α} (hb : b ∈ l) : aheadOf ps l b ≠ [] := by
  rw [← h] at hb
  have := (List.mem_filter.mp hb).2
  intro e
  rw [e] at this
  cases this
theorem ahead_mem {ps : List (α × α)} {l : List α} {a b : α} (h : a ∈ aheadOf ps l b) : a ∈ l ∧ (a, b) ∈ ps :=
  ⟨(List.mem_filter.mp h).1, List.contains_iff_mem.mp (List.mem_filter.mp h).2⟩
/-- all taken off: nowhere have all one ahead among themselves -/
theorem peels_none {ps : List (α × α)} {l : List α} {C : α → Prop} (sub : ∀ x, C x → x ∈ l) (pred : ∀ x, C x → ∃ y, C y ∧ (y, x) ∈ ps) : ∀ n x, C x → x ∈ Nat.repeat (peel ps) n l
  | 0 => sub
  | n + 1 => fun x hx => by
    obtain ⟨y, hy, m⟩ := pred x hx
    show x ∈ peel ps (Nat.repeat (peel ps) n l)
    refine List.mem_filter.mpr ⟨peels_none sub pred n x hx, ?_⟩
    have : y ∈ aheadOf ps (Nat.repeat (peel ps) n l) x := List.mem_filter.mpr ⟨peels_none sub pred n y hy, List.contains_iff_mem.mpr m⟩
    cases e : aheadOf ps (Nat.repeat (peel ps) n l) x with
    | nil => rw [e] at this; cases this
    | cons => rfl
theorem peels_irr {ps : List (α × α)} {l : List α} {n : Nat} (s : ∀ x y, (x, y) ∈ ps → x ∈ l ∧ y ∈ l) (e : Nat.repeat (peel ps) n l = []) (a : α) : ¬ Lead ps a a := fun h => by
  have := peels_none (C := fun x => Lead ps a x ∧ Lead ps x a) (fun x hx => (hx.1.left s).2) (fun x hx => by
    obtain ⟨h1, h2⟩ := hx
    cases h1 with
    | one m => exact ⟨a, ⟨h, h⟩, m⟩
    | step k m => exact ⟨_, ⟨k, (Lead.one m).trans h2⟩, m⟩) n a ⟨h, h⟩
  rw [e] at this
  cases this
/-! laying a row -/
structure Laid (ps : List (α × α)) (row : List α) : Prop where
  nd : row.Nodup
  keep : ∀ x y, (x, y) ∈ ps → y ∈ row → x ∈ row ∧ row.idxOf x < row.idxOf y
theorem Laid.nil {ps : List (α × α)} : Laid ps ([] : List α) := ⟨List.nodup_nil, fun _ _ _ h => by cases h⟩
theorem Laid.snoc {ps : List (α × α)} {row : List α} {f : α} (h : Laid ps row) (nf : f ∉ row) (pre : ∀ x, (x, f) ∈ ps → x ∈ row) : Laid ps (row ++ [f]) := by
  refine ⟨?_, fun x y m hy => ?_⟩
  · rw [List.nodup_append]
    exact ⟨h.nd, List.nodup_cons.mpr ⟨List.not_mem_nil, List.nodup_nil⟩, fun a ha b hb e => nf (by rw [← List.mem_singleton.mp hb, ← e]; exact ha)⟩
  · rcases List.mem_append.mp hy with hy | hy
    · obtain ⟨h1, h2⟩ := h.keep x y m hy
      refine ⟨List.mem_append_left _ h1, ?_⟩
      rw [List.idxOf_append, if_pos h1, List.idxOf_append, if_pos hy]
      exact h2
    · obtain rfl := List.mem_singleton.mp hy
      have h1 := pre x m
      refine ⟨List.mem_append_left _ h1, ?_⟩
      rw [List.idxOf_append, if_pos h1, List.idxOf_append, if_neg nf]
      exact Nat.lt_of_lt_of_le (List.idxOf_lt_length_of_mem h1) (Nat.le_add_left _ _)
/-- one can come next as long as there are others -/
theorem laid_next {ps : List (α × α)} {hs l row : List α} {n : Nat} (pl : hs.Perm l) (s : ∀ x y, (x, y) ∈ ps → x ∈ l ∧ y ∈ l) (e : Nat.repeat (peel ps) n l = []) (h : ∃ x ∈ hs, x ∉ row) : ∃ f ∈ hs, f ∉ row ∧ ∀ x, (x, f) ∈ ps → x ∈ row := by
  obtain ⟨x0, h0, n0⟩ := h
  by_cases q : ∃ f ∈ hs, f ∉ row ∧ ∀ x, (x, f) ∈ ps → x ∈ row
  · exact q
  · have := peels_none (ps := ps) (l := l) (C := fun x => x ∈ hs ∧ x ∉ row) (fun x hx => pl.mem_iff.mp hx.1) (fun x hx => by
      by_cases z : ∃ y, (y ∈ hs ∧ y ∉ row) ∧ (y, x) ∈ ps
      · exact z
      · refine absurd ⟨x, hx.1, hx.2, fun y m => ?_⟩ q
        by_cases w : y ∈ row
        · exact w
        · exact absurd ⟨y, ⟨pl.mem_iff.mpr (s y x m).1, w⟩, m⟩ z) n x0 ⟨h0, n0⟩
    rw [e] at this
    cases this
theorem Laid.keepR {ps : List (α × α)} {row : List α} (h : Laid ps row) (s : ∀ x y, (x, y) ∈ ps → y ∈ row) : KeepR row ps := fun x y m =>
  have q := h.keep x y m (s x y m)
  ⟨q.1, s x y m, q.2⟩
/-! going round -/
structure Walked (ps : List (α × α)) (left w : List α) : Prop where
  nd : w.Nodup
  sub : ∀ x ∈ w, x ∈ left
  chain : ∀ i a b, w[i]? = some a → w[i + 1]? = some b → (b, a) ∈ ps
theorem Walked.one {ps : List (α × α)} {left : List α} {a : α} (h : a ∈ left) : Walked ps left [a] :=
  ⟨List.nodup_cons.mpr ⟨List.not_mem_nil, List.nodup_nil⟩, fun x hx => by rw [List.mem_singleton.mp hx]; exact h, fun i a b _ h => by simp at h⟩
theorem Walked.snoc {ps : List (α × α)} {left w : List α} {l e : α} (h : Walked ps left w) (hl : w[w.length - 1]? = some l) (he : e ∈ left) (ne : e ∉ w) (m : (e, l) ∈ ps) : Walked ps left (w ++ [e]) := by
  have hlen : w.length - 1 < w.length := (List.getElem?_eq_some_iff.mp hl).1
  refine ⟨?_, fun x hx => ?_, fun i a b ha hb => ?_⟩
  · rw [List.nodup_append]
    exact ⟨h.nd, List.nodup_cons.mpr ⟨List.not_mem_nil, List.nodup_nil⟩, fun a ha b hb q => ne (by rw [← List.mem_singleton.mp hb, ← q]; exact ha)⟩
  · rcases List.mem_append.mp hx with hx | hx
    · exact h.sub x hx
    · rw [List.mem_singleton.mp hx]; exact he
  · by_cases q : i + 1 < w.length
    · rw [List.getElem?_append_left (by omega)] at ha
      rw [List.getElem?_append_left q] at hb
      exact h.chain i a b ha hb
    · have hb' := (List.getElem?_eq_some_iff.mp hb).1
      rw [List.length_append, List.length_singleton] at hb'
      have ei : i = w.length - 1 := by omega
      subst ei
      rw [List.getElem?_append_left hlen, hl] at ha
      rw [show w.length - 1 + 1 = w.length by omega, List.getElem?_append_right (Nat.le_refl _), Nat.sub_self] at hb
      cases ha
      cases hb
      exact m
structure Circ (ps : List (α × α)) (cs : List α) : Prop where
  two : 2 ≤ cs.length
  nd : cs.Nodup
  next : ∀ k a b, cs[k]? = some a → cs[(k + 1) % cs.length]? = some b → (a, b) ∈ ps
theorem Walked.circ {ps : List (α × α)} {left w : List α} {l e : α} {j : Nat} (h : Walked ps left w) (hl : w[w.length - 1]? = some l) (m : (e, l) ∈ ps) (hj : w[j]? = some e) (irr : ∀ x, (x, x) ∉ ps) : Circ ps (w.drop j).reverse := by
  have hjl : j < w.length := (List.getElem?_eq_some_iff.mp hj).1
  have len : (w.drop j).reverse.length = w.length - j := by rw [List.length_reverse, List.length_drop]
  have at' : ∀ k, k < w.length - j → (w.drop j).reverse[k]? = w[w.length - 1 - k]? := fun k hk => by
    rw [List.getElem?_reverse (by rw [List.length_drop]; exact hk), List.length_drop, List.getElem?_drop]
    congr 1
    omega
  have two : 2 ≤ w.length - j := by
    by_cases q : j = w.length - 1
    · subst q
      rw [hl] at hj
      cases hj
      exact absurd m (irr _)
    · omega
  refine ⟨by rw [len]; exact two, (List.reverse_perm _).nodup_iff.mpr (h.nd.sublist (List.drop_sublist _ _)), fun k a b ha hb => ?_⟩
  have hk : k < w.length - j := by
    have := (List.getElem?_eq_some_iff.mp ha).1
    rwa [len] at this
  rw [len] at hb
  rw [at' k hk] at ha
  by_cases q : k + 1 < w.length - j
  · rw [Nat.mod_eq_of_lt q, at' _ q] at hb
    refine h.chain (w.length - 1 - (k + 1)) b a hb ?_
    rw [← ha]
    congr 1
    omega
  · have ek : k + 1 = w.length - j := by omega
    rw [ek, Nat.mod_self, at' 0 (by omega)] at hb
    rw [show w.length - 1 - k = j by omega, hj] at ha
    rw [show w.length - 1 - 0 = w.length - 1 by omega, hl] at hb
    cases ha
    cases hb
    exact m
end
end Ah
set_option Elab.async false
set_option linter.all false
set_option maxRecDepth 100000
set_option maxHeartbeats 4000000
namespace Ah
open PySem PySem.Spec PyProof.Rows L2
/-! ### pairs of texts on the heap -/
def PrV (H : Hp) (v : V) (p : Str × Str) : Prop := ∃ T : Addr, v = .ref T ∧ H T = some (.tup [.str p.1, .str p.2])
def PrsV (H : Hp) : List V → List (Str × Str) → Prop
  | [], [] => True
  | v :: vs, p :: ps => PrV H v p ∧ PrsV H vs ps
  | _, _ => False
theorem PrV.same {H H' : Hp} {v : V} {p : Str × Str} (k : Same H H') (h : PrV H v p) : PrV H' v p := by
  obtain ⟨T, e, h⟩ := h
  exact ⟨T, e, k _ _ h⟩
theorem PrV.kp {p0 : Addr} {H H' : Hp} (k : Kp p0 H H') {kvs : List (Key × V)} (hp : H p0 = some (.dK kvs)) {v : V} {p : Str × Str} (h : PrV H v p) : PrV H' v p := by
  obtain ⟨T, e, h⟩ := h
  refine ⟨T, e, k _ _ (fun z => ?_) h⟩
  rw [z, hp] at h
  cases h
theorem PrV.mut {H : Hp} {D : Addr} {a b : List V} (hD : H D = some (.lst a)) {v : V} {p : Str × Str} (h : PrV H v p) : PrV (upd H D (.lst b)) v p := by
  obtain ⟨T, e, h⟩ := h
  refine ⟨T, e, (upd_ne fun z => ?_).trans h⟩
  rw [z, hD] at h
  cases h
theorem PrsV.imp {H H' : Hp} (f : ∀ v p, PrV H v p → PrV H' v p) : ∀ {vs : List V} {ps : List (Str × Str)}, PrsV H vs ps → PrsV H' vs ps
  | [], [], _ => trivial
  | v :: vs, p :: ps, ⟨h, t⟩ => ⟨f v p h, PrsV.imp f t⟩
  | [], _ :: _, h => h.elim
  | _ :: _, [], h => h.elim
theorem PrsV.same {H H' : Hp} {vs : List V} {ps : List (Str × Str)} (k : Same H H') (h : PrsV H vs ps) : PrsV H' vs ps := h.imp fun _ _ => PrV.same k
theorem PrsV.kp {p0 : Addr} {H H' : Hp} (k : Kp p0 H H') {kvs : List (Key × V)} (hp : H p0 = some (.dK kvs)) {vs : List V} {ps : List (Str × Str)} (h : PrsV H vs ps) : PrsV H' vs ps := h.imp fun _ _ => PrV.kp k hp
theorem PrsV.mut {H : Hp} {D : Addr} {a b : List V} (hD : H D = some (.lst a)) {vs : List V} {ps : List (Str × Str)} (h : PrsV H vs ps) : PrsV (upd H D (.lst b)) vs ps := h.imp fun _ _ => PrV.mut hD
theorem PrsV.len {H : Hp} : ∀ {vs : List V} {ps : List (Str × Str)}, PrsV H vs ps → vs.length = ps.length
  | [], [], _ => rfl
  | _ :: _, _ :: _, ⟨_, t⟩ => by rw [List.length_cons, List.length_cons, t.len]
  | [], _ :: _, h => h.elim
  | _ :: _, [], h => h.elim
theorem PrsV.append {H : Hp} : ∀ {vs ws : List V} {ps qs : List (Str × Str)}, PrsV H vs ps → PrsV H ws qs → PrsV H (vs ++ ws) (ps ++ qs)
  | [], _, [], _, _, k => k
  | _ :: _, _, _ :: _, _, ⟨h, t⟩, k => ⟨h, t.append k⟩
  | [], _, _ :: _, _, h, _ => h.elim
  | _ :: _, _, [], _, h, _ => h.elim
theorem PrsV.get {H : Hp} : ∀ {vs : List V} {ps : List (Str × Str)} {i : Nat} {v : V}, PrsV H vs ps → vs[i]? = some v → ∃ p, ps[i]? = some p ∧ PrV H v p
  | [], [], _, _, _, e => by cases e
  | v :: vs, p :: ps, 0, _, ⟨h, _⟩, e => ⟨p, rfl, Option.some.inj e ▸ h⟩
  | v :: vs, p :: ps, i + 1, _, ⟨_, t⟩, e => by
    obtain ⟨q, e1, h1⟩ := t.get (i := i) e
    exact ⟨q, e1, h1⟩
  | [], _ :: _, _, _, h, _ => h.elim
  | _ :: _, [], _, _, h, _ => h.elim
theorem PrsV.perm {H : Hp} {vs ws : List V} (pm : ws.Perm vs) : ∀ {ps : List (Str × Str)}, PrsV H vs ps → ∃ qs : List (Str × Str), qs.Perm ps ∧ PrsV H ws qs := by
  induction pm with
  | nil =>
    intro ps h
    exact ⟨ps, .refl _, h⟩
  | cons x _ ih =>
    intro ps h
    match ps, h with
    | p :: ps, ⟨h, t⟩ =>
      obtain ⟨qs, p1, h1⟩ := ih t
      exact ⟨p :: qs, p1.cons p, h, h1⟩
  | swap x y l =>
    intro ps h
    match ps, h with
    | p :: q :: ps, ⟨h1, h2, t⟩ => exact ⟨q :: p :: ps, List.Perm.swap .., h2, h1, t⟩
  | trans _ _ ih1 ih2 =>
    intro ps h
    obtain ⟨qs, p1, h1⟩ := ih2 h
    obtain ⟨rs, p2, h2⟩ := ih1 h1
    exact ⟨rs, p2.trans p1, h2⟩
theorem PrsV.dp {K : PySem.W.Frag} {H : Hp} : ∀ {vs : List V} {ps : List (Str × Str)}, PrsV H vs ps → DpAll K H vs (ps.map prD)
  | [], [], _ => .nil
  | _ :: _, p :: _, ⟨⟨T, e, h⟩, t⟩ => by
    subst e
    exact .cons (.tup (.inl (.inl h)) (.cons (.str _) (.cons (.str _) .nil))) t.dp
  | [], _ :: _, h => h.elim
  | _ :: _, [], h => h.elim
theorem shp_pr {p : Str × Str} (h1 : PyData.strOk p.1 = true) (h2 : PyData.strOk p.2 = true) : Shp (prD p) := by
  refine ⟨?_, ?_⟩
  · simp [prD, PyData.canLay0, PyData.canLayAll0, h1, h2]
  · simp [prD, PyData.depth, PyData.depthAll]
end Ah
set_option Elab.async false
set_option linter.all false
set_option maxRecDepth 100000
set_option maxHeartbeats 4000000
namespace Ah
open PySem PySem.Spec PyProof.Rows L2
abbrev sListed : Stmt := topS 31
/-! a list or a tuple of what is drawn -/
theorem lk_kp {p a : Addr} {o : HO} {H H' : Hp} (k : Kp p H H') {kvs : List (Key × V)} (hp : H p = some (.dK kvs)) (hu : ∀ kvs, o ≠ .dK kvs) (h : H a = some o) : H' a = some o := by
  refine k a _ (fun e => ?_) h
  rw [e, hp] at h
  exact hu _ (Option.some.inj h).symm
section
variable {P : Program} {w : World} {K : PySem.W.Frag} {mg : Str → Option Value} {base : Heap}
theorem scListed : FnScope ["pen", "hands", "found"] ["pen", "hands"] (defScope sListed) := ⟨rfl, rfl, rfl, by decide +kernel, rfl, by decide +kernel, by decide +kernel⟩
def spListed : Sp := fun vs H Q _ => ∃ (p c a : Addr) (xs : List Str) (n : Nat), vs = [.ref p, .ref a] ∧ H a = some (.lst (xs.map V.str)) ∧ (∀ x ∈ xs, IsHand x) ∧ xs.length ≤ 60 ∧ PenAt H p c n ∧ n + 100 < 1000000 ∧
  ∀ (b : Addr) (ys : List Str) (H' : Hp), ys.Perm xs → LTu H' b (ys.map V.str) → PenAt H' p c (n + xs.length + 1) → Kp p H H' → Q (.ref b) H'
theorem ok_listed {f f1 f2 : Addr} {fd fd1 fd2 : FuncData} (F : Fun K "_law_listed" "_law_listed" sListed f fd) (B : Blt2 mg) (D : Df P w K mg base CX0 "_law_draw" 1 f1 fd1 ["pen", "many"] spDraw) (D2 : Df P w K mg base CX0 "_law_shuffled" 2 f2 fd2 ["pen", "some"] (spShuf K)) :
    FnOk P w K mg base CX0 3 f fd ["pen", "hands"] spListed := by
  refine F.ok scListed (fun vs H Q E h => ?_) (fun cdv A outer s H vs Q E hr h => ?_)
  · obtain ⟨p, c, a, xs, n, rfl, _⟩ := h
    rfl
  · obtain ⟨p, c, a, xs, n, rfl, ha, hh, hl, hp, hn, k⟩ := h
    have nd := scListed.nd
    have hr1 : Room 1 _ := hr.mono (by decide)
    refine ⟨_, pss_cons (ps_set (i := 2) nd rfl (.inl rfl) (pe_call D2.ok hr rfl D2.g D2.kp D2.b .nil pass0 (pa_cons (pv 0) (pa_cons (pv 1) pa_nil))))
      (pss_one (ps_ret (pe_ix ix_list (pe_lst (pa_cons (pv 2) (pa_cons (pe_callTy call_tuple_ofF (by rfl) B.tuple (by decide +kernel) (pa_cons (pv 2) pa_nil)) pa_nil))) (pe_call D.ok hr1 rfl D.g D.kp D.b .nil pass0 (pa_cons (pv 0) (pa_cons pe_int pa_nil))) (fun _ _ => rfl)))), ?_⟩
    refine ⟨_, rfl, _, rfl, p, c, a, xs.map V.str, xs.map PyData.str, n, rfl, .inl (SqL.of ha), dp_strs xs, fun d hd => ?_, ?_, hp, ?_, fun q zs H1 pz hq eq hp1 kp1 => ?_⟩
    · obtain ⟨y, z, rfl⟩ := List.mem_map.mp hd
      exact shp_str (hh y z).ok
    · rw [List.length_map]
      omega
    · rw [List.length_map]
      omega
    obtain ⟨ws, pw, rfl⟩ := perm_map_inv pz rfl
    rw [List.length_map] at hp1
    refine ⟨_, rfl, _, rfl, q, ws.map V.str, rfl, SqL.of eq, newF fun b H2 s2 f2 => ?_⟩
    refine ⟨by show 2 ≤ sizeLine; decide, fun L hL => ?_⟩
    have sL : Same H2 (upd H2 L (.lst [.ref q, .ref b])) := same_new hL
    obtain ⟨kvs, hk⟩ := hp1.dk
    have hp2 := (hp1.keep s2).keep sL
    refine ⟨_, rfl, p, c, 2, _, rfl, hp2, by omega, by decide, by decide, fun d H3 d0 d2 hp3 kp3 => ?_⟩
    obtain ⟨kvs3, hk3⟩ := hp2.dk
    have e3 : H3 L = some (.lst [.ref q, .ref b]) := lk_kp kp3 hk3 (fun _ z => by cases z) upd_same
    have q3 : H3 q = some (.lst (ws.map V.str)) := lk_kp kp3 hk3 (fun _ z => by cases z) (sL _ _ (s2 _ _ eq))
    have b3 : Ftp H3 b (ws.map V.str) := ftp_kp kp3 hk3 (f2.same sL)
    have kp4 : Kp p H H3 := (kp1.trans (Kp.same (s2.trans sL))).trans kp3
    obtain ⟨j, rfl⟩ : ∃ j : Nat, d = j := ⟨d.toNat, by omega⟩
    have hj : j = 0 ∨ j = 1 := by omega
    rcases hj with rfl | rfl
    · exact ⟨L, _, _, .ref q, rfl, rfl, SqL.of e3, atI_nat rfl, k q ws H3 pw (.inl q3) hp3 kp4⟩
    · exact ⟨L, _, _, .ref b, rfl, rfl, SqL.of e3, atI_nat rfl, k b ws H3 pw (.inr b3.rd) hp3 kp4⟩
end
end Ah
set_option Elab.async false
set_option linter.all false
set_option maxRecDepth 100000
set_option maxHeartbeats 4000000
namespace Ah
open PySem PySem.Spec PyProof.Rows L2
abbrev sPairsRow : Stmt := topS 33
theorem kp_none {p a : Addr} {H H' : Hp} (k : Kp p H H') {o : HO} (hp : H' p = some o) (h : H' a = none) : H a = none := by
  cases e : H a with
  | none => rfl
  | some x =>
    have := k a x (fun z => by rw [z, hp] at h; cases h) e
    rw [h] at this
    cases this
/-- pairs of which a row has the first ahead of the second -/
def PrsOf (xs : List Str) (ps : List (Str × Str)) : Prop := ∀ x y, (x, y) ∈ ps → ∃ i j : Nat, i < j ∧ xs[i]? = some x ∧ xs[j]? = some y
section
variable {P : Program} {w : World} {K : PySem.W.Frag} {mg : Str → Option Value} {base : Heap}
theorem scPairsRow : FnScope ["pen", "row", "part", "found", "k", "hand"] ["pen", "row"] (defScope sPairsRow) := ⟨rfl, rfl, rfl, by decide +kernel, rfl, by decide +kernel, by decide +kernel⟩
def spPairsRow : Sp := fun vs H Q _ => ∃ (p c r : Addr) (xs : List Str) (n : Nat), vs = [.ref p, .ref r] ∧ Rd H r (.tup (xs.map V.str)) ∧ xs.length ≤ 8 ∧ PenAt H p c n ∧ n + 200 < 1000000 ∧
  ∀ (b : Addr) (us : List V) (ps : List (Str × Str)) (H' : Hp), H' b = some (.lst us) → PrsV H' us ps → PrsOf xs ps → ps.length ≤ 7 * xs.length → PenAt H' p c (n + 100) → Kp p H H' → Q (.ref b) H'
theorem ok_pairsRow {f f1 f2 : Addr} {fd fd1 fd2 : FuncData} (F : Fun K "_law_pairs_of_row" "_law_pairs_of_row" sPairsRow f fd) (B : Blt2 mg) (D : Df P w K mg base CX0 "_law_draw" 1 f1 fd1 ["pen", "many"] spDraw) (D2 : Df P w K mg base CX0 "_law_pick" 2 f2 fd2 ["pen", "some"] (spPick K)) :
    FnOk P w K mg base CX0 3 f fd ["pen", "row"] spPairsRow := by
  refine F.ok scPairsRow (fun vs H Q E h => ?_) (fun cdv A outer s H vs Q E hr h => ?_)
  · obtain ⟨p, c, r, xs, n, rfl, _⟩ := h
    rfl
  · obtain ⟨p, c, r, xs, n, rfl, hx, hl, hp, hn, k⟩ := h
    have nd := scPairsRow.nd
    have hr1 : Room 1 _ := hr.mono (by decide)
    refine ⟨_, pss_cons (ps_asg (pe_tup (pa_cons (pe_call D2.ok hr rfl D2.g D2.kp D2.b .nil pass0 (pa_cons (pv 0) (pa_cons (pe_lst (pa_cons pe_int (pa_cons pe_int (pa_cons pe_int (pa_cons pe_int (pa_cons pe_int pa_nil)))))) pa_nil))) (pa_cons (pe_lst pa_nil) pa_nil)))
        (pg_tup rfl (pgs_cons (pg_name (i := 2) nd rfl (.inr rfl)) (pgs_cons (pg_name (i := 3) nd rfl (.inl rfl)) pgs_nil))))
      (pss_cons (ps_for PassesOwn.never rfl (pi_range1 rfl B.range (pa_cons (pe_callB call_len_seq (by rfl) B.len PySem.boot_len (pa_cons (pv 1) pa_nil)) pa_nil)) (pg_name (i := 4) nd rfl (.inr rfl))
        (pss_one (ps_expr (pe_bm PySem.F.plainAttrs_list PySem.F.slot_list_extend PySem.F.type_list_extend mt_extend (pv 3) (pa_cons (pe_lc (own := [("hand", 5)]) (g := gName 5) (tt := tTest (tOp rEq (tCall spDraw [] E0 (tCons (tVar 0) (tCons (tVar 2) tNil))) (tC (.int 0)))) rfl nd (pi_tup (pe_slice sl_tupA (pv 1) (po_some (pe_op op_add (pv 4) pe_int)) po_none))
          (blkOk_by (N := ["pen", "row", "part", "found", "k", "hand"]) (sc := defScope sPairsRow) (by decide +kernel)) (fun _ _ _ _ _ => pg_name (i := 5) nd rfl (Or.inl rfl))
          (fun _ _ _ _ _ => pts_one (pt_cmpR op_eq (pe_call D.ok hr1 rfl D.g D.kp D.b .nil pass0 (pa_cons (pv 0) (pa_cons (pv 2) pa_nil))) pe_int (nomark _)))
          (fun _ _ _ _ _ => pe_tup (pa_cons (pe_ix (r := rIxT K) ix_tup (pv 1) (pv 4) (fun _ _ => rfl)) (pa_cons (pv 5) pa_nil)))) pa_nil)))))
      (pss_one (ps_ret (pv 3)))), ?_⟩
    have lm : (xs.map V.str).length = xs.length := List.length_map ..
    obtain ⟨kvs, hk⟩ := hp.dk
    refine ⟨_, rfl, by show 5 ≤ sizeLine; decide, fun A0 hA0 => ?_⟩
    have sA : Same H (upd H A0 (.lst ([1, 2, 3, 6, 20].map V.int))) := same_new hA0
    refine ⟨p, c, .ref A0, [1, 2, 3, 6, 20].map V.int, n, rfl, .inl ⟨A0, rfl, SqL.of upd_same⟩, hp.keep sA, by omega, by decide, by decide, fun i y H1 hy hp1 kp1 => ?_⟩
    obtain ⟨m, rfl, m0, m1⟩ : ∃ m : Int, y = V.int m ∧ 0 < m ∧ m < 100 := by
      have := List.mem_of_getElem? hy
      simp only [List.map_cons, List.map_nil, List.mem_cons, List.not_mem_nil, or_false] at this
      rcases this with e | e | e | e | e <;> exact ⟨_, e, by decide, by decide⟩
    have kpA : Kp p H H1 := (Kp.same sA).trans kp1
    refine ⟨Nat.zero_le _, fun L hL => ?_⟩
    have sL : Same H1 (upd H1 L (.lst [])) := same_new hL
    obtain ⟨kvs1, hk1⟩ := hp1.dk
    have hL0 : H L = none := kp_none kpA hk1 hL
    have e1 : (upd H1 L (.lst [])) L = some (.lst []) := upd_same
    have hp2 := hp1.keep sL
    have kp2 := kpA.trans (Kp.same sL)
    generalize upd H1 L (.lst []) = H2 at e1 hp2 kp2 ⊢
    refine ⟨by show 2 ≤ sizeLine; decide, fun T hT => ?_⟩
    have sT : Same H2 (upd H2 T (.tup [.int m, .ref L])) := same_new hT
    refine ⟨T, _, rfl, .inl (.inl upd_same), rfl, _, _, rfl, ?_⟩
    refine ⟨_, _, rfl, rfl, ?_⟩
    have e3 := sT _ _ e1
    have hp3 := hp2.keep sT
    have kp3 := kp2.trans (Kp.same sT)
    generalize upd H2 T (.tup [.int m, .ref L]) = H3 at e3 hp3 kp3 ⊢
    refine ⟨_, rfl, r, xs.map V.str, rfl, .inr (.inl (rd_kp kp3 hk (fun _ z => by cases z) hx)), _, rfl, by omega, by omega, ?_⟩
    rw [Int.toNat_natCast, lm]
    refine for_range (lo := 0) (n := xs.length) (fun i σ H4 => ∃ (o4 : Option V) (us : List V) (ps : List (Str × Str)), σ = [some (.ref p), some (.ref r), some (.int m), some (.ref L), o4, none] ∧ H4 L = some (.lst us) ∧ PrsV H4 us ps ∧ PrsOf xs ps ∧ ps.length ≤ 7 * i ∧ PenAt H4 p c (n + 1 + 8 * i) ∧ Kp p H H4) ⟨none, [], [], rfl, e3, trivial, (fun _ _ z => by cases z), Nat.zero_le _, hp3, kp3⟩ ?_ ?_
    · rintro i σ H4 hi ⟨o4, us, ps, rfl, e4, r4, o, l4, hp4, kp4⟩
      have e0 : (0 : Int) + (i : Int) = ((i : Nat) : Int) := by omega
      have e1 : (0 : Int) + (i : Int) + 1 = ((i + 1 : Nat) : Int) := by omega
      have ha : xs[i]? = some (xs.getD i default) := getD_at hi
      have hx4 := rd_kp kp4 hk (fun _ z => by cases z) hx
      obtain ⟨kv4, hk4⟩ := hp4.dk
      refine ⟨_, rfl, .inl ⟨rfl, _, SqL.of e4⟩, _, rfl, _, rfl, _, _, rfl, rfl, _, rfl, ?_⟩
      dsimp only [tNoPart]
      refine slA hx4 fun b H5 s5 e5 => ?_
      rw [e1, cutV_from (by omega), ← List.map_drop] at e5
      have hp5 := hp4.keep s5
      have hk5 := s5 _ _ hk4
      refine ⟨b, rfl, ⟨_, .inl e5⟩, fun D0 hD0 => ?_⟩
      refine lc_tup (K := K) (a := b) (xs := (xs.drop (i + 1)).map V.str) (fun j H6 => ∃ (ws : List V) (qs : List (Str × Str)), H6 D0 = some (.lst ws) ∧ PrsV H6 ws qs ∧ (∀ x y, (x, y) ∈ qs → x = xs.getD i default ∧ ∃ m : Nat, i < m ∧ xs[m]? = some y) ∧ qs.length ≤ j ∧ PenAt H6 p c (n + 1 + 8 * i + j) ∧ Kp p H5 H6) ⟨[], [], upd_same, trivial, (fun _ _ z => by cases z), Nat.zero_le _, hp5.keep (same_new hD0), Kp.new hD0⟩ (fun j H6 _ q => let ⟨_, _, _, _, _, _, _, kp6⟩ := q; .inl (rd_kp kp6 hk5 (fun _ z => by cases z) e5)) ?_ ?_
      · rintro j x H6 hx6 ⟨ws, qs, e6, r6, o6, l6, hp6, kp6⟩
        obtain ⟨b', hb, rfl, _⟩ := str_at hx6
        have hjl := (List.getElem?_eq_some_iff.mp hb).1
        rw [List.length_drop] at hjl
        rw [List.getElem?_drop] at hb
        refine ⟨rfl, _, rfl, _, rfl, p, c, m, _, rfl, hp6, by omega, m0, by omega, fun d H7 d0 d1 hp7 kp7 => ?_⟩
        obtain ⟨kv6, hk6⟩ := hp6.dk
        have e7 := lk_kp kp7 hk6 (fun _ z => by cases z) e6
        have r7 := r6.kp kp7 hk6
        have kp57 := kp6.trans kp7
        refine ⟨rfl, _, rfl, ?_⟩
        refine ite2 (fun e8 => ?_) (fun e8 => ?_)
        · have hx7 := rd_kp kp57 hk5 (fun _ z => by cases z) (rd_same s5 hx4)
          refine ⟨_, rfl, _, rfl, r, xs.map V.str, _, .str (xs.getD i default), rfl, rfl, .inl hx7, (by rw [e0]; exact atI_nat (by rw [List.getElem?_map, ha]; rfl)), _, rfl, by show 2 ≤ sizeLine; decide, fun T7 hT7 => ?_⟩
          have s8 : Same H7 (upd H7 T7 (.tup [.str (xs.getD i default), .str b'])) := same_new hT7
          refine ⟨ws, s8 _ _ e7, small1000 (by have := r7.len; omega), ws ++ [.ref T7], qs ++ [(xs.getD i default, b')], upd_same, ?_, ?_, ?_, ?_, ?_⟩
          · exact ((r7.same s8).append (show PrsV _ [.ref T7] [(xs.getD i default, b')] from ⟨⟨T7, rfl, upd_same⟩, trivial⟩)).mut (s8 _ _ e7)
          · intro x y z
            rcases List.mem_append.mp z with z | z
            · exact o6 x y z
            · obtain ⟨rfl, rfl⟩ := Prod.mk.inj (List.mem_singleton.mp z)
              exact ⟨rfl, i + 1 + j, by omega, hb⟩
          · rw [List.length_append]
            exact Nat.succ_le_succ l6
          · exact hp5.mut hD0 (hp7.keep s8)
          · exact (kp57.trans (Kp.same s8)).mut hD0
        · exact ⟨ws, qs, e7, r7, o6, by omega, hp7, kp57⟩
      · rintro H6 ⟨ws, qs, e6, r6, o6, l6, hp6, kp6⟩
        rw [List.length_map, List.length_drop] at l6 hp6
        have e4' := lk_kp kp6 hk5 (fun _ z => by cases z) (s5 _ _ e4)
        have r4' := (r4.same s5).kp kp6 hk5
        have lr := r4.len
        have lq := r6.len
        refine ⟨L, D0, us, ws, rfl, rfl, e4', e6, Nat.le_of_lt (small1000 (by omega)), ?_⟩
        refine ⟨_, us ++ ws, ps ++ qs, rfl, upd_same, (r4'.append r6).mut e4', ?_, ?_, ?_, ?_⟩
        · intro x y z
          rcases List.mem_append.mp z with z | z
          · exact o x y z
          · obtain ⟨rfl, j, h1, h2⟩ := o6 x y z
            exact ⟨i, j, h1, ha, h2⟩
        · rw [List.length_append]
          omega
        · exact (hp.mut hL0 hp6).mono (by omega)
        · exact ((kp4.trans (Kp.same s5)).trans kp6).mut hL0
    · rintro σ H4 ⟨o4, us, ps, rfl, e4, r4, o, l4, hp4, kp4⟩
      exact ⟨_, rfl, k L us ps H4 e4 r4 o l4 (hp4.mono (by omega)) kp4⟩
end
end Ah
set_option Elab.async false
set_option linter.all false
set_option maxRecDepth 100000
set_option maxHeartbeats 4000000
namespace Ah
open PySem PySem.Spec PyProof.Rows L2
theorem shp_sh {p : Str × Str} (h : Shp (prD p)) : SeqAt.shaped (prD p) = true := shp_tup (by have := h.1; simpa [prD, PyData.canLay0] using this) (by have := h.2; simp only [prD, PyData.depth] at this; omega)
/-- x in xs, xs a list or a tuple of data -/
def rInDL (K : PySem.W.Frag) : R2 := fun x y H Q => ∃ d ds, Dp K H x d ∧ (Dp K H y (.list ds) ∨ Dp K H y (.tuple ds)) ∧ SeqAt.shaped d = true ∧ SeqAt.shaped (.list ds) = true ∧ SeqAt.shaped (.tuple ds) = true ∧ Q (.bl (ds.any fun z => PyData.eqv z d)) H
theorem op_inDL {X : Cx} (hu : X.A.units + 65 < cLine) : OpR X (compareOp .In) (rInDL X.K) := by
  intro pins s σ H x y v u Q I rx ry h
  obtain ⟨d, ds, hd, he, sd, sl, st, q⟩ := h
  obtain ⟨as, r1⟩ := Dp.reads I d x v hd rx
  rcases he with he | he
  · obtain ⟨bs, r2⟩ := Dp.reads I (.list ds) y u he ry
    exact SeqAt.in_list_reads r2 r1 (SeqAt.canLay_of_shaped sl) (SeqAt.canLay_of_shaped sd) (room_in_shaped sd hu) ⟨.bl _, H, I, rfl, q⟩
  · obtain ⟨bs, r2⟩ := Dp.reads I (.tuple ds) y u he ry
    exact SeqAt.in_tuple_reads r2 r1 (SeqAt.canLay_of_shaped st) (SeqAt.canLay_of_shaped sd) (room_in_shaped sd hu) ⟨.bl _, H, I, rfl, q⟩
theorem eqv_pr (p q : Str × Str) : PyData.eqv (prD p) (prD q) = decide (p = q) := by
  have e : PyData.eqv (prD p) (prD q) = (PyData.eqv (.str p.1) (.str q.1) && (PyData.eqv (.str p.2) (.str q.2) && true)) := by
    simp only [prD, PyData.eqv, PyData.eqvAll]
  rw [e, eqv_str, eqv_str, Bool.and_true]
  by_cases h : p = q
  · rw [decide_eq_true h, decide_eq_true (congrArg Prod.fst h), decide_eq_true (congrArg Prod.snd h)]
    rfl
  · rw [decide_eq_false h]
    by_cases h1 : p.1 = q.1
    · rw [decide_eq_true h1, decide_eq_false fun h2 => h (Prod.ext h1 h2)]
      rfl
    · rw [decide_eq_false h1]
      rfl
theorem any_pr (ps : List (Str × Str)) (q : Str × Str) : ((ps.map prD).any fun z => PyData.eqv z (prD q)) = ps.contains q := by
  rw [List.any_map]
  have : ((fun z => PyData.eqv z (prD q)) ∘ prD) = fun p => decide (p = q) := funext fun p => eqv_pr p q
  rw [this]
  rw [Bool.eq_iff_iff, List.any_eq_true, List.contains_iff_mem]
  exact ⟨fun ⟨p, h1, h2⟩ => of_decide_eq_true h2 ▸ h1, fun h => ⟨q, h, decide_eq_true rfl⟩⟩
abbrev sAhead : Stmt := topS 15
section
variable {P : Program} {w : World} {K : PySem.W.Frag} {mg : Str → Option Value} {base : Heap}
theorem scAhead : FnScope ["hands", "pairs", "hand", "a"] ["hands", "pairs", "hand"] (defScope sAhead) := ⟨rfl, rfl, rfl, by decide +kernel, rfl, by decide +kernel, by decide +kernel⟩
def PrsOk (ps : List (Str × Str)) : Prop := ∀ x ∈ ps, PyData.strOk x.1 = true ∧ PyData.strOk x.2 = true
def spAhead : Sp := fun vs H Q _ => ∃ (a b : Addr) (xs : List Str) (us : List V) (ps : List (Str × Str)) (z : Str), vs = [.ref a, .ref b, .str z] ∧ H a = some (.lst (xs.map V.str)) ∧ LTu H b us ∧ PrsV H us ps ∧ (∀ x ∈ xs, PyData.strOk x = true) ∧ PyData.strOk z = true ∧ PrsOk ps ∧ xs.length ≤ 60 ∧
  ∀ (q : Addr) (H' : Hp), Same H H' → H' q = some (.lst ((aheadOf ps xs z).map V.str)) → Q (.ref q) H'
theorem LTu.dp {H : Hp} {b : Addr} {us : List V} {ps : List (Str × Str)} (h : LTu H b us) (r : PrsV H us ps) : Dp K H (.ref b) (.list (ps.map prD)) ∨ Dp K H (.ref b) (.tuple (ps.map prD)) := by
  rcases h with h | h
  · exact .inl (.lst (SqL.of h) r.dp)
  · exact .inr (.tup (.inl h) r.dp)
theorem ok_ahead {f : Addr} {fd : FuncData} (F : Fun K "told_ahead" "told_ahead" sAhead f fd) : FnOk P w K mg base CX0 1 f fd ["hands", "pairs", "hand"] spAhead := by
  refine F.ok scAhead (fun vs H Q E h => ?_) (fun cdv A outer s H vs Q E hr h => ?_)
  · obtain ⟨a, b, xs, us, ps, z, rfl, _⟩ := h
    rfl
  · obtain ⟨a, b, xs, us, ps, z, rfl, ha, hbl, hps, ok, okz, okp, hl, k⟩ := h
    have nd := scAhead.nd
    have hu65 : (A.deeper (envOfC "told_ahead" (defScope sAhead) s.heap.objs.size f cdv)).units + 65 < cLine := by
      have := hr.un
      omega
    refine ⟨_, pss_one (ps_ret (pe_lc (own := [("a", 3)]) (g := gName 3) (tt := tTest (tOp (rInDL K) (tTup (tCons (tVar 3) (tCons (tVar 2) tNil))) (tVar 1))) rfl nd (pi_list (pv 0))
          (blkOk_by (N := ["hands", "pairs", "hand", "a"]) (sc := defScope sAhead) (by decide +kernel)) (fun _ _ _ _ _ => pg_name (i := 3) nd rfl (Or.inl rfl))
          (fun _ _ _ _ _ => pts_one (pt_cmpR (op_inDL hu65) (pe_tup (pa_cons (pv 3) (pa_cons (pv 2) pa_nil))) (pv 1) (by rfl)))
          (fun _ _ _ _ _ => pv 3))), ?_⟩
    have shp : ∀ d ∈ ps.map prD, Shp d := fun d hd => by
      obtain ⟨y, q, rfl⟩ := List.mem_map.mp hd
      exact shp_pr (okp y q).1 (okp y q).2
    refine ⟨_, rfl, a, rfl, ⟨_, SqL.of ha⟩, fun D0 hD0 => ?_⟩
    refine lc_list (K := K) (a := a) (xs := xs.map V.str) (fun i H2 => Same H H2 ∧ H2 D0 = some (.lst (((xs.take i).filter fun x => ps.contains (x, z)).map V.str))) ⟨same_new hD0, upd_same⟩ (fun i H2 _ q => SqL.of (q.1 _ _ ha)) ?_ ?_
    · rintro i x H2 hx ⟨s2, e2⟩
      obtain ⟨b', hb, rfl, _⟩ := str_at hx
      have et : xs.take (i + 1) = xs.take i ++ [b'] := by rw [List.take_succ, hb]; rfl
      have hil := (List.getElem?_eq_some_iff.mp hb).1
      refine ⟨rfl, _, rfl, _, rfl, by show 2 ≤ sizeLine; decide, fun T hT => ?_⟩
      have sT : Same H2 (upd H2 T (.tup [.str b', .str z])) := same_new hT
      have s3 := s2.trans sT
      refine ⟨_, rfl, prD (b', z), ps.map prD, .tup (.inl (.inl upd_same)) (.cons (.str _) (.cons (.str _) .nil)), LTu.dp (hbl.same s3) (hps.same s3), shp_sh (shp_pr (ok _ (List.mem_of_getElem? hb)) okz), shp_l shp, shp_t shp, _, rfl, ?_⟩
      rw [any_pr]
      have e3 := sT _ _ e2
      rw [et, List.filter_append, List.map_append]
      by_cases q : ps.contains (b', z) = true
      · rw [q, List.filter_cons, if_pos q]
        refine iteT ⟨_, rfl, _, e3, ?_, same_mut s3 hD0, upd_same⟩
        rw [List.length_map]
        exact small1000 (Nat.le_trans (List.length_filter_le _ _) (by rw [List.length_take]; omega))
      · rw [Bool.eq_false_iff.mpr q, List.filter_cons, if_neg q]
        refine iteF ⟨s3, ?_⟩
        rw [e3]
        simp
    · rintro H2 ⟨s2, e2⟩
      rw [List.length_map, List.take_length] at e2
      exact k D0 H2 s2 e2
end
end Ah
set_option Elab.async false
set_option linter.all false
set_option maxRecDepth 100000
set_option maxHeartbeats 4000000
namespace Ah
open PySem PySem.Spec PyProof.Rows L2
abbrev sKnotted : Stmt := topS 14
section
variable {P : Program} {w : World} {K : PySem.W.Frag} {mg : Str → Option Value} {base : Heap}
theorem scKnotted : FnScope ["hands", "pairs", "left", "_", "b"] ["hands", "pairs"] (defScope sKnotted) := ⟨rfl, rfl, rfl, by decide +kernel, rfl, by decide +kernel, by decide +kernel⟩
def spKnotted : Sp := fun vs H Q _ => ∃ (a b : Addr) (xs : List Str) (us : List V) (ps : List (Str × Str)), vs = [.ref a, .ref b] ∧ LTu H a (xs.map V.str) ∧ LTu H b us ∧ PrsV H us ps ∧ (∀ x ∈ xs, PyData.strOk x = true) ∧ PrsOk ps ∧ xs.length ≤ 60 ∧
  ∀ (q : Addr) (ys : List Str) (H' : Hp), Same H H' → ys.Perm xs → sortedS ys = true → H' q = some (.lst ((Nat.repeat (peel ps) ys.length ys).map V.str)) → Q (.ref q) H'
theorem repeat_sub {α : Type} {f : List α → List α} (h : ∀ l, ∀ x ∈ f l, x ∈ l) (hl : ∀ l, (f l).length ≤ l.length) (l : List α) : ∀ n, (∀ x ∈ Nat.repeat f n l, x ∈ l) ∧ (Nat.repeat f n l).length ≤ l.length
  | 0 => ⟨fun _ z => z, Nat.le_refl _⟩
  | n + 1 => ⟨fun x z => (repeat_sub h hl l n).1 x (h _ x z), Nat.le_trans (hl _) (repeat_sub h hl l n).2⟩
/-- the truth of what told_ahead tells -/
def ttAhead (K : PySem.W.Frag) : TT := fun σ H Q => tCall spAhead [] E0 (tCons (tVar 2) (tCons (tVar 1) (tCons (tVar 4) tNil))) σ H fun x H' => ∃ k, TruV K x H' k ∧ Q k H'
theorem ok_knotted {f f1 : Addr} {fd fd1 : FuncData} (F : Fun K "knotted_hands" "knotted_hands" sKnotted f fd) (B : Blt2 mg) (D : Df P w K mg base CX0 "told_ahead" 1 f1 fd1 ["hands", "pairs", "hand"] spAhead) : FnOk P w K mg base CX0 2 f fd ["hands", "pairs"] spKnotted := by
  refine F.ok scKnotted (fun vs H Q E h => ?_) (fun cdv A outer s H vs Q E hr h => ?_)
  · obtain ⟨a, b, xs, us, ps, rfl, _⟩ := h
    rfl
  · obtain ⟨a, b, xs, us, ps, rfl, ha, hbl, hps, ok, okp, hl, k⟩ := h
    have nd := scKnotted.nd
    refine ⟨_, pss_cons (ps_set (i := 2) nd rfl (.inr rfl) (pe_callB cr_sortedTS (by rfl) B.sorted (by decide +kernel) (pa_cons (pv 0) pa_nil)))
      (pss_cons (ps_for PassesOwn.never rfl (pi_range1 rfl B.range (pa_cons (pe_callB call_len_seq (by rfl) B.len PySem.boot_len (pa_cons (pv 2) pa_nil)) pa_nil)) (pg_name (i := 3) nd rfl (.inl rfl))
        (pss_one (ps_set (i := 2) nd rfl (.inr rfl) (pe_lc (own := [("b", 4)]) (g := gName 4) (tt := ttAhead K) rfl nd (pi_list (pv 2))
          (blkOk_by (N := ["hands", "pairs", "left", "_", "b"]) (sc := defScope sKnotted) (by decide +kernel)) (fun _ _ _ _ _ => pg_name (i := 4) nd rfl (Or.inl rfl))
          (fun _ _ _ _ _ => pts_one (show PT _ _ (ttAhead K) from pt_truth (pe_call D.ok hr rfl D.g D.kp D.b .nil pass0 (pa_cons (pv 2) (pa_cons (pv 1) (pa_cons (pv 4) pa_nil)))) (by intro _; rfl)))
          (fun _ _ _ _ _ => pv 4)))))
      (pss_one (ps_ret (pv 2)))), ?_⟩
    refine ⟨_, rfl, a, xs, rfl, ha.sq, by omega, fun ys c py sy hc => ?_⟩
    have sc : Same H (upd H c (.lst (ys.map V.str))) := same_new hc
    have e1 : (upd H c (.lst (ys.map V.str))) c = some (.lst (ys.map V.str)) := upd_same
    generalize upd H c (.lst (ys.map V.str)) = H1 at sc e1 ⊢
    have ly := py.length_eq
    have lm : (ys.map V.str).length = ys.length := List.length_map ..
    refine ⟨_, rfl, c, ys.map V.str, rfl, .inl (SqL.of e1), _, rfl, by omega, by omega, ?_⟩
    rw [Int.toNat_natCast, lm]
    have rs := repeat_sub (f := peel ps) (fun l x z => (List.mem_filter.mp z).1) (fun l => List.length_filter_le _ _) ys
    refine for_range (lo := 0) (n := ys.length) (fun i σ H2 => ∃ (o3 : Option V) (d : Addr), σ = [some (.ref a), some (.ref b), some (.ref d), o3, none] ∧ Same H H2 ∧ H2 d = some (.lst ((Nat.repeat (peel ps) i ys).map V.str))) ⟨none, c, rfl, sc, e1⟩ ?_ ?_
    · rintro i σ H2 hi ⟨o3, d, rfl, s2, e2⟩
      refine ⟨_, rfl, d, rfl, ⟨_, SqL.of e2⟩, fun D0 hD0 => ?_⟩
      have hrs := rs i
      generalize hls : Nat.repeat (peel ps) i ys = ls at e2 hrs
      have okl : ∀ x ∈ ls, PyData.strOk x = true := fun x z => ok x (py.mem_iff.mp (hrs.1 x z))
      refine lc_list (K := K) (a := d) (xs := ls.map V.str) (fun j H3 => Same H2 H3 ∧ H3 D0 = some (.lst (((ls.take j).filter fun x => !(aheadOf ps ls x).isEmpty).map V.str))) ⟨same_new hD0, upd_same⟩ (fun j H3 _ q => SqL.of (q.1 _ _ e2)) ?_ ?_
      · rintro j x H3 hx ⟨s3, e3⟩
        obtain ⟨b', hb, rfl, _⟩ := str_at hx
        have et : ls.take (j + 1) = ls.take j ++ [b'] := by rw [List.take_succ, hb]; rfl
        have hil := (List.getElem?_eq_some_iff.mp hb).1
        have s23 := s2.trans s3
        refine ⟨rfl, _, rfl, _, rfl, _, rfl, d, b, ls, us, ps, b', rfl, s3 _ _ e2, hbl.same s23, hps.same s23, okl, okl _ (List.mem_of_getElem? hb), okp, by omega, fun q H4 s4 e4 => ?_⟩
        refine ⟨_, .inl ⟨_, SqL.of e4, rfl⟩, ?_⟩
        have e3' := s4 _ _ e3
        rw [et, List.filter_append, List.map_append, List.isEmpty_map]
        by_cases q : (!(aheadOf ps ls b').isEmpty) = true
        · rw [q, List.filter_cons, if_pos q]
          refine iteT ⟨_, rfl, _, e3', ?_, same_mut (s3.trans s4) hD0, upd_same⟩
          rw [List.length_map]
          exact small1000 (Nat.le_trans (List.length_filter_le _ _) (by rw [List.length_take]; omega))
        · rw [Bool.eq_false_iff.mpr q, List.filter_cons, if_neg q]
          refine iteF ⟨s3.trans s4, ?_⟩
          rw [e3']
          simp
      · rintro H3 ⟨s3, e3⟩
        rw [List.length_map, List.take_length] at e3
        exact ⟨_, D0, rfl, s2.trans s3, by
          show H3 D0 = some (.lst ((peel ps (Nat.repeat (peel ps) i ys)).map V.str))
          rw [hls]
          exact e3⟩
    · rintro σ H2 ⟨o3, d, rfl, s2, e2⟩
      exact ⟨_, rfl, k d ys H2 s2 py sy e2⟩
end
end Ah
set_option Elab.async false
set_option linter.all false
set_option maxRecDepth 100000
set_option maxHeartbeats 4000000
namespace Ah
open PySem PySem.Spec PyProof.Rows L2
abbrev sIsPair : Stmt := topS 11
theorem inV_txts (x : Str) (xs : List Str) : inV (.str x) (xs.map V.str) = decide (x ∈ xs) := by
  unfold inV
  induction xs with
  | nil => rfl
  | cons y r ih =>
    rw [List.map_cons, List.any_cons, ih]
    by_cases h : y = x
    · subst h
      have : eqV (V.str y) (V.str y) = true := by simp [eqV]
      rw [this]
      simp
    · have : eqV (V.str y) (V.str x) = false := by simp [eqV, h]
      rw [this, Bool.false_or]
      have h' : ¬ x = y := fun e => h e.symm
      simp [List.mem_cons, h']
section
variable {P : Program} {w : World} {K : PySem.W.Frag} {mg : Str → Option Value} {base : Heap}
theorem scIsPair : FnScope ["hands", "thing", "a", "b"] ["hands", "thing"] (defScope sIsPair) := ⟨rfl, rfl, rfl, by decide +kernel, rfl, by decide +kernel, by decide +kernel⟩
/-- of a pair of texts -/
def spIsPair : Sp := fun vs H Q _ => ∃ (g : Addr) (v : V) (hs : List Str) (q : Str × Str), vs = [.ref g, v] ∧ LTu H g (hs.map V.str) ∧ PrV H v q ∧ Q (.bl (decide (q.1 ∈ hs ∧ q.2 ∈ hs ∧ q.1 ≠ q.2))) H
theorem ok_isPair {f : Addr} {fd : FuncData} (F : Fun K "is_pair" "is_pair" sIsPair f fd) (B : Blt2 mg) : FnOk P w K mg base CX0 1 f fd ["hands", "thing"] spIsPair := by
  refine F.ok scIsPair (fun vs H Q E h => ?_) (fun cdv A outer s H vs Q E hr h => ?_)
  · obtain ⟨g, v, hs, q, rfl, _⟩ := h
    rfl
  · obtain ⟨g, v, hs, q, rfl, hg, ⟨T, rfl, hT⟩, k⟩ := h
    have nd := scIsPair.nd
    refine ⟨_, pss_cons (ps_if (PW.pt (pw_or (pt_not (pt_val (pe_callB call_isi (by rfl) B.isinstance (by decide +kernel) (pa_cons (pv 1) (pa_cons (pe_bltn (v := .ty "tuple") (by rfl) B.tuple (by decide +kernel) rfl) pa_nil)))))
          (pw_or1 (pt_cmpR op_ne (pe_callB call_len_seq (by rfl) B.len PySem.boot_len (pa_cons (pv 1) pa_nil)) pe_int (nomark _))))) (pss_one (ps_ret pe_bl)) pss_nil)
      (pss_cons (ps_asg (pv 1) (pg_tup rfl (pgs_cons (pg_name (i := 2) nd rfl (.inl rfl)) (pgs_cons (pg_name (i := 3) nd rfl (.inl rfl)) pgs_nil))))
      (pss_one (ps_ret (pe_and (pe_cmpR (r := rIn K false) op_in_seq (pv 2) (pv 0) (by rfl)) (pe_and (pe_cmpR (r := rIn K false) op_in_seq (pv 3) (pv 0) (by rfl)) (pe_one (pe_cmpR op_ne (pv 2) (pv 3) (nomark _)))))))), ?_⟩
    have hTr : Rd H T (.tup [.str q.1, .str q.2]) := .inl hT
    refine ⟨_, rfl, .ref T, .ty "tuple", _, _, true, rfl, .ty "tuple", ty_tup hTr, kit_ty (by decide +kernel), _, rfl, ?_⟩
    refine iteF ⟨_, rfl, T, _, rfl, .inr (.inl hTr), rfl, _, rfl, ?_⟩
    refine iteF ⟨_, rfl, T, _, rfl, .inl (.inl hT), rfl, _, _, rfl, ?_⟩
    refine ⟨_, _, rfl, rfl, ?_⟩
    refine ⟨_, rfl, _, rfl, g, _, rfl, hg.sq, rfl, flat_strs hs, _, rfl, ?_⟩
    rw [if_neg Bool.false_ne_true, inV_txts]
    have kF : ¬ (q.1 ∈ hs ∧ q.2 ∈ hs ∧ q.1 ≠ q.2) → Q (.bl false) H := fun z => by
      rw [decide_eq_false z] at k
      exact k
    by_cases h1 : q.1 ∈ hs
    · rw [decide_eq_true h1]
      refine iteT ⟨_, rfl, _, rfl, g, _, rfl, hg.sq, rfl, flat_strs hs, _, rfl, ?_⟩
      rw [if_neg Bool.false_ne_true, inV_txts]
      by_cases h2 : q.2 ∈ hs
      · rw [decide_eq_true h2]
        refine iteT ⟨_, rfl, _, rfl, rfl, ?_⟩
        by_cases h3 : q.1 = q.2
        · rw [decide_eq_true (congrArg V.str h3)]
          exact kF fun z => z.2.2 h3
        · rw [decide_eq_false fun z => h3 (V.str.inj z)]
          rw [decide_eq_true (show q.1 ∈ hs ∧ q.2 ∈ hs ∧ q.1 ≠ q.2 from ⟨h1, h2, h3⟩)] at k
          exact k
      · rw [decide_eq_false h2]
        exact iteF (kF fun z => h2 z.2.1)
    · rw [decide_eq_false h1]
      exact iteF (kF fun z => h1 z.1)
end
end Ah
set_option Elab.async false
set_option linter.all false
set_option maxRecDepth 100000
set_option maxHeartbeats 4000000
namespace Ah
open PySem PySem.Spec PyProof.Rows L2
open PySem.W (dataLt alike)
/-- x < y, alike data -/
def rLtD (K : PySem.W.Frag) : R2 := fun x y H Q => ∃ d e, Dp K H x d ∧ Dp K H y e ∧ alike d e = true ∧ d ≠ .none ∧ d.depth ≤ 60 ∧ Q (.bl (dataLt d e)) H
theorem op_ltD {X : Cx} (hu : X.A.units + 65 < cLine) : OpR X (compareOp .Lt) (rLtD X.K) := by
  intro pins s σ H x y v u Q I rx ry h
  obtain ⟨d, e, hd, he, al, nn, dp, q⟩ := h
  obtain ⟨as, r1⟩ := Dp.reads I d x v hd rx
  obtain ⟨bs, r2⟩ := Dp.reads I e y u he ry
  exact PySem.W.lt_data r1 r2 al nn (by omega) ⟨.bl _, H, I, rfl, q⟩
abbrev sRising : Stmt := topS 5
theorem pr_alike (p q : Str × Str) : alike (prD p) (prD q) = true := prs_alike [p, q] _ (by simp) _ (by simp)
section
variable {P : Program} {w : World} {K : PySem.W.Frag} {mg : Str → Option Value} {base : Heap}
theorem scRising : FnScope ["things", "k"] ["things"] (defScope sRising) := ⟨rfl, rfl, rfl, by decide +kernel, rfl, by decide +kernel, by decide +kernel⟩
/-- of a rising tuple of pairs -/
def spRising : Sp := fun vs H Q _ => ∃ (t : Addr) (us : List V) (ps : List (Str × Str)), vs = [.ref t] ∧ Rd H t (.tup us) ∧ PrsV H us ps ∧ ps.Pairwise pLt ∧ ps.length ≤ 900 ∧ ∀ H', Same H H' → Q (.bl true) H'
theorem ok_rising {f : Addr} {fd : FuncData} (F : Fun K "is_rising" "is_rising" sRising f fd) (B : Blt2 mg) : FnOk P w K mg base CX0 1 f fd ["things"] spRising := by
  refine F.ok scRising (fun vs H Q E h => ?_) (fun cdv A outer s H vs Q E hr h => ?_)
  · obtain ⟨t, us, ps, rfl, _⟩ := h
    rfl
  · obtain ⟨t, us, ps, rfl, ht, hps, hp, hl, k⟩ := h
    have nd := scRising.nd
    have hu65 : (A.deeper (envOfC "is_rising" (defScope sRising) s.heap.objs.size f cdv)).units + 65 < cLine := by
      have := hr.un
      omega
    refine ⟨_, pss_one (ps_ret (pe_callB (cr_all rfl) (by rfl) B.all (by decide +kernel) (pa_cons (pe_lc (own := [("k", 1)]) (g := gName 1) (tt := tYes) (te := tOp (rLtD K) (tOp (rIxT K) (tVar 0) (tOp (rI0 fun i j => .int (i - j)) (tVar 1) (tC (.int 1)))) (tOp (rIxT K) (tVar 0) (tVar 1))) rfl nd
        (pi_range2 rfl B.range (pa_cons pe_int (pa_cons (pe_callB call_len_seq (by rfl) B.len PySem.boot_len (pa_cons (pv 0) pa_nil)) pa_nil))) (blkOk_by (N := ["things", "k"]) (sc := defScope sRising) (by decide +kernel))
        (fun _ _ _ _ _ => pg_name (i := 1) nd rfl (Or.inl rfl)) (fun _ _ _ _ _ => pts_nil)
        (fun _ _ _ _ _ => pe_cmpR (op_ltD hu65) (pe_ix (r := rIxT K) ix_tup (pv 0) (pe_op op_sub (pv 1) pe_int) (fun _ _ => rfl)) (pe_ix (r := rIxT K) ix_tup (pv 0) (pv 1) (fun _ _ => rfl)) (nomark _))) pa_nil))), ?_⟩
    have lu := hps.len
    refine ⟨_, rfl, t, us, rfl, .inr (.inl ht), _, _, rfl, by omega, fun D0 hD0 => ?_⟩
    refine lc_range (lo := 1) (n := ((us.length : Int) - 1).toNat) (fun i H2 => Same H H2 ∧ H2 D0 = some (.lst ((List.replicate i true).map V.bl))) ⟨same_new hD0, upd_same⟩ ?_ ?_
    · rintro i H2 hi ⟨s2, e2⟩
      have g0 : us[i]? = some us[i] := List.getElem?_eq_getElem (by omega)
      have g1 : us[i + 1]? = some us[i + 1] := List.getElem?_eq_getElem (by omega)
      obtain ⟨x, hx, vx⟩ := hps.get g0
      obtain ⟨y, hy, vy⟩ := hps.get g1
      have lt : pLt x y := by
        obtain ⟨h0, rfl⟩ := List.getElem?_eq_some_iff.mp hx
        obtain ⟨h1, rfl⟩ := List.getElem?_eq_some_iff.mp hy
        exact List.pairwise_iff_getElem.mp hp i (i + 1) h0 h1 (by omega)
      have ht2 := rd_same s2 ht
      have dx : Dp K H2 us[i] (prD x) := by
        obtain ⟨T, e, hT⟩ := vx.same s2
        rw [e]
        exact .tup (.inl (.inl hT)) (.cons (.str _) (.cons (.str _) .nil))
      have dy : Dp K H2 us[i + 1] (prD y) := by
        obtain ⟨T, e, hT⟩ := vy.same s2
        rw [e]
        exact .tup (.inl (.inl hT)) (.cons (.str _) (.cons (.str _) .nil))
      have i0 : (1 : Int) + (i : Int) - 1 = ((i : Nat) : Int) := by omega
      have i1 : (1 : Int) + (i : Int) = ((i + 1 : Nat) : Int) := by omega
      refine ⟨rfl, _, rfl, _, rfl, _, _, rfl, rfl, t, us, _, _, rfl, rfl, .inl ht2, (by rw [i0]; exact atI_nat g0), _, rfl, _, rfl, t, us, _, _, rfl, rfl, .inl ht2, (by rw [i1]; exact atI_nat g1), prD x, prD y, dx, dy, pr_alike x y, (fun z => by cases z), ?_, ?_⟩
      · exact prs_depth [x] _ (by simp)
      · rw [dataLt_pr, decide_eq_true lt]
        refine ⟨_, e2, ?_, same_mut s2 hD0, ?_⟩
        · rw [List.length_map, List.length_replicate]
          exact small1000 (by omega)
        · rw [upd_same, List.replicate_succ', List.map_append]
          rfl
    · rintro H2 ⟨s2, e2⟩
      refine ⟨D0, _, rfl, SqL.of e2, ?_⟩
      rw [List.all_replicate]
      have := k H2 s2
      split
      · exact this
      · exact this
end
end Ah
set_option Elab.async false
set_option linter.all false
set_option maxRecDepth 100000
set_option maxHeartbeats 4000000
/-! sorted(d), d a dict whose keys are tuples -/
namespace Ah
open PySem PySem.Spec PyProof.Rows L2
open PySem.W (EachIs AllAlike Sortable dataLe)
def leafD : Key → PyData
  | .inl i => .int i
  | .inr x => .str x
def keyD (k : List Key) : PyData := .tuple (k.map leafD)
theorem dp_leafs {K : PySem.W.Frag} {H : Hp} : ∀ k : List Key, DpAll K H (k.map kV) (k.map leafD)
  | [] => .nil
  | .inl i :: r => .cons (.int i) (dp_leafs r)
  | .inr x :: r => .cons (.str x) (dp_leafs r)
theorem keys_dp {K : PySem.W.Frag} {H : Hp} : ∀ {kvs : List (List Key × V)} {bs : List Addr}, IsKeys H kvs bs → DpAll K H (bs.map V.ref) (kvs.map fun kv => keyD kv.1) := by
  intro kvs bs r
  unfold IsKeys at r
  induction r with
  | nil => exact .nil
  | cons h t ih => exact .cons (.tup (.inl (.inl h)) (dp_leafs _)) ih
def rSortedT (K : PySem.W.Frag) : List V → Hp → VK → Prop := fun vs H Q => ∃ (a : Addr) (kvs : List (List Key × V)), vs = [V.ref a] ∧ Rd H a (.dT kvs) ∧ AllAlike (kvs.map fun kv => keyD kv.1) ∧ Sortable (kvs.map fun kv => keyD kv.1) ∧ (∀ d ∈ kvs.map fun kv => keyD kv.1, d.depth ≤ 60) ∧ kvs.length ≤ 16777216 ∧
  ∀ (bs : List Addr) (zs : List (V × PyData)) (p : Addr), IsKeys H kvs bs → zs.Perm ((bs.map V.ref).zip (kvs.map fun kv => keyD kv.1)) → zs.map (·.2) = sortD (kvs.map fun kv => keyD kv.1) → H p = none → Q (.ref p) (upd H p (.lst (zs.map (·.1))))
section
variable {X : Cx}
theorem cr_sortedT (hc : X.calm = true) (hu : X.A.units + 64 < cLine) : CallR X (.builtin "sorted") (rSortedT X.K) := by
  intro pins s σ H vs us Q I r h
  obtain ⟨a, kvs, rfl, hd, hal, hk, hdep, hlen, q⟩ := h
  rw [Vals.ref1 r]
  obtain ⟨z, hs, ks, pr, o, es, ep, ho, hx, hdt, he, hn⟩ := (show ObjOk X.prog X.w H s.heap a (.dT kvs) from hd.ok I.hok)
  have l1 : es.size = ks.length := size_of_entries he
  have l2 : kvs.length = ks.length := Paired.length pr
  have fits : kvs.length ≤ sizeLine := by rw [sizeLine_eq]; exact hlen
  refine Calls.call_function_entry kind_sorted plain_sorted entry_sorted (args_sorted1 _) ?_
  unfold Builtin.«sorted»
  refine wpAny_bind (m := checkCount "sorted" 1 1 _) (wpAny_pure ?_)
  refine wpAny_bind (PySem.W.kdu_collect (A := X.A.in1) (kdl_raw hs hx hdt) (I.ok.hd hc) ho (by omega) fun h1 tk acc k1 it => ?_)
  have ea : acc.toList = ks.map fun x => Value.ref x.2.1 := by
    have lacc : acc.toList.length = ks.length := by rw [Array.length_toList, it.1]; exact l1
    refine List.ext_getElem? fun j => ?_
    rw [List.getElem?_map]
    cases hj : acc.toList[j]? with
    | none =>
      have m := List.getElem?_eq_none_iff.mp hj
      rw [List.getElem?_eq_none (by omega)]
      all_goals rfl
    | some v =>
      obtain ⟨en, hen, hv⟩ := it.2 j v (by rw [← Array.getElem?_toList]; exact hj)
      have qe := entry_at he j
      rw [hen] at qe
      cases hb : ks[j]? with
      | none =>
        rw [hb] at qe
        exact nomatch (show some en = none from qe)
      | some b =>
        rw [hb] at qe
        rw [hv, show en = entryOfKey (tupleKind (mixKind X.prog X.w)) b from Option.some.inj qe]
        all_goals rfl
  generalize acc.toList = vs at ea
  have lv : vs.length = kvs.length := by rw [ea, List.length_map, l2]
  have rv : Vals ((ks.map fun x => x.2.1).map V.ref) vs := by
    rw [ea, show (ks.map fun x => Value.ref x.2.1) = (ks.map fun x => x.2.1).map Value.ref by rw [List.map_map]; rfl]
    exact vals_refs _
  have isk := isKeys_of pr
  have dp := keys_dp (K := X.K) isk
  have q := fun zs p => q (ks.map fun x => x.2.1) zs p isk
  generalize hxs : (ks.map fun x => x.2.1).map V.ref = xs at rv dp q
  generalize kvs.map (fun kv => keyD kv.1) = ds at dp hal hk hdep q
  have lx : xs.length = kvs.length := by rw [← hxs, List.length_map, List.length_map, l2]
  obtain ⟨z1, z2, z3⟩ := dpAll_zip2 dp
  have lds : ds.length = xs.length := by
    have := congrArg List.length z2
    rw [List.length_map, z3] at this
    exact this
  have e := each_of rv dp
  refine wpAny_bind (wpAny_newList ?_ (by rw [lv]; exact fits))
  have hoL : (h1.push (seqObj "list" vs.toArray 0)).get? h1.objs.size = some (seqObj "list" vs.toArray 0) := Heap.get?_push_size _ rfl
  have old : ∀ b u, s.heap.get? b = some u → (PySem.W.sortingHeap (h1.push (seqObj "list" vs.toArray 0)) h1.objs.size vs).get? b = some u := fun b u hb =>
    PySem.W.sortingHeap_old (Nat.ne_of_lt (Heap.lt_size (k1 b u hb))) (Heap.get?_push_of_some _ (k1 b u hb))
  have er : EachIs (fun (v : Value) (b : V × PyData) => ∃ as, Reads (PySem.W.sortingHeap (h1.push (seqObj "list" vs.toArray 0)) h1.objs.size vs) v b.2 as) vs (xs.zip ds) := e.mono fun v b ⟨r1, r2⟩ =>
    let ⟨as, rr⟩ := Dp.reads I b.2 b.1 v r2 r1
    ⟨as, PyProof.Rows.Reads.keeps old rr⟩
  have bound : ∀ d, d ∈ ds → X.A.in1.in1.units + d.depth < cLine := fun d hd => by
    have h1 := hdep d hd
    have h2 : X.A.in1.in1.units = X.A.units + 2 := rfl
    omega
  have hal' : AllAlike ((xs.zip ds).map fun b => b.2) := by rw [z1]; exact hal
  have eds := PySem.W.each_map (R := fun v d => ∃ as, Reads (PySem.W.sortingHeap (h1.push (seqObj "list" vs.toArray 0)) h1.objs.size vs) v d as) (fun b : V × PyData => b.2) er
  rw [z1] at eds
  refine wpAny_bind (wpAny_holding (wpAny_call_entry slot_list_sort ⟨_, hoL, rfl⟩ entry_list_sort (PySem.W.list_sort_vals (κ := PySem.W.dataKind (PySem.W.sortingHeap (h1.push (seqObj "list" vs.toArray 0)) h1.objs.size vs) ds) hoL
    (PySem.W.SortsAt.data (s := { s with heap := PySem.W.sortingHeap (h1.push (seqObj "list" vs.toArray 0)) h1.objs.size vs, toks := tk }) eds hal hk bound) (by rw [lv]; exact fits) ⟨.none, rfl, ?_⟩) (args_list_sort _)))
  refine wpAny_pure ⟨_, rfl, ?_⟩
  have eo := PySem.W.sortVals_data (enc := fun b : V × PyData => b.2) (R := fun (v : Value) (b : V × PyData) => RelV b.1 v ∧ Dp X.K H b.1 b.2) false e er hal'
  rw [z1] at eo
  generalize PySem.W.sortVals (PySem.W.dataKind (PySem.W.sortingHeap (h1.push (seqObj "list" vs.toArray 0)) h1.objs.size vs) ds) false vs vs = out at eo ⊢
  obtain ⟨v1, v2⟩ := each_vals eo
  have pm : ((xs.zip ds).mergeSort (dataLe false fun b : V × PyData => b.2)).Perm (xs.zip ds) := List.mergeSort_perm _ _
  have p1 : (((xs.zip ds).mergeSort (dataLe false fun b : V × PyData => b.2)).map (·.1)).length = kvs.length := by
    rw [List.length_map, pm.length_eq, z3, lds, lx]
  have p2 : ((xs.zip ds).mergeSort (dataLe false fun b : V × PyData => b.2)).map (·.2) = sortD ds := by
    have := PySem.W.sort_maps (r := dataLe false fun b : V × PyData => b.2) (s := dataLe false fun d : PyData => d) (fun b : V × PyData => b.2) (l := xs.zip ds) (fun a _ b _ => rfl)
    rw [z1] at this
    exact this
  have I1 : Inv X pins σ H { s with heap := h1, toks := tk } := I.kept (t' := tk) k1
  obtain ⟨ep2, at2⟩ := sortedHeap_at (vs := vs) (out := out.toArray) hoL
  refine ⟨.ref _, upd H h1.objs.size (.lst _), I1.laid (t' := tk) (fun b u hb1 => ?_) (Nat.le_refl _) ⟨?_, out, ep2, v1, at2⟩, rfl, q _ _ pm p2 (I1.hok.fresh (Nat.le_refl _))⟩
  · have hlt := Heap.lt_size hb1
    show (sortedHeap (h1.push (seqObj "list" vs.toArray 0)) h1.objs.size vs out.toArray).get? b = some u
    rw [sortedHeap_old (Nat.ne_of_lt hlt) (by rw [size_push']; exact Nat.lt_succ_of_lt hlt)]
    exact Heap.get?_push_of_some _ hb1
  · rw [p1]
    exact fits
end
end Ah
set_option Elab.async false
set_option linter.all false
set_option maxRecDepth 100000
set_option maxHeartbeats 4000000
/-! dict comprehensions whose keys are tuples -/
namespace Ah
open PySem PySem.Spec PyProof.Rows L2
theorem d_dictSetT {X : Cx} {pins : List (Addr × Obj)} {σ : L2.St} {H : Hp} {s : Shared} {E : Value → Shared → Prop} {D b : Addr} {kvs : List (List Key × V)} {k : List Key} {v : V} {r : Value} {Q : Unit → Shared → Prop} (hu : X.A.units < cLine) (I : Inv X pins σ H s) (eb : H b = some (.tup (k.map kV))) (e : H D = some (.dT kvs)) (l : kvs.length < sizeLine)
    (rv : RelV v r) (h : ∀ s', Inv X pins σ (upd H D (.dT (putK kvs k v))) s' → Q () s') : wpAny (model X.prog X.w) X.A (dictSet D (.ref b) r) Q E s := by
  obtain ⟨z, hd, xs, rel, dd⟩ := dt_of I.hok e
  have few : xs.length ≤ sizeLine := by rw [← Paired.length rel]; exact z
  have more : (putK kvs k v).length ≤ sizeLine := by have := length_putK kvs k v; omega
  refine wpAny_dictSet_heap (hsz := few) hu (key_of I.hok eb) dd fun h' dd' hs => h _ ?_
  obtain ⟨q, es, ep, hq, h2, h3, h4, _, h5⟩ := dd'
  refine d_write I (by rw [e]; exact True.intro) hs ⟨q, hq⟩ ⟨more, hd, _, (rel.put k eb rv).keeps fun c ys ec => ?_, q, es, ep, hq, h2, h3, h4, h5⟩
  exact (upd_ne (ne_of ec e fun z => nomatch z)).trans ec
section
variable {X : Cx}
def tDcT (wit : TI) (gt : TG) (tst : TT) (tke tva : TE) (nums : List Nat) : TE := fun σ H Q => wit σ H fun J H1 => ∀ D, H1 D = none → ∃ Wt : Nat → Nat → Hp → Prop, (∃ m, Wt 0 m (upd H1 D (.dT []))) ∧ ∀ i m H, Wt i m H →
  (J.stop i H ∧ Q (.ref D) H) ∨ (J.go i H ∧ ∃ Next : Hp → Prop, (∀ H', Next H' → ∃ m', m' < m ∧ Wt (i + 1) m' H') ∧ ∀ x H', J.yld i H x H' → gt x (wipe σ nums) H' fun σ2 Hp2 => wipe σ2 nums = wipe σ nums ∧ tst σ2 Hp2 fun b Hp3 =>
    if b = true then tke σ2 Hp3 fun y H4 => tva σ2 H4 fun z Hp5 => ∃ (kvs : List (List Key × V)) (k : List Key) (b : Addr), y = .ref b ∧ Hp5 b = some (.tup (k.map kV)) ∧ Hp5 D = some (.dT kvs) ∧ kvs.length < sizeLine ∧ Next (upd Hp5 D (.dT (putK kvs k z))) else Next Hp3)
theorem dcT_core {pins : List (Addr × Obj)} {s : Shared} {σ : L2.St} {H : Hp} {Q : VK} {ke ve tgt itr : Expr} {tests : List Expr} {scp : Scope} {mine : List (Str × Nat)} {ps0 ps1 : Pos} {wit : TI} {gt : TG} {tst : TT} {tke tva : TE} {use : Option (Value → Sem Unit)} {Qf : Value → Shared → Prop}
    (cal : X.calm = true) (hu : X.A.units < cLine) (ndn : X.N.Nodup) (I : Inv X pins σ H s) (pit : PI X tgt itr wit) (blo : BlkOk X.N X.env.scope scp mine)
    (pgo : ∀ (s : Shared) (H : Hp) (C : Addr) (cl : List (Str × Addr)) (foot : List Addr), PG (X.blk s H scp (compEnvC scp cl C X.env) foot) tgt gt) (pts0 : ∀ (s : Shared) (H : Hp) (C : Addr) (cl : List (Str × Addr)) (foot : List Addr), PTs (X.blk s H scp (compEnvC scp cl C X.env) foot) tests tst)
    (pke : ∀ (s : Shared) (H : Hp) (C : Addr) (cl : List (Str × Addr)) (foot : List Addr), PE (X.blk s H scp (compEnvC scp cl C X.env) foot) ke tke)
    (pee : ∀ (s : Shared) (H : Hp) (C : Addr) (cl : List (Str × Addr)) (foot : List Addr), PE (X.blk s H scp (compEnvC scp cl C X.env) foot) ve tva) (fol : ∀ x, foldedSetIterable itr X.env x = pure x)
    (hyp : tDcT wit gt tst tke tva (mine.map (·.2)) σ H Q)
    (fini : ∀ D C s' m H', Inv X pins σ H' s' → Q (.ref D) H' → s'.heap.Ns C m → FpOk X pins H' C → compPost (model X.prog X.w) X.A X.xe use Qf (.ref D) C (.ok .next) s') :
    wpAny (model X.prog X.w) X.A (comprehension (.DictComp ke ve [⟨tgt, itr, tests, 0⟩] scp ps0) scp X.env ps1 newDict false (eval itr X.env) use) Qf X.xe s := by
  have freed : ∀ y ∈ scp.names, y.2 = .free → ∃ c, X.env.cells.lookup y.1 = some c := fun y hy e => by
    rcases blo.free y hy e with k | k
    · exact I.ok.has _ (.inl k)
    · exact I.ok.has _ (.inr k)
  refine wpAny_comprehension_free (use := use) rfl fol (closure_ok freed) blo.kind (fun y hy e => by rw [blo.uniq y hy, e])
    (thn (pit.run pins s σ H _ I hyp) fun xva s1 ehx => thn ehx fun itva sh2 eh2 => ?_)
  obtain ⟨itt, foot, tur, J, Hp2, e, In2, Tn, sta2, fo2, qu⟩ := eh2
  subst e
  refine wpAny_newObj_type (newEnv_comp ?_)
  generalize eD : sh2.heap.objs.size = D
  have newD : Hp2 D = none := In2.hok.fresh (Nat.le_of_eq eD)
  obtain ⟨Wt, ⟨mm, ww⟩, each⟩ := qu D newD
  -- the new list
  generalize es3 : ({ sh2 with heap := sh2.heap.push { cls := .type "dict", data := .dict #[] } } : Shared) = sh3
  have In3 : Inv X pins σ (upd Hp2 D (.dT [])) sh3 := by
    rw [← es3]
    refine In2.laid (t' := sh2.toks) (fun b o e => Heap.get?_push_of_some _ e) (Nat.le_of_eq eD) ?_
    rw [← eD]
    exact dt_empty sh2.heap In2.big
  have eh3 : sh3.heap = sh2.heap.push { cls := .type "dict", data := .dict #[] } := by rw [← es3]
  have size : ∀ b ∈ foot, b < sh2.heap.objs.size := fun b hb => by
    obtain ⟨o, e, _⟩ := Tn.obj _ _ sta2 b hb
    exact Heap.lt_size e
  have fo3 : ∀ b ∈ foot, FpOk X pins (upd Hp2 D (.dT [])) b ∧ b < sh3.heap.objs.size := fun b hb => by
    have elt := size b hb
    refine ⟨⟨?_, (fo2 b hb).2⟩, by rw [eh3, Heap.size_push]; exact Nat.lt_succ_of_lt elt⟩
    rw [upd_ne (by rw [← eD]; exact Nat.ne_of_lt elt)]
    exact (fo2 b hb).1
  have sta3 : tur 0 sh3.heap := Tn.keep _ _ _ sta2 fun b _ o e => by rw [eh3]; exact Heap.get?_push_of_some _ e
  have In4 := block_start In3 blo ndn fo3
  have pga := pgo sh3 (upd Hp2 D (.dT [])) sh3.heap.objs.size (cellsFrom (sh3.heap.objs.size + 1) scp.names (cloFrom X.env.cells scp.names [])) foot
  have pta := pts0 sh3 (upd Hp2 D (.dT [])) sh3.heap.objs.size (cellsFrom (sh3.heap.objs.size + 1) scp.names (cloFrom X.env.cells scp.names [])) foot
  have pka := pke sh3 (upd Hp2 D (.dT [])) sh3.heap.objs.size (cellsFrom (sh3.heap.objs.size + 1) scp.names (cloFrom X.env.cells scp.names [])) foot
  have pea := pee sh3 (upd Hp2 D (.dT [])) sh3.heap.objs.size (cellsFrom (sh3.heap.objs.size + 1) scp.names (cloFrom X.env.cells scp.names [])) foot
  show codeAny _ _ (.compStart (.DictComp ke ve [⟨tgt, itr, tests, 0⟩] scp ps0) 0 (.ref itt) (.ref D) (compEnvC scp (cellsFrom (sh3.heap.objs.size + 1) scp.names (cloFrom X.env.cells scp.names [])) sh3.heap.objs.size X.env)) (compPost (model X.prog X.w) X.A X.xe use Qf (.ref D) sh3.heap.objs.size) { sh3 with heap := pushCells (sh3.heap.push { cls := .type "dict", data := .dict #[] }) scp.names }
  have nof : ∀ b ∈ foot, (upd Hp2 D (.dT [])) b = none := fun b hb => (fo3 b hb).1.1
  generalize ecen : compEnvC scp (cellsFrom (sh3.heap.objs.size + 1) scp.names (cloFrom X.env.cells scp.names [])) sh3.heap.objs.size X.env = cen at In4 pga pta pka pea ⊢
  have eloc : cen.locals = sh3.heap.objs.size := by subst ecen; rfl
  generalize eH3 : upd Hp2 D (.dT []) = Hp3 at In3 In4 pga pta pka pea ww nof fo3
  generalize es4 : ({ sh3 with heap := pushCells (sh3.heap.push { cls := .type "dict", data := .dict #[] }) scp.names } : Shared) = sh4 at In4 ⊢
  have sta4 : tur 0 sh4.heap := Tn.keep _ _ _ sta3 fun b _ o e => by rw [← es4]; exact pushCells_keeps _ _ _ _ (Heap.get?_push_of_some _ e)
  have stati : ∀ {σ' : L2.St} {H' : Hp} {s' : Shared}, Inv (X.blk sh3 Hp3 scp cen foot) [] σ' H' s' → (∀ b ∈ foot, H' b = none) → ∀ b ∈ foot, FpOk (X.blk sh3 Hp3 scp cen foot) [] H' b := fun {σ' H' s'} I' ehn b hb =>
    ⟨ehn b hb, (I'.ok.exf b hb).1, I'.ok.exfs b hb, .inl hb, fun x c e => (I'.ok.exf b hb).2 x c e, fun p hp => absurd (show p ∈ ([] : List (Addr × Obj)) ++ [] from hp) (by simp)⟩
  have looped : codeAny (model X.prog X.w) X.A (.compLoop (.DictComp ke ve [⟨tgt, itr, tests, 0⟩] scp ps0) 0 (.ref itt) (.ref D) cen) (compPost (model X.prog X.w) X.A X.xe use Qf (.ref D) sh3.heap.objs.size) sh4 := by
    refine compLoop_anyD (fun n s' => ∃ i H', Inv (X.blk sh3 Hp3 scp cen foot) [] (wipe σ (mine.map (·.2))) H' s' ∧ tur i s'.heap ∧ (∀ b ∈ foot, H' b = none) ∧ Wt i n H') ?_ mm ⟨0, Hp3, In4, sta4, nof, ww⟩
    rintro n sh5 ⟨i, Hp5, In5, sta5, no5, wt5⟩
    rcases each i n Hp5 wt5 with ⟨stops, qfin⟩ | ⟨going, Next, eNext, stepped⟩
    · have tdo := Tn.done (X.blk sh3 Hp3 scp cen foot) rfl rfl rfl cal i [] sh5 _ Hp5 (fun _ _ => False) In5 (stati In5 no5) sta5 stops
      refine thnF tdo fun r sh6 ⟨ehr, In6⟩ => ?_
      subst ehr
      -- back in the def's context
      have In7 : Inv X pins σ Hp5 sh6 := In3.call' (ch := foot) In6.os In6.base In6.hok In6.bare fun b hb => ⟨(fo3 b hb).1.2.2.2.1, (fo3 b hb).1.2.1, (fo3 b hb).1.2.2.2.2.1, (fo3 b hb).1.2.2.2.2.2⟩
      have noC : Hp5 sh3.heap.objs.size = none := by
        have z : Hp5 cen.locals = none := In6.free
        rw [eloc] at z
        exact z
      obtain ⟨m, ehn, _⟩ := In6.loc
      have ehn : sh6.heap.Ns cen.locals m := ehn
      rw [eloc] at ehn
      exact fini D sh3.heap.objs.size sh6 m Hp5 In7 qfin ehn (In3.fpOk (Nat.le_refl _) noC)
    · have tit := Tn.item (X.blk sh3 Hp3 scp cen foot) rfl rfl rfl cal i [] sh5 _ Hp5 (fun _ _ => False) In5 (stati In5 no5) sta5 going
      refine thnF tit fun r sh6 ⟨u, ehr, eh6⟩ => ?_
      subst ehr
      refine thnF eh6 fun _ sh7 ⟨x, Hp7, In7, re7, ye7, sta7, no7⟩ => ?_
      have In7' := In7.pinned (stati In7 no7) (Tn.obj _ _ sta7)
      refine thnF (pga.run _ sh7 _ Hp7 x u _ In7' re7 (stepped x Hp7 ye7)) fun _ sh8 ⟨σ8, Hp8, In8, ew8, qu8⟩ => ?_
      refine thnF (pta.run _ sh8 σ8 Hp8 _ In8 qu8) fun b sh9 ⟨Hp9, In9, qu9⟩ => ?_
      -- the turn's end
      have fin_ : ∀ {s' : Shared} {H' : Hp}, Inv (X.blk sh3 Hp3 scp cen foot) ([] ++ pinsAt foot sh7.heap) σ8 H' s' → Next H' → ∃ m, m < n ∧ ∃ i H', Inv (X.blk sh3 Hp3 scp cen foot) [] (wipe σ (mine.map (·.2))) H' s' ∧ tur i s'.heap ∧ (∀ b ∈ foot, H' b = none) ∧ Wt i m H' := fun {s' H'} I' nxt => by
        obtain ⟨m', ehm, wt'⟩ := eNext H' nxt
        have pinned_ : ∀ b ∈ foot, ∀ o, sh7.heap.get? b = some o → s'.heap.get? b = some o ∧ H' b = none := fun b hb o e =>
          let z := I'.pin (b, o) (List.mem_append_right _ (List.mem_append_right _ (mem_pinsAt hb e)))
          ⟨z.1, z.2.1⟩
        have ehl : (wipe σ (mine.map (·.2))).length = σ8.length := by rw [← ew8, wipe_length]
        refine ⟨m', ehm, i + 1, H', (I'.unpinned (pins := [])).weak ehl (fun j v e => ?_), Tn.keep _ _ _ sta7 fun b hb o e => (pinned_ b hb o e).1, fun b hb => ?_, wt'⟩
        · rw [← ew8] at e
          exact (wipe_some e).1
        · obtain ⟨o, e, _⟩ := Tn.obj _ _ sta7 b hb
          exact (pinned_ b hb o e).2
      cases b with
      | false =>
        simp only [Bool.false_eq_true, if_false] at qu9 ⊢
        exact fin_ In9 qu9
      | true =>
        simp only [if_true] at qu9 ⊢
        refine thnF (pka.run _ sh9 σ8 Hp9 _ In9 qu9) fun z sh10 ⟨yke, Hp10, In10, re10, qu10⟩ => ?_
        refine thnF (pea.run _ sh10 σ8 Hp10 _ In10 qu10) fun zz sh11 ⟨yva, Hp11, In11, re11, kvs, k, bb, eke, ebb, eD11, ez11, nxt⟩ => ?_
        subst eke
        obtain rfl : z = Value.ref bb := re10
        exact d_dictSetT (X := X.blk sh3 Hp3 scp cen foot) hu In11 ebb eD11 ez11 re11 fun sh12 In12 => fin_ In12 nxt
  exact codeAny_compStart_dict looped (Tn.self X.A 0 _ _ _ sta4 looped)
/-- as a value -/
theorem pe_dcT {ke ve tgt itr : Expr} {tests : List Expr} {scp : Scope} {mine : List (Str × Nat)} {ps0 : Pos} {wit : TI} {gt : TG} {tst : TT} {tke tva : TE} (cal : X.calm = true) (hu : X.A.units < cLine) (ndn : X.N.Nodup) (pit : PI X tgt itr wit) (blo : BlkOk X.N X.env.scope scp mine)
    (pgo : ∀ (s : Shared) (H : Hp) (C : Addr) (cl : List (Str × Addr)) (foot : List Addr), PG (X.blk s H scp (compEnvC scp cl C X.env) foot) tgt gt) (pts0 : ∀ (s : Shared) (H : Hp) (C : Addr) (cl : List (Str × Addr)) (foot : List Addr), PTs (X.blk s H scp (compEnvC scp cl C X.env) foot) tests tst)
    (pke : ∀ (s : Shared) (H : Hp) (C : Addr) (cl : List (Str × Addr)) (foot : List Addr), PE (X.blk s H scp (compEnvC scp cl C X.env) foot) ke tke)
    (pee : ∀ (s : Shared) (H : Hp) (C : Addr) (cl : List (Str × Addr)) (foot : List Addr), PE (X.blk s H scp (compEnvC scp cl C X.env) foot) ve tva) (fol : ∀ x, foldedSetIterable itr X.env x = pure x := by intro _; rfl) :
    PE X (.DictComp ke ve [⟨tgt, itr, tests, 0⟩] scp ps0) (tDcT wit gt tst tke tva (mine.map (·.2))) := by
  refine ⟨fun pins s σ H Q I hyp => ?_⟩
  rw [arm_eval_DictComp]
  refine dcT_core cal hu ndn I pit blo pgo pts0 pke pee fol hyp fun D C s' m H' I' qu ehn f => ⟨m, ehn, fun h'' sb => ?_⟩
  obtain ⟨e0, e1, fo2, fo3, f4, f5⟩ := f
  exact ⟨.ref D, H', I'.turned (t' := s'.toks) (fun b o hb e => (sb.2 b hb).trans e) e0 e1 fo3 f4 f5, rfl, qu⟩
end
end Ah
set_option Elab.async false
set_option linter.all false
set_option maxRecDepth 100000
set_option maxHeartbeats 4000000
namespace Ah
open PySem PySem.Spec PyProof.Rows L2
open PySem.W (AllAlike Sortable)
/-! ### a dict whose keys are pairs, all of them True -/
def keyP (p : Str × Str) : List Key := [.inr p.1, .inr p.2]
def kvsOf (ks : List (Str × Str)) : List (List Key × V) := ks.map fun p => (keyP p, V.bl true)
def putP (ks : List (Str × Str)) (p : Str × Str) : List (Str × Str) := if p ∈ ks then ks else ks ++ [p]
theorem keyP_inj {p q : Str × Str} (h : keyP p = keyP q) : p = q := by
  unfold keyP at h
  injection h with h1 h2
  injection h2 with h2 _
  exact Prod.ext (Sum.inr.inj h1) (Sum.inr.inj h2)
theorem valV_kvs (ks : List (Str × Str)) (p : Str × Str) : (valV (kvsOf ks) (keyP p)).isSome = decide (p ∈ ks) := by
  induction ks with
  | nil => rfl
  | cons q r ih =>
    by_cases e : q = p
    · subst e
      rw [show kvsOf (q :: r) = (keyP q, V.bl true) :: kvsOf r from rfl, valV_pos rfl, decide_eq_true (List.mem_cons_self ..)]
      rfl
    · rw [show kvsOf (q :: r) = (keyP q, V.bl true) :: kvsOf r from rfl, valV_neg (fun z => e (keyP_inj z)), ih]
      have : p ∈ q :: r ↔ p ∈ r := ⟨fun h => (List.mem_cons.mp h).resolve_left fun z => e z.symm, List.mem_cons_of_mem _⟩
      simp only [this]
theorem putK_kvs (ks : List (Str × Str)) (p : Str × Str) : putK (kvsOf ks) (keyP p) (V.bl true) = kvsOf (putP ks p) := by
  unfold putK putP
  have e1 : ((kvsOf ks).any fun kv => decide (kv.1 = keyP p)) = decide (p ∈ ks) := by
    rw [Bool.eq_iff_iff, List.any_eq_true, decide_eq_true_iff]
    constructor
    · rintro ⟨kv, h1, h2⟩
      obtain ⟨q, hq, rfl⟩ := List.mem_map.mp h1
      exact keyP_inj (of_decide_eq_true h2) ▸ hq
    · intro h
      exact ⟨_, List.mem_map.mpr ⟨p, h, rfl⟩, decide_eq_true rfl⟩
  rw [e1]
  by_cases h : p ∈ ks
  · rw [if_pos (decide_eq_true h), if_pos h]
    unfold kvsOf
    rw [List.map_map]
    refine List.map_congr_left fun q _ => ?_
    show (if keyP q = keyP p then (keyP q, V.bl true) else (keyP q, V.bl true)) = _
    split <;> rfl
  · rw [if_neg (fun z => h (of_decide_eq_true z)), if_neg h]
    unfold kvsOf
    rw [List.map_append]
    rfl
theorem putP_mem {ks : List (Str × Str)} {p q : Str × Str} : q ∈ putP ks p ↔ q ∈ ks ∨ q = p := by
  unfold putP
  split
  · rename_i h
    exact ⟨.inl, fun z => z.elim id fun e => e ▸ h⟩
  · rw [List.mem_append, List.mem_singleton]
theorem putP_nodup {ks : List (Str × Str)} {p : Str × Str} (h : ks.Nodup) : (putP ks p).Nodup := by
  unfold putP
  split
  · exact h
  · rename_i hp
    rw [List.nodup_append]
    exact ⟨h, List.nodup_cons.mpr ⟨List.not_mem_nil, List.nodup_nil⟩, fun a ha b hb e => hp (by rw [← List.mem_singleton.mp hb, ← e]; exact ha)⟩
theorem putP_len (ks : List (Str × Str)) (p : Str × Str) : (putP ks p).length ≤ ks.length + 1 := by
  unfold putP
  split
  · omega
  · rw [List.length_append]; exact Nat.le_refl _
theorem keyD_kvs (ks : List (Str × Str)) : ((kvsOf ks).map fun kv => keyD kv.1) = ks.map prD := by
  unfold kvsOf
  rw [List.map_map]
  rfl
theorem kvs_len (ks : List (Str × Str)) : (kvsOf ks).length = ks.length := List.length_map ..
/-- what sorted tells of the keys -/
theorem keys_sorted {H : Hp} {ks ds : List (Str × Str)} {bs : List Addr} {zs : List (V × PyData)} (isk : IsKeys H (kvsOf ks) bs) (pm : zs.Perm ((bs.map V.ref).zip (ks.map prD))) (e : zs.map (·.2) = ds.map prD) : PrsV H (zs.map (·.1)) ds := by
  have inj : ∀ p q : Str × Str, prD p = prD q → p = q := fun p q h => by
    unfold prD at h
    injection h with h
    injection h with h1 h2
    injection h2 with h2 _
    injection h1 with h1
    injection h2 with h2
    exact Prod.ext h1 h2
  have all : ∀ z ∈ (bs.map V.ref).zip (ks.map prD), ∃ p, z.2 = prD p ∧ PrV H z.1 p := by
    clear pm e
    unfold IsKeys at isk
    induction ks generalizing bs with
    | nil =>
      intro z hz
      rw [List.map_nil, List.zip_nil_right] at hz
      cases hz
    | cons p r ih =>
      cases isk with
      | cons h t =>
        intro z hz
        rcases List.mem_cons.mp hz with e | hz
        · subst e
          exact ⟨p, rfl, _, rfl, h⟩
        · exact ih t z hz
  have all2 : ∀ z ∈ zs, ∃ p, z.2 = prD p ∧ PrV H z.1 p := fun z hz => all z (pm.mem_iff.mp hz)
  clear pm isk all
  induction zs generalizing ds with
  | nil =>
    cases ds with
    | nil => trivial
    | cons d r => cases e
  | cons z zs ih =>
    cases ds with
    | nil => cases e
    | cons d r =>
      rw [List.map_cons, List.map_cons] at e
      injection e with e1 e2
      obtain ⟨p, h1, h2⟩ := all2 z (List.mem_cons_self ..)
      have : p = d := inj _ _ (h1.symm.trans e1)
      subst this
      exact ⟨h2, ih e2 fun y hy => all2 y (List.mem_cons_of_mem _ hy)⟩
end Ah
set_option Elab.async false
set_option linter.all false
set_option maxRecDepth 100000
set_option maxHeartbeats 4000000
namespace Ah
open PySem PySem.Spec PyProof.Rows L2
/-- a dict comprehension, keys tuples, over what stands still -/
theorem dcT_gen {J : It} {n : Nat} {item : Nat → V} {g : TG} {tt : TT} {tk tv : TE} {vs : List Nat} {σ : L2.St} {H1 : Hp} {D : Addr} {Qd : Hp → Prop} (Pv : Nat → Hp → Prop) (h0 : Pv 0 (upd H1 D (.dT [])))
    (hgo : ∀ i H, i < n → Pv i H → J.go i H) (hst : ∀ H, Pv n H → J.stop n H) (hy : ∀ i H x H', i < n → Pv i H → J.yld i H x H' → H' = H ∧ x = item i)
    (hs : ∀ i H, i < n → Pv i H → g (item i) (wipe σ vs) H fun σ2 H2 => wipe σ2 vs = wipe σ vs ∧ tt σ2 H2 fun b H3 =>
      if b = true then tk σ2 H3 fun y H4 => tv σ2 H4 fun z H5 => ∃ (kvs : List (List Key × V)) (k : List Key) (b : Addr), y = .ref b ∧ H5 b = some (.tup (k.map kV)) ∧ H5 D = some (.dT kvs) ∧ kvs.length < sizeLine ∧ Pv (i + 1) (upd H5 D (.dT (putK kvs k z))) else Pv (i + 1) H3) (hd : ∀ H, Pv n H → Qd H) :
    ∃ Wt : Nat → Nat → Hp → Prop, (∃ m, Wt 0 m (upd H1 D (.dT []))) ∧ ∀ i m H, Wt i m H →
      (J.stop i H ∧ Qd H) ∨ (J.go i H ∧ ∃ Next : Hp → Prop, (∀ H', Next H' → ∃ m', m' < m ∧ Wt (i + 1) m' H') ∧ ∀ x H', J.yld i H x H' → g x (wipe σ vs) H' fun σ2 H2 => wipe σ2 vs = wipe σ vs ∧ tt σ2 H2 fun b H3 =>
        if b = true then tk σ2 H3 fun y H4 => tv σ2 H4 fun z H5 => ∃ (kvs : List (List Key × V)) (k : List Key) (b : Addr), y = .ref b ∧ H5 b = some (.tup (k.map kV)) ∧ H5 D = some (.dT kvs) ∧ kvs.length < sizeLine ∧ Next (upd H5 D (.dT (putK kvs k z))) else Next H3) := by
  refine ⟨fun i m H => m = n - i ∧ i ≤ n ∧ Pv i H, ⟨n, rfl, Nat.zero_le _, h0⟩, ?_⟩
  rintro i m H ⟨rfl, hi, p⟩
  rcases Nat.lt_or_ge i n with hlt | hge
  · refine .inr ⟨hgo i H hlt p, Pv (i + 1), fun H' p' => ⟨n - (i + 1), by omega, rfl, hlt, p'⟩, fun x H' y => ?_⟩
    obtain ⟨rfl, rfl⟩ := hy i H x H' hlt p y
    exact hs i _ hlt p
  · obtain rfl : i = n := by omega
    exact .inl ⟨hst H p, hd H p⟩
/-- what walks a list or a tuple -/
structure Goer (J : It) (L : Hp → Prop) (xs : List V) : Prop where
  go : ∀ i H, i < xs.length → L H → J.go i H
  stop : ∀ H, L H → J.stop xs.length H
  yld : ∀ i H x H', L H → i < xs.length → J.yld i H x H' → H' = H ∧ x = xs.getD i .non
  keep : ∀ H H', Same H H' → L H → L H'
theorem goer_l (K : PySem.W.Frag) (a : Addr) (xs : List V) : Goer (Itl K a) (fun H => H a = some (.lst xs)) xs where
  go i H hi h := ⟨xs, xs[i], SqL.of h, List.getElem?_eq_getElem hi⟩
  stop H h := ⟨xs, SqL.of h, Nat.le_refl _⟩
  yld i H x H' h hi y := by
    obtain ⟨e, y⟩ := y
    refine ⟨e, ?_⟩
    have := y xs (SqL.of h)
    rw [List.getD_eq_getElem?_getD, this]
    rfl
  keep H H' s h := s _ _ h
theorem goer_t (K : PySem.W.Frag) (a : Addr) (xs : List V) : Goer (Itt K a) (fun H => Rd H a (.tup xs)) xs where
  go i H hi h := ⟨xs, xs[i], .inl h, List.getElem?_eq_getElem hi⟩
  stop H h := ⟨xs, .inl h, Nat.le_refl _⟩
  yld i H x H' h hi y := by
    obtain ⟨e, y⟩ := y
    refine ⟨e, ?_⟩
    have := y xs (.inl h)
    rw [List.getD_eq_getElem?_getD, this]
    rfl
  keep H H' s h := rd_same s h
theorem iOr_by {K : PySem.W.Frag} {tl : TE} {a : Addr} {xs : List V} {σ : L2.St} {H H1 : Hp} {R : It → Hp → Prop} (ht : ∀ Q : VK, Q (.ref a) H1 → tl σ H Q) (h : LTu H1 a xs) (k : ∀ J L, Goer J L xs → L H1 → R J H1) : iOr (iList K tl) (iTup K tl) σ H R := by
  rcases h with h | h
  · exact .inl (ht _ ⟨a, rfl, ⟨xs, SqL.of h⟩, k _ _ (goer_l K a xs) h⟩)
  · exact .inr (ht _ ⟨a, rfl, ⟨xs, .inl h⟩, k _ _ (goer_t K a xs) h⟩)
/-- the dict of these keys -/
def HeldT (H : Hp) (D : Addr) (ks : List (Str × Str)) : Prop := H D = some (.dT (kvsOf ks))
def putPs (ks : List (Str × Str)) : List (Str × Str) := ks.foldl putP []
theorem putPs_snoc (ks : List (Str × Str)) (p : Str × Str) : putPs (ks ++ [p]) = putP (putPs ks) p := by
  unfold putPs
  rw [List.foldl_append]
  rfl
theorem putPs_mem (ks : List (Str × Str)) : ∀ q, q ∈ putPs ks ↔ q ∈ ks := by
  have : ∀ (l acc : List (Str × Str)) q, q ∈ l.foldl putP acc ↔ q ∈ acc ∨ q ∈ l := by
    intro l
    induction l with
    | nil => intro acc q; simp
    | cons p r ih =>
      intro acc q
      rw [List.foldl_cons, ih, putP_mem, List.mem_cons, or_assoc]
  intro q
  exact (this ks [] q).trans (by simp)
theorem putPs_nodup (ks : List (Str × Str)) : (putPs ks).Nodup := by
  have : ∀ (l acc : List (Str × Str)), acc.Nodup → (l.foldl putP acc).Nodup := by
    intro l
    induction l with
    | nil => exact fun _ h => h
    | cons p r ih => exact fun acc h => ih _ (putP_nodup h)
  exact this ks [] List.nodup_nil
theorem putPs_len (ks : List (Str × Str)) : (putPs ks).length ≤ ks.length := by
  have : ∀ (l acc : List (Str × Str)), (l.foldl putP acc).length ≤ acc.length + l.length := by
    intro l
    induction l with
    | nil => exact fun _ => Nat.le_refl _
    | cons p r ih =>
      intro acc
      have h1 := ih (putP acc p)
      have h2 := putP_len acc p
      rw [List.foldl_cons, List.length_cons]
      omega
  have q := this ks []
  rw [List.length_nil, Nat.zero_add] at q
  exact q
abbrev sIsWeb : Stmt := topS 10
section
variable {P : Program} {w : World} {K : PySem.W.Frag} {mg : Str → Option Value} {base : Heap}
theorem scIsWeb : FnScope ["hands", "thing", "held", "pair", "a", "b", "other", "c"] ["hands", "thing"] (defScope sIsWeb) := ⟨rfl, rfl, rfl, by decide +kernel, rfl, by decide +kernel, by decide +kernel⟩
/-- of a web -/
def spIsWeb : Sp := fun vs H Q _ => ∃ (g t : Addr) (us : List V) (hs : List Str) (ps : List (Str × Str)), vs = [.ref g, .ref t] ∧ LTu H g (hs.map V.str) ∧ Rd H t (.tup us) ∧ PrsV H us ps ∧ ps.Pairwise pLt ∧ ps.length ≤ 64 ∧ (∀ x y, (x, y) ∈ ps → x ∈ hs ∧ y ∈ hs ∧ x ≠ y) ∧
  (∀ x y z, (x, y) ∈ ps → (y, z) ∈ ps → (x, z) ∈ ps) ∧ ∀ H', Same H H' → Q (.bl true) H'
theorem ok_isWeb {f f1 f2 : Addr} {fd fd1 fd2 : FuncData} (F : Fun K "is_web" "is_web" sIsWeb f fd) (B : Blt2 mg) (D1 : Df P w K mg base CX0 "is_pair" 1 f1 fd1 ["hands", "thing"] spIsPair) (D2 : Df P w K mg base CX0 "is_rising" 1 f2 fd2 ["things"] spRising) : FnOk P w K mg base CX0 2 f fd ["hands", "thing"] spIsWeb := by
  refine F.ok scIsWeb (fun vs H Q E h => ?_) (fun cdv A outer s H vs Q E hr h => ?_)
  · obtain ⟨g, t, us, hs, ps, rfl, _⟩ := h
    rfl
  · obtain ⟨g, t, us, hs, ps, rfl, hg, ht, hps, hp, hl, hin, htr, k⟩ := h
    have nd := scIsWeb.nd
    have hu := hu_of hr
    have hu1 : (A.deeper (envOfC "is_web" (defScope sIsWeb) s.heap.objs.size f cdv)).units < cLine := by
      have := hu
      omega
    refine ⟨_, pss_cons (ps_if (PW.pt (pw_or (pt_not (pt_val (pe_callB call_isi (by rfl) B.isinstance (by decide +kernel) (pa_cons (pv 1) (pa_cons (pe_bltn (v := .ty "tuple") (by rfl) B.tuple (by decide +kernel) rfl) pa_nil)))))
          (pw_or1 (pt_not (pt_val (pe_callB (cr_all rfl) (by rfl) B.all (by decide +kernel) (pa_cons (pe_lc (own := [("pair", 3)]) (g := gName 3) (tt := tYes) (te := tCall spIsPair [] E0 (tCons (tVar 0) (tCons (tVar 3) tNil))) rfl nd (pi_tup (pv 1))
            (blkOk_by (N := ["hands", "thing", "held", "pair", "a", "b", "other", "c"]) (sc := defScope sIsWeb) (by decide +kernel)) (fun _ _ _ _ _ => pg_name (i := 3) nd rfl (Or.inl rfl)) (fun _ _ _ _ _ => pts_nil)
            (fun _ _ _ _ _ => pe_call D1.ok hr rfl D1.g D1.kp D1.b .nil pass0 (pa_cons (pv 0) (pa_cons (pv 3) pa_nil)))) pa_nil))))))) (pss_one (ps_ret pe_bl)) pss_nil)
      (pss_cons (ps_if (pt_not (pt_val (pe_call D2.ok hr rfl D2.g D2.kp D2.b .nil pass0 (pa_cons (pv 1) pa_nil)))) (pss_one (ps_ret pe_bl)) pss_nil)
      (pss_cons (ps_set (i := 2) nd rfl (.inr rfl) (pe_dcT (mine := [("pair", 3)]) (tst := tYes) (gt := gName 3) (tke := tVar 3) (tva := tC (.bl true)) rfl hu1 nd (pi_tup (pv 1)) (blkOk_by (N := ["hands", "thing", "held", "pair", "a", "b", "other", "c"]) (sc := defScope sIsWeb) (by decide +kernel))
          (fun _ _ _ _ _ => pg_name (i := 3) nd rfl (Or.inl rfl)) (fun _ _ _ _ _ => pts_nil) (fun _ _ _ _ _ => pv 3) (fun _ _ _ _ _ => pe_bl)))
      (pss_one (ps_ret (pe_callB (cr_all rfl) (by rfl) B.all (by decide +kernel) (pa_cons (pe_lc2 (own := [("a", 4), ("b", 5), ("other", 6), ("c", 7)]) (vs1 := [6, 7]) (tt := tYes) (g := gTup K 2 (gCons (gName 4) (gCons (gName 5) gNil))) (wi1 := iTup K (tVar 1)) (g1 := gTup K 2 (gCons (gName 6) (gCons (gName 7) gNil))) (tt1 := tTest (tOp rEq (tVar 6) (tVar 5))) (te := tDIn (tTup (tCons (tVar 4) (tCons (tVar 7) tNil))) (tVar 2)) rfl nd (pi_tup (pv 1))
          (blkOk_by (N := ["hands", "thing", "held", "pair", "a", "b", "other", "c"]) (sc := defScope sIsWeb) (by decide +kernel)) (by decide)
          (fun _ _ _ _ _ => pg_tup rfl (pgs_cons (pg_name (i := 4) nd rfl (Or.inl rfl)) (pgs_cons (pg_name (i := 5) nd rfl (Or.inl rfl)) pgs_nil))) (fun _ _ _ _ _ => pts_nil)
          (fun _ _ _ _ _ => pi_tup (pv 1)) (fun _ _ _ _ _ => pg_tup rfl (pgs_cons (pg_name (i := 6) nd rfl (Or.inl rfl)) (pgs_cons (pg_name (i := 7) nd rfl (Or.inl rfl)) pgs_nil)))
          (fun _ _ _ _ _ => pts_one (pt_cmpR op_eq (pv 6) (pv 5) (nomark _)))
          (fun _ _ _ _ _ => pe_cmp (pc_din hu (pe_tup (pa_cons (pv 4) (pa_cons (pv 7) pa_nil))) (pv 2)))) pa_nil)))))), ?_⟩
    have lu := hps.len
    refine ⟨_, rfl, .ref t, .ty "tuple", _, _, true, rfl, .ty "tuple", ty_tup ht, kit_ty (by decide +kernel), _, rfl, ?_⟩
    refine iteF ⟨_, rfl, t, rfl, ⟨_, .inl ht⟩, fun D0 hD0 => ?_⟩
    refine lc_tup (K := K) (a := t) (xs := us) (fun i H2 => Same H H2 ∧ H2 D0 = some (.lst ((List.replicate i true).map V.bl))) ⟨same_new hD0, upd_same⟩ (fun i H2 _ q => .inl (rd_same q.1 ht)) ?_ ?_
    · rintro i x H2 hx ⟨s2, e2⟩
      obtain ⟨p, hp', vp⟩ := hps.get hx
      have hpm : (p.1, p.2) ∈ ps := List.mem_of_getElem? hp'
      have hil := (List.getElem?_eq_some_iff.mp hx).1
      refine ⟨rfl, _, rfl, _, rfl, g, x, hs, p, rfl, hg.same s2, vp.same s2, ?_⟩
      rw [decide_eq_true (hin _ _ hpm)]
      refine ⟨_, e2, ?_, same_mut s2 hD0, ?_⟩
      · rw [List.length_map, List.length_replicate]
        exact small1000 (by omega)
      · rw [upd_same, List.replicate_succ', List.map_append]
        rfl
    rintro H2 ⟨s2, e2⟩
    refine ⟨D0, _, rfl, SqL.of e2, true, ?_, ?_⟩
    · rw [List.all_replicate]
      split <;> rfl
    refine iteF ⟨_, rfl, t, us, ps, rfl, rd_same s2 ht, hps.same s2, hp, by omega, fun H3 s3 => ⟨true, rfl, ?_⟩⟩
    have s23 := s2.trans s3
    refine iteF ⟨_, rfl, t, rfl, ⟨_, .inl (rd_same s23 ht)⟩, fun D1 hD1 => ?_⟩
    refine dcT_gen (n := us.length) (item := fun i => us.getD i .non) (fun i H4 => Same H3 H4 ∧ HeldT H4 D1 (putPs (ps.take i))) ⟨same_new hD1, upd_same⟩ (fun i H4 hi q => (goer_t K t us).go i H4 hi (rd_same (s23.trans q.1) ht)) (fun H4 q => (goer_t K t us).stop H4 (rd_same (s23.trans q.1) ht)) (fun i H4 x H' hi q y => (goer_t K t us).yld i H4 x H' (rd_same (s23.trans q.1) ht) hi y) ?_ ?_
    · rintro i H4 hi ⟨s4, e4⟩
      have hx : us[i]? = some us[i] := List.getElem?_eq_getElem hi
      obtain ⟨p, hp', vp⟩ := hps.get hx
      obtain ⟨T, eT, hT⟩ := vp.same (s23.trans s4)
      have ex : us.getD i .non = .ref T := by
        rw [List.getD_eq_getElem?_getD, hx]
        exact eT
      have et : ps.take (i + 1) = ps.take i ++ [p] := by rw [List.take_succ, hp']; rfl
      rw [ex, et, putPs_snoc]
      refine ⟨rfl, _, rfl, _, keyP p, T, rfl, hT, e4, ?_, same_mut s4 hD1, ?_⟩
      · have h1 := putPs_len (ps.take i)
        rw [List.length_take] at h1
        rw [kvs_len]
        exact small1000 (by omega)
      · show upd H4 D1 _ D1 = _
        rw [upd_same, putK_kvs]
    rintro H4 ⟨s4, e4⟩
    rw [lu, List.take_length] at e4
    have s24 := s23.trans s4
    refine ⟨_, rfl, t, rfl, ⟨_, .inl (rd_same s24 ht)⟩, fun D2 hD2 => ?_⟩
    have ps_at : ∀ (i : Nat) (x : V) (H5 : Hp), us[i]? = some x → Same H4 H5 → ∃ p T, ps[i]? = some p ∧ x = .ref T ∧ H5 T = some (.tup [.str p.1, .str p.2]) := fun i x H5 hx s5 => by
      obtain ⟨p, hp', vp⟩ := hps.get hx
      obtain ⟨T, eT, hT⟩ := vp.same (s24.trans s5)
      exact ⟨p, T, hp', eT, hT⟩
    refine out_tup (K := K) (a := t) (xs := us) (fun i H5 => Same H4 H5 ∧ ∃ m, m ≤ 64 * i ∧ H5 D2 = some (.lst ((List.replicate m true).map V.bl))) ⟨same_new hD2, 0, Nat.le_refl _, upd_same⟩ (fun i H5 _ q => .inl (rd_same (s24.trans q.1) ht)) ?_ ?_
    · rintro i x H5 hx ⟨s5, m, lm, e5⟩
      obtain ⟨p, T, hp', rfl, hT⟩ := ps_at i x H5 hx s5
      have hil := (List.getElem?_eq_some_iff.mp hx).1
      refine ⟨T, _, rfl, .inl (.inl hT), rfl, _, _, rfl, _, _, rfl, rfl, rfl, ?_⟩
      refine ⟨_, rfl, t, rfl, ⟨_, .inl (rd_same (s24.trans s5) ht)⟩, ?_⟩
      refine out_tup (K := K) (a := t) (xs := us) (fun j H6 => Same H4 H6 ∧ ∃ m, m ≤ 64 * i + j ∧ H6 D2 = some (.lst ((List.replicate m true).map V.bl))) ⟨s5, m, lm, e5⟩ (fun j H6 _ q => .inl (rd_same (s24.trans q.1) ht)) ?_ ?_
      · rintro j y H6 hy ⟨s6, m6, l6, e6⟩
        obtain ⟨q, T2, hq', rfl, hT2⟩ := ps_at j y H6 hy s6
        have hjl := (List.getElem?_eq_some_iff.mp hy).1
        refine ⟨T2, _, rfl, .inl (.inl hT2), rfl, _, _, rfl, _, _, rfl, rfl, rfl, ?_⟩
        refine ⟨_, rfl, _, rfl, rfl, _, rfl, ?_⟩
        by_cases c : q.1 = p.2
        · rw [decide_eq_true (congrArg V.str c)]
          have hin3 : (p.1, q.2) ∈ ps := htr p.1 p.2 q.2 (List.mem_of_getElem? hp') (c ▸ List.mem_of_getElem? hq')
          refine iteT ⟨_, rfl, _, rfl, by show 2 ≤ sizeLine; decide, fun T3 hT3 => ?_⟩
          have s7 : Same H6 (upd H6 T3 (.tup [.str p.1, .str q.2])) := same_new hT3
          refine ⟨_, rfl, D1, _, rfl, DGet.t (k := keyP (p.1, q.2)) (s7 _ _ (s6 _ _ e4)) upd_same, ?_⟩
          rw [valV_kvs, decide_eq_true ((putPs_mem ps _).mpr hin3)]
          refine ⟨_, s7 _ _ e6, ?_, same_mut (s6.trans s7) hD2, m6 + 1, by omega, ?_⟩
          · rw [List.length_map, List.length_replicate, sizeLine_eq]
            omega
          · rw [upd_same, List.replicate_succ', List.map_append]
            rfl
        · rw [decide_eq_false fun z => c (V.str.inj z)]
          exact iteF ⟨s6, m6, by omega, e6⟩
      · rintro H6 ⟨s6, m6, l6, e6⟩
        exact ⟨s6, m6, by omega, e6⟩
    · rintro H5 ⟨s5, m, lm, e5⟩
      refine ⟨D2, _, rfl, SqL.of e5, ?_⟩
      rw [List.all_replicate]
      have := k H5 (s24.trans s5)
      split
      · exact this
      · exact this
end
end Ah
set_option Elab.async false
set_option linter.all false
set_option maxRecDepth 100000
set_option maxHeartbeats 4000000
namespace Ah
open PySem PySem.Spec PyProof.Rows L2
theorem pss_dead {X : Cx} {st : List Stmt} : PSs X st (fun _ _ _ => False) := ⟨fun _ _ _ _ _ _ h => h.elim⟩
theorem for_gen {J : It} {L : Hp → Prop} {xs : List V} (G : Goer J L xs) {g : TG} {tb : TS} {D : Ends} {σ : L2.St} {H : Hp} (Pv : Nat → L2.St → Hp → Prop) (h0 : Pv 0 σ H) (hl : ∀ i σ H, i ≤ xs.length → Pv i σ H → L H)
    (hs : ∀ i σ H, i < xs.length → Pv i σ H → g (xs.getD i .non) σ H fun σ2 H2 => tb { D with nx := Pv (i + 1), ct := Pv (i + 1), bk := D.nx } σ2 H2) (hd : ∀ σ H, Pv xs.length σ H → D.nx σ H) :
    ∃ W : Nat → Nat → L2.St → Hp → Prop, (∃ m, W 0 m σ H) ∧ ∀ i m σ H, W i m σ H →
      (J.stop i H ∧ D.nx σ H) ∨ (J.go i H ∧ ∃ N : L2.St → Hp → Prop, (∀ σ' H', N σ' H' → ∃ m', m' < m ∧ W (i + 1) m' σ' H') ∧ ∀ x H', J.yld i H x H' → g x σ H' fun σ2 H2 => tb { D with nx := N, ct := N, bk := D.nx } σ2 H2) := by
  refine ⟨fun i m σ H => m = xs.length - i ∧ i ≤ xs.length ∧ Pv i σ H, ⟨xs.length, rfl, Nat.zero_le _, h0⟩, ?_⟩
  rintro i m σ H ⟨rfl, hi, p⟩
  have q := hl i σ H hi p
  rcases Nat.lt_or_ge i xs.length with hlt | hge
  · refine .inr ⟨G.go i H hlt q, Pv (i + 1), fun σ' H' p' => ⟨xs.length - (i + 1), by omega, rfl, hlt, p'⟩, fun x H' y => ?_⟩
    obtain ⟨rfl, rfl⟩ := G.yld i H x H' q hlt y
    exact hs i σ _ hlt p
  · obtain rfl : i = xs.length := by omega
    exact .inl ⟨G.stop H q, hd σ H p⟩
theorem getD_strs (xs : List Str) {i : Nat} (h : i < xs.length) : (xs.map V.str).getD i .non = .str (xs.getD i default) := by
  rw [List.getD_eq_getElem?_getD, List.getD_eq_getElem?_getD, List.getElem?_map, List.getElem?_eq_getElem h]
  rfl
/-- how many keys there can be -/
theorem keys_few {ks : List (Str × Str)} {xs : List Str} (nd : ks.Nodup) (h : ∀ a c, (a, c) ∈ ks → a ∈ xs ∧ c ∈ xs) : ks.length ≤ xs.length * xs.length :=
  Nat.le_trans (nodup_sub_le (m := dueOf (fun _ _ => true) xs) nd fun p hp => dueOf_mem.mpr ⟨(h p.1 p.2 hp).1, (h p.1 p.2 hp).2, rfl⟩) dueOf_len
theorem iOr_by2 {K : PySem.W.Frag} {tl : TE} {a : Addr} {xs : List V} {σ : L2.St} {H H1 : Hp} {R : It → Hp → Prop} (ht : ∀ Q : VK, Q (.ref a) H1 → tl σ H1 Q) (s : Same H H1) (h : LTu H a xs) (k : ∀ J L, Goer J L xs → L H → R J H1) : iOr (iList K tl) (iTup K tl) σ H1 R := by
  rcases h with h | h
  · exact .inl (ht _ ⟨a, rfl, ⟨xs, SqL.of (s _ _ h)⟩, k _ _ (goer_l K a xs) h⟩)
  · exact .inr (ht _ ⟨a, rfl, ⟨xs, .inl (rd_same s h)⟩, k _ _ (goer_t K a xs) h⟩)
abbrev sClosed : Stmt := topS 13
section
variable {P : Program} {w : World} {K : PySem.W.Frag} {mg : Str → Option Value} {base : Heap}
theorem scClosed : FnScope ["hands", "pairs", "knotted", "held", "b", "a", "before", "c", "behind", "pair"] ["hands", "pairs"] (defScope sClosed) := ⟨rfl, rfl, rfl, by decide +kernel, rfl, by decide +kernel, by decide +kernel⟩
/-- of pairs that a row keeps -/
def spClosed : Sp := fun vs H Q _ => ∃ (a b : Addr) (xs : List Str) (us : List V) (ps : List (Str × Str)) (row hs : List Str) (R : Str → Str → Bool), vs = [.ref a, .ref b] ∧ LTu H a (xs.map V.str) ∧ LTu H b us ∧ PrsV H us ps ∧ (∀ x ∈ xs, PyData.strOk x = true) ∧ PrsOk ps ∧ xs.length ≤ 8 ∧ ps.length ≤ 100 ∧
  KeepR row ps ∧ (∀ x y, (x, y) ∈ ps → x ∈ xs ∧ y ∈ xs) ∧ xs.Perm hs ∧ hs.Pairwise sLt ∧ (∀ x y, R x y = true ↔ Lead ps x y) ∧
  ∀ (t : Addr) (ws : List V) (H' : Hp), Same H H' → Ftp H' t ws → PrsV H' ws (dueOf R hs) → Q (.ref t) H'
theorem ok_closed {f f1 : Addr} {fd fd1 : FuncData} (F : Fun K "closed" "closed" sClosed f fd) (B : Blt2 mg) (D : Df P w K mg base CX0 "knotted_hands" 2 f1 fd1 ["hands", "pairs"] spKnotted) : FnOk P w K mg base CX0 3 f fd ["hands", "pairs"] spClosed := by
  refine F.ok scClosed (fun vs H Q E h => ?_) (fun cdv A outer s H vs Q E hr h => ?_)
  · obtain ⟨a, b, xs, us, ps, row, hs, R, rfl, _⟩ := h
    rfl
  · obtain ⟨a, b, xs, us, ps, row, hs, R, rfl, ha, hb, hps, ok, okp, hl, hl2, hk, hin, hpm, hst, hR, k⟩ := h
    have nd := scClosed.nd
    have hu := hu_of hr
    have hu1 : (A.deeper (envOfC "closed" (defScope sClosed) s.heap.objs.size f cdv)).units < cLine := by
      have := hu
      omega
    refine ⟨_, pss_cons (ps_set (i := 2) nd rfl (.inl rfl) (pe_call D.ok hr rfl D.g D.kp D.b .nil pass0 (pa_cons (pv 0) (pa_cons (pv 1) pa_nil))))
      (pss_cons (ps_if (pt_truth (pv 2) (by intro _; rfl)) pss_dead pss_nil)
      (pss_cons (ps_set (i := 3) nd rfl (.inr rfl) (pe_dcT (mine := [("pair", 9)]) (tst := tYes) (gt := gName 9) (tke := tVar 9) (tva := tC (.bl true)) rfl hu1 nd (pi_or (pi_list (pv 1)) (pi_tup (pv 1))) (blkOk_by (N := ["hands", "pairs", "knotted", "held", "b", "a", "before", "c", "behind", "pair"]) (sc := defScope sClosed) (by decide +kernel))
          (fun _ _ _ _ _ => pg_name (i := 9) nd rfl (Or.inl rfl)) (fun _ _ _ _ _ => pts_nil) (fun _ _ _ _ _ => pv 9) (fun _ _ _ _ _ => pe_bl)))
      (pss_cons (ps_for PassesOwn.never rfl (pi_or (pi_list (pv 0)) (pi_tup (pv 0))) (pg_name (i := 4) nd rfl (.inr rfl))
        (pss_cons (ps_setLc (i := 6) (own := [("a", 5)]) (g := gName 5) (tt := tB (tDIn (tTup (tCons (tVar 5) (tCons (tVar 4) tNil))) (tVar 3))) (te := tVar 5) rfl nd rfl rfl (by rfl) (pi_or (pi_list (pv 0)) (pi_tup (pv 0)))
            (blkOk_by (N := ["hands", "pairs", "knotted", "held", "b", "a", "before", "c", "behind", "pair"]) (sc := defScope sClosed) (by decide +kernel)) (fun _ _ _ _ _ => pg_name (i := 5) nd rfl (Or.inl rfl))
            (fun _ _ _ _ _ => pts_one (pt_cmp (pc_din hu (pe_tup (pa_cons (pv 5) (pa_cons (pv 4) pa_nil))) (pv 3)))) (fun _ _ _ _ _ => pv 5))
        (pss_cons (ps_setLc (i := 8) (own := [("c", 7)]) (g := gName 7) (tt := tB (tDIn (tTup (tCons (tVar 4) (tCons (tVar 7) tNil))) (tVar 3))) (te := tVar 7) rfl nd rfl rfl (by rfl) (pi_or (pi_list (pv 0)) (pi_tup (pv 0)))
            (blkOk_by (N := ["hands", "pairs", "knotted", "held", "b", "a", "before", "c", "behind", "pair"]) (sc := defScope sClosed) (by decide +kernel)) (fun _ _ _ _ _ => pg_name (i := 7) nd rfl (Or.inl rfl))
            (fun _ _ _ _ _ => pts_one (pt_cmp (pc_din hu (pe_tup (pa_cons (pv 4) (pa_cons (pv 7) pa_nil))) (pv 3)))) (fun _ _ _ _ _ => pv 7))
        (pss_one (ps_for PassesOwn.never rfl (pi_list (pv 6)) (pg_name (i := 5) nd rfl (.inl rfl))
          (pss_one (ps_for PassesOwn.never rfl (pi_list (pv 8)) (pg_name (i := 7) nd rfl (.inl rfl))
            (pss_one (ps_dput hu (pv 3) (pe_tup (pa_cons (pv 5) (pa_cons (pv 7) pa_nil))) pe_bl rfl)))))))))
      (pss_one (ps_ret (pe_callTy call_tuple_ofF (by rfl) B.tuple (by decide +kernel) (pa_cons (pe_callB (cr_sortedT rfl hr.units) (by rfl) B.sorted (by decide +kernel) (pa_cons (pv 3) pa_nil)) pa_nil))))))), ?_⟩
    have lu := hps.len
    have lm : (xs.map V.str).length = xs.length := List.length_map ..
    refine ⟨_, rfl, _, rfl, a, b, xs, us, ps, rfl, ha, hb, hps, ok, okp, by omega, fun q ys H1 s1 py sy e1 => ?_⟩
    rw [peels_nil hk ys] at e1
    refine ⟨_, rfl, _, .inl ⟨_, SqL.of e1, rfl⟩, ?_⟩
    refine iteF ?_
    refine iOr_by (fun Q q => ⟨_, rfl, q⟩) (hb.same s1) fun J L G hL => fun D1 hD1 => ?_
    have hD1H : H D1 = none := none_of s1 hD1
    refine dcT_gen (n := us.length) (item := fun i => us.getD i .non) (fun i H4 => Same H1 H4 ∧ HeldT H4 D1 (putPs (ps.take i))) ⟨same_new hD1, upd_same⟩ (fun i H4 hi q => G.go i H4 hi (G.keep _ _ q.1 hL)) (fun H4 q => G.stop H4 (G.keep _ _ q.1 hL)) (fun i H4 x H' hi q y => G.yld i H4 x H' (G.keep _ _ q.1 hL) hi y) ?_ ?_
    · rintro i H4 hi ⟨s4, e4⟩
      have hx : us[i]? = some us[i] := List.getElem?_eq_getElem hi
      obtain ⟨p, hp', vp⟩ := hps.get hx
      obtain ⟨T, eT, hT⟩ := vp.same (s1.trans s4)
      have ex : us.getD i .non = .ref T := by
        rw [List.getD_eq_getElem?_getD, hx]
        exact eT
      have et : ps.take (i + 1) = ps.take i ++ [p] := by rw [List.take_succ, hp']; rfl
      rw [ex, et, putPs_snoc]
      refine ⟨rfl, _, rfl, _, keyP p, T, rfl, hT, e4, ?_, same_mut s4 hD1, ?_⟩
      · have h1 := putPs_len (ps.take i)
        rw [List.length_take] at h1
        rw [kvs_len]
        exact small1000 (by omega)
      · show upd H4 D1 _ D1 = _
        rw [upd_same, putK_kvs]
    rintro H4 ⟨s4, e4⟩
    rw [lu, List.take_length] at e4
    have s14 := s1.trans s4
    refine iOr_by2 (fun Q q => ⟨_, rfl, q⟩) s14 ha fun J2 L2' G2 hL2 => ?_
    refine for_gen G2 (fun i σ H5 => ∃ (o4 o5 o6 o7 o8 : Option V) (ks : List (Str × Str)), σ = [some (.ref a), some (.ref b), some (.ref q), some (.ref D1), o4, o5, o6, o7, o8, none] ∧ Same H H5 ∧ HeldT H5 D1 ks ∧ ks.Nodup ∧ ∀ x y, (x, y) ∈ ks ↔ vias (fun x y => (x, y) ∈ ps) (xs.take i) x y)
      ⟨none, none, none, none, none, putPs ps, rfl, s14, e4, putPs_nodup ps, fun x y => putPs_mem ps _⟩ (fun i σ H5 _ ⟨_, _, _, _, _, _, _, z, _⟩ => G2.keep _ _ z hL2) ?_ ?_
    · rintro i σ H5 hi ⟨o4, o5, o6, o7, o8, ks, rfl, s5, e5, nd5, m5⟩
      rw [lm] at hi
      rw [getD_strs xs hi]
      have eti : xs.take (i + 1) = xs.take i ++ [xs.getD i default] := by rw [List.take_succ, getD_at hi]; rfl
      generalize hb' : xs.getD i default = b' at eti
      refine iOr_by2 (fun Q q => ⟨_, rfl, q⟩) s5 ha fun J6 L6 G3 hL6 => fun D6 hD6 => ?_
      refine lc_gen (n := (xs.map V.str).length) (item := fun i => (xs.map V.str).getD i .non) (fun j H6 => Same H5 H6 ∧ H6 D6 = some (.lst (((xs.take j).filter fun x => decide ((x, b') ∈ ks)).map V.str))) ⟨same_new hD6, upd_same⟩ (fun j H6 hj q => G3.go j H6 hj (G3.keep _ _ (s5.trans q.1) hL6)) (fun H6 q => G3.stop H6 (G3.keep _ _ (s5.trans q.1) hL6)) (fun j H6 x H' hj q y => G3.yld j H6 x H' (G3.keep _ _ (s5.trans q.1) hL6) hj y) ?_ ?_
      · rintro j H6 hj ⟨s6, e6⟩
        rw [lm] at hj
        rw [getD_strs xs hj]
        have et : xs.take (j + 1) = xs.take j ++ [xs.getD j default] := by rw [List.take_succ, getD_at hj]; rfl
        generalize xs.getD j default = x at et ⊢
        refine ⟨rfl, _, rfl, _, rfl, by show 2 ≤ sizeLine; decide, fun T hT => ?_⟩
        have s7 : Same H6 (upd H6 T (.tup [.str x, .str b'])) := same_new hT
        refine ⟨_, rfl, D1, _, rfl, DGet.t (k := keyP (x, b')) (s7 _ _ (s6 _ _ e5)) upd_same, _, rfl, ?_⟩
        rw [valV_kvs, et, List.filter_append, List.map_append]
        have e7 := s7 _ _ e6
        by_cases c : (x, b') ∈ ks
        · rw [decide_eq_true c, List.filter_cons, if_pos (decide_eq_true c)]
          refine iteT ⟨_, rfl, _, e7, ?_, same_mut (s6.trans s7) hD6, upd_same⟩
          rw [List.length_map]
          exact small1000 (Nat.le_trans (List.length_filter_le _ _) (by rw [List.length_take]; omega))
        · rw [decide_eq_false c, List.filter_cons, if_neg (by rw [decide_eq_false c]; exact Bool.false_ne_true)]
          refine iteF ⟨s6.trans s7, ?_⟩
          rw [e7]
          simp
      rintro H7 ⟨s6, e6⟩
      rw [lm, List.take_length] at e6
      have s57 := s5.trans s6
      have e5 := s6 _ _ e5
      refine iOr_by2 (fun Q q => ⟨_, rfl, q⟩) s57 ha fun J8 L8 G4 hL8 => fun D8 hD8 => ?_
      refine lc_gen (n := (xs.map V.str).length) (item := fun i => (xs.map V.str).getD i .non) (fun j H6 => Same H7 H6 ∧ H6 D8 = some (.lst (((xs.take j).filter fun x => decide ((b', x) ∈ ks)).map V.str))) ⟨same_new hD8, upd_same⟩ (fun j H6 hj q => G4.go j H6 hj (G4.keep _ _ (s57.trans q.1) hL8)) (fun H6 q => G4.stop H6 (G4.keep _ _ (s57.trans q.1) hL8)) (fun j H6 x H' hj q y => G4.yld j H6 x H' (G4.keep _ _ (s57.trans q.1) hL8) hj y) ?_ ?_
      · rintro j H6 hj ⟨s6, e6⟩
        rw [lm] at hj
        rw [getD_strs xs hj]
        have et : xs.take (j + 1) = xs.take j ++ [xs.getD j default] := by rw [List.take_succ, getD_at hj]; rfl
        generalize xs.getD j default = x at et ⊢
        refine ⟨rfl, _, rfl, _, rfl, by show 2 ≤ sizeLine; decide, fun T hT => ?_⟩
        have s7 : Same H6 (upd H6 T (.tup [.str b', .str x])) := same_new hT
        refine ⟨_, rfl, D1, _, rfl, DGet.t (k := keyP (b', x)) (s7 _ _ (s6 _ _ e5)) upd_same, _, rfl, ?_⟩
        rw [valV_kvs, et, List.filter_append, List.map_append]
        have e7 := s7 _ _ e6
        by_cases c : (b', x) ∈ ks
        · rw [decide_eq_true c, List.filter_cons, if_pos (decide_eq_true c)]
          refine iteT ⟨_, rfl, _, e7, ?_, same_mut (s6.trans s7) hD8, upd_same⟩
          rw [List.length_map]
          exact small1000 (Nat.le_trans (List.length_filter_le _ _) (by rw [List.length_take]; omega))
        · rw [decide_eq_false c, List.filter_cons, if_neg (by rw [decide_eq_false c]; exact Bool.false_ne_true)]
          refine iteF ⟨s6.trans s7, ?_⟩
          rw [e7]
          simp
      rintro H8 ⟨s8, e8⟩
      rw [lm, List.take_length] at e8
      have s58 := s57.trans s8
      have e5 : HeldT H8 D1 ks := s8 _ _ e5
      have e6 := s8 _ _ e6
      have hin5 : ∀ x y, (x, y) ∈ ks → x ∈ xs ∧ y ∈ xs := fun x y h => (vias_lead _ (fun _ _ h => Lead.one h) ((m5 x y).mp h)).left hin
      generalize hbf : (xs.filter fun x => decide ((x, b') ∈ ks)) = bf at e6
      generalize hbh : (xs.filter fun x => decide ((b', x) ∈ ks)) = bh at e8
      have mf : ∀ x, x ∈ bf ↔ (x, b') ∈ ks := fun x => by
        rw [← hbf, List.mem_filter]
        exact ⟨fun h => of_decide_eq_true h.2, fun h => ⟨(hin5 _ _ h).1, decide_eq_true h⟩⟩
      have mh : ∀ x, x ∈ bh ↔ (b', x) ∈ ks := fun x => by
        rw [← hbh, List.mem_filter]
        exact ⟨fun h => of_decide_eq_true h.2, fun h => ⟨(hin5 _ _ h).2, decide_eq_true h⟩⟩
      have l64 : xs.length * xs.length ≤ 8 * 8 := Nat.mul_le_mul hl hl
      refine ⟨_, rfl, D6, rfl, ⟨_, SqL.of e6⟩, ?_⟩
      refine for_list (K := K) (a := D6) (xs := bf.map V.str) (fun u σ H9 => ∃ (o5 o7 : Option V) (kl : List (Str × Str)), σ = [some (.ref a), some (.ref b), some (.ref q), some (.ref D1), some (.str b'), o5, some (.ref D6), o7, some (.ref D8), none] ∧ Same H H9 ∧ H9 D6 = some (.lst (bf.map V.str)) ∧ H9 D8 = some (.lst (bh.map V.str)) ∧ HeldT H9 D1 kl ∧ kl.Nodup ∧ ∀ x y, (x, y) ∈ kl ↔ (x, y) ∈ ks ∨ (x ∈ bf.take u ∧ y ∈ bh))
        ⟨_, _, ks, rfl, s58, e6, e8, e5, nd5, fun x y => ⟨.inl, fun z => z.elim id fun z => by simp at z⟩⟩ (fun u σ H9 _ ⟨_, _, _, _, _, z, _⟩ => SqL.of z) ?_ ?_
      · rintro u x σ H9 hx ⟨o5', o7', kl, rfl, s9, f6, f8, e9, nd9, m9⟩
        obtain ⟨x0, hx0, rfl, hxm⟩ := str_at hx
        have etu : bf.take (u + 1) = bf.take u ++ [x0] := by rw [List.take_succ, hx0]; rfl
        refine ⟨_, rfl, D8, rfl, ⟨_, SqL.of f8⟩, ?_⟩
        refine for_list (K := K) (a := D8) (xs := bh.map V.str) (fun v σ H10 => ∃ (o7 : Option V) (kl : List (Str × Str)), σ = [some (.ref a), some (.ref b), some (.ref q), some (.ref D1), some (.str b'), some (.str x0), some (.ref D6), o7, some (.ref D8), none] ∧ Same H H10 ∧ H10 D6 = some (.lst (bf.map V.str)) ∧ H10 D8 = some (.lst (bh.map V.str)) ∧ HeldT H10 D1 kl ∧ kl.Nodup ∧ ∀ x y, (x, y) ∈ kl ↔ ((x, y) ∈ ks ∨ (x ∈ bf.take u ∧ y ∈ bh)) ∨ (x = x0 ∧ y ∈ bh.take v))
          ⟨_, kl, rfl, s9, f6, f8, e9, nd9, fun x y => (m9 x y).trans ⟨.inl, fun z => z.elim id fun z => by simp at z⟩⟩ (fun u σ H9 _ ⟨_, _, _, _, _, z, _⟩ => SqL.of z) ?_ ?_
        · rintro v y σ H10 hy ⟨o7'', kl2, rfl, s10, g6, g8, e10, nd10, m10⟩
          obtain ⟨y0, hy0, rfl, hym⟩ := str_at hy
          have etv : bh.take (v + 1) = bh.take v ++ [y0] := by rw [List.take_succ, hy0]; rfl
          have in10 : ∀ x y, (x, y) ∈ kl2 → x ∈ xs ∧ y ∈ xs := fun x y h => by
            rcases (m10 x y).mp h with (h | h) | h
            · exact hin5 x y h
            · exact ⟨(hin5 _ _ ((mf x).mp (List.mem_of_mem_take h.1))).1, (hin5 _ _ ((mh y).mp h.2)).2⟩
            · exact ⟨h.1 ▸ (hin5 _ _ ((mf x0).mp hxm)).1, (hin5 _ _ ((mh y).mp (List.mem_of_mem_take h.2))).2⟩
          have few := keys_few nd10 in10
          refine ⟨_, rfl, _, rfl, _, rfl, by show 2 ≤ sizeLine; decide, fun T hT => ?_⟩
          have sT : Same H10 (upd H10 T (.tup [.str x0, .str y0])) := same_new hT
          refine ⟨D1, _, rfl, DPut.t (k := keyP (x0, y0)) (sT _ _ e10) upd_same ?_, _, putP kl2 (x0, y0), rfl, same_mut (s10.trans sT) hD1H, ?_, ?_, ?_, putP_nodup nd10, fun x y => ?_⟩
          · rw [kvs_len]
            exact small1000 (by omega)
          · exact (upd_ne fun z => by rw [z] at g6; rw [show H10 D1 = _ from e10] at g6; cases g6).trans (sT _ _ g6)
          · exact (upd_ne fun z => by rw [z] at g8; rw [show H10 D1 = _ from e10] at g8; cases g8).trans (sT _ _ g8)
          · show upd _ D1 _ D1 = _
            rw [upd_same, putK_kvs]
          · rw [putP_mem, m10, etv, List.mem_append, List.mem_singleton, Prod.mk.injEq, or_assoc, or_assoc, or_assoc]
            constructor
            · rintro (h | h | h | h)
              · exact .inl h
              · exact .inr (.inl h)
              · exact .inr (.inr ⟨h.1, .inl h.2⟩)
              · exact .inr (.inr ⟨h.1, .inr h.2⟩)
            · rintro (h | h | ⟨h1, h2 | h2⟩)
              · exact .inl h
              · exact .inr (.inl h)
              · exact .inr (.inr (.inl ⟨h1, h2⟩))
              · exact .inr (.inr (.inr ⟨h1, h2⟩))
        · rintro σ H10 ⟨o7'', kl2, rfl, s10, g6, g8, e10, nd10, m10⟩
          rw [List.length_map, List.take_length] at m10
          refine ⟨_, _, kl2, rfl, s10, g6, g8, e10, nd10, fun x y => (m10 x y).trans ?_⟩
          rw [etu, List.mem_append, List.mem_singleton]
          constructor
          · rintro ((h | h) | h)
            · exact .inl h
            · exact .inr ⟨.inl h.1, h.2⟩
            · exact .inr ⟨.inr h.1, h.2⟩
          · rintro (h | ⟨h1 | h1, h2⟩)
            · exact .inl (.inl h)
            · exact .inl (.inr ⟨h1, h2⟩)
            · exact .inr ⟨h1, h2⟩
      · rintro σ H9 ⟨o5', o7', kl, rfl, s9, f6, f8, e9, nd9, m9⟩
        rw [List.length_map, List.take_length] at m9
        refine ⟨_, _, _, _, _, kl, rfl, s9, e9, nd9, ?_⟩
        rw [eti]
        refine fun x y => ?_
        rw [vias_snoc]
        exact via_keys m5 (fun x y => by rw [m9, mf, mh]) x y
    · rintro σ H5 ⟨o4, o5, o6, o7, o8, ks, rfl, s5, e5, nd5, m5⟩
      rw [lm, List.take_length] at m5
      have few : ks.length ≤ xs.length * xs.length := keys_few nd5 fun x y h => ((vias_all hin).mp ((m5 x y).mp h)).left hin
      have l64 : xs.length * xs.length ≤ 8 * 8 := Nat.mul_le_mul hl hl
      refine ⟨_, rfl, D1, kvsOf ks, rfl, .inl e5, ?_, ?_, ?_, ?_, fun bs zs p isk pm e hp => ?_⟩
      · rw [keyD_kvs]; exact prs_alike ks
      · rw [keyD_kvs]; exact prs_sortable ks
      · rw [keyD_kvs]; exact prs_depth ks
      · rw [kvs_len]; omega
      rw [keyD_kvs] at pm e
      rw [closed_due hR (fun x y h => ⟨hpm.mem_iff.mp (hin x y h).1, hpm.mem_iff.mp (hin x y h).2⟩) hpm hst nd5 m5] at e
      have due := keys_sorted isk pm e
      have sp : Same H5 (upd H5 p (.lst (zs.map (·.1)))) := same_new hp
      refine ⟨p, zs.map (·.1), rfl, SqL.of upd_same, newF fun t H6 s6 f6 => ?_⟩
      exact k t _ H6 ((s5.trans sp).trans s6) f6 (due.same (sp.trans s6))
end
end Ah
set_option Elab.async false
set_option linter.all false
set_option maxRecDepth 100000
set_option maxHeartbeats 4000000
namespace Ah
open PySem PySem.Spec PyProof.Rows L2
abbrev sPen : Stmt := topS 25
theorem pen_new (c : Addr) (a l : Int) : mergeK [] (penK c a l) = penK c a l := by
  have e1 : (putK ([] : List (Key × V)) (.inr "cells" : Key) (V.ref c)) = [((.inr "cells" : Key), V.ref c)] := rfl
  have n1 : valV [((.inr "cells" : Key), V.ref c)] (.inr "at" : Key) = none := (valV_neg fun e => k_ca (Sum.inr.inj e)).trans rfl
  have n2 : valV [((.inr "cells" : Key), V.ref c), (.inr "at", .int a)] (.inr "left" : Key) = none := (valV_neg fun e => k_cl (Sum.inr.inj e)).trans ((valV_neg fun e => k_al (Sum.inr.inj e)).trans rfl)
  show putK (putK (putK ([] : List (Key × V)) (.inr "cells" : Key) (V.ref c)) (.inr "at" : Key) (V.int a)) (.inr "left" : Key) (V.int l) = _
  rw [e1, putK_new _ n1]
  show putK [((.inr "cells" : Key), V.ref c), (.inr "at", .int a)] (.inr "left" : Key) (V.int l) = _
  rw [putK_new _ n2]
  rfl
section
variable {P : Program} {w : World} {K : PySem.W.Frag} {mg : Str → Option Value} {base : Heap}
theorem scPen : FnScope ["script"] ["script"] (defScope sPen) := ⟨rfl, rfl, rfl, by decide +kernel, rfl, by decide +kernel, by decide +kernel⟩
def spPen (K : PySem.W.Frag) : Sp := fun vs H Q _ => ∃ (a : Addr) (ns : List Int), vs = [.ref a] ∧ SqL K H a (ns.map V.int) ∧ ∀ (p c : Addr) (H' : Hp), PenAt H' p c 0 → Q (.ref p) H'
theorem ok_pen {f : Addr} {fd : FuncData} (F : Fun K "_law_pen" "_law_pen" sPen f fd) (B : Blt2 mg) : FnOk P w K mg base CX0 1 f fd ["script"] (spPen K) := by
  refine F.ok scPen (fun vs H Q E h => ?_) (fun cdv A outer s H vs Q E hr h => ?_)
  · obtain ⟨a, ns, rfl, _⟩ := h
    rfl
  · obtain ⟨a, ns, rfl, ha, k⟩ := h
    refine ⟨_, pss_one (ps_ret (pe_disp (pps_cons pe_str (pe_callTy call_list_of (by rfl) B.list (by decide +kernel) (pa_cons (pe_slice sl_list (pv 0) po_none (po_some pe_int)) pa_nil)) (pps_cons pe_str pe_int (pps_cons pe_str pe_int pps_nil))) rfl rfl (by simp) (by decide))), ?_⟩
    refine fun p hp => ⟨_, rfl, _, rfl, a, ns.map V.int, rfl, (same_new hp).seq ha, fun l1 hl1 => ?_⟩
    refine ⟨l1, _, rfl, .inl (SqL.of upd_same), fun l2 hl2 => ?_⟩
    have s12 := (same_new (o := .lst (cutV (ns.map V.int) none (some 63))) hl1).trans (same_new (o := .lst (cutV (ns.map V.int) none (some 63))) hl2)
    refine ⟨s12 _ _ upd_same, penK l2 0 0, rfl, (by show 3 ≤ 15; decide), ?_⟩
    rw [pen_new]
    have nlp : l2 ≠ p := fun e => by
      rw [e] at hl2
      have := (same_new (o := .lst (cutV (ns.map V.int) none (some 63))) hl1) p _ upd_same
      rw [hl2] at this
      cases this
    refine k p l2 _ ⟨(ns.take (min 63 ns.length)), 0, 0, upd_same, ?_, by decide, by decide, by decide⟩
    rw [upd_ne nlp, upd_same]
    have ec : cutV (ns.map V.int) none (some 63) = (ns.take (min 63 ns.length)).map V.int := by
      unfold cutV
      rw [HT.sIx_none, show (63 : Int) = ((63 : Nat) : Int) from rfl, HT.sIx_nat, List.drop_zero, Nat.sub_zero, List.length_map, List.map_take]
    rw [ec]
end
end Ah
set_option Elab.async false
set_option linter.all false
set_option maxRecDepth 100000
set_option maxHeartbeats 4000000
namespace Ah
open PySem PySem.Spec PyProof.Rows L2
abbrev sCheckWeb : Stmt := topS 12
theorem idx_first {xs : List Str} {x : Str} {m : Nat} (h : m < xs.idxOf x) : xs[m]? ≠ some x := fun e => by
  have hm := (List.getElem?_eq_some_iff.mp e).1
  induction xs generalizing m with
  | nil => cases e
  | cons y r ih =>
    rw [List.idxOf_cons] at h
    by_cases q : y = x
    · subst q
      simp at h
    · have q' : (y == x) = false := by simp [q]
      rw [q'] at h
      cases m with
      | zero => exact q (Option.some.inj e)
      | succ m =>
        have h' : m < r.idxOf x := by simpa using h
        exact ih h' (by simpa using e) (by simpa using hm)
section
variable {P : Program} {w : World} {K : PySem.W.Frag} {mg : Str → Option Value} {base : Heap}
theorem scCheckWeb : FnScope ["hands", "web"] ["hands", "web"] (defScope sCheckWeb) := ⟨rfl, rfl, rfl, by decide +kernel, rfl, by decide +kernel, by decide +kernel⟩
/-- what a web of hands is -/
structure WebAt (H : Hp) (t : Addr) (us : List V) (hs : List Str) (ps : List (Str × Str)) : Prop where
  at' : Rd H t (.tup us)
  prs : PrsV H us ps
  rises : ps.Pairwise pLt
  few : ps.length ≤ 64
  mem : ∀ x y, (x, y) ∈ ps → x ∈ hs ∧ y ∈ hs ∧ x ≠ y
  thru : ∀ x y z, (x, y) ∈ ps → (y, z) ∈ ps → (x, z) ∈ ps
theorem WebAt.same {H H' : Hp} {t : Addr} {us : List V} {hs : List Str} {ps : List (Str × Str)} (k : Same H H') (h : WebAt H t us hs ps) : WebAt H' t us hs ps :=
  ⟨rd_same k h.at', h.prs.same k, h.rises, h.few, h.mem, h.thru⟩
def spCheckWeb : Sp := fun vs H Q _ => ∃ (g t : Addr) (us : List V) (hs : List Str) (ps : List (Str × Str)), vs = [.ref g, .ref t] ∧ LTu H g (hs.map V.str) ∧ WebAt H t us hs ps ∧ ∀ H', Same H H' → Q .non H'
theorem ok_checkWeb {f f1 : Addr} {fd fd1 : FuncData} (F : Fun K "check_web" "check_web" sCheckWeb f fd) (D : Df P w K mg base CX0 "is_web" 2 f1 fd1 ["hands", "thing"] spIsWeb) : FnOk P w K mg base CX0 3 f fd ["hands", "web"] spCheckWeb := by
  refine F.ok scCheckWeb (fun vs H Q E h => ?_) (fun cdv A outer s H vs Q E hr h => ?_)
  · obtain ⟨g, t, us, hs, ps, rfl, _⟩ := h
    rfl
  · obtain ⟨g, t, us, hs, ps, rfl, hg, hw, k⟩ := h
    refine ⟨_, pss_one (ps_if (pt_not (pt_val (pe_call D.ok hr rfl D.g D.kp D.b .nil pass0 (pa_cons (pv 0) (pa_cons (pv 1) pa_nil))))) pss_dead pss_nil), ?_⟩
    exact ⟨_, rfl, _, rfl, g, t, us, hs, ps, rfl, hg, hw.at', hw.prs, hw.rises, hw.few, hw.mem, hw.thru, fun H' s => ⟨true, rfl, iteF (k H' s)⟩⟩
end
end Ah
set_option Elab.async false
set_option linter.all false
set_option maxRecDepth 100000
set_option maxHeartbeats 4000000
namespace Ah
open PySem PySem.Spec PyProof.Rows L2
/-- hands that can come next behind a row -/
def lackOf (ps : List (Str × Str)) (row : List Str) : List Str := (ps.filter fun p => decide (p.1 ∉ row)).map fun p => p.2
def nextOf (ps : List (Str × Str)) (row ys : List Str) : List Str := ys.filter fun x => decide (x ∉ row ∧ x ∉ lackOf ps row)
theorem lackOf_mem {ps : List (Str × Str)} {row : List Str} {x : Str} : x ∈ lackOf ps row ↔ ∃ y, (y, x) ∈ ps ∧ y ∉ row := by
  unfold lackOf
  rw [List.mem_map]
  constructor
  · rintro ⟨p, hp, rfl⟩
    obtain ⟨h1, h2⟩ := List.mem_filter.mp hp
    exact ⟨p.1, h1, of_decide_eq_true h2⟩
  · rintro ⟨y, h1, h2⟩
    exact ⟨(y, x), List.mem_filter.mpr ⟨h1, decide_eq_true h2⟩, rfl⟩
section
variable {P : Program} {w : World} {K : PySem.W.Frag} {mg : Str → Option Value} {base : Heap}
end
end Ah
set_option Elab.async false
set_option linter.all false
set_option maxRecDepth 100000
set_option maxHeartbeats 4000000
/-! sorted(xs), xs a list of tuples, the first of them empty -/
namespace PySem.W
open PySem PySem.Calls PySem.SeqAt PyProof.Rows
section
variable {prog : Program} {w : World} {A : Around} {s : Shared} {E : Value → Shared → Prop}
theorem ah_tuple_lt {Q : Value → Shared → Prop} {l b : Addr} {items items2 : Array Value} {e r : Nat → Bool} (hl : s.heap.IsTuple l items) (hb : s.heap.IsTuple b items2)
    (he : ∀ j (h1 : j < items.size) (h2 : j < items2.size), EqAt A.in1 s items[j] items2[j] (e j)) (hr : ∀ j (h1 : j < items.size) (h2 : j < items2.size), e j = false → RcLt A.in1 s items[j] items2[j] (r j))
    (h : Q (.bool (firstLt e r (decide (items.size < items2.size)) (List.range (min items.size items2.size)))) s) : wpAny (model prog w) A (call (.builtin "tuple.__lt__") [.ref l, .ref b]) Q E s := by
  obtain ⟨⟨cls, dd, data, sl⟩, ho, hc, n, hd⟩ := id hl
  obtain ⟨⟨cls2, dd2, data2, sl2⟩, ho2, hc2, n2, hd2⟩ := id hb
  simp only at hc hd hc2 hd2
  subst hc hd hc2 hd2
  exact call_meets F.slot_tuple_lt ⟨_, ho, rfl⟩ F.entry_tuple_lt (F.args_tuple_lt_2 _ _) (tuple_ltAt l b items items2 n n2 dd dd2 sl sl2 e r) ⟨ho, ho2, he, hr, h⟩
theorem ah_oneLt {xs ys : List PyData} {a b : Value} {as bs : List Addr} {Q : Bool → Shared → Prop} (ra : Reads s.heap a (.tuple xs) as) (rb : Reads s.heap b (.tuple ys) bs) (h : alike (.tuple xs) (.tuple ys) = true)
    (hu : A.units + min (PyData.tuple xs).depth (PyData.tuple ys).depth < cLine) (hq : Q (dataLt (.tuple xs) (.tuple ys)) s) : wpAny (model prog w) A (oneLt' true a b) Q E s := by
  have hal : alikeAll xs ys = true := by simpa [alike] using h
  cases ra with
  | @tuple l o vs n _ as₁ h1 h2 h3 h4 =>
    cases rb with
    | @tuple l' o' vs' n' _ bs₁ k1 k2 k3 k4 =>
      have n1 : vs.size = xs.length := by simpa using ReadsAll.length _ _ _ h4
      have n2 : vs'.size = ys.length := by simpa using ReadsAll.length _ _ _ k4
      rw [dataLt_tuple, ← firstLt_toks xs ys hal, ← n1, ← n2] at hq
      rw [oneLt'_eq]
      simp only [if_true]
      refine wpAny_bind (wpAny_cRoomFor (room_here hu) ?_)
      refine wpAny_bind (wpAny_callSpecialIfBound?_slot (T := "tuple") ⟨_, h1, h2⟩ F.slot_tuple_lt (ah_tuple_lt (e := pairEq xs ys) (r := fun j => dataLt (xs.getD j .none) (ys.getD j .none)) ⟨_, h1, h2, _, h3⟩ ⟨_, k1, k2, _, k3⟩ (fun j j1 j2 => ?_) (fun j j1 j2 hj => ?_) ?_))
      · have := eqAt_alikeAll xs ys A.in1 s vs.toList vs'.toList _ _ h4 k4 hal (room_in hu) j (by simpa using j1) (by simpa using j2)
        simpa using this
      · have := rcLt_alikeAll xs ys A.in1 s vs.toList vs'.toList _ _ h4 k4 hal (room_in hu) j (by simpa using j1) (by simpa using j2) hj
        simpa using this
      · exact wpAny_truthy_bool hq
/-- the firsts of tuples -/
theorem ah_firsts {M : Model} : ∀ (vs : List Value) (ds : List PyData) {Q : List (Option Value) → Shared → Prop}, EachIs (fun v d => ∃ as, Reads s.heap v d as) vs ds → (∀ d ∈ ds, ∃ xs, d = .tuple xs) →
    (∀ fs : List (Option Value), fs.length = ds.length → (ds[0]? = some (.tuple []) → fs[0]? = some none) → Q fs s) → wpAny M A (vs.mapM firstOfTuple') Q E s
  | [], _, _, .nil, _, h => by
    rw [List.mapM_nil]
    exact wpAny_pure (h [] rfl fun z => by cases z)
  | v :: vs, d :: ds, Q, .cons ⟨as, r⟩ t, ht, h => by
    obtain ⟨xs, rfl⟩ := ht d (List.mem_cons_self ..)
    cases r with
    | @tuple a o its n _ as₁ h1 h2 h3 h4 =>
      rw [List.mapM_cons]
      refine wpAny_bind ?_
      rw [kas_first_eq]
      refine wpAny_bind (Looks.here (show Looks M s.heap (typeOf (.ref a)) o.cls from (Looks.ld h1).andThen .now) ?_)
      rw [h2, if_neg (by first | decide | simp)]
      refine wpAny_bind (listItems_at h1 h3 (wpAny_pure ?_))
      refine wpAny_bind (ah_firsts vs ds (Q := fun bs s' => wpAny M A (pure (its[0]? :: bs)) Q E s') t (fun d hd => ht d (List.mem_cons_of_mem _ hd)) fun fs hl _ => ?_)
      refine wpAny_pure (h _ (by rw [List.length_cons, List.length_cons, hl]) fun e => ?_)
      have ex : xs = [] := by
        have e' : some (PyData.tuple xs) = some (PyData.tuple []) := e
        injection e' with e'
        injection e'
      subst ex
      have n1 : its.size = 0 := by simpa using ReadsAll.length _ _ _ h4
      show some (its[0]?) = some none
      rw [Array.getElem?_eq_none (by omega)]
theorem ah_kind {M : Model} {vs : List Value} {ds : List PyData} {Q : SortKind → Shared → Prop} (e : EachIs (fun v d => ∃ as, Reads s.heap v d as) vs ds) (ht : ∀ d ∈ ds, ∃ xs, d = .tuple xs) (h0 : ds[0]? = some (.tuple [])) (h : Q oneType' s) :
    wpAny M A (keyKind' vs.toArray) Q E s := by
  rw [kat_kind_eq, List.mapM_toArray, map_eq_pure_bind]
  refine wpAny_bind (wpAny_bind (ah_firsts vs ds e ht fun fs hl hf => wpAny_pure ?_))
  have hf0 := hf h0
  obtain ⟨fr, rfl⟩ : ∃ fr, fs = none :: fr := by
    match fs, hf0 with
    | f :: fr, z =>
      have : some f = some none := z
      exact ⟨fr, by rw [Option.some.inj this]⟩
  rw [if_neg (by simp), if_neg (by simp)]
  rw [oneTypeOnly'_eq, List.mapM_toArray, map_eq_pure_bind]
  have hT : ∀ v ∈ vs, Looks M s.heap (typeOf v) (.type "tuple") := fun v hv => by
    obtain ⟨d, hd, as, r⟩ := e.left v hv
    obtain ⟨xs, rfl⟩ := ht d hd
    exact looks_reads r
  obtain ⟨v₁, vr, rfl⟩ : ∃ v₁ vr, vs = v₁ :: vr := by
    cases e with
    | nil => cases h0
    | cons _ _ => exact ⟨_, _, rfl⟩
  refine wpAny_bind (wpAny_bind (wpAny_bind (kas_mapM (r := Value.type "tuple") _ (fun v hv Q' hq => (hT v hv).here hq) (wpAny_pure ?_))))
  have hall : ((List.map (fun _ => Value.type "tuple") (v₁ :: vr)).toArray.all fun x => x == Value.type "tuple") = true := by
    simp only [List.all_toArray, List.all_map, List.all_eq_true]
    intro _ _
    exact beq_self_eq_true _
  have hz : (List.map (fun _ => Value.type "tuple") (v₁ :: vr)).toArray[0]? = some (Value.type "tuple") := by simp
  rw [hz]
  simp only [hall, if_true]
  exact wpAny_pure (wpAny_pure h)
theorem ah_sorts {vs : List Value} {ds : List PyData} (e : EachIs (fun v d => ∃ as, Reads s.heap v d as) vs ds) (hal : AllAlike ds) (ht : ∀ d ∈ ds, ∃ xs, d = .tuple xs) (h0 : ds[0]? = some (.tuple [])) (hu : ∀ d, d ∈ ds → A.units + d.depth < cLine) : SortsAt prog w A s (dataKind s.heap ds) vs := by
  refine ⟨fun v hv => ?_, oneType', ?_, fun _ E Q hq => ah_kind e ht h0 hq⟩
  · obtain ⟨d, hd, as, r⟩ := e.left v hv
    exact ⟨_, dataKind_some hal hd r⟩
  · intro E x y a b Q ha hb hq
    obtain ⟨d, as, hd, ra, rfl⟩ := dataKind_inv ha
    obtain ⟨d', as', hd', rb, rfl⟩ := dataKind_inv hb
    rw [keyLt'_oneType]
    obtain ⟨xs, rfl⟩ := ht d hd
    obtain ⟨ys, rfl⟩ := ht d' hd'
    exact ah_oneLt ra rb (hal _ hd _ hd') (Nat.lt_of_le_of_lt (Nat.add_le_add_left (Nat.min_le_left _ _) _) (hu _ hd)) hq
end
end PySem.W
namespace Ah
open PySem PySem.Spec PyProof.Rows L2
open PySem.W (EachIs AllAlike Sortable dataLe)
def rSortedE (K : PySem.W.Frag) : List V → Hp → VK → Prop := fun vs H Q => ∃ (a : Addr) (xs : List V) (ds : List PyData), vs = [V.ref a] ∧ SqL K H a xs ∧ DpAll K H xs ds ∧ AllAlike ds ∧ (∀ d ∈ ds, ∃ ys, d = .tuple ys) ∧ ds[0]? = some (.tuple []) ∧ (∀ d ∈ ds, d.depth ≤ 60) ∧
  ∀ (zs : List (V × PyData)) (p : Addr), zs.Perm (xs.zip ds) → zs.map (·.2) = sortD ds → H p = none → Q (.ref p) (upd H p (.lst (zs.map (·.1))))
section
variable {X : Cx}
theorem cr_sortedE (hu : X.A.units + 64 < cLine) : CallR X (.builtin "sorted") (rSortedE X.K) := by
  intro pins s σ H vs us Q I r h
  obtain ⟨a, xs, ds, rfl, hs, hd, hal, htup, h0, hdep, q⟩ := h
  obtain ⟨its, rv, hl, hz⟩ := I.list hs
  rw [Vals.ref1 r]
  obtain ⟨z1, z2, z3⟩ := dpAll_zip2 hd
  have e := each_of rv hd
  have er : EachIs (fun (v : Value) (b : V × PyData) => ∃ as, Reads s.heap v b.2 as) its (xs.zip ds) := e.mono fun v b ⟨r1, r2⟩ => Dp.reads I b.2 b.1 v r2 r1
  have hlen : ds.length = xs.length := by
    have := congrArg List.length z2
    rw [List.length_map, z3] at this
    exact this
  have hal' : AllAlike ((xs.zip ds).map fun b => b.2) := by rw [z1]; exact hal
  have er' : EachIs (fun (v : Value) (b : V × PyData) => ∃ as, Reads (PySem.W.sortingHeap (PySem.W.copyHeap s.heap its) (s.heap.objs.size + 1) its) v b.2 as) its (xs.zip ds) := er.mono fun _ _ ⟨as, r⟩ => ⟨as, PyProof.Rows.Reads.keeps (fun _ _ => PySem.W.sorting_copy_old) r⟩
  have eds := PySem.W.each_map (R := fun v d => ∃ as, Reads (PySem.W.sortingHeap (PySem.W.copyHeap s.heap its) (s.heap.objs.size + 1) its) v d as) (fun b : V × PyData => b.2) er'
  rw [z1] at eds
  have lits : its.length = (xs.zip ds).length := e.length
  refine PySem.W.sorted_vals (κ := PySem.W.dataKind (PySem.W.sortingHeap (PySem.W.copyHeap s.heap its) (s.heap.objs.size + 1) its) ds) hl.isList (PySem.W.ah_sorts (s := { s with heap := PySem.W.sortingHeap (PySem.W.copyHeap s.heap its) (s.heap.objs.size + 1) its }) eds hal htup h0 fun d hd => ?_) (by rw [lits, z3, hlen]; exact hz) ?_
  · have := hdep d hd
    have h2 : X.A.in1.in1.units = X.A.units + 2 := rfl
    omega
  · have eo := PySem.W.sortVals_data (enc := fun b : V × PyData => b.2) (R := fun (v : Value) (b : V × PyData) => RelV b.1 v ∧ Dp X.K H b.1 b.2) false e er' hal'
    rw [z1] at eo
    generalize PySem.W.sortVals (PySem.W.dataKind (PySem.W.sortingHeap (PySem.W.copyHeap s.heap its) (s.heap.objs.size + 1) its) ds) false its its = out at eo ⊢
    obtain ⟨ep, he'⟩ := PyProof.Rows.sortedAll_at s.heap its out.toArray
    obtain ⟨v1, v2⟩ := each_vals eo
    have pm : ((xs.zip ds).mergeSort (dataLe false fun b : V × PyData => b.2)).Perm (xs.zip ds) := List.mergeSort_perm _ _
    have p1 : (((xs.zip ds).mergeSort (dataLe false fun b : V × PyData => b.2)).map (·.1)).Perm xs := by
      have := pm.map (·.1)
      rw [z2] at this
      exact this
    have p2 : ((xs.zip ds).mergeSort (dataLe false fun b : V × PyData => b.2)).map (·.2) = sortD ds := by
      have := PySem.W.sort_maps (r := dataLe false fun b : V × PyData => b.2) (s := dataLe false fun d : PyData => d) (fun b : V × PyData => b.2) (l := xs.zip ds) (fun a _ b _ => rfl)
      rw [z1] at this
      exact this
    refine ⟨.ref _, upd H (s.heap.objs.size + 1) (.lst _), I.laid (t' := s.toks) (fun _ _ => PyProof.Rows.sortedAll_old) (Nat.le_succ _) ⟨?_, out, ep, v1, he'⟩, rfl, q _ _ pm p2 (I.hok.fresh (Nat.le_succ _))⟩
    rw [p1.length_eq]
    exact hz
end
end Ah
set_option Elab.async false
set_option linter.all false
set_option maxRecDepth 100000
set_option maxHeartbeats 4000000
/-! sorted(xs, key=len, reverse=True), xs a list of tuples -/
namespace Ah
open PySem PySem.Spec PyProof.Rows L2
open PySem.W (EachIs AllAlike Sortable dataLe)
def lenD : PyData → Nat
  | .tuple ys => ys.length
  | _ => 0
def rSortLen (K : PySem.W.Frag) : List V → Hp → VK → Prop := fun vs H Q => ∃ (a : Addr) (xs : List V) (ds : List PyData), vs = [V.ref a] ∧ SqL K H a xs ∧ DpAll K H xs ds ∧ (∀ d ∈ ds, ∃ ys, d = .tuple ys ∧ ys.length ≤ 1000) ∧
  ∀ (zs : List (V × PyData)) (p : Addr), zs.Perm (xs.zip ds) → zs.Pairwise (fun a b => lenD b.2 ≤ lenD a.2) → H p = none → Q (.ref p) (upd H p (.lst (zs.map (·.1))))
theorem dataGe_len : dataLe true (fun b : V × PyData => PyData.int ((lenD b.2 : Nat) : Int)) = fun a b => decide (((lenD b.2 : Nat) : Int) ≤ ((lenD a.2 : Nat) : Int)) := PySem.W.dataGe_int fun b : V × PyData => ((lenD b.2 : Nat) : Int)
section
variable {X : Cx}
theorem sortLen_run (hu : X.A.units + 64 < cLine) {pins : List (Addr × Obj)} {s : Shared} {σ : L2.St} {H : Hp} {vs : List V} {us : List Value} {Q : VK} (I : Inv X pins σ H s) (r : Vals vs us) (h : rSortLen X.K vs H Q) :
    wpAny (model X.prog X.w) X.A (call (.builtin "sorted") us [(Str.ofString "key", .builtin "len"), (Str.ofString "reverse", .bool true)]) (EP X pins σ Q) X.xe s := by
  obtain ⟨a, xs, ds, rfl, hs, hd, htup, q⟩ := h
  obtain ⟨its, rv, hl, hz⟩ := I.list hs
  rw [Vals.ref1 r]
  obtain ⟨z1, z2, z3⟩ := dpAll_zip2 hd
  have e := each_of rv hd
  have hlen : ds.length = xs.length := by
    have := congrArg List.length z2
    rw [List.length_map, z3] at this
    exact this
  refine PySem.W.sorted_key_data (b := true) (fun b : V × PyData => PyData.int ((lenD b.2 : Nat) : Int)) hl.isList e ?_ ?_ (by rw [z3, hlen]; exact hz) (fun b hb => ?_) (ksk_s2 _ _ _) (fun _ => ksk_l2 _ _ _) (fun x => ksk_t5 "len" x true) (fun v b hR hb hp tk kp => ?_) fun out c h' tk kp _ at' _ eo => ?_
  · exact AllAlike.of fun b b' => by simp [PySem.W.alike]
  · exact Sortable.others fun b => ⟨fun z => (nomatch z), fun xs z => (nomatch z)⟩
  · have h2 : X.A.units + 2 + (PyData.int ((lenD b.2 : Nat) : Int)).depth = X.A.units + 2 := by simp [PyData.depth]
    rw [h2]
    omega
  · have hm : b.2 ∈ ds := by
      rw [← z1]
      exact List.mem_map.mpr ⟨b, hb, rfl⟩
    obtain ⟨ys, ey, ly⟩ := htup _ hm
    obtain ⟨as, rd⟩ := Dp.reads I b.2 b.1 v hR.2 hR.1
    have rd' := PyProof.Rows.Reads.keeps kp rd
    rw [ey] at rd'
    cases rd' with
    | @tuple l o ws n _ _ h1 h2 h3 h4 =>
      have n1 : ws.size = ys.length := by simpa using PySem.SeqAt.ReadsAll.length _ _ _ h4
      have el : lenD b.2 = ws.size := by rw [ey, n1]; rfl
      refine len_tuple (s := { s with heap := hp, toks := tk }) ⟨o, h1, h2, n, h3⟩ (by omega) ?_
      refine ⟨hp, tk + 1 + 1, rfl, fun _ _ z => z, ?_⟩
      rw [el]
      exact .int _ _
  · obtain ⟨v1, v2⟩ := each_vals eo
    have pm : ((xs.zip ds).mergeSort (dataLe true fun b : V × PyData => PyData.int ((lenD b.2 : Nat) : Int))).Perm (xs.zip ds) := List.mergeSort_perm _ _
    have p1 : (((xs.zip ds).mergeSort (dataLe true fun b : V × PyData => PyData.int ((lenD b.2 : Nat) : Int))).map (·.1)).Perm xs := by
      have := pm.map (·.1)
      rw [z2] at this
      exact this
    refine ⟨.ref _, upd H (s.heap.objs.size + 1) (.lst _), I.laid (t' := tk) kp (Nat.le_succ _) ⟨?_, out, c, v1, at'⟩, rfl, q _ _ pm ?_ (I.hok.fresh (Nat.le_succ _))⟩
    · rw [p1.length_eq]
      exact hz
    · rw [dataGe_len]
      have := List.pairwise_mergeSort (le := fun a b : V × PyData => decide (((lenD b.2 : Nat) : Int) ≤ ((lenD a.2 : Nat) : Int))) (fun a b c h1 h2 => by
        have := of_decide_eq_true h1
        have := of_decide_eq_true h2
        exact decide_eq_true (by omega)) (fun a b => by
        rw [Bool.or_eq_true, decide_eq_true_iff, decide_eq_true_iff]
        omega) (xs.zip ds)
      exact this.imp fun h => by
        have := of_decide_eq_true h
        omega
def tSortLen (K : PySem.W.Frag) (t : TA) : TE := fun σ H Q => t σ H fun vs H1 => rSortLen K vs H1 Q
theorem pe_sortLen {e : Expr} {t : TA} {j : Nat} {p p2 p3 k1 k2 pos : Pos} (hu : X.A.units + 64 < cLine) (hg : Gl X "sorted") (hm : X.mg "sorted" = none) (hg2 : Gl X "len") (hm2 : X.mg "len" = none) (ha : PA X [e] t)
    (he : backTo pos (starEach (e :: []) X.env) = (false, eval e X.env) :: backTo pos (starEach [] X.env) := by rfl) (hpl : (backTo pos (starEach (e :: []) X.env)).any (·.1) = false := by rfl) :
    PE X (.Call (.Name "sorted" p) [e] [⟨some "key", .Name "len" p2, k1⟩, ⟨some "reverse", .Constant (.bool true) j p3, k2⟩] pos) (tSortLen X.K t) := by
  refine ⟨fun pins s σ H Q I h => ?_⟩
  refine wpAny_Call_Name_kw (ld_blt I hg hm (u := .builtin "sorted") (by decide +kernel) ?_ (by decide) (by decide))
  refine PyProof.Rows.callWith_kw (thn (ha.run pos pins s σ H _ I h) fun us s1 ⟨vs, H1, I1, r1, q1⟩ => ?_) he hpl (by rfl) (by rfl)
  show wpAny _ _ (evalAll [(do let v ← eval (.Name "len" p2) X.env; standAt pos; pure v), (do let v ← eval (.Constant (.bool true) j p3) X.env; standAt pos; pure v)]) _ _ s1
  refine wpAny_evalAll_cons (wpAny_bind (ld_blt I1 hg2 hm2 (u := .builtin "len") (by decide +kernel) (wpAny_bind (wpAny_standAt (wpAny_pure ?_))) (by decide) (by decide)))
  refine wpAny_evalAll_cons (wpAny_bind (thn ((pe_bl (X := X) (b := true) (j := j) (pos := p3)).run pins s1 σ H1 (fun v H2 => v = .bl true ∧ H2 = H1) I1 ⟨rfl, rfl⟩) fun u s2 ⟨x, H2, I2, r2, ex, eh⟩ => wpAny_bind (wpAny_standAt (wpAny_pure ?_))))
  subst ex eh
  cases r2
  refine wpAny_evalAll_nil ?_
  exact sortLen_run hu I2 r1 q1
end
end Ah
set_option Elab.async false
set_option linter.all false
set_option maxRecDepth 100000
set_option maxHeartbeats 4000000
/-! dict(list of pairs whose keys are tuples), d.update(d) of such dicts -/
namespace Ah
open PySem PySem.Spec PyProof.Rows L2
def mergeT (kvs more : List (List Key × V)) : List (List Key × V) := more.foldl (fun acc kv => putK acc kv.1 kv.2) kvs
theorem mergeT_len (kvs more : List (List Key × V)) : (mergeT kvs more).length ≤ kvs.length + more.length := by
  induction more generalizing kvs with
  | nil => exact Nat.le_refl _
  | cons p r ih =>
    have h1 := ih (putK kvs p.1 p.2)
    have h2 := length_putK kvs p.1 p.2
    show (mergeT (putK kvs p.1 p.2) r).length ≤ kvs.length + (r.length + 1)
    omega
theorem kt_merge {H : Hp} : ∀ {more : List (List Key × V)} {ys : List (List Key × Addr × Value)} {kvs : List (List Key × V)} {xs : List (List Key × Addr × Value)}, KT H more ys → KT H kvs xs → KT H (mergeT kvs more) (PySem.storedAllH xs ys)
  | [], [], _, _, .nil, r => r
  | p :: more, y :: ys, kvs, xs, .cons h t, r => by
    obtain ⟨h1, h2, h3⟩ := h
    have := KT.put r p.1 h2 h3
    show KT H (mergeT (putK kvs p.1 p.2) more) (PySem.storedAllH (storedH xs y.1 y.2.1 y.2.2) ys)
    rw [← h1]
    exact kt_merge t this
/-- a list's items, each a pair of a tuple and a value -/
abbrev TrsAt (K : PySem.W.Frag) (H : Hp) : List Addr → List (Addr × List Key × V) → Prop := Paired fun p q => SqT K H p [V.ref q.1, q.2.2] ∧ H q.1 = some (.tup (q.2.1.map kV))
theorem trs_of {X : Cx} {pins : List (Addr × Obj)} {σ : L2.St} {H : Hp} {s : Shared} (I : Inv X pins σ H s) : ∀ {ps : List Addr} {qs : List (Addr × List Key × V)}, TrsAt X.K H ps qs →
    ∃ prs : List (List Key × Addr × Value), KT H (qs.map (·.2)) prs ∧ prs.length = ps.length ∧ ∀ (j : Nat) (q : List Key × Addr × Value), prs[j]? = some q → ∃ b : Addr, ps[j]? = some b ∧ IsTup s.heap b #[.ref q.2.1, q.2.2]
  | _, _, .nil => ⟨[], .nil, rfl, fun j q e => by simp at e⟩
  | _, _, .cons (a := p) (b := kv) h t => by
    obtain ⟨prs, r, hl, hp⟩ := trs_of I t
    obtain ⟨its, rv, ht, _⟩ := I.tuple h.1
    obtain ⟨u, y, ei, ru, ry⟩ := vals2 rv
    subst ei
    cases ru
    refine ⟨(kv.2.1, kv.1, y) :: prs, .cons ⟨rfl, h.2, ry⟩ r, by rw [List.length_cons, List.length_cons, hl], fun j q e => ?_⟩
    cases j with
    | zero =>
      have e' : (kv.2.1, kv.1, y) = q := Option.some.inj e
      subst e'
      exact ⟨p, rfl, ht⟩
    | succ j => exact hp j q (by simpa using e)
theorem trs_len {K : PySem.W.Frag} {H : Hp} {ps : List Addr} {qs : List (Addr × List Key × V)} (h : TrsAt K H ps qs) : ps.length = qs.length := Paired.length h
theorem trs_refs : ∀ {ps : List Addr} {us : List Value}, Vals (ps.map V.ref) us → us = ps.map Value.ref
  | [], _, .nil => rfl
  | _ :: _, _, .cons h t => by
    cases h
    rw [trs_refs t]
    rfl
def rDictPT (K : PySem.W.Frag) : List V → Hp → VK → Prop := fun xs H Q => ∃ (a : Addr) (ps : List Addr) (qs : List (Addr × List Key × V)), xs = [.ref a] ∧ SqL K H a (ps.map V.ref) ∧ TrsAt K H ps qs ∧
  ∀ p, H p = none → Q (.ref p) (upd H p (.dT (mergeT [] (qs.map (·.2)))))
theorem call_dictPT {X : Cx} (hcalm : X.calm = true) (hu : X.A.units + 3 < cLine) : CallR X (.type "dict") (rDictPT X.K) := by
  intro pins s σ H xs us Q I r q
  obtain ⟨a, ps, qs, ex, hq, hp, q⟩ := q
  subst ex
  obtain ⟨u, eu, rx⟩ := vals1 r
  subst eu
  cases rx
  obtain ⟨its, rv, pl, hz⟩ := I.list hq
  have ei := trs_refs rv
  subst ei
  rw [List.length_map] at hz
  obtain ⟨prs, kt, hl, hpr⟩ := trs_of I hp
  obtain ⟨o, n, ho, hc, hd, hdat⟩ := pl
  have ok : PySem.PlainSeq "list" s.heap a (ps.map Value.ref).toArray ∧ PySem.PairItems s.heap (ps.map Value.ref).toArray (fun j => ps.getD j 0) (prs.map fun x => (Value.ref x.2.1, x.2.2)) := by
    refine ⟨⟨o, n, ho, hc, hd, hdat⟩, by simp [hl], fun j k v e => ?_⟩
    rw [List.getElem?_map] at e
    cases hj : prs[j]? with
    | none => rw [hj] at e; cases e
    | some x =>
      rw [hj] at e
      obtain ⟨b, hb, ht⟩ := hpr j x hj
      have e' : (Value.ref x.2.1, x.2.2) = (k, v) := Option.some.inj e
      injection e' with e1 e2
      subst e1 e2
      have eb : ps.getD j 0 = b := by rw [List.getD_eq_getElem?_getD, hb]; rfl
      refine ⟨by simp [hb], ?_⟩
      show PairAt s.heap (ps.getD j 0) _ _
      rw [eb]
      obtain ⟨o', h1, h2, m, h3⟩ := ht
      exact .inl ⟨o', h1, h2, m, h3⟩
  have keys : ∀ x ∈ prs, (tupleKind (mixKind X.prog X.w)).is s.heap x.1 x.2.1 := by
    have all : ∀ {l : List (List Key × V)} {m : List (List Key × Addr × Value)}, KT H l m → ∀ x ∈ m, (tupleKind (mixKind X.prog X.w)).is s.heap x.1 x.2.1 := by
      intro l m q
      induction q with
      | nil => intro x hx; exact nomatch hx
      | @cons p q ps qs hq t ih =>
        intro x hx
        rcases List.mem_cons.mp hx with e | hx
        · subst e
          exact key_of I.hok (by rw [← hq.1]; exact hq.2.1)
        · exact ih x hx
    exact all kt
  have st : (tupleKind (mixKind X.prog X.w)).Stays := tupleKind_stays
  refine PySem.call_dict_pairsH (knd := tupleKind (mixKind X.prog X.w)) (ps := prs) (PySem.PairArg.list a _ _ (prs.map fun x => (Value.ref x.2.1, x.2.2))) (I.ok.hd hcalm) (show X.A.in1.in1.units < cLine from by
    have h2 : X.A.in1.in1.units = X.A.units + 2 := rfl
    omega) ok ⟨by rw [List.length_map], fun i k v e => ?_⟩ (fun h' hk x hx => st.all h' (fun b o _ e => hk b o (Nat.ne_of_lt (Heap.lt_size e)) (fun z => nomatch z) e) _ _ (keys x hx)) (by rw [List.length_map, hl]; exact hz) fun h' tk hd' k => ?_
  · rw [PySem.PairRel, List.getElem?_map] at e
    cases hj : prs[i]? with
    | none => rw [hj] at e; cases e
    | some x =>
      rw [hj] at e
      have e' : (Value.ref x.2.1, x.2.2) = (k, v) := Option.some.inj e
      injection e' with e1 e2
      subst e1 e2
      exact ⟨x.1, x.2.1, rfl, rfl⟩
  · have hm : (s.heap.objs.size == sysModules) = false := beq_eq_false_iff_ne.mpr (Nat.ne_of_gt I.big)
    have hlen : (mergeT [] (qs.map (·.2))).length ≤ sizeLine := by
      refine Nat.le_trans (mergeT_len [] _) ?_
      have := trs_len hp
      rw [List.length_nil, Nat.zero_add, List.length_map]
      omega
    have fresh := I.hok.fresh (Nat.le_refl s.heap.objs.size)
    have kt2 := (kt_merge kt .nil).keeps (H' := upd H s.heap.objs.size (.dT (mergeT [] (qs.map (·.2))))) fun b ys e => (upd_ne (fun z => by rw [z, fresh] at e; cases e)).trans e
    obtain ⟨q0, es, ep, hq0, h2, h3, h4, _, h5⟩ := hd'
    exact ⟨.ref s.heap.objs.size, upd H s.heap.objs.size (.dT (mergeT [] (qs.map (·.2)))), I.laid (t' := tk) (fun b o e => k b o (fun z => nomatch z) e) (Nat.le_refl _) ⟨hlen, hm, _, kt2, q0, es, ep, hq0, h2, h3, h4, h5⟩, rfl, q _ fresh⟩
def rUpdT : V → List V → Hp → VK → Prop := fun x vs H Q => ∃ (d o : Addr) (kvs more : List (List Key × V)), x = .ref d ∧ vs = [.ref o] ∧ H d = some (.dT kvs) ∧ H o = some (.dT more) ∧ d ≠ o ∧ kvs ≠ [] ∧ kvs.length + more.length ≤ sizeLine ∧ Q .non (upd H d (.dT (mergeT kvs more)))
theorem mt_updT {X : Cx} (hu : X.A.units + 1 < cLine) : MtM X "dict.update" rUpdT := by
  intro pins s σ H x vs v us Q I rx rv h
  obtain ⟨d, o, kvs, more, rfl, rfl, hd, ho, hne, hk, hz, q⟩ := h
  cases rx
  obtain ⟨u, rfl, ru⟩ := rv.one
  cases ru
  obtain ⟨z1, m1, xs, kt1, dd1⟩ := dt_of I.hok hd
  obtain ⟨z2, m2, ys, kt2, dd2⟩ := dt_of I.hok ho
  have l1 := Paired.length kt1
  have l2 := Paired.length kt2
  refine PySem.call_update_dictH (knd := tupleKind (mixKind X.prog X.w)) (show X.A.in1.units < cLine from by
    have h2 : X.A.in1.units = X.A.units + 1 := rfl
    omega) hne m2 dd1 dd2 (.inl fun e => by
      rw [e] at l1
      exact hk (List.length_eq_zero_iff.mp l1)) (by omega) fun h' hd' _ hs => ?_
  obtain ⟨q0, es, ep, hq0, h2, h3, h4, _, h5⟩ := hd'
  have kt3 := (kt_merge kt2 kt1).keeps (H' := upd H d (.dT (mergeT kvs more))) fun b ys e => (upd_ne (ne_of e hd fun z => nomatch z)).trans e
  refine ⟨.non, upd H d (.dT (mergeT kvs more)), d_write (t' := s.toks) I (by rw [hd]; exact True.intro) hs ⟨q0, hq0⟩ ⟨Nat.le_trans (mergeT_len _ _) hz, m1, _, kt3, q0, es, ep, hq0, h2, h3, h4, h5⟩, rfl, q⟩
end Ah
set_option Elab.async false
set_option linter.all false
set_option maxRecDepth 100000
set_option maxHeartbeats 4000000
namespace Ah
open PySem
/-! ### paths of pairs; going through them turn by turn -/
def Path (ps : List (Str × Str)) : Nat → Str → Str → Prop
  | 0, a, c => (a, c) ∈ ps
  | n + 1, a, c => ∃ b, (a, b) ∈ ps ∧ Path ps n b c
theorem Path.split {ps : List (Str × Str)} : ∀ {m n : Nat} {a c : Str}, Path ps (m + n + 1) a c → ∃ b, Path ps m a b ∧ Path ps n b c
  | 0, n, a, c, h => by
    rw [show 0 + n + 1 = n + 1 by omega] at h
    exact h
  | m + 1, n, a, c, h => by
    rw [show m + 1 + n + 1 = (m + n + 1) + 1 by omega] at h
    obtain ⟨b, hb, h⟩ := h
    obtain ⟨d, h1, h2⟩ := Path.split h
    exact ⟨d, ⟨b, hb, h1⟩, h2⟩
theorem Path.join {ps : List (Str × Str)} : ∀ {m n : Nat} {a b c : Str}, Path ps m a b → Path ps n b c → Path ps (m + n + 1) a c
  | 0, n, a, b, c, h, k => by
    rw [show 0 + n + 1 = n + 1 by omega]
    exact ⟨b, h, k⟩
  | m + 1, n, a, b, c, ⟨d, h1, h2⟩, k => by
    rw [show m + 1 + n + 1 = (m + n + 1) + 1 by omega]
    exact ⟨d, h1, Path.join h2 k⟩
theorem Path.idx {ps : List (Str × Str)} {row : List Str} (k : KeepR row ps) : ∀ {n : Nat} {a c : Str}, Path ps n a c → a ∈ row ∧ c ∈ row ∧ row.idxOf a + n + 1 ≤ row.idxOf c
  | 0, a, c, h => by
    obtain ⟨h1, h2, h3⟩ := k a c h
    exact ⟨h1, h2, by omega⟩
  | n + 1, a, c, ⟨b, hb, h⟩ => by
    obtain ⟨h1, h2, h3⟩ := k a b hb
    obtain ⟨g1, g2, g3⟩ := Path.idx k h
    exact ⟨h1, g2, by omega⟩
theorem Path.bound {ps : List (Str × Str)} {row : List Str} (k : KeepR row ps) {n : Nat} {a c : Str} (h : Path ps n a c) : n + 2 ≤ row.length := by
  obtain ⟨_, h2, h3⟩ := h.idx k
  have := List.idxOf_lt_length_of_mem h2
  omega
structure Turn (ps held : List (Str × Str)) (t : Nat) : Prop where
  sound : ∀ a c, (a, c) ∈ held → ∃ n, Path ps n a c
  full : ∀ n a c, n < 2 ^ t → Path ps n a c → (a, c) ∈ held
theorem Turn.init {ps held : List (Str × Str)} (e : ∀ p, p ∈ held ↔ p ∈ ps) : Turn ps held 0 :=
  ⟨fun a c h => ⟨0, (e _).mp h⟩, fun n a c hn h => by
    obtain rfl : n = 0 := by omega
    exact (e _).mpr h⟩
theorem Turn.step {ps held held' : List (Str × Str)} {t : Nat} (h : Turn ps held t) (e : ∀ a c, (a, c) ∈ held' ↔ (a, c) ∈ held ∨ ∃ b, (a, b) ∈ held ∧ (b, c) ∈ held) : Turn ps held' (t + 1) := by
  refine ⟨fun a c m => ?_, fun n a c hn p => ?_⟩
  · rcases (e a c).mp m with q | ⟨b, q1, q2⟩
    · exact h.sound a c q
    · obtain ⟨n1, p1⟩ := h.sound _ _ q1
      obtain ⟨n2, p2⟩ := h.sound _ _ q2
      exact ⟨_, p1.join p2⟩
  · rw [Nat.pow_succ] at hn
    by_cases q : n < 2 ^ t
    · exact (e a c).mpr (.inl (h.full n a c q p))
    · have pos : 0 < 2 ^ t := Nat.pow_pos (by decide)
      obtain ⟨j, hj⟩ : ∃ j, n = (2 ^ t - 1) + j + 1 := ⟨n - 2 ^ t, by omega⟩
      rw [hj] at p
      obtain ⟨b, p1, p2⟩ := p.split
      exact (e a c).mpr (.inr ⟨b, h.full _ a b (by omega) p1, h.full _ b c (by omega) p2⟩)
theorem Turn.thru {ps held : List (Str × Str)} {row : List Str} (h : Turn ps held 4) (k : KeepR row ps) (l : row.length ≤ 8) : (∀ x y z, (x, y) ∈ held → (y, z) ∈ held → (x, z) ∈ held) ∧ KeepR row held := by
  refine ⟨fun x y z h1 h2 => ?_, fun x y h1 => ?_⟩
  · obtain ⟨n1, p1⟩ := h.sound _ _ h1
    obtain ⟨n2, p2⟩ := h.sound _ _ h2
    have p := p1.join p2
    have := p.bound k
    exact h.full _ _ _ (by omega) p
  · obtain ⟨n, p⟩ := h.sound _ _ h1
    obtain ⟨g1, g2, g3⟩ := p.idx k
    exact ⟨g1, g2, by omega⟩
/-! ### sorted lists of texts -/
theorem srt_nodup {a : List Str} (h : a.Pairwise sLt) : a.Nodup := List.Pairwise.imp (fun {x y : Str} (q : sLt x y) (e : x = y) => sLt_irr y (by rw [e] at q; exact q)) h
theorem srt_eq : ∀ {a b : List Str}, a.Pairwise sLt → b.Pairwise sLt → (∀ x, x ∈ a ↔ x ∈ b) → a = b
  | [], [], _, _, _ => rfl
  | [], y :: r, _, _, e => nomatch ((e y).mpr (List.mem_cons_self ..))
  | x :: r, [], _, _, e => nomatch ((e x).mp (List.mem_cons_self ..))
  | x :: r, y :: t, h1, h2, e => by
    obtain ⟨a1, a2⟩ := List.pairwise_cons.mp h1
    obtain ⟨b1, b2⟩ := List.pairwise_cons.mp h2
    have exy : x = y := by
      rcases List.mem_cons.mp ((e x).mp (List.mem_cons_self ..)) with q | q
      · exact q
      · rcases List.mem_cons.mp ((e y).mpr (List.mem_cons_self ..)) with z | z
        · exact z.symm
        · exact absurd (sLt_trans (a1 y z) (b1 x q)) (sLt_irr x)
    subst exy
    rw [srt_eq a2 b2 fun z => ?_]
    constructor
    · intro hz
      rcases List.mem_cons.mp ((e z).mp (List.mem_cons_of_mem _ hz)) with q | q
      · subst q
        exact absurd (a1 z hz) (sLt_irr z)
      · exact q
    · intro hz
      rcases List.mem_cons.mp ((e z).mpr (List.mem_cons_of_mem _ hz)) with q | q
      · subst q
        exact absurd (b1 z hz) (sLt_irr z)
      · exact q
theorem srt_sub {m ys : List Str} (hm : m.Pairwise sLt) (hy : ys.Pairwise sLt) (s : ∀ x ∈ m, x ∈ ys) : m.Sublist ys := by
  have e : m = ys.filter fun x => decide (x ∈ m) := srt_eq hm (hy.sublist List.filter_sublist) fun x => by
    rw [List.mem_filter, decide_eq_true_iff]
    exact ⟨fun h => ⟨s x h, h⟩, fun h => h.2⟩
  rw [e]
  exact List.filter_sublist
/-! ### all sets -/
def sbStep (f : List (List Str)) (h : Str) : List (List Str) := f ++ f.map fun m => m ++ [h]
def sbs (l : List Str) : List (List Str) := l.foldl sbStep [[]]
theorem sbs_snoc (l : List Str) (h : Str) : sbs (l ++ [h]) = sbStep (sbs l) h := by
  unfold sbs
  rw [List.foldl_append]
  rfl
theorem sb_mem : ∀ (l : List Str) (f : List (List Str)) (m : List Str), m ∈ l.foldl sbStep f ↔ ∃ a b : List Str, a ∈ f ∧ b.Sublist l ∧ m = a ++ b
  | [], f, m => by
    constructor
    · exact fun h => ⟨m, [], h, List.Sublist.refl _, (List.append_nil m).symm⟩
    · rintro ⟨a, b, ha, hb, rfl⟩
      rw [List.sublist_nil.mp hb, List.append_nil]
      exact ha
  | h :: r, f, m => by
    show m ∈ r.foldl sbStep (sbStep f h) ↔ _
    rw [sb_mem r]
    constructor
    · rintro ⟨a, b, ha, hb, rfl⟩
      rcases List.mem_append.mp ha with q | q
      · exact ⟨a, b, q, hb.cons _, rfl⟩
      · obtain ⟨a0, h0, rfl⟩ := List.mem_map.mp q
        exact ⟨a0, h :: b, h0, hb.cons_cons _, by simp⟩
    · rintro ⟨a, b, ha, hb, rfl⟩
      cases hb with
      | cons _ hb => exact ⟨a, b, List.mem_append_left _ ha, hb, rfl⟩
      | cons_cons _ hb => exact ⟨a ++ [h], _, List.mem_append_right _ (List.mem_map.mpr ⟨a, ha, rfl⟩), hb, by simp⟩
theorem sbs_mem {l m : List Str} : m ∈ sbs l ↔ m.Sublist l := by
  unfold sbs
  rw [sb_mem]
  constructor
  · rintro ⟨a, b, ha, hb, rfl⟩
    rw [List.mem_singleton.mp ha]
    exact hb
  · exact fun h => ⟨[], m, List.mem_singleton.mpr rfl, h, rfl⟩
theorem sb_len : ∀ (l : List Str) (f : List (List Str)), (l.foldl sbStep f).length = f.length * 2 ^ l.length
  | [], f => by simp
  | h :: r, f => by
    show (r.foldl sbStep (sbStep f h)).length = _
    rw [sb_len r, show (sbStep f h).length = f.length * 2 by unfold sbStep; rw [List.length_append, List.length_map]; omega, List.length_cons, Nat.pow_succ, Nat.mul_assoc, Nat.mul_comm 2]
theorem sbs_len (l : List Str) : (sbs l).length = 2 ^ l.length := by
  unfold sbs
  rw [sb_len, List.length_singleton, Nat.one_mul]
theorem sb_first : ∀ (l : List Str) (f : List (List Str)), f[0]? = some [] → (l.foldl sbStep f)[0]? = some []
  | [], f, h => h
  | x :: r, f, h => sb_first r (sbStep f x) (by
    obtain ⟨g, rfl⟩ : ∃ g, f = [] :: g := by
      match f, h with
      | a :: g, h => exact ⟨g, by rw [Option.some.inj h]⟩
    rfl)
theorem sbs_first (l : List Str) : (sbs l)[0]? = some [] := sb_first l [[]] rfl
theorem sbs_bound {l : List Str} (h : l.length ≤ 8) : (sbs l).length ≤ 256 := by
  rw [sbs_len]
  exact Nat.pow_le_pow_right (n := 2) (by decide) h
end Ah
set_option Elab.async false
set_option linter.all false
set_option maxRecDepth 100000
set_option maxHeartbeats 4000000
namespace Ah
open PySem
/-! ### rows in their order -/
def sumN : List Nat → Nat
  | [] => 0
  | a :: r => a + sumN r
theorem sumN_append : ∀ (a b : List Nat), sumN (a ++ b) = sumN a + sumN b
  | [], b => (Nat.zero_add _).symm
  | x :: a, b => by
    show x + sumN (a ++ b) = x + sumN a + sumN b
    rw [sumN_append a b]
    omega
def cnt (nx : List Str → List Str) : Nat → List Str → Nat
  | 0, _ => 1
  | n + 1, m => sumN ((nx m).map fun x => cnt nx n (m ++ [x]))
def pickF (c : Str → Nat) : List Str → Nat → Option (Str × Nat)
  | [], _ => none
  | x :: r, k => if k < c x then some (x, k) else pickF c r (k - c x)
def rowF (nx : List Str → List Str) : Nat → List Str → Nat → List Str
  | 0, _, _ => []
  | n + 1, m, k => match pickF (fun x => cnt nx n (m ++ [x])) (nx m) k with
    | none => []
    | some p => p.1 :: rowF nx n (m ++ [p.1]) p.2
structure Nx (nx : List Str → List Str) (ys : List Str) : Prop where
  same : ∀ m m', (∀ x, x ∈ m ↔ x ∈ m') → nx m = nx m'
  some : ∀ m, m.Nodup → (∀ x ∈ m, x ∈ ys) → m.length < ys.length → nx m ≠ []
  mem : ∀ m x, x ∈ nx m → x ∈ ys ∧ x ∉ m
  few : ∀ m, (nx m).length ≤ 8
structure Lv (ys : List Str) (n : Nat) (m : List Str) : Prop where
  nd : m.Nodup
  sub : ∀ x ∈ m, x ∈ ys
  len : m.length + n = ys.length
theorem Lv.nil {ys : List Str} : Lv ys ys.length [] := ⟨List.nodup_nil, (fun _ h => nomatch h), (by simp)⟩
section
variable {nx : List Str → List Str} {ys : List Str}
theorem Lv.step {n : Nat} {m : List Str} {x : Str} (N : Nx nx ys) (h : Lv ys (n + 1) m) (hx : x ∈ nx m) : Lv ys n (m ++ [x]) := by
  obtain ⟨h1, h2⟩ := N.mem m x hx
  refine ⟨?_, fun y hy => ?_, ?_⟩
  · rw [List.nodup_append]
    exact ⟨h.nd, List.nodup_cons.mpr ⟨List.not_mem_nil, List.nodup_nil⟩, fun a ha b hb e => h2 (by rw [← List.mem_singleton.mp hb, ← e]; exact ha)⟩
  · rcases List.mem_append.mp hy with q | q
    · exact h.sub y q
    · rw [List.mem_singleton.mp q]
      exact h1
  · have := h.len
    rw [List.length_append, List.length_singleton]
    omega
theorem cnt_same (N : Nx nx ys) : ∀ (n : Nat) {m m' : List Str}, (∀ x, x ∈ m ↔ x ∈ m') → cnt nx n m = cnt nx n m'
  | 0, _, _, _ => rfl
  | n + 1, m, m', e => by
    show sumN ((nx m).map fun x => cnt nx n (m ++ [x])) = sumN ((nx m').map fun x => cnt nx n (m' ++ [x]))
    rw [N.same m m' e]
    congr 1
    refine List.map_congr_left fun x _ => cnt_same N n fun y => ?_
    rw [List.mem_append, List.mem_append, e y]
theorem sum_pos : ∀ {l : List Nat}, l ≠ [] → (∀ a ∈ l, 0 < a) → 0 < sumN l
  | [], h, _ => absurd rfl h
  | a :: r, _, h => Nat.add_pos_left (h a (List.mem_cons_self ..)) _
theorem sum_le {b : Nat} : ∀ {l : List Nat}, (∀ a ∈ l, a ≤ b) → sumN l ≤ l.length * b
  | [], _ => by simp [sumN]
  | a :: r, h => by
    have h1 := h a (List.mem_cons_self ..)
    have h2 := sum_le (l := r) fun x hx => h x (List.mem_cons_of_mem _ hx)
    show a + sumN r ≤ (r.length + 1) * b
    rw [Nat.add_mul]
    omega
theorem cnt_pos (N : Nx nx ys) : ∀ (n : Nat) {m : List Str}, Lv ys n m → 0 < cnt nx n m
  | 0, _, _ => Nat.one_pos
  | n + 1, m, h => by
    refine sum_pos (fun e => ?_) fun a ha => ?_
    · have := h.len
      exact N.some m h.nd h.sub (by omega) (List.map_eq_nil_iff.mp e)
    · obtain ⟨x, hx, rfl⟩ := List.mem_map.mp ha
      exact cnt_pos N n (h.step N hx)
theorem cnt_le (N : Nx nx ys) : ∀ (n : Nat) (m : List Str), cnt nx n m ≤ 8 ^ n
  | 0, _ => Nat.le_refl _
  | n + 1, m => by
    have h1 := sum_le (b := 8 ^ n) (l := (nx m).map fun x => cnt nx n (m ++ [x])) fun a ha => by
      obtain ⟨x, _, rfl⟩ := List.mem_map.mp ha
      exact cnt_le N n _
    rw [List.length_map] at h1
    have h2 := Nat.mul_le_mul_right (8 ^ n) (N.few m)
    show sumN ((nx m).map fun x => cnt nx n (m ++ [x])) ≤ 8 ^ (n + 1)
    rw [Nat.pow_succ, Nat.mul_comm]
    omega
/-! picking -/
theorem pick_some {c : Str → Nat} : ∀ {l : List Str} {k : Nat}, k < sumN (l.map c) → ∃ x j, pickF c l k = some (x, j) ∧ j < c x ∧ x ∈ l
  | [], k, h => absurd h (Nat.not_lt_zero _)
  | x :: r, k, h => by
    have h' : k < c x + sumN (r.map c) := h
    show ∃ y j, (if k < c x then some (x, k) else pickF c r (k - c x)) = some (y, j) ∧ _
    by_cases q : k < c x
    · exact ⟨x, k, if_pos q, q, List.mem_cons_self ..⟩
    · obtain ⟨y, j, h1, h2, h3⟩ := pick_some (c := c) (l := r) (k := k - c x) (by omega)
      exact ⟨y, j, by rw [if_neg q]; exact h1, h2, List.mem_cons_of_mem _ h3⟩
theorem pick_first {c : Str → Nat} {x : Str} {r : List Str} (h : 0 < c x) : pickF c (x :: r) 0 = some (x, 0) := if_pos h
theorem pick_last {c : Str → Nat} : ∀ {l : List Str}, l ≠ [] → (∀ x ∈ l, 0 < c x) → ∃ u x, l = u ++ [x] ∧ pickF c l (sumN (l.map c) - 1) = some (x, c x - 1)
  | [], h, _ => absurd rfl h
  | [x], _, h => ⟨[], x, rfl, by
    have := h x (List.mem_cons_self ..)
    have e : sumN ([x].map c) = c x := Nat.add_zero _
    rw [e]
    exact if_pos (by omega)⟩
  | x :: y :: r, _, h => by
    obtain ⟨u, z, e, hp⟩ := pick_last (c := c) (l := y :: r) (List.cons_ne_nil _ _) fun a ha => h a (List.mem_cons_of_mem _ ha)
    refine ⟨x :: u, z, by rw [e]; rfl, ?_⟩
    have hy : 0 < sumN ((y :: r).map c) := sum_pos (fun q => by cases q) fun a ha => by
      obtain ⟨b, hb, rfl⟩ := List.mem_map.mp ha
      exact h b (List.mem_cons_of_mem _ hb)
    have es : sumN ((x :: y :: r).map c) = c x + sumN ((y :: r).map c) := rfl
    show (if _ < c x then _ else pickF c (y :: r) (sumN ((x :: y :: r).map c) - 1 - c x)) = _
    rw [if_neg (by omega), es, show c x + sumN ((y :: r).map c) - 1 - c x = sumN ((y :: r).map c) - 1 by omega]
    exact hp
theorem pick_next {c : Str → Nat} : ∀ {l : List Str} {k : Nat}, (∀ x ∈ l, 0 < c x) → k + 1 < sumN (l.map c) →
    (∃ x j, pickF c l k = some (x, j) ∧ pickF c l (k + 1) = some (x, j + 1) ∧ j + 1 < c x ∧ x ∈ l) ∨
    ∃ u x y v, l = u ++ x :: y :: v ∧ pickF c l k = some (x, c x - 1) ∧ pickF c l (k + 1) = some (y, 0)
  | [], k, _, h => absurd h (Nat.not_lt_zero _)
  | x :: r, k, hp, h => by
    have h' : k + 1 < c x + sumN (r.map c) := h
    by_cases q : k + 1 < c x
    · exact .inl ⟨x, k, if_pos (by omega), if_pos q, q, List.mem_cons_self ..⟩
    · by_cases q2 : k < c x
      · refine .inr ?_
        have e : k = c x - 1 := by omega
        cases r with
        | nil =>
          have : sumN (([] : List Str).map c) = 0 := rfl
          omega
        | cons y v =>
          refine ⟨[], x, y, v, rfl, ?_, ?_⟩
          · rw [e]
            exact if_pos (by omega)
          · show (if k + 1 < c x then _ else pickF c (y :: v) (k + 1 - c x)) = _
            rw [if_neg q, show k + 1 - c x = 0 by omega]
            exact pick_first (hp y (by simp))
      · rcases pick_next (c := c) (l := r) (k := k - c x) (fun a ha => hp a (List.mem_cons_of_mem _ ha)) (by omega) with ⟨z, j, h1, h2, h3, h4⟩ | ⟨u, z, y, v, e, h1, h2⟩
        · refine .inl ⟨z, j, ?_, ?_, h3, List.mem_cons_of_mem _ h4⟩
          · show (if k < c x then _ else pickF c r (k - c x)) = _
            rw [if_neg q2]
            exact h1
          · show (if k + 1 < c x then _ else pickF c r (k + 1 - c x)) = _
            rw [if_neg q, show k + 1 - c x = k - c x + 1 by omega]
            exact h2
        · refine .inr ⟨x :: u, z, y, v, by rw [e]; rfl, ?_, ?_⟩
          · show (if k < c x then _ else pickF c r (k - c x)) = _
            rw [if_neg q2]
            exact h1
          · show (if k + 1 < c x then _ else pickF c r (k + 1 - c x)) = _
            rw [if_neg q, show k + 1 - c x = k - c x + 1 by omega]
            exact h2
/-! rows -/
theorem rowF_eq {n : Nat} {m : List Str} {k : Nat} {x : Str} {j : Nat} (h : pickF (fun x => cnt nx n (m ++ [x])) (nx m) k = some (x, j)) : rowF nx (n + 1) m k = x :: rowF nx n (m ++ [x]) j := by
  show (match pickF (fun x => cnt nx n (m ++ [x])) (nx m) k with | none => [] | some p => p.1 :: rowF nx n (m ++ [p.1]) p.2) = _
  rw [h]
theorem rowF_len (N : Nx nx ys) : ∀ (n : Nat) {m : List Str} {k : Nat}, k < cnt nx n m → (rowF nx n m k).length = n
  | 0, _, _, _ => rfl
  | n + 1, m, k, h => by
    obtain ⟨x, j, h1, h2, h3⟩ := pick_some (c := fun x => cnt nx n (m ++ [x])) (l := nx m) h
    rw [rowF_eq h1, List.length_cons, rowF_len N n h2]
def FirstAt (nx : List Str → List Str) (row : List Str) (at' : Nat) : Prop := ∀ k, at' ≤ k → k < row.length → ∃ x r, row[k]? = some x ∧ nx (row.take k) = x :: r
def LastAt (nx : List Str → List Str) (row : List Str) (at' : Nat) : Prop := ∀ k, at' ≤ k → k < row.length → ∃ x u, row[k]? = some x ∧ nx (row.take k) = u ++ [x]
theorem first_at (N : Nx nx ys) : ∀ (n : Nat) {m : List Str}, Lv ys n m → FirstAt nx (m ++ rowF nx n m 0) m.length
  | 0, m, _ => fun k h1 h2 => by
    have : (m ++ rowF nx 0 m 0).length = m.length := by show (m ++ []).length = _; rw [List.append_nil]
    omega
  | n + 1, m, h => fun k h1 h2 => by
    have hne : nx m ≠ [] := N.some m h.nd h.sub (by have := h.len; omega)
    obtain ⟨x, r, e⟩ : ∃ x r, nx m = x :: r := by
      cases q : nx m with
      | nil => exact absurd q hne
      | cons x r => exact ⟨x, r, rfl⟩
    have hx : x ∈ nx m := by rw [e]; exact List.mem_cons_self ..
    have hl := h.step N hx
    have hp : pickF (fun x => cnt nx n (m ++ [x])) (nx m) 0 = some (x, 0) := by rw [e]; exact pick_first (cnt_pos N n hl)
    have er := rowF_eq hp
    have ea : m ++ rowF nx (n + 1) m 0 = (m ++ [x]) ++ rowF nx n (m ++ [x]) 0 := by rw [er]; simp
    by_cases q : k = m.length
    · subst q
      exact ⟨x, r, by rw [er]; simp, by rw [List.take_left, e]⟩
    · rw [ea] at h2 ⊢
      exact first_at N n hl k (by rw [List.length_append, List.length_singleton]; omega) h2
theorem last_at (N : Nx nx ys) : ∀ (n : Nat) {m : List Str}, Lv ys n m → LastAt nx (m ++ rowF nx n m (cnt nx n m - 1)) m.length
  | 0, m, _ => fun k h1 h2 => by
    have : (m ++ rowF nx 0 m (cnt nx 0 m - 1)).length = m.length := by show (m ++ []).length = _; rw [List.append_nil]
    omega
  | n + 1, m, h => fun k h1 h2 => by
    have hne : nx m ≠ [] := N.some m h.nd h.sub (by have := h.len; omega)
    obtain ⟨u, x, e, hp⟩ := pick_last (c := fun x => cnt nx n (m ++ [x])) hne fun x hx => cnt_pos N n (h.step N hx)
    have hx : x ∈ nx m := by rw [e]; exact List.mem_append_right _ (List.mem_cons_self ..)
    have hl := h.step N hx
    have er : rowF nx (n + 1) m (cnt nx (n + 1) m - 1) = x :: rowF nx n (m ++ [x]) (cnt nx n (m ++ [x]) - 1) := rowF_eq hp
    have ea : m ++ rowF nx (n + 1) m (cnt nx (n + 1) m - 1) = (m ++ [x]) ++ rowF nx n (m ++ [x]) (cnt nx n (m ++ [x]) - 1) := by rw [er]; simp
    by_cases q : k = m.length
    · subst q
      exact ⟨x, u, by rw [er]; simp, by rw [List.take_left, e]⟩
    · rw [ea] at h2 ⊢
      exact last_at N n hl k (by rw [List.length_append, List.length_singleton]; omega) h2
/-- a row and the next one -/
structure NextTo (nx : List Str → List Str) (row other : List Str) : Prop where
  by' : ∃ P h h' s t u v, row = P ++ h :: s ∧ other = P ++ h' :: t ∧ nx P = u ++ h :: h' :: v ∧ LastAt nx row (P.length + 1) ∧ FirstAt nx other (P.length + 1)
theorem next_to (N : Nx nx ys) : ∀ (n : Nat) {m : List Str} {k : Nat}, Lv ys n m → k + 1 < cnt nx n m → NextTo nx (m ++ rowF nx n m k) (m ++ rowF nx n m (k + 1))
  | 0, m, k, _, h => by
    have : cnt nx 0 m = 1 := rfl
    omega
  | n + 1, m, k, h, hk => by
    rcases pick_next (c := fun x => cnt nx n (m ++ [x])) (l := nx m) (k := k) (fun x hx => cnt_pos N n (h.step N hx)) hk with ⟨x, j, h1, h2, h3, h4⟩ | ⟨u, x, y, v, e, h1, h2⟩
    · rw [rowF_eq h1, rowF_eq h2]
      have := next_to N n (h.step N h4) h3
      have e1 : m ++ x :: rowF nx n (m ++ [x]) j = (m ++ [x]) ++ rowF nx n (m ++ [x]) j := by simp
      have e2 : m ++ x :: rowF nx n (m ++ [x]) (j + 1) = (m ++ [x]) ++ rowF nx n (m ++ [x]) (j + 1) := by simp
      rw [e1, e2]
      exact this
    · rw [rowF_eq h1, rowF_eq h2]
      have hx : x ∈ nx m := by rw [e]; simp
      have hy : y ∈ nx m := by rw [e]; simp
      have l1 := last_at N n (h.step N hx)
      have l2 := first_at N n (h.step N hy)
      refine ⟨m, x, y, _, _, u, v, rfl, rfl, e, ?_, ?_⟩
      · have e1 : m ++ x :: rowF nx n (m ++ [x]) (cnt nx n (m ++ [x]) - 1) = (m ++ [x]) ++ rowF nx n (m ++ [x]) (cnt nx n (m ++ [x]) - 1) := by simp
        rw [e1]
        rw [List.length_append, List.length_singleton] at l1
        exact l1
      · have e2 : m ++ y :: rowF nx n (m ++ [y]) 0 = (m ++ [y]) ++ rowF nx n (m ++ [y]) 0 := by simp
        rw [e2]
        rw [List.length_append, List.length_singleton] at l2
        exact l2
end
end Ah
set_option Elab.async false
set_option linter.all false
set_option maxRecDepth 100000
set_option maxHeartbeats 4000000
namespace Ah
open PySem PySem.Spec PyProof.Rows L2
open PySem.W (AllAlike Sortable)
/-! ### tuples of texts in a list -/
def TxV (H : Hp) (v : V) (m : List Str) : Prop := ∃ T : Addr, v = .ref T ∧ H T = some (.tup (m.map V.str))
abbrev TxsV (H : Hp) : List V → List (List Str) → Prop := Paired (TxV H)
theorem TxV.same {H H' : Hp} {v : V} {m : List Str} (k : Same H H') (h : TxV H v m) : TxV H' v m := by
  obtain ⟨T, e, h⟩ := h
  exact ⟨T, e, k _ _ h⟩
theorem TxsV.same {H H' : Hp} {vs : List V} {ms : List (List Str)} (k : Same H H') (h : TxsV H vs ms) : TxsV H' vs ms := Paired.mapP h fun _ _ z => z.same k
theorem TxsV.get {H : Hp} : ∀ {vs : List V} {ms : List (List Str)} {i : Nat} {v : V}, TxsV H vs ms → vs[i]? = some v → ∃ m, ms[i]? = some m ∧ TxV H v m
  | _, _, _, _, .nil, e => by simp at e
  | _, _, 0, _, .cons h _, e => by
    simp at e
    subst e
    exact ⟨_, rfl, h⟩
  | _, _, i + 1, _, .cons _ t, e => TxsV.get t (i := i) (by simpa using e)
theorem TxsV.app {H : Hp} : ∀ {vs ws : List V} {ms qs : List (List Str)}, TxsV H vs ms → TxsV H ws qs → TxsV H (vs ++ ws) (ms ++ qs)
  | _, _, _, _, .nil, k => k
  | _, _, _, _, .cons h t, k => .cons h (TxsV.app t k)
def tD (m : List Str) : PyData := .tuple (m.map PyData.str)
theorem TxsV.dp {K : PySem.W.Frag} {H : Hp} : ∀ {vs : List V} {ms : List (List Str)}, TxsV H vs ms → DpAll K H vs (ms.map tD)
  | _, _, .nil => .nil
  | _, _, .cons h t => by
    obtain ⟨T, rfl, h⟩ := h
    exact .cons (.tup (.inl (.inl h)) (dp_strs _)) (TxsV.dp t)
theorem alike_strs : ∀ a b : List Str, PySem.W.alikeAll (a.map PyData.str) (b.map PyData.str) = true
  | [], _ => by simp [PySem.W.alikeAll]
  | _ :: _, [] => by simp [PySem.W.alikeAll]
  | x :: a, y :: b => by
    show PySem.W.alikeAll (.str x :: a.map .str) (.str y :: b.map .str) = true
    rw [PySem.W.alikeAll, alike_strs a b]
    simp [PySem.W.alike]
theorem alike_tD (ms : List (List Str)) : AllAlike (ms.map tD) := AllAlike.of fun a b => by
  show PySem.W.alike (.tuple (a.map PyData.str)) (.tuple (b.map PyData.str)) = true
  rw [PySem.W.alike]
  exact alike_strs a b
theorem depth_strs : ∀ a : List Str, PyData.depthAll (a.map PyData.str) = 0
  | [] => by simp [PyData.depthAll]
  | x :: a => by
    show PyData.depthAll (.str x :: a.map .str) = 0
    rw [PyData.depthAll, depth_strs a]
    simp [PyData.depth]
theorem depth_tD (m : List Str) : (tD m).depth ≤ 60 := by
  unfold tD
  rw [PyData.depth, depth_strs]
  decide
theorem txs_perm {H : Hp} {us : List V} {ms : List (List Str)} {zs : List (V × PyData)} (h : TxsV H us ms) (pm : zs.Perm (us.zip (ms.map tD))) : ∃ ms' : List (List Str), TxsV H (zs.map (·.1)) ms' ∧ ms'.Perm ms ∧ zs.map (·.2) = ms'.map tD := by
  have e : us.zip (ms.map tD) = (us.zip ms).map fun p => (p.1, tD p.2) := by
    rw [List.zip_map_right]
    rfl
  obtain ⟨ws, pw, rfl⟩ := perm_map_inv pm e
  have all : ∀ w ∈ us.zip ms, TxV H w.1 w.2 := by
    clear pm pw e
    induction h with
    | nil => intro w hw; cases hw
    | cons a _ ih =>
      intro w hw
      rcases List.mem_cons.mp hw with e | hw
      · subst e
        exact a
      · exact ih w hw
  have len := Paired.length h
  have all2 : ∀ w ∈ ws, TxV H w.1 w.2 := fun w hw => all w (pw.mem_iff.mp hw)
  refine ⟨ws.map (·.2), ?_, ?_, by rw [List.map_map, List.map_map]; rfl⟩
  · clear pm pw
    induction ws with
    | nil => exact .nil
    | cons w r ih => exact .cons (all2 w (List.mem_cons_self ..)) (ih fun v hv => all2 v (List.mem_cons_of_mem _ hv))
  · have := pw.map (·.2)
    rwa [List.map_snd_zip (by omega)] at this
/-! ### sets_of -/
abbrev sSets : Stmt := topS 6
abbrev sSetsAt : Stmt := topS 7
abbrev sUnited : Stmt := topS 8
section
variable {P : Program} {w : World} {K : PySem.W.Frag} {mg : Str → Option Value} {base : Heap}
theorem scSetsAt : FnScope ["hands", "found", "hand", "members"] ["hands"] (defScope sSetsAt) := ⟨rfl, rfl, rfl, by decide +kernel, rfl, by decide +kernel, by decide +kernel⟩
def spSetsAt : Sp := fun vs H Q _ => ∃ (a : Addr) (hs ys : List Str), vs = [.ref a] ∧ LTu H a (hs.map V.str) ∧ ys.Perm hs ∧ ys.Pairwise sLt ∧ hs.length ≤ 8 ∧
  ∀ (q : Addr) (us : List V) (H' : Hp), Same H H' → H' q = some (.lst us) → TxsV H' us (sbs ys) → Q (.ref q) H'
theorem ok_setsAt {f : Addr} {fd : FuncData} (F : Fun K "sets_at" "sets_at" sSetsAt f fd) (B : Blt2 mg) : FnOk P w K mg base CX0 1 f fd ["hands"] spSetsAt := by
  refine F.ok scSetsAt (fun vs H Q E h => ?_) (fun cdv A outer s H vs Q E hr h => ?_)
  · obtain ⟨a, hs, ys, rfl, _⟩ := h
    rfl
  · obtain ⟨a, hs, ys, rfl, ha, py, srt, hl, k⟩ := h
    have nd := scSetsAt.nd
    have hu := hu_of hr
    have hu64 : (A.deeper (envOfC "sets_at" (defScope sSetsAt) s.heap.objs.size f cdv)).units + 64 < cLine := by
      have := hr.units
      omega
    refine ⟨_, pss_cons (ps_set (i := 1) nd rfl (.inl rfl) (pe_lst (pa_cons (pe_tup pa_nil) pa_nil)))
      (pss_cons (ps_for PassesOwn.never rfl (pi_list (pe_callB cr_sortedTS (by rfl) B.sorted (by decide +kernel) (pa_cons (pv 0) pa_nil))) (pg_name (i := 2) nd rfl (.inr rfl))
        (pss_one (ps_set (i := 1) nd rfl (.inl rfl) (pe_op op_cat (pv 1) (pe_lc (own := [("members", 3)]) (g := gName 3) (tt := tYes) (te := tOp (rCatA K) (tVar 3) (tTup (tCons (tVar 2) tNil))) rfl nd (pi_list (pv 1))
          (blkOk_by (N := ["hands", "found", "hand", "members"]) (sc := defScope sSetsAt) (by decide +kernel)) (fun _ _ _ _ _ => pg_name (i := 3) nd rfl (Or.inl rfl)) (fun _ _ _ _ _ => pts_nil)
          (fun _ _ _ _ _ => pe_op (r := rCatA K) op_catA (pv 3) (pe_tup (pa_cons (pv 2) pa_nil))))))))
      (pss_one (ps_ret (pv 1)))), ?_⟩
    have lys := py.length_eq
    refine ⟨by show 0 ≤ sizeLine; decide, fun T hT => ⟨by show 1 ≤ sizeLine; decide, fun L hL => ?_⟩⟩
    have sT : Same H (upd H T (.tup [])) := same_new hT
    have sL : Same (upd H T (.tup [])) (upd (upd H T (.tup [])) L (.lst [.ref T])) := same_new hL
    have eT : (upd (upd H T (.tup [])) L (.lst [.ref T])) T = some (.tup []) := sL _ _ upd_same
    have eL : (upd (upd H T (.tup [])) L (.lst [.ref T])) L = some (.lst [.ref T]) := upd_same
    have s0 := sT.trans sL
    generalize upd (upd H T (.tup [])) L (.lst [.ref T]) = H1 at eT eL s0
    refine ⟨_, rfl, a, hs, rfl, ?_, by omega, fun zs q pz sz hq => ⟨q, rfl, ⟨_, SqL.of upd_same⟩, ?_⟩⟩
    · rcases ha with h | h
      · exact .inl (SqL.of (s0 _ _ h))
      · exact .inr (.inl (rd_same s0 h))
    have ezs : zs = ys := srt_eq (rises_of_sorted sz (pz.nodup_iff.mpr (py.nodup_iff.mp (srt_nodup srt)))) srt fun x => (pz.trans py.symm).mem_iff
    subst ezs
    have sq : Same H1 (upd H1 q (.lst (zs.map V.str))) := same_new hq
    have eq : (upd H1 q (.lst (zs.map V.str))) q = some (.lst (zs.map V.str)) := upd_same
    generalize upd H1 q (.lst (zs.map V.str)) = H2 at sq eq ⊢
    refine for_list (K := K) (a := q) (xs := zs.map V.str) (fun i σ H3 => ∃ (o2 : Option V) (f : Addr) (us : List V), σ = [some (.ref a), some (.ref f), o2, none] ∧ Same H2 H3 ∧ H3 f = some (.lst us) ∧ TxsV H3 us (sbs (zs.take i)))
      ⟨none, L, [.ref T], rfl, Same.refl _, sq _ _ eL, .cons ⟨T, rfl, sq _ _ eT⟩ .nil⟩ (fun i σ H3 _ ⟨_, _, _, _, s3, _⟩ => SqL.of (s3 _ _ eq)) ?_ ?_
    · rintro i x σ H3 hx ⟨o2, f, us, rfl, s3, ef, hm⟩
      obtain ⟨y, hy, rfl, _⟩ := str_at hx
      have hil := (List.getElem?_eq_some_iff.mp hy).1
      have et : zs.take (i + 1) = zs.take i ++ [y] := by rw [List.take_succ, hy]; rfl
      have lu := Paired.length hm
      have lb : (sbs (zs.take i)).length ≤ 256 := sbs_bound (by rw [List.length_take]; omega)
      refine ⟨_, rfl, _, rfl, f, rfl, ⟨_, SqL.of ef⟩, fun D hD => ?_⟩
      refine lc_list (K := K) (a := f) (xs := us) (fun j H4 => Same H3 H4 ∧ ∃ ws, H4 D = some (.lst ws) ∧ TxsV H4 ws (((sbs (zs.take i)).take j).map fun m => m ++ [y])) ⟨same_new hD, [], upd_same, .nil⟩ (fun j H4 _ z => SqL.of (z.1 _ _ ef)) ?_ ?_
      · rintro j v H4 hv ⟨s4, ws, eD, hw⟩
        obtain ⟨m, hm', vm⟩ := hm.get hv
        obtain ⟨M, rfl, eM⟩ := vm.same s4
        have hjl := (List.getElem?_eq_some_iff.mp hv).1
        have lw := Paired.length hw
        rw [List.length_map, List.length_take] at lw
        have em : (((sbs (zs.take i)).take (j + 1)).map fun m => m ++ [y]) = (((sbs (zs.take i)).take j).map fun m => m ++ [y]) ++ [m ++ [y]] := by
          rw [List.take_succ, hm', List.map_append]
          rfl
        rw [em]
        have lm : m.length ≤ 8 := by
          have := (sbs_mem.mp (List.mem_of_getElem? hm')).length_le
          rw [List.length_take] at this
          omega
        have fin : ∀ (c : Addr) (H5 : Hp), Same H4 H5 → H5 c = some (.tup ((m ++ [y]).map V.str)) → ∃ acc, H5 D = some (.lst acc) ∧ acc.length < sizeLine ∧ Same H3 (upd H5 D (.lst (acc ++ [V.ref c]))) ∧ ∃ ws', (upd H5 D (.lst (acc ++ [V.ref c]))) D = some (.lst ws') ∧ TxsV (upd H5 D (.lst (acc ++ [V.ref c]))) ws' ((((sbs (zs.take i)).take j).map fun m => m ++ [y]) ++ [m ++ [y]]) := fun c H5 s5 ec => by
          have eD5 := s5 _ _ eD
          refine ⟨ws, eD5, small1000 (by omega), same_mut (s4.trans s5) hD, _, upd_same, ?_⟩
          have mv : ∀ (v : V) (m : List Str), TxV H5 v m → TxV (upd H5 D (.lst (ws ++ [V.ref c]))) v m := fun v m ⟨T, e, h⟩ => ⟨T, e, (upd_ne (ne_of h eD5 fun z => nomatch z)).trans h⟩
          exact TxsV.app (Paired.mapP (TxsV.same s5 hw) mv) (.cons (mv _ _ ⟨c, rfl, ec⟩) .nil)
        refine ⟨rfl, _, rfl, _, rfl, by show 1 ≤ sizeLine; decide, fun B2 hB2 => ?_⟩
        have s5 : Same H4 (upd H4 B2 (.tup [.str y])) := same_new hB2
        refine ⟨M, B2, m.map V.str, [.str y], rfl, rfl, .inl (.inl (s5 _ _ eM)), .inl (.inl upd_same), ?_, fun e0 => ?_, fun _ e1 => ?_, fun _ _ c hc => ?_⟩
        · rw [List.length_map]
          exact Nat.le_of_lt (small1000 (by show m.length + 1 ≤ 1000; omega))
        · have : m = [] := List.map_eq_nil_iff.mp e0
          subst this
          exact fin B2 _ s5 upd_same
        · cases e1
        · have s6 : Same (upd H4 B2 (.tup [.str y])) (upd (upd H4 B2 (.tup [.str y])) c (.tup (m.map V.str ++ [.str y]))) := same_new hc
          refine fin c _ (s5.trans s6) ?_
          rw [upd_same, List.map_append]
          rfl
      · rintro H4 ⟨s4, ws, eD, hw⟩
        rw [lu, List.take_length] at hw
        have lw := Paired.length hw
        rw [List.length_map] at lw
        refine ⟨f, D, us, ws, rfl, rfl, s4 _ _ ef, eD, Nat.le_of_lt (small1000 (by omega)), fun p hp => ?_⟩
        have s5 : Same H4 (upd H4 p (.lst (us ++ ws))) := same_new hp
        refine ⟨_, p, us ++ ws, rfl, s3.trans (s4.trans s5), upd_same, ?_⟩
        rw [et, sbs_snoc]
        exact TxsV.app (hm.same (s4.trans s5)) (hw.same s5)
    · rintro σ H3 ⟨o2, f, us, rfl, s3, ef, hm⟩
      rw [List.length_map, List.take_length] at hm
      exact ⟨_, rfl, k _ _ _ (((s0.trans sq).trans s3)) ef hm⟩
theorem scSets : FnScope ["hands"] ["hands"] (defScope sSets) := ⟨rfl, rfl, rfl, by decide +kernel, rfl, by decide +kernel, by decide +kernel⟩
def spSets : Sp := fun vs H Q _ => ∃ (a : Addr) (hs ys : List Str), vs = [.ref a] ∧ LTu H a (hs.map V.str) ∧ ys.Perm hs ∧ ys.Pairwise sLt ∧ hs.length ≤ 8 ∧
  ∀ (q : Addr) (us : List V) (ms : List (List Str)) (H' : Hp), Same H H' → (∀ m, m ∈ ms ↔ m.Sublist ys) → ms.length ≤ 256 → H' q = some (.lst us) → TxsV H' us ms → Q (.ref q) H'
theorem ok_sets {f f1 : Addr} {fd fd1 : FuncData} (F : Fun K "sets_of" "sets_of" sSets f fd) (B : Blt2 mg) (D1 : Df P w K mg base CX0 "sets_at" 1 f1 fd1 ["hands"] spSetsAt) : FnOk P w K mg base CX0 2 f fd ["hands"] spSets := by
  refine F.ok scSets (fun vs H Q E h => ?_) (fun cdv A outer s H vs Q E hr h => ?_)
  · obtain ⟨a, hs, ys, rfl, _⟩ := h
    rfl
  · obtain ⟨a, hs, ys, rfl, ha, py, srt, hl, k⟩ := h
    have nd := scSets.nd
    have hu := hu_of hr
    have hu64 : (A.deeper (envOfC "sets_of" (defScope sSets) s.heap.objs.size f cdv)).units + 64 < cLine := by
      have := hr.units
      omega
    refine ⟨_, pss_one (ps_ret (pe_callB (cr_sortedE hu64) (by rfl) B.sorted (by decide +kernel) (pa_cons (pe_call D1.ok hr rfl D1.g D1.kp D1.b .nil pass0 (pa_cons (pv 0) pa_nil)) pa_nil))), ?_⟩
    have lys := py.length_eq
    refine ⟨_, rfl, a, hs, ys, rfl, ha, py, srt, hl, fun f us H3 s3 ef hm => ?_⟩
    refine ⟨f, us, (sbs ys).map tD, rfl, SqL.of ef, hm.dp, alike_tD _, fun d hd => ?_, ?_, fun d hd => ?_, fun ws p pw _ hp => ?_⟩
    · obtain ⟨m, _, rfl⟩ := List.mem_map.mp hd
      exact ⟨_, rfl⟩
    · rw [List.getElem?_map, sbs_first]
      rfl
    · obtain ⟨m, _, rfl⟩ := List.mem_map.mp hd
      exact depth_tD m
    · obtain ⟨ms, h1, h2, _⟩ := txs_perm hm pw
      have sp : Same H3 (upd H3 p (.lst (ws.map (·.1)))) := same_new hp
      refine k p _ ms _ (s3.trans sp) (fun m => h2.mem_iff.trans sbs_mem) ?_ upd_same (h1.same sp)
      rw [h2.length_eq]
      exact sbs_bound (by omega)
/-! ### united -/
theorem scUnited : FnScope ["one", "other"] ["one", "other"] (defScope sUnited) := ⟨rfl, rfl, rfl, by decide +kernel, rfl, by decide +kernel, by decide +kernel⟩
def spUnited : Sp := fun vs H Q _ => ∃ (a b : Addr) (m : List Str) (x : Str), vs = [.ref a, .ref b] ∧ Rd H a (.tup (m.map V.str)) ∧ Rd H b (.tup [.str x]) ∧ m.length ≤ 8 ∧ m.Nodup ∧ x ∉ m ∧
  ∀ (q : Addr) (m' : List Str) (H' : Hp), Same H H' → m'.Perm (m ++ [x]) → m'.Pairwise sLt → H' q = some (.tup (m'.map V.str)) → Q (.ref q) H'
theorem ok_united {f : Addr} {fd : FuncData} (F : Fun K "united" "united" sUnited f fd) (B : Blt2 mg) : FnOk P w K mg base CX0 1 f fd ["one", "other"] spUnited := by
  refine F.ok scUnited (fun vs H Q E h => ?_) (fun cdv A outer s H vs Q E hr h => ?_)
  · obtain ⟨a, b, m, x, rfl, _⟩ := h
    rfl
  · obtain ⟨a, b, m, x, rfl, ha, hb, hl, ndm, nx, k⟩ := h
    refine ⟨_, pss_one (ps_ret (pe_callTy call_tuple_of (by rfl) B.tuple (by decide +kernel) (pa_cons (pe_callB cr_sortedTS (by rfl) B.sorted (by decide +kernel) (pa_cons (pe_op (r := rCatA K) op_catA (pv 0) (pv 1)) pa_nil)) pa_nil))), ?_⟩
    have nd2 : (m ++ [x]).Nodup := by
      rw [List.nodup_append]
      exact ⟨ndm, List.nodup_cons.mpr ⟨List.not_mem_nil, List.nodup_nil⟩, fun y hy z hz e => nx (by rw [← List.mem_singleton.mp hz, ← e]; exact hy)⟩
    have fin : ∀ (c : Addr) (H1 : Hp), Same H H1 → SqT K H1 c ((m ++ [x]).map V.str) → rSortedTS K [.ref c] H1 fun v H2 => ∃ p ys, [v] = [.ref p] ∧ ((SqL K H2 p ys ∧ ∀ l, H2 l = none → Q (.ref l) (upd H2 l (.tup ys))) ∨ (SqT K H2 p ys ∧ Q (.ref p) H2)) := fun c H1 s1 hc => by
      refine ⟨c, m ++ [x], rfl, .inr hc, by rw [List.length_append, List.length_singleton]; omega, fun zs p pz sz hp => ⟨p, zs.map V.str, rfl, .inl ⟨SqL.of upd_same, fun l hl => ?_⟩⟩⟩
      exact k l zs _ ((s1.trans (same_new hp)).trans (same_new hl)) pz (rises_of_sorted sz (pz.nodup_iff.mpr nd2)) upd_same
    refine ⟨_, rfl, _, rfl, a, b, m.map V.str, [.str x], rfl, rfl, .inl ha, .inl hb, ?_, fun e0 => ?_, fun _ e1 => ?_, fun _ _ p hp => ?_⟩
    · rw [List.length_map]
      exact Nat.le_of_lt (small1000 (by show m.length + 1 ≤ 1000; omega))
    · have : m = [] := List.map_eq_nil_iff.mp e0
      subst this
      exact fin b H (Same.refl H) (.inl hb)
    · cases e1
    · refine fin p _ (same_new hp) (.inl (.inl ?_))
      rw [upd_same, List.map_append]
      rfl
end
end Ah
set_option Elab.async false
set_option linter.all false
set_option maxRecDepth 100000
set_option maxHeartbeats 4000000
namespace Ah
open PySem PySem.Spec PyProof.Rows L2
abbrev sHeads : Stmt := topS 18
abbrev sAllAhead : Stmt := topS 19
abbrev sFree : Stmt := topS 20
/-- a set with all that stand ahead -/
def Hd (ps : List (Str × Str)) (m : List Str) : Prop := ∀ p ∈ ps, p.2 ∈ m → p.1 ∈ m
instance (ps : List (Str × Str)) (m : List Str) : Decidable (Hd ps m) := by unfold Hd; infer_instance
def bsOf (ps : List (Str × Str)) (m : List Str) : List Bool := (ps.filter fun p => decide (p.2 ∈ m)).map fun p => decide (p.1 ∈ m)
theorem bsOf_all (ps : List (Str × Str)) (m : List Str) : (bsOf ps m).all id = decide (Hd ps m) := by
  unfold bsOf
  rw [Bool.eq_iff_iff, List.all_eq_true, decide_eq_true_iff]
  constructor
  · intro h p hp h2
    exact of_decide_eq_true (h _ (List.mem_map.mpr ⟨p, List.mem_filter.mpr ⟨hp, decide_eq_true h2⟩, rfl⟩))
  · intro h b hb
    obtain ⟨p, hp, rfl⟩ := List.mem_map.mp hb
    obtain ⟨h1, h2⟩ := List.mem_filter.mp hp
    exact decide_eq_true (h p h1 (of_decide_eq_true h2))
/-- a dict of texts, all True -/
def HeldK (H : Hp) (D : Addr) (n : Nat) (L : List Str) : Prop := ∃ kvs : List (Key × V), H D = some (.dK kvs) ∧ kvs.length ≤ n ∧ ∀ x : Str, (valV kvs (.inr x)).isSome = decide (x ∈ L)
section
variable {P : Program} {w : World} {K : PySem.W.Frag} {mg : Str → Option Value} {base : Heap}
theorem scAllAhead : FnScope ["web", "members", "a", "b"] ["web", "members"] (defScope sAllAhead) := ⟨rfl, rfl, rfl, by decide +kernel, rfl, by decide +kernel, by decide +kernel⟩
def spAllAhead : Sp := fun vs H Q _ => ∃ (t : Addr) (v : V) (us : List V) (ps : List (Str × Str)) (m : List Str), vs = [.ref t, v] ∧ Rd H t (.tup us) ∧ PrsV H us ps ∧ TxV H v m ∧ ps.length ≤ 64 ∧ ∀ H', Same H H' → Q (.bl (decide (Hd ps m))) H'
theorem ok_allAhead {f : Addr} {fd : FuncData} (F : Fun K "has_all_ahead" "has_all_ahead" sAllAhead f fd) (B : Blt2 mg) : FnOk P w K mg base CX0 1 f fd ["web", "members"] spAllAhead := by
  refine F.ok scAllAhead (fun vs H Q E h => ?_) (fun cdv A outer s H vs Q E hr h => ?_)
  · obtain ⟨t, v, us, ps, m, rfl, _⟩ := h
    rfl
  · obtain ⟨t, v, us, ps, m, rfl, ht, hps, ⟨M, rfl, hM⟩, hl, k⟩ := h
    have nd := scAllAhead.nd
    refine ⟨_, pss_one (ps_ret (pe_callB (cr_all rfl) (by rfl) B.all (by decide +kernel) (pa_cons (pe_lc (own := [("a", 2), ("b", 3)]) (g := gTup K 2 (gCons (gName 2) (gCons (gName 3) gNil))) (tt := tTest (tOp (rIn K false) (tVar 3) (tVar 1))) (te := tOp (rIn K false) (tVar 2) (tVar 1)) rfl nd (pi_tup (pv 0))
          (blkOk_by (N := ["web", "members", "a", "b"]) (sc := defScope sAllAhead) (by decide +kernel)) (fun _ _ _ _ _ => pg_tup rfl (pgs_cons (pg_name (i := 2) nd rfl (Or.inl rfl)) (pgs_cons (pg_name (i := 3) nd rfl (Or.inl rfl)) pgs_nil)))
          (fun _ _ _ _ _ => pts_one (pt_cmpR (r := rIn K false) op_in_seq (pv 3) (pv 1) (by rfl)))
          (fun _ _ _ _ _ => pe_cmpR (r := rIn K false) op_in_seq (pv 2) (pv 1) (by rfl))) pa_nil))), ?_⟩
    have lu := hps.len
    refine ⟨_, rfl, t, rfl, ⟨_, .inl ht⟩, fun D hD => ?_⟩
    refine lc_tup (K := K) (a := t) (xs := us) (fun i H2 => Same H H2 ∧ H2 D = some (.lst ((bsOf (ps.take i) m).map V.bl))) ⟨same_new hD, upd_same⟩ (fun i H2 _ q => .inl (rd_same q.1 ht)) ?_ ?_
    · rintro i x H2 hx ⟨s2, e2⟩
      obtain ⟨p, hp, vp⟩ := hps.get hx
      obtain ⟨T, rfl, hT⟩ := vp.same s2
      have hil := (List.getElem?_eq_some_iff.mp hx).1
      have et : ps.take (i + 1) = ps.take i ++ [p] := by rw [List.take_succ, hp]; rfl
      have eM := s2 _ _ hM
      have split : bsOf (ps.take (i + 1)) m = bsOf (ps.take i) m ++ (if p.2 ∈ m then [decide (p.1 ∈ m)] else []) := by
        rw [et]
        unfold bsOf
        rw [List.filter_append, List.map_append, List.filter_cons]
        by_cases c : p.2 ∈ m
        · rw [if_pos (decide_eq_true c), if_pos c]; rfl
        · rw [if_neg (by rw [decide_eq_false c]; exact Bool.false_ne_true), if_neg c]; rfl
      rw [split]
      refine ⟨T, _, rfl, .inl (.inl hT), rfl, _, _, rfl, _, _, rfl, rfl, rfl, ?_⟩
      refine ⟨_, rfl, _, rfl, M, _, rfl, .inr (.inl (.inl eM)), rfl, flat_strs m, _, rfl, ?_⟩
      rw [if_neg Bool.false_ne_true, inV_txts]
      by_cases c : p.2 ∈ m
      · rw [decide_eq_true c, if_pos c]
        refine iteT ⟨_, rfl, _, rfl, M, _, rfl, .inr (.inl (.inl eM)), rfl, flat_strs m, ?_⟩
        rw [if_neg Bool.false_ne_true, inV_txts]
        refine ⟨_, e2, ?_, same_mut s2 hD, ?_⟩
        · rw [List.length_map]
          unfold bsOf
          rw [List.length_map]
          exact small1000 (Nat.le_trans (List.length_filter_le _ _) (by rw [List.length_take]; omega))
        · rw [upd_same, List.map_append]
          rfl
      · rw [decide_eq_false c, if_neg c, List.append_nil]
        exact iteF ⟨s2, e2⟩
    · rintro H2 ⟨s2, e2⟩
      rw [lu, List.take_length] at e2
      refine ⟨D, _, rfl, SqL.of e2, ?_⟩
      rw [bsOf_all]
      exact k H2 s2
theorem scHeads : FnScope ["hands", "web", "members"] ["hands", "web"] (defScope sHeads) := ⟨rfl, rfl, rfl, by decide +kernel, rfl, by decide +kernel, by decide +kernel⟩
def spHeads : Sp := fun vs H Q _ => ∃ (g t : Addr) (us : List V) (hs ys : List Str) (ps : List (Str × Str)), vs = [.ref g, .ref t] ∧ LTu H g (hs.map V.str) ∧ WebAt H t us hs ps ∧ ys.Perm hs ∧ ys.Pairwise sLt ∧ hs.length ≤ 8 ∧
  ∀ (q : Addr) (vs : List V) (ms : List (List Str)) (H' : Hp), Same H H' → (∀ m, m ∈ ms ↔ m.Sublist ys ∧ Hd ps m) → ms.length ≤ 256 → H' q = some (.lst vs) → TxsV H' vs ms → Q (.ref q) H'
theorem ok_heads {f f1 f2 f3 : Addr} {fd fd1 fd2 fd3 : FuncData} (F : Fun K "heads" "heads" sHeads f fd) (D1 : Df P w K mg base CX0 "check_web" 3 f1 fd1 ["hands", "web"] spCheckWeb) (D2 : Df P w K mg base CX0 "sets_of" 2 f2 fd2 ["hands"] spSets) (D3 : Df P w K mg base CX0 "has_all_ahead" 1 f3 fd3 ["web", "members"] spAllAhead) :
    FnOk P w K mg base CX0 4 f fd ["hands", "web"] spHeads := by
  refine F.ok scHeads (fun vs H Q E h => ?_) (fun cdv A outer s H vs Q E hr h => ?_)
  · obtain ⟨g, t, us, hs, ys, ps, rfl, _⟩ := h
    rfl
  · obtain ⟨g, t, us, hs, ys, ps, rfl, hg, hw, py, srt, hl, k⟩ := h
    have nd := scHeads.nd
    have hr1 : Room 1 _ := hr.mono (by decide)
    have hr2 : Room 2 _ := hr.mono (by decide)
    refine ⟨_, pss_cons (ps_expr (pe_call D1.ok hr rfl D1.g D1.kp D1.b .nil pass0 (pa_cons (pv 0) (pa_cons (pv 1) pa_nil))))
      (pss_one (ps_ret (pe_lc (own := [("members", 2)]) (g := gName 2) (tt := tB (tCall spAllAhead [] E0 (tCons (tVar 1) (tCons (tVar 2) tNil)))) (te := tVar 2) rfl nd (pi_list (pe_call D2.ok hr2 rfl D2.g D2.kp D2.b .nil pass0 (pa_cons (pv 0) pa_nil)))
          (blkOk_by (N := ["hands", "web", "members"]) (sc := defScope sHeads) (by decide +kernel)) (fun _ _ _ _ _ => pg_name (i := 2) nd rfl (Or.inl rfl))
          (fun _ _ _ _ _ => pts_one (pt_val (pe_call D3.ok hr1 rfl D3.g D3.kp D3.b .nil pass0 (pa_cons (pv 1) (pa_cons (pv 2) pa_nil)))))
          (fun _ _ _ _ _ => pv 2)))), ?_⟩
    refine ⟨_, rfl, _, rfl, g, t, us, hs, ps, rfl, hg, hw, fun H1 s1 => ?_⟩
    have hw1 := hw.same s1
    refine ⟨_, rfl, g, hs, ys, rfl, hg.same s1, py, srt, hl, fun q ws ms H2 s2 hm lm eq hws => ⟨q, rfl, ⟨_, SqL.of eq⟩, fun D hD => ?_⟩⟩
    have hw2 := hw1.same s2
    have lw := Paired.length hws
    refine lc_list (K := K) (a := q) (xs := ws) (fun i H3 => Same H2 H3 ∧ ∃ vs, H3 D = some (.lst vs) ∧ TxsV H3 vs ((ms.take i).filter fun m => decide (Hd ps m))) ⟨same_new hD, [], upd_same, .nil⟩ (fun i H3 _ z => SqL.of (z.1 _ _ eq)) ?_ ?_
    · rintro i v H3 hv ⟨s3, vs, eD, hvs⟩
      obtain ⟨m, hm', vm⟩ := hws.get hv
      have vm3 := vm.same s3
      have hil := (List.getElem?_eq_some_iff.mp hv).1
      have et : ms.take (i + 1) = ms.take i ++ [m] := by rw [List.take_succ, hm']; rfl
      have lvs := Paired.length hvs
      have lf : vs.length ≤ 256 := by
        rw [lvs]
        exact Nat.le_trans (List.length_filter_le _ _) (by rw [List.length_take]; omega)
      refine ⟨rfl, _, rfl, _, rfl, t, v, us, ps, m, rfl, rd_same s3 hw2.at', hw2.prs.same s3, vm3, hw2.few, fun H4 s4 => ⟨_, rfl, ?_⟩⟩
      rw [et, List.filter_append, List.filter_cons]
      by_cases c : Hd ps m
      · rw [decide_eq_true c]
        have eD4 := s4 _ _ eD
        refine iteT ⟨_, rfl, vs, eD4, small1000 (by omega), same_mut (s3.trans s4) hD, _, upd_same, ?_⟩
        have mv : ∀ (v' : V) (m : List Str), TxV H4 v' m → TxV (upd H4 D (.lst (vs ++ [v]))) v' m := fun v' m ⟨T, e, h⟩ => ⟨T, e, (upd_ne (ne_of h eD4 fun z => nomatch z)).trans h⟩
        exact TxsV.app (Paired.mapP (TxsV.same s4 hvs) mv) (.cons (mv _ _ (vm3.same s4)) .nil)
      · rw [decide_eq_false c]
        refine iteF ⟨s3.trans s4, vs, s4 _ _ eD, ?_⟩
        rw [if_neg Bool.false_ne_true, List.filter_nil, List.append_nil]
        exact hvs.same s4
    · rintro H3 ⟨s3, vs, eD, hvs⟩
      rw [lw, List.take_length] at hvs
      refine k D vs _ H3 ((s1.trans s2).trans s3) (fun m => ?_) (Nat.le_trans (List.length_filter_le _ _) lm) eD hvs
      rw [List.mem_filter, hm m, decide_eq_true_iff]
theorem scFree : FnScope ["hands", "web", "head", "held_back", "a", "b", "hand"] ["hands", "web", "head"] (defScope sFree) := ⟨rfl, rfl, rfl, by decide +kernel, rfl, by decide +kernel, by decide +kernel⟩
def spFree : Sp := fun vs H Q _ => ∃ (g t : Addr) (v : V) (us : List V) (hs ys m : List Str) (ps : List (Str × Str)), vs = [.ref g, .ref t, v] ∧ LTu H g (hs.map V.str) ∧ Rd H t (.tup us) ∧ PrsV H us ps ∧ TxV H v m ∧ ps.length ≤ 64 ∧ ys.Perm hs ∧ ys.Pairwise sLt ∧ hs.length ≤ 8 ∧
  ∀ (q : Addr) (H' : Hp), Same H H' → H' q = some (.lst ((nextOf ps m ys).map V.str)) → Q (.ref q) H'
theorem ok_free {f : Addr} {fd : FuncData} (F : Fun K "free_behind" "free_behind" sFree f fd) (B : Blt2 mg) : FnOk P w K mg base CX0 1 f fd ["hands", "web", "head"] spFree := by
  refine F.ok scFree (fun vs H Q E h => ?_) (fun cdv A outer s H vs Q E hr h => ?_)
  · obtain ⟨g, t, v, us, hs, ys, m, ps, rfl, _⟩ := h
    rfl
  · obtain ⟨g, t, v, us, hs, ys, m, ps, rfl, hg, ht, hps, ⟨M, rfl, hM⟩, lp, py, srt, hl, k⟩ := h
    have nd := scFree.nd
    have hu := hu_of hr
    refine ⟨_, pss_cons (ps_set (i := 3) nd rfl (.inr rfl) (pe_dc (own := [("a", 4), ("b", 5)]) (g := gTup K 2 (gCons (gName 4) (gCons (gName 5) gNil))) (tt := tTest (tOp (rIn K true) (tVar 4) (tVar 2))) (tk := tVar 5) (tv := tC (.bl true)) rfl nd (pi_tup (pv 1))
          (blkOk_by (N := ["hands", "web", "head", "held_back", "a", "b", "hand"]) (sc := defScope sFree) (by decide +kernel)) (fun _ _ _ _ _ => pg_tup rfl (pgs_cons (pg_name (i := 4) nd rfl (Or.inl rfl)) (pgs_cons (pg_name (i := 5) nd rfl (Or.inl rfl)) pgs_nil)))
          (fun _ _ _ _ _ => pts_one (pt_cmpR (r := rIn K true) op_notIn_seq (pv 4) (pv 2) (by rfl))) (fun _ _ _ _ _ => pv 5) (fun _ _ _ _ _ => pe_bl)))
      (pss_one (ps_ret (pe_callB cr_sortedTS (by rfl) B.sorted (by decide +kernel) (pa_cons (pe_lc (own := [("hand", 6)]) (g := gName 6) (tt := tAnd (tTest (tOp (rIn K true) (tVar 6) (tVar 2))) (tB (tDNotIn (tVar 6) (tVar 3)))) (te := tVar 6) rfl nd (pi_or (pi_list (pv 0)) (pi_tup (pv 0)))
          (blkOk_by (N := ["hands", "web", "head", "held_back", "a", "b", "hand"]) (sc := defScope sFree) (by decide +kernel)) (fun _ _ _ _ _ => pg_name (i := 6) nd rfl (Or.inl rfl))
          (fun _ _ _ _ _ => pts_one (PW.pt (pw_and (pt_cmpR (r := rIn K true) op_notIn_seq (pv 6) (pv 2) (by rfl)) (pw_and1 (pt_cmp (pc_dnotin hu (pv 6) (pv 3)))))))
          (fun _ _ _ _ _ => pv 6)) pa_nil)))), ?_⟩
    have lu := hps.len
    have lys := py.length_eq
    refine ⟨_, rfl, t, rfl, ⟨_, .inl ht⟩, fun D hD => ?_⟩
    refine dc_tup (K := K) (a := t) (xs := us) (fun i H2 => Same H H2 ∧ HeldK H2 D i (lackOf (ps.take i) m)) ⟨same_new hD, [], upd_same, Nat.le_refl _, fun x => rfl⟩ (fun i H2 _ q => .inl (rd_same q.1 ht)) ?_ ?_
    · rintro i x H2 hx ⟨s2, kvs, e2, l2, v2⟩
      obtain ⟨p, hp, vp⟩ := hps.get hx
      obtain ⟨T, rfl, hT⟩ := vp.same s2
      have hil := (List.getElem?_eq_some_iff.mp hx).1
      have et : ps.take (i + 1) = ps.take i ++ [p] := by rw [List.take_succ, hp]; rfl
      have eM := s2 _ _ hM
      have split : lackOf (ps.take (i + 1)) m = lackOf (ps.take i) m ++ (if p.1 ∈ m then [] else [p.2]) := by
        rw [et]
        unfold lackOf
        rw [List.filter_append, List.map_append, List.filter_cons]
        by_cases c : p.1 ∈ m
        · rw [if_neg (by rw [decide_eq_false (fun z => z c)]; exact Bool.false_ne_true), if_pos c]; rfl
        · rw [if_pos (decide_eq_true c), if_neg c]; rfl
      rw [split]
      refine ⟨T, _, rfl, .inl (.inl hT), rfl, _, _, rfl, _, _, rfl, rfl, rfl, ?_⟩
      refine ⟨_, rfl, _, rfl, M, _, rfl, .inr (.inl (.inl eM)), rfl, flat_strs m, _, rfl, ?_⟩
      rw [if_pos rfl, inV_txts]
      by_cases c : p.1 ∈ m
      · rw [decide_eq_true c, if_pos c, List.append_nil]
        exact iteF ⟨s2, kvs, e2, by omega, v2⟩
      · rw [decide_eq_false c, if_neg c]
        refine iteT ⟨_, rfl, kvs, .inr p.2, rfl, e2, small1000 (by omega), same_mut s2 hD, _, upd_same, ?_, fun x => ?_⟩
        · have := length_putK kvs (.inr p.2 : Key) (V.bl true)
          omega
        · rw [valV_put]
          by_cases e : x = p.2
          · subst e
            rw [if_pos rfl, decide_eq_true (List.mem_append_right _ (List.mem_cons_self ..))]
            rfl
          · rw [if_neg (fun z => e (Sum.inr.inj z)), v2 x]
            congr 1
            rw [List.mem_append, List.mem_singleton]
            exact propext ⟨.inl, fun z => z.resolve_right e⟩
    · rintro H2 ⟨s2, kvs, e2, l2, v2⟩
      rw [lu, List.take_length] at v2
      refine iOr_by2 (fun Q q => ⟨_, rfl, q⟩) s2 hg fun J L G hL => fun D1 hD1 => ?_
      have lm : (hs.map V.str).length = hs.length := List.length_map ..
      refine lc_gen (n := (hs.map V.str).length) (item := fun i => (hs.map V.str).getD i .non) (fun j H6 => Same H2 H6 ∧ H6 D1 = some (.lst ((nextOf ps m (hs.take j)).map V.str))) ⟨same_new hD1, upd_same⟩ (fun j H6 hj q => G.go j H6 hj (G.keep _ _ (s2.trans q.1) hL)) (fun H6 q => G.stop H6 (G.keep _ _ (s2.trans q.1) hL)) (fun j H6 x H' hj q y => G.yld j H6 x H' (G.keep _ _ (s2.trans q.1) hL) hj y) ?_ ?_
      · rintro j H6 hj ⟨s6, e6⟩
        rw [lm] at hj
        rw [getD_strs hs hj]
        have et : hs.take (j + 1) = hs.take j ++ [hs.getD j default] := by rw [List.take_succ, getD_at hj]; rfl
        generalize hs.getD j default = x at et ⊢
        have no : ¬ (x ∉ m ∧ x ∉ lackOf ps m) → Same H2 H6 ∧ H6 D1 = some (.lst ((nextOf ps m (hs.take (j + 1))).map V.str)) := fun c => by
          rw [et]
          unfold nextOf
          rw [List.filter_append, List.filter_cons, if_neg (by rw [decide_eq_false c]; exact Bool.false_ne_true)]
          exact ⟨s6, by rw [e6]; unfold nextOf; simp⟩
        refine ⟨rfl, _, rfl, _, rfl, M, _, rfl, .inr (.inl (.inl ((s2.trans s6) _ _ hM))), rfl, flat_strs m, _, rfl, ?_⟩
        rw [if_pos rfl, inV_txts]
        by_cases c : x ∈ m
        · rw [decide_eq_true c]
          exact iteF (iteF (no fun z => z.1 c))
        · rw [decide_eq_false c]
          refine iteT ⟨_, rfl, _, rfl, D, _, rfl, .k (k := .inr x) (s6 _ _ e2), _, rfl, ?_⟩
          rw [v2 x]
          by_cases c2 : x ∈ lackOf ps m
          · rw [decide_eq_true c2]
            exact iteF (no fun z => z.2 c2)
          · rw [decide_eq_false c2]
            refine iteT ⟨_, rfl, _, e6, ?_, same_mut s6 hD1, ?_⟩
            · rw [List.length_map]
              unfold nextOf
              exact small1000 (Nat.le_trans (List.length_filter_le _ _) (by rw [List.length_take]; omega))
            · rw [upd_same, et]
              unfold nextOf
              rw [List.filter_append, List.filter_cons, if_pos (decide_eq_true ⟨c, c2⟩), List.map_append]
              rfl
      · rintro H6 ⟨s6, e6⟩
        rw [lm, List.take_length] at e6
        have ln : (nextOf ps m hs).length ≤ 8 := Nat.le_trans (List.length_filter_le _ _) hl
        refine ⟨D1, nextOf ps m hs, rfl, .inl (SqL.of e6), by omega, fun zs p pz sz hp => ?_⟩
        have ndz : zs.Nodup := pz.nodup_iff.mpr ((py.nodup_iff.mp (srt_nodup srt)).sublist List.filter_sublist)
        have ez : zs = nextOf ps m ys := srt_eq (rises_of_sorted sz ndz) (srt.sublist List.filter_sublist) fun x => by
          rw [pz.mem_iff]
          unfold nextOf
          rw [List.mem_filter, List.mem_filter, py.mem_iff]
        rw [← ez] at k
        exact k p _ ((s2.trans s6).trans (same_new hp)) upd_same
end
end Ah
set_option Elab.async false
set_option linter.all false
set_option maxRecDepth 100000
set_option maxHeartbeats 4000000
namespace Ah
open PySem PySem.Spec PyProof.Rows L2
abbrev sCount : Stmt := topS 22
abbrev sOrders : Stmt := topS 23
/-- the hands that can come next -/
def nxO (ps : List (Str × Str)) (ys : List Str) : List Str → List Str := fun m => nextOf ps m ys
theorem nxO_mem {ps : List (Str × Str)} {ys m : List Str} {x : Str} : x ∈ nxO ps ys m ↔ x ∈ ys ∧ x ∉ m ∧ ∀ a, (a, x) ∈ ps → a ∈ m := by
  unfold nxO nextOf
  rw [List.mem_filter, decide_eq_true_iff, lackOf_mem]
  constructor
  · rintro ⟨h1, h2, h3⟩
    exact ⟨h1, h2, fun a ha => Classical.byContradiction fun n => h3 ⟨a, ha, n⟩⟩
  · rintro ⟨h1, h2, h3⟩
    exact ⟨h1, h2, fun ⟨a, ha, n⟩ => n (h3 a ha)⟩
theorem nx_ok {ps : List (Str × Str)} {ys row : List Str} (nd : ys.Nodup) (kr : KeepR row ps) (s : ∀ x y, (x, y) ∈ ps → x ∈ ys ∧ y ∈ ys) (l : ys.length ≤ 8) : Nx (nxO ps ys) ys where
  same := fun m m' e => by
    unfold nxO nextOf
    refine List.filter_congr fun x _ => ?_
    congr 1
    rw [lackOf_mem, lackOf_mem, e x]
    have : (∃ y, (y, x) ∈ ps ∧ y ∉ m) ↔ ∃ y, (y, x) ∈ ps ∧ y ∉ m' := ⟨fun ⟨y, h, n⟩ => ⟨y, h, fun z => n ((e y).mpr z)⟩, fun ⟨y, h, n⟩ => ⟨y, h, fun z => n ((e y).mp z)⟩⟩
    rw [this]
  some := fun m ndm sm lt e => by
    have ex : ∃ x ∈ ys, x ∉ m := Classical.byContradiction fun n => by
      have := nodup_sub_le (m := m) nd fun x hx => Classical.byContradiction fun z => n ⟨x, hx, z⟩
      omega
    obtain ⟨f, h1, h2, h3⟩ := laid_next (n := ys.length) (List.Perm.refl ys) s (peels_nil kr ys) ex
    have : f ∈ nxO ps ys m := nxO_mem.mpr ⟨h1, h2, h3⟩
    rw [e] at this
    cases this
  mem := fun m x h => ⟨(nxO_mem.mp h).1, (nxO_mem.mp h).2.1⟩
  few := fun m => Nat.le_trans (List.length_filter_le _ _) l
theorem nxO_srt {ps : List (Str × Str)} {ys m : List Str} (h : ys.Pairwise sLt) : (nxO ps ys m).Pairwise sLt := h.sublist List.filter_sublist
def keyL (m : List Str) : List Key := m.map Sum.inr
theorem keyL_kv (m : List Str) : (keyL m).map kV = m.map V.str := by
  unfold keyL
  rw [List.map_map]
  rfl
theorem keyL_inj {m m' : List Str} (h : keyL m = keyL m') : m = m' := by
  unfold keyL at h
  induction m generalizing m' with
  | nil =>
    cases m' with
    | nil => rfl
    | cons _ _ => cases h
  | cons x r ih =>
    cases m' with
    | nil => cases h
    | cons y t =>
      injection h with h1 h2
      rw [Sum.inr.inj h1, ih h2]
/-- the counts that stand in a dict -/
def CntD (ps : List (Str × Str)) (ys : List Str) (kvs : List (List Key × V)) : Prop :=
  ∀ m, m.Pairwise sLt → (∀ x ∈ m, x ∈ ys) → Hd ps m → valV kvs (keyL m) = some (.int ((cnt (nxO ps ys) (ys.length - m.length) m : Nat) : Int))
theorem sum_ints (l : List Nat) : (l.map fun n => ((n : Nat) : Int)).sum = ((sumN l : Nat) : Int) := by
  induction l with
  | nil => rfl
  | cons a r ih =>
    rw [List.map_cons, List.sum_cons, ih]
    show _ = ((a + sumN r : Nat) : Int)
    omega
theorem same_kp {d : Addr} {H H2 H3 : Hp} (s : Same H H2) (k : Kp d H2 H3) (h : H d = none) : Same H H3 := fun a o e => k a o (ne_of_none e h) (s a o e)
theorem sub_len {m ys : List Str} (h : m.Pairwise sLt) (s : ∀ x ∈ m, x ∈ ys) : m.length ≤ ys.length := nodup_sub_le (srt_nodup h) s
/-- a head and the next hand -/
theorem head_next {ps : List (Str × Str)} {ys m m' : List Str} {x : Str} (hm : Hd ps m) (hs : ∀ x ∈ m, x ∈ ys) (hx : x ∈ nxO ps ys m) (p : m'.Perm (m ++ [x])) : Hd ps m' ∧ (∀ y ∈ m', y ∈ ys) ∧ m'.length = m.length + 1 := by
  obtain ⟨h1, h2, h3⟩ := nxO_mem.mp hx
  refine ⟨fun q hq hb => ?_, fun y hy => ?_, ?_⟩
  · rw [p.mem_iff] at hb ⊢
    rcases List.mem_append.mp hb with z | z
    · exact List.mem_append_left _ (hm q hq z)
    · have e := List.mem_singleton.mp z
      exact List.mem_append_left _ (h3 q.1 (by rw [← e]; exact hq))
  · rcases List.mem_append.mp (p.mem_iff.mp hy) with z | z
    · exact hs y z
    · rw [List.mem_singleton.mp z]
      exact h1
  · rw [p.length_eq, List.length_append, List.length_singleton]
section
variable {P : Program} {w : World} {K : PySem.W.Frag} {mg : Str → Option Value} {base : Heap}
theorem scOrders : FnScope ["hands", "web", "counts", "head", "following", "hand"] ["hands", "web"] (defScope sOrders) := ⟨rfl, rfl, rfl, by decide +kernel, rfl, by decide +kernel, by decide +kernel⟩
def spOrders : Sp := fun vs H Q _ => ∃ (g t : Addr) (us : List V) (hs ys row : List Str) (ps : List (Str × Str)), vs = [.ref g, .ref t] ∧ LTu H g (hs.map V.str) ∧ WebAt H t us hs ps ∧ ys.Perm hs ∧ ys.Pairwise sLt ∧ hs.length ≤ 8 ∧ KeepR row ps ∧
  ∀ (d : Addr) (kvs : List (List Key × V)) (H' : Hp), Same H H' → H' d = some (.dT kvs) → CntD ps ys kvs → Q (.ref d) H'
theorem ok_orders {f f1 f2 f3 : Addr} {fd fd1 fd2 fd3 : FuncData} (F : Fun K "orders_behind" "orders_behind" sOrders f fd) (B : Blt2 mg) (Bs : mg "sum" = none) (D1 : Df P w K mg base CX0 "heads" 4 f1 fd1 ["hands", "web"] spHeads) (D2 : Df P w K mg base CX0 "free_behind" 1 f2 fd2 ["hands", "web", "head"] spFree) (D3 : Df P w K mg base CX0 "united" 1 f3 fd3 ["one", "other"] spUnited) :
    FnOk P w K mg base CX0 5 f fd ["hands", "web"] spOrders := by
  refine F.ok scOrders (fun vs H Q E h => ?_) (fun cdv A outer s H vs Q E hr h => ?_)
  · obtain ⟨g, t, us, hs, ys, row, ps, rfl, _⟩ := h
    rfl
  · obtain ⟨g, t, us, hs, ys, row, ps, rfl, hg, hw, py, srt, hl, kr, k⟩ := h
    have nd := scOrders.nd
    have hu := hu_of hr
    have hr1 : Room 1 _ := hr.mono (by decide)
    have hu64 : (A.deeper (envOfC "orders_behind" (defScope sOrders) s.heap.objs.size f cdv)).units + 64 < cLine := by
      have := hr.units
      omega
    refine ⟨_, pss_cons (ps_set (i := 2) nd rfl (.inr rfl) pe_dnewT)
      (pss_cons (ps_for PassesOwn.never rfl (pi_list (pe_sortLen hu64 (by rfl) B.sorted (by rfl) B.len (pa_cons (pe_call D1.ok hr rfl D1.g D1.kp D1.b .nil pass0 (pa_cons (pv 0) (pa_cons (pv 1) pa_nil))) pa_nil))) (pg_name (i := 3) nd rfl (.inr rfl))
        (pss_cons (ps_setLc (i := 4) (own := [("hand", 5)]) (g := gName 5) (tt := tYes) (te := tDGet (tVar 2) (tCall spUnited [] E0 (tCons (tVar 3) (tCons (tTup (tCons (tVar 5) tNil)) tNil)))) rfl nd rfl rfl (by rfl) (pi_list (pe_call D2.ok hr1 rfl D2.g D2.kp D2.b .nil pass0 (pa_cons (pv 0) (pa_cons (pv 1) (pa_cons (pv 3) pa_nil)))))
          (blkOk_by (N := ["hands", "web", "counts", "head", "following", "hand"]) (sc := defScope sOrders) (by decide +kernel)) (fun _ _ _ _ _ => pg_name (i := 5) nd rfl (Or.inl rfl)) (fun _ _ _ _ _ => pts_nil)
          (fun _ _ _ _ _ => pe_dget hu (pv 2) (pe_call D3.ok hr1 rfl D3.g D3.kp D3.b .nil pass0 (pa_cons (pv 3) (pa_cons (pe_tup (pa_cons (pv 5) pa_nil)) pa_nil))) (fun _ _ => rfl)))
        (pss_one (ps_dput hu (pv 2) (pv 3) (pe_ifExp (pt_truth (pv 4) (by intro _; rfl)) (pe_callB (cr_sum rfl) (by rfl) Bs (by decide +kernel) (pa_cons (pv 4) pa_nil)) pe_int) (by rfl)))))
      (pss_one (ps_ret (pv 2)))), ?_⟩
    have lys := py.length_eq
    have ndy := srt_nodup srt
    have iny : ∀ x y, (x, y) ∈ ps → x ∈ ys ∧ y ∈ ys := fun x y h => ⟨py.mem_iff.mpr (hw.mem x y h).1, py.mem_iff.mpr (hw.mem x y h).2.1⟩
    have N := nx_ok ndy kr iny (by omega)
    refine fun d hd => ?_
    have s0 : Same H (upd H d (.dT [])) := same_new hd
    have e0 : (upd H d (.dT [])) d = some (.dT []) := upd_same
    generalize upd H d (.dT []) = H0 at s0 e0
    refine ⟨_, rfl, _, rfl, g, t, us, hs, ys, ps, rfl, hg.same s0, hw.same s0, py, srt, hl, fun q vs ms H1 s1 hm lm eq hvs => ?_⟩
    refine ⟨q, vs, ms.map tD, rfl, SqL.of eq, hvs.dp, fun x hx => ?_, fun zs p pz pwz hp => ?_⟩
    · obtain ⟨m, hm', rfl⟩ := List.mem_map.mp hx
      refine ⟨_, rfl, ?_⟩
      have := ((hm m).mp hm').1.length_le
      rw [List.length_map]
      omega
    obtain ⟨ns, hns, pns, ens⟩ := txs_perm hvs pz
    have sp : Same H1 (upd H1 p (.lst (zs.map (·.1)))) := same_new hp
    have ep : (upd H1 p (.lst (zs.map (·.1)))) p = some (.lst (zs.map (·.1))) := upd_same
    have hns2 := hns.same sp
    have lns := Paired.length hns
    have desc : ∀ (i j : Nat) (a b : List Str), i < j → ns[i]? = some a → ns[j]? = some b → b.length ≤ a.length := fun i j a b hij ha hb => by
      have pw2 : (zs.map (·.2)).Pairwise fun x y => lenD y ≤ lenD x := List.pairwise_map.mpr pwz
      rw [ens] at pw2
      have hj := (List.getElem?_eq_some_iff.mp hb)
      have hi := (List.getElem?_eq_some_iff.mp ha)
      obtain ⟨hi1, hi2⟩ := hi
      obtain ⟨hj1, hj2⟩ := hj
      have := List.pairwise_iff_getElem.mp pw2 i j (by rw [List.length_map]; exact hi1) (by rw [List.length_map]; exact hj1) hij
      rw [List.getElem_map, List.getElem_map, hi2, hj2] at this
      have e1 : ∀ m : List Str, lenD (tD m) = m.length := fun m => by show (m.map PyData.str).length = _; rw [List.length_map]
      rw [e1, e1] at this
      exact this
    have hmn : ∀ m, m ∈ ns ↔ m.Sublist ys ∧ Hd ps m := fun m => pns.mem_iff.trans (hm m)
    have ln : ns.length ≤ 256 := by rw [pns.length_eq]; exact lm
    have e2 := sp _ _ (s1 _ _ e0)
    have s2 := (s0.trans s1).trans sp
    generalize upd H1 p (.lst (zs.map (·.1))) = H2 at ep hns2 e2 s2 ⊢
    generalize zs.map (·.1) = xs at ep hns2 lns ⊢
    clear pwz pz hp sp hns eq hvs ens
    have npd : p ≠ d := ne_of ep e2 fun z => nomatch z
    refine ⟨p, rfl, ⟨_, SqL.of ep⟩, ?_⟩
    refine for_list (K := K) (a := p) (xs := xs) (fun i σ H3 => ∃ (o3 o4 : Option V) (kvs : List (List Key × V)), σ = [some (.ref g), some (.ref t), some (.ref d), o3, o4, none] ∧ Kp d H2 H3 ∧ H3 d = some (.dT kvs) ∧ kvs.length ≤ i ∧
        ∀ j m, j < i → ns[j]? = some m → valV kvs (keyL m) = some (.int ((cnt (nxO ps ys) (ys.length - m.length) m : Nat) : Int)))
      ⟨none, none, [], rfl, Kp.refl _ _, e2, Nat.le_refl _, fun j m h => absurd h (Nat.not_lt_zero _)⟩ (fun i σ H3 _ ⟨_, _, _, _, kp, _⟩ => SqL.of (kp _ _ npd ep)) ?_ ?_
    · rintro i x σ H3 hx ⟨o3, o4, kvs, rfl, kp, ed, lk, vk⟩
      obtain ⟨m, hmi, M, rfl, eM2⟩ := hns2.get hx
      have nMd : M ≠ d := ne_of eM2 e2 fun z => nomatch z
      have eM := kp _ _ nMd eM2
      have hil := (List.getElem?_eq_some_iff.mp hmi).1
      obtain ⟨subm, hdm⟩ := (hmn m).mp (List.mem_of_getElem? hmi)
      have srtm : m.Pairwise sLt := srt.sublist subm
      have inm : ∀ x ∈ m, x ∈ ys := fun x hx => subm.subset hx
      have ndm := srt_nodup srtm
      have lm8 := subm.length_le
      have s3 := same_kp s2 kp hd
      have hw3 := hw.same s3
      refine ⟨_, rfl, _, rfl, _, rfl, g, t, .ref M, us, hs, ys, m, ps, rfl, hg.same s3, hw3.at', hw3.prs, ⟨M, rfl, eM⟩, hw3.few, py, srt, hl, fun q3 H4 s4 e4 => ?_⟩
      have e4' : H4 q3 = some (.lst ((nxO ps ys m).map V.str)) := e4
      refine ⟨q3, rfl, ⟨_, SqL.of e4'⟩, fun D hD => ?_⟩
      generalize hn : ys.length - m.length - 1 = n
      have few := N.few m
      refine lc_list (K := K) (a := q3) (xs := (nxO ps ys m).map V.str) (fun j H5 => Same H4 H5 ∧ H5 D = some (.lst ((((nxO ps ys m).take j).map fun x => cnt (nxO ps ys) n (m ++ [x])).map fun c => V.int ((c : Nat) : Int)))) ⟨same_new hD, upd_same⟩ (fun j H5 _ z => SqL.of (z.1 _ _ e4')) ?_ ?_
      · rintro j v H5 hv ⟨s5, eD⟩
        obtain ⟨x, hxj, rfl, _⟩ := str_at hv
        have hxm : x ∈ nxO ps ys m := List.mem_of_getElem? hxj
        obtain ⟨x1, x2, x3⟩ := nxO_mem.mp hxm
        have hjl := (List.getElem?_eq_some_iff.mp hxj).1
        have et : (nxO ps ys m).take (j + 1) = (nxO ps ys m).take j ++ [x] := by rw [List.take_succ, hxj]; rfl
        have s45 := s4.trans s5
        refine ⟨rfl, _, rfl, ?_⟩
        refine ⟨_, rfl, _, rfl, by show 1 ≤ sizeLine; decide, fun T hT => ?_⟩
        have sT : Same H5 (upd H5 T (.tup [.str x])) := same_new hT
        have eT : (upd H5 T (.tup [.str x])) T = some (.tup [.str x]) := upd_same
        generalize upd H5 T (.tup [.str x]) = H6 at sT eT ⊢
        refine ⟨M, T, m, x, rfl, .inl ((s45.trans sT) _ _ eM), .inl eT, by omega, ndm, x2, fun q' m' H7 s7 pm' srt' eq' => ?_⟩
        obtain ⟨hd', in', len'⟩ := head_next hdm inm hxm pm'
        have ed7 := ((s45.trans sT).trans s7) _ _ ed
        have eD7 := (sT.trans s7) _ _ eD
        obtain ⟨j', hj'⟩ := List.mem_iff_getElem?.mp ((hmn m').mpr ⟨srt_sub srt' srt in', hd'⟩)
        have lt' : j' < i := by
          rcases Nat.lt_trichotomy j' i with h | h | h
          · exact h
          · subst h
            rw [hmi] at hj'
            have := Option.some.inj hj'
            rw [← this] at len'
            omega
          · have := desc i j' m m' h hmi hj'
            omega
        have vv := vk j' m' lt' hj'
        have ec : cnt (nxO ps ys) (ys.length - m'.length) m' = cnt (nxO ps ys) n (m ++ [x]) := by
          rw [len', show ys.length - (m.length + 1) = n by omega]
          exact cnt_same N n fun y => pm'.mem_iff
        rw [ec] at vv
        have dg := DGet.t (k := keyL m') ed7 (by rw [keyL_kv]; exact eq')
        rw [vv] at dg
        refine ⟨d, _, rfl, dg, _, eD7, ?_, same_mut ((s5.trans sT).trans s7) hD, ?_⟩
        · rw [List.length_map, List.length_map, List.length_take]
          exact small1000 (by omega)
        · rw [upd_same, et, List.map_append, List.map_append]
          rfl
      · rintro H5 ⟨s5, eD⟩
        rw [List.length_map, List.take_length] at eD
        have s45 := s4.trans s5
        have ed5 := s45 _ _ ed
        have eM5 := s45 _ _ eM
        have lvm : ys.length = m.length + (ys.length - m.length) := by omega
        have val : ∀ v : Int, v = ((cnt (nxO ps ys) (ys.length - m.length) m : Nat) : Int) → sDPut (tVar 2) (tVar 3) (fun _ H Q => Q (.int v) H) { nx := fun σ H' => ∃ (o3 o4 : Option V) (kvs : List (List Key × V)), σ = [some (.ref g), some (.ref t), some (.ref d), o3, o4, none] ∧ Kp d H2 H' ∧ H' d = some (.dT kvs) ∧ kvs.length ≤ i + 1 ∧ ∀ j m, j < i + 1 → ns[j]? = some m → valV kvs (keyL m) = some (.int ((cnt (nxO ps ys) (ys.length - m.length) m : Nat) : Int)), rt := Q } [some (.ref g), some (.ref t), some (.ref d), some (.ref M), some (.ref D), none] H5 := fun v ev => by
          refine ⟨_, rfl, _, rfl, d, _, rfl, .t (k := keyL m) ed5 (by rw [keyL_kv]; exact eM5) (small1000 (by omega)), ?_⟩
          refine ⟨_, _, _, rfl, (kp.trans (Kp.same s45)).trans Kp.put, upd_same, ?_, fun j m2 hj hm2 => ?_⟩
          · have := length_putK kvs (keyL m) (.int v)
            omega
          · rw [valV_put]
            by_cases e : keyL m2 = keyL m
            · rw [if_pos e, keyL_inj e, ev]
            · rw [if_neg e]
              refine vk j m2 ?_ hm2
              rcases Nat.lt_succ_iff_lt_or_eq.mp hj with h | h
              · exact h
              · subst h
                rw [hmi] at hm2
                exact absurd (congrArg keyL (Option.some.inj hm2).symm) e
        refine ⟨_, rfl, _, .inl ⟨_, SqL.of eD, rfl⟩, ?_⟩
        by_cases e : nxO ps ys m = []
        · rw [e]
          refine iteF ?_
          refine val 1 ?_
          have : ys.length - m.length = 0 := Classical.byContradiction fun z => N.some m ndm inm (by omega) e
          rw [this]
          rfl
        · obtain ⟨n', hn'⟩ : ∃ n', ys.length - m.length = n' + 1 := ⟨n, by
            have : m.length < ys.length := Classical.byContradiction fun z => by
              have h0 := List.ne_nil_iff_exists_cons.mp e
              obtain ⟨a, r, ha⟩ := h0
              have ha' : a ∈ nxO ps ys m := by rw [ha]; exact List.mem_cons_self ..
              obtain ⟨a1, a2, _⟩ := nxO_mem.mp ha'
              have := nodup_sub_le (l := m ++ [a]) (m := ys) (by
                rw [List.nodup_append]
                exact ⟨ndm, List.nodup_cons.mpr ⟨List.not_mem_nil, List.nodup_nil⟩, fun y hy z hz e => a2 (by rw [← List.mem_singleton.mp hz, ← e]; exact hy)⟩) fun y hy => by
                rcases List.mem_append.mp hy with z | z
                · exact inm y z
                · rw [List.mem_singleton.mp z]; exact a1
              rw [List.length_append, List.length_singleton] at this
              omega
            omega⟩
          obtain rfl : n = n' := by omega
          rw [show (!(List.map (fun c => V.int ((c : Nat) : Int)) (List.map (fun x => cnt (nxO ps ys) n (m ++ [x])) (nxO ps ys m))).isEmpty) = true by
            cases h0 : nxO ps ys m with
            | nil => exact absurd h0 e
            | cons _ _ => rfl]
          refine iteT ⟨_, rfl, D, ((nxO ps ys m).map fun x => cnt (nxO ps ys) n (m ++ [x])).map fun c => ((c : Nat) : Int), rfl, SqL.of (by rw [eD]; simp [List.map_map, Function.comp_def]), ?_⟩
          rw [sum_ints]
          refine val _ ?_
          rw [hn']
          rfl
    · rintro σ H3 ⟨o3, o4, kvs, rfl, kp, ed, lk, vk⟩
      refine ⟨_, rfl, k d kvs H3 (same_kp s2 kp hd) ed fun m sm im hm' => ?_⟩
      obtain ⟨j, hj⟩ := List.mem_iff_getElem?.mp ((hmn m).mpr ⟨srt_sub sm srt im, hm'⟩)
      have := (List.getElem?_eq_some_iff.mp hj).1
      exact vk j m (by omega) hj
theorem scCount : FnScope ["hands", "web"] ["hands", "web"] (defScope sCount) := ⟨rfl, rfl, rfl, by decide +kernel, rfl, by decide +kernel, by decide +kernel⟩
def spCount : Sp := fun vs H Q _ => ∃ (g t : Addr) (us : List V) (hs ys row : List Str) (ps : List (Str × Str)), vs = [.ref g, .ref t] ∧ LTu H g (hs.map V.str) ∧ WebAt H t us hs ps ∧ ys.Perm hs ∧ ys.Pairwise sLt ∧ hs.length ≤ 8 ∧ KeepR row ps ∧
  ∀ (H' : Hp), Same H H' → Q (.int ((cnt (nxO ps ys) ys.length [] : Nat) : Int)) H'
theorem ok_count {f f1 : Addr} {fd fd1 : FuncData} (F : Fun K "count_rows" "count_rows" sCount f fd) (D : Df P w K mg base CX0 "orders_behind" 5 f1 fd1 ["hands", "web"] spOrders) : FnOk P w K mg base CX0 6 f fd ["hands", "web"] spCount := by
  refine F.ok scCount (fun vs H Q E h => ?_) (fun cdv A outer s H vs Q E hr h => ?_)
  · obtain ⟨g, t, us, hs, ys, row, ps, rfl, _⟩ := h
    rfl
  · obtain ⟨g, t, us, hs, ys, row, ps, rfl, hg, hw, py, srt, hl, kr, k⟩ := h
    have hu := hu_of hr
    refine ⟨_, pss_one (ps_ret (pe_dget hu (pe_call D.ok hr rfl D.g D.kp D.b .nil pass0 (pa_cons (pv 0) (pa_cons (pv 1) pa_nil))) (pe_tup pa_nil) (fun _ _ => rfl))), ?_⟩
    refine ⟨_, rfl, _, rfl, g, t, us, hs, ys, row, ps, rfl, hg, hw, py, srt, hl, kr, fun d kvs H1 s1 ed cd => ?_⟩
    refine ⟨by show 0 ≤ sizeLine; decide, fun T hT => ?_⟩
    have sT : Same H1 (upd H1 T (.tup [])) := same_new hT
    have dg := DGet.t (k := keyL []) (sT _ _ ed) (show (upd H1 T (.tup [])) T = some (.tup ((keyL []).map kV)) from upd_same)
    rw [cd [] List.Pairwise.nil (fun _ h => nomatch h) (fun _ _ h => nomatch h)] at dg
    exact ⟨d, _, rfl, dg, k _ (s1.trans sT)⟩
end
end Ah
set_option Elab.async false
set_option linter.all false
set_option maxRecDepth 100000
set_option maxHeartbeats 4000000
namespace Ah
open PySem PySem.Spec PyProof.Rows L2
abbrev sLawClosed : Stmt := topS 34
abbrev sLawWeb : Stmt := topS 35
/-! ### dicts of pairs put together -/
def putAll (ks ps : List (Str × Str)) : List (Str × Str) := ps.foldl putP ks
theorem putAll_mem : ∀ (ps ks : List (Str × Str)) (q : Str × Str), q ∈ putAll ks ps ↔ q ∈ ks ∨ q ∈ ps
  | [], ks, q => by simp [putAll]
  | p :: r, ks, q => by
    show q ∈ putAll (putP ks p) r ↔ _
    rw [putAll_mem r, putP_mem, List.mem_cons, or_assoc]
theorem putAll_nodup : ∀ (ps : List (Str × Str)) {ks : List (Str × Str)}, ks.Nodup → (putAll ks ps).Nodup
  | [], _, h => h
  | p :: r, _, h => putAll_nodup r (putP_nodup h)
theorem merge_kvs : ∀ (ps ks : List (Str × Str)), mergeT (kvsOf ks) (kvsOf ps) = kvsOf (putAll ks ps)
  | [], ks => rfl
  | p :: r, ks => by
    show mergeT (putK (kvsOf ks) (keyP p) (V.bl true)) (kvsOf r) = _
    rw [putK_kvs, merge_kvs r]
    rfl
/-- an item of a list: a pair of a pair and True -/
def TrP (H : Hp) (v : V) (p : Str × Str) : Prop := ∃ A T : Addr, v = .ref A ∧ H A = some (.tup [.ref T, .bl true]) ∧ H T = some (.tup [.str p.1, .str p.2])
abbrev TrsP (H : Hp) : List V → List (Str × Str) → Prop := Paired (TrP H)
theorem TrP.mut {H : Hp} {D : Addr} {a b : List V} (hD : H D = some (.lst a)) {v : V} {p : Str × Str} (h : TrP H v p) : TrP (upd H D (.lst b)) v p := by
  obtain ⟨A, T, e, h1, h2⟩ := h
  exact ⟨A, T, e, (upd_ne (ne_of h1 hD fun z => nomatch z)).trans h1, (upd_ne (ne_of h2 hD fun z => nomatch z)).trans h2⟩
theorem TrP.same {H H' : Hp} {v : V} {p : Str × Str} (k : Same H H') (h : TrP H v p) : TrP H' v p := by
  obtain ⟨A, T, e, h1, h2⟩ := h
  exact ⟨A, T, e, k _ _ h1, k _ _ h2⟩
theorem TrsP.app {H : Hp} : ∀ {vs ws : List V} {ps qs : List (Str × Str)}, TrsP H vs ps → TrsP H ws qs → TrsP H (vs ++ ws) (ps ++ qs)
  | _, _, _, _, .nil, k => k
  | _, _, _, _, .cons h t, k => .cons h (TrsP.app t k)
theorem TrsP.trs {K : PySem.W.Frag} {H : Hp} : ∀ {vs : List V} {ps : List (Str × Str)}, TrsP H vs ps → ∃ (as : List Addr) (qs : List (Addr × List Key × V)), vs = as.map V.ref ∧ TrsAt K H as qs ∧ qs.map (·.2) = kvsOf ps
  | _, _, .nil => ⟨[], [], rfl, .nil, rfl⟩
  | _, _, .cons (b := p) h t => by
    obtain ⟨as, qs, h1, h2, h3⟩ := TrsP.trs (K := K) t
    obtain ⟨A, T, rfl, hA, hT⟩ := h
    exact ⟨A :: as, (T, keyP p, .bl true) :: qs, by rw [h1]; rfl, .cons ⟨.inl (.inl hA), hT⟩ h2, by rw [List.map_cons, h3]; rfl⟩
/-- what the pairs of one turn are -/
def turnOf (ds : List (Str × Str)) (i : Nat) (ks : List (Str × Str)) (q : Str × Str) : Prop := q ∈ ks ∨ ∃ j p, j < i ∧ ds[j]? = some p ∧ q.1 = p.1 ∧ (p.2, q.2) ∈ ds
theorem PrsV.kpd {d : Addr} {H H' : Hp} (k : Kp d H H') {kvs : List (List Key × V)} (hd : H d = some (.dT kvs)) {vs : List V} {ps : List (Str × Str)} (h : PrsV H vs ps) : PrsV H' vs ps := h.imp fun v p ⟨T, e, hT⟩ => ⟨T, e, k _ _ (ne_of hT hd fun z => nomatch z) hT⟩
theorem prs_few {ks : List (Str × Str)} {ys : List Str} (nd : ks.Nodup) (h : ∀ a c, (a, c) ∈ ks → a ∈ ys ∧ c ∈ ys) (l : ys.length ≤ 8) : ks.length ≤ 64 := by
  have h1 := nodup_sub_le (m := dueOf (fun _ _ => true) ys) nd fun p hp => dueOf_mem.mpr ⟨(h p.1 p.2 hp).1, (h p.1 p.2 hp).2, rfl⟩
  have h2 := dueOf_len (R := fun _ _ => true) (hs := ys)
  have h3 : ys.length * ys.length ≤ 8 * 8 := Nat.mul_le_mul l l
  omega
section
variable {P : Program} {w : World} {K : PySem.W.Frag} {mg : Str → Option Value} {base : Heap}
theorem scLawClosed : FnScope ["pairs", "found", "turn", "some", "a", "b", "pair"] ["pairs"] (defScope sLawClosed) := ⟨rfl, rfl, rfl, by decide +kernel, rfl, by decide +kernel, by decide +kernel⟩
def spLawClosed : Sp := fun vs H Q _ => ∃ (a : Addr) (us : List V) (ps : List (Str × Str)) (row ys : List Str), vs = [.ref a] ∧ H a = some (.lst us) ∧ PrsV H us ps ∧ ps.length ≤ 64 ∧ KeepR row ps ∧ row.length ≤ 8 ∧ ys.Pairwise sLt ∧ ys.length ≤ 8 ∧ (∀ x y, (x, y) ∈ ps → x ∈ ys ∧ y ∈ ys) ∧
  ∀ (t : Addr) (ws : List V) (ds : List (Str × Str)) (H' : Hp), Same H H' → WebAt H' t ws ys ds → KeepR row ds → Q (.ref t) H'
theorem ok_lawClosed {f : Addr} {fd : FuncData} (F : Fun K "_law_closed" "_law_closed" sLawClosed f fd) (B : Blt2 mg) : FnOk P w K mg base CX0 1 f fd ["pairs"] spLawClosed := by
  refine F.ok scLawClosed (fun vs H Q E h => ?_) (fun cdv A outer s H vs Q E hr h => ?_)
  · obtain ⟨a, us, ps, row, ys, rfl, _⟩ := h
    rfl
  · obtain ⟨a, us, ps, row, ys, rfl, ha, hps, lp, kr, lrow, srt, ly, iny, k⟩ := h
    have nd := scLawClosed.nd
    have hu3 : (A.deeper (envOfC "_law_closed" (defScope sLawClosed) s.heap.objs.size f cdv)).units + 3 < cLine := by
      have := hr.units
      omega
    have hu1 : (A.deeper (envOfC "_law_closed" (defScope sLawClosed) s.heap.objs.size f cdv)).units + 1 < cLine := by
      omega
    have hu64 : (A.deeper (envOfC "_law_closed" (defScope sLawClosed) s.heap.objs.size f cdv)).units + 64 < cLine := by
      have := hr.units
      omega
    refine ⟨_, pss_cons (ps_set (i := 1) nd rfl (.inl rfl) (pe_callTy (call_dictPT rfl hu3) (by rfl) B.dict (by decide +kernel) (pa_cons (pe_lc (own := [("pair", 6)]) (g := gName 6) (tt := tYes) (te := tTup (tCons (tVar 6) (tCons (tC (.bl true)) tNil))) rfl nd (pi_list (pv 0))
          (blkOk_by (N := ["pairs", "found", "turn", "some", "a", "b", "pair"]) (sc := defScope sLawClosed) (by decide +kernel)) (fun _ _ _ _ _ => pg_name (i := 6) nd rfl (Or.inl rfl)) (fun _ _ _ _ _ => pts_nil)
          (fun _ _ _ _ _ => pe_tup (pa_cons (pv 6) (pa_cons pe_bl pa_nil)))) pa_nil)))
      (pss_cons (ps_for PassesOwn.never rfl (pi_range1 rfl B.range (pa_cons pe_int pa_nil)) (pg_name (i := 2) nd rfl (.inl rfl))
        (pss_cons (ps_set (i := 3) nd rfl (.inl rfl) (pe_callB (cr_sortedT rfl hu64) (by rfl) B.sorted (by decide +kernel) (pa_cons (pv 1) pa_nil)))
        (pss_one (ps_for PassesOwn.never rfl (pi_list (pv 3)) (pg_tup rfl (pgs_cons (pg_name (i := 4) nd rfl (.inr rfl)) (pgs_cons (pg_name (i := 5) nd rfl (.inr rfl)) pgs_nil)))
          (pss_one (ps_expr (pe_bm PySem.F.plainAttrs_dict PySem.F.slot_dict_update PySem.F.type_dict_update (mt_updT hu1) (pv 1) (pa_cons (pe_callTy (call_dictPT rfl hu3) (by rfl) B.dict (by decide +kernel) (pa_cons (pe_lc (own := [("pair", 6)]) (g := gName 6) (tt := tTest (tOp rEq (tOp (rIxT K) (tVar 6) (tC (.int 0))) (tVar 5))) (te := tTup (tCons (tTup (tCons (tVar 4) (tCons (tOp (rIxT K) (tVar 6) (tC (.int 1))) tNil))) (tCons (tC (.bl true)) tNil))) rfl nd (pi_list (pv 3))
            (blkOk_by (N := ["pairs", "found", "turn", "some", "a", "b", "pair"]) (sc := defScope sLawClosed) (by decide +kernel)) (fun _ _ _ _ _ => pg_name (i := 6) nd rfl (Or.inl rfl))
            (fun _ _ _ _ _ => pts_one (pt_cmpR op_eq (pe_ix (r := rIxT K) ix_tup (pv 6) pe_int (fun _ _ => rfl)) (pv 5) (nomark _)))
            (fun _ _ _ _ _ => pe_tup (pa_cons (pe_tup (pa_cons (pv 4) (pa_cons (pe_ix (r := rIxT K) ix_tup (pv 6) pe_int (fun _ _ => rfl)) pa_nil))) (pa_cons pe_bl pa_nil)))) pa_nil)) pa_nil))))))))
      (pss_one (ps_ret (pe_callTy call_tuple_of (by rfl) B.tuple (by decide +kernel) (pa_cons (pe_callB (cr_sortedT rfl hu64) (by rfl) B.sorted (by decide +kernel) (pa_cons (pv 1) pa_nil)) pa_nil))))), ?_⟩
    have lu := hps.len
    -- sorted(found)
    have sorts : ∀ (d : Addr) (ks : List (Str × Str)) (H1 : Hp) (R : VK), H1 d = some (.dT (kvsOf ks)) → ks.Nodup → (∀ x y, (x, y) ∈ ks → x ∈ ys ∧ y ∈ ys) →
        (∀ (p : Addr) (ws : List V) (ds : List (Str × Str)) (H2 : Hp), Same H1 H2 → H2 p = some (.lst ws) → PrsV H2 ws ds → ds.Pairwise pLt → (∀ q, q ∈ ds ↔ q ∈ ks) → ds.length ≤ 64 → R (.ref p) H2) → rSortedT K [.ref d] H1 R := fun d ks H1 R ed ndk ink kk => by
      have few := prs_few ndk ink ly
      refine ⟨d, kvsOf ks, rfl, .inl ed, ?_, ?_, ?_, ?_, fun bs zs p isk pm e hp => ?_⟩
      · rw [keyD_kvs]; exact prs_alike ks
      · rw [keyD_kvs]; exact prs_sortable ks
      · rw [keyD_kvs]; exact prs_depth ks
      · rw [kvs_len]; omega
      rw [keyD_kvs] at pm e
      have mem : ∀ q, q ∈ ks ↔ q ∈ dueOf (fun x y => decide ((x, y) ∈ ks)) ys := fun q => by
        rw [dueOf_mem, decide_eq_true_iff]
        exact ⟨fun h => ⟨(ink q.1 q.2 h).1, (ink q.1 q.2 h).2, h⟩, fun h => h.2.2⟩
      have ri := dueOf_rises (R := fun x y => decide ((x, y) ∈ ks)) srt
      rw [sort_due ndk mem ri] at e
      have due := keys_sorted isk pm e
      have sp : Same H1 (upd H1 p (.lst (zs.map (·.1)))) := same_new hp
      refine kk p _ _ _ sp upd_same (due.same sp) ri (fun q => (mem q).symm) ?_
      have h2 := dueOf_len (R := fun x y => decide ((x, y) ∈ ks)) (hs := ys)
      have h3 : ys.length * ys.length ≤ 8 * 8 := Nat.mul_le_mul ly ly
      omega
    refine ⟨_, rfl, a, rfl, ⟨_, SqL.of ha⟩, fun D hD => ?_⟩
    refine lc_list (K := K) (a := a) (xs := us) (fun i H1 => Same H H1 ∧ ∃ ws, H1 D = some (.lst ws) ∧ TrsP H1 ws (ps.take i)) ⟨same_new hD, [], upd_same, .nil⟩ (fun i H1 _ z => SqL.of (z.1 _ _ ha)) ?_ ?_
    · rintro i v H1 hv ⟨s1, ws, eD, hws⟩
      obtain ⟨p, hp, vp⟩ := hps.get hv
      obtain ⟨T, rfl, hT⟩ := vp.same s1
      have hil := (List.getElem?_eq_some_iff.mp hv).1
      have et : ps.take (i + 1) = ps.take i ++ [p] := by rw [List.take_succ, hp]; rfl
      have lw := Paired.length hws
      rw [List.length_take] at lw
      refine ⟨rfl, _, rfl, by show 2 ≤ sizeLine; decide, fun A2 hA2 => ?_⟩
      have s2 : Same H1 (upd H1 A2 (.tup [.ref T, .bl true])) := same_new hA2
      have eD2 := s2 _ _ eD
      refine ⟨ws, eD2, small1000 (by omega), same_mut (s1.trans s2) hD, _, upd_same, ?_⟩
      rw [et]
      exact TrsP.app (Paired.mapP hws fun v p z => (z.same s2).mut eD2) (.cons (TrP.mut eD2 ⟨A2, T, rfl, upd_same, s2 _ _ hT⟩) .nil)
    rintro H1 ⟨s1, ws, eD, hws⟩
    rw [lu, List.take_length] at hws
    obtain ⟨as, qs, rfl, htr, eqs⟩ := hws.trs (K := K)
    refine ⟨D, as, qs, rfl, SqL.of eD, htr, fun d hd => ?_⟩
    rw [eqs, show mergeT [] (kvsOf ps) = kvsOf (putAll [] ps) from merge_kvs ps []]
    have s2 : Same H1 (upd H1 d (.dT (kvsOf (putAll [] ps)))) := same_new hd
    have e2 : (upd H1 d (.dT (kvsOf (putAll [] ps)))) d = some (.dT (kvsOf (putAll [] ps))) := upd_same
    have hdH : H d = none := none_of s1 hd
    have s02 := s1.trans s2
    generalize upd H1 d (.dT (kvsOf (putAll [] ps))) = H2 at s2 e2 s02 ⊢
    have m0 : ∀ p, p ∈ putAll [] ps ↔ p ∈ ps := fun p => by rw [putAll_mem]; simp
    refine ⟨4, rfl, by decide, by decide, ?_⟩
    refine for_range (lo := 0) (n := 4) (fun i σ H3 => ∃ (o2 o3 o4 o5 : Option V) (ks : List (Str × Str)), σ = [some (.ref a), some (.ref d), o2, o3, o4, o5, none] ∧ Same H H3 ∧ H3 d = some (.dT (kvsOf ks)) ∧ ks.Nodup ∧ Turn ps ks i ∧ (∀ x y, (x, y) ∈ ks → x ∈ ys ∧ y ∈ ys))
      ⟨none, none, none, none, _, rfl, s02, e2, putAll_nodup ps List.nodup_nil, Turn.init m0, fun x y h => iny x y ((m0 _).mp h)⟩ ?_ ?_
    · rintro i σ H3 hi ⟨o2, o3, o4, o5, ks, rfl, s3, e3, ndk, tk, ink⟩
      refine ⟨_, rfl, ?_⟩
      dsimp (config := { proj := false }) only [tNil]
      refine sorts d ks H3 _ e3 ndk ink fun p us2 ds H4 s4 ep hds ri mds lds => ?_
      have e4 := s4 _ _ e3
      have s04 := s3.trans s4
      have npd : p ≠ d := ne_of ep e4 fun z => nomatch z
      have lds2 := hds.len
      refine ⟨_, rfl, p, rfl, ⟨_, SqL.of ep⟩, ?_⟩
      refine for_list (K := K) (a := p) (xs := us2) (fun j σ H5 => ∃ (o4 o5 : Option V) (ks' : List (Str × Str)), σ = [some (.ref a), some (.ref d), some (.int ((0 : Int) + (i : Nat))), some (.ref p), o4, o5, none] ∧ Kp d H4 H5 ∧ H5 d = some (.dT (kvsOf ks')) ∧ ks'.Nodup ∧ (∀ q, q ∈ ks' ↔ turnOf ds j ks q) ∧ (∀ x y, (x, y) ∈ ks' → x ∈ ys ∧ y ∈ ys))
        ⟨_, _, ks, rfl, Kp.refl _ _, e4, ndk, fun q => ⟨.inl, fun z => z.elim id fun ⟨j, _, h, _⟩ => absurd h (Nat.not_lt_zero _)⟩, ink⟩ (fun j σ H5 _ ⟨_, _, _, _, kp, _⟩ => SqL.of (kp _ _ npd ep)) ?_ ?_
      · rintro j v σ H5 hv ⟨o4, o5, ks', rfl, kp, e5, nd5, m5, in5⟩
        have hds5 := hds.kpd kp e4
        have ep5 := kp _ _ npd ep
        obtain ⟨⟨x, y⟩, hxy, vp⟩ := hds5.get hv
        obtain ⟨T, rfl, hT⟩ := vp
        have hjl := (List.getElem?_eq_some_iff.mp hxy).1
        have xym : (x, y) ∈ ds := List.mem_of_getElem? hxy
        have inds : ∀ q, q ∈ ds → q.1 ∈ ys ∧ q.2 ∈ ys := fun q h => ink q.1 q.2 ((mds q).mp h)
        refine ⟨T, _, rfl, .inl (.inl hT), rfl, _, _, rfl, _, _, rfl, rfl, ?_⟩
        refine ⟨_, rfl, .inr (.inr (.inl ⟨rfl, .inr ⟨_, e5⟩⟩)), ?_⟩
        refine ⟨_, rfl, p, rfl, ⟨_, SqL.of ep5⟩, fun D2 hD2 => ?_⟩
        refine lc_list (K := K) (a := p) (xs := us2) (fun l H6 => Same H5 H6 ∧ ∃ ws, H6 D2 = some (.lst ws) ∧ TrsP H6 ws (((ds.take l).filter fun q => decide (q.1 = y)).map fun q => (x, q.2))) ⟨same_new hD2, [], upd_same, .nil⟩ (fun l H6 _ z => SqL.of (z.1 _ _ ep5)) ?_ ?_
        · rintro l v H6 hv2 ⟨s6, ws, eD2, hws⟩
          obtain ⟨q, hq, vq⟩ := hds5.get hv2
          obtain ⟨T2, rfl, hT2⟩ := vq.same s6
          have hll := (List.getElem?_eq_some_iff.mp hv2).1
          have et : ds.take (l + 1) = ds.take l ++ [q] := by rw [List.take_succ, hq]; rfl
          have lw := Paired.length hws
          have lw2 : ws.length ≤ 64 := by
            rw [lw, List.length_map]
            exact Nat.le_trans (List.length_filter_le _ _) (by rw [List.length_take]; omega)
          rw [et, List.filter_append, List.filter_cons]
          refine ⟨rfl, _, rfl, T2, _, (0 : Nat), .str q.1, rfl, rfl, .inl (.inl hT2), atI_nat rfl, _, rfl, rfl, _, rfl, ?_⟩
          by_cases c : q.1 = y
          · rw [decide_eq_true (congrArg V.str c), if_pos (decide_eq_true c)]
            refine iteT ⟨_, rfl, _, rfl, T2, _, (1 : Nat), .str q.2, rfl, rfl, .inl (.inl hT2), atI_nat rfl, by show 2 ≤ sizeLine; decide, fun T3 hT3 => ?_⟩
            have s7 : Same H6 (upd H6 T3 (.tup [.str x, .str q.2])) := same_new hT3
            refine ⟨by show 2 ≤ sizeLine; decide, fun A3 hA3 => ?_⟩
            have s8 : Same (upd H6 T3 (.tup [.str x, .str q.2])) (upd (upd H6 T3 (.tup [.str x, .str q.2])) A3 (.tup [.ref T3, .bl true])) := same_new hA3
            have s68 := s7.trans s8
            have eD8 := s68 _ _ eD2
            refine ⟨ws, eD8, small1000 (by omega), same_mut (s6.trans s68) hD2, _, upd_same, ?_⟩
            rw [List.map_append]
            exact TrsP.app (Paired.mapP hws fun v p z => (z.same s68).mut eD8) (.cons (TrP.mut eD8 ⟨A3, T3, rfl, upd_same, s8 _ _ upd_same⟩) .nil)
          · rw [decide_eq_false fun z => c (V.str.inj z), if_neg (by rw [decide_eq_false c]; exact Bool.false_ne_true), List.filter_nil, List.append_nil]
            exact iteF ⟨s6, ws, eD2, hws⟩
        · rintro H6 ⟨s6, ws, eD2, hws⟩
          rw [lds2, List.take_length] at hws
          generalize hcs : ((ds.filter fun q => decide (q.1 = y)).map fun q => (x, q.2)) = cs at hws
          have mcs : ∀ q, q ∈ cs ↔ q.1 = x ∧ (y, q.2) ∈ ds := fun q => by
            rw [← hcs, List.mem_map]
            constructor
            · rintro ⟨r, hr, rfl⟩
              obtain ⟨h1, h2⟩ := List.mem_filter.mp hr
              have := of_decide_eq_true h2
              exact ⟨rfl, by rw [← this]; exact h1⟩
            · rintro ⟨h1, h2⟩
              exact ⟨(y, q.2), List.mem_filter.mpr ⟨h2, decide_eq_true rfl⟩, by rw [← h1]⟩
          obtain ⟨as2, qs2, rfl, htr2, eqs2⟩ := hws.trs (K := K)
          refine ⟨D2, as2, qs2, rfl, SqL.of eD2, htr2, fun d2 hd2 => ?_⟩
          rw [eqs2, show mergeT [] (kvsOf cs) = kvsOf (putAll [] cs) from merge_kvs cs []]
          have s7 : Same H6 (upd H6 d2 (.dT (kvsOf (putAll [] cs)))) := same_new hd2
          have e7 : (upd H6 d2 (.dT (kvsOf (putAll [] cs)))) d2 = some (.dT (kvsOf (putAll [] cs))) := upd_same
          have e67 := s6 _ _ e5
          have nd2 : d ≠ d2 := ne_of_none e67 hd2
          generalize upd H6 d2 (.dT (kvsOf (putAll [] cs))) = H7 at s7 e7 ⊢
          have ed7 := s7 _ _ e67
          have mcs0 : ∀ q, q ∈ putAll [] cs ↔ q ∈ cs := fun q => by rw [putAll_mem]; simp
          have incs : ∀ u v, (u, v) ∈ putAll [] cs → u ∈ ys ∧ v ∈ ys := fun u v h => by
            obtain ⟨h1, h2⟩ := (mcs _).mp ((mcs0 _).mp h)
            have e : u = x := h1
            exact ⟨by rw [e]; exact (inds _ xym).1, (inds _ h2).2⟩
          have f1 := prs_few nd5 in5 ly
          have f2 := prs_few (putAll_nodup cs List.nodup_nil) incs ly
          have xyk : (x, y) ∈ ks' := (m5 _).mpr (.inl ((mds _).mp xym))
          refine ⟨d, d2, _, _, rfl, rfl, ed7, e7, nd2, fun z => ?_, ?_, ?_⟩
          · have : ks' = [] := by
              cases ks' with
              | nil => rfl
              | cons _ _ => cases z
            rw [this] at xyk
            cases xyk
          · rw [kvs_len, kvs_len, sizeLine_eq]
            omega
          · rw [merge_kvs]
            refine ⟨_, _, _, rfl, (kp.trans (Kp.same (s6.trans s7))).trans Kp.put, upd_same, putAll_nodup _ nd5, fun q => ?_, fun u v h => ?_⟩
            · rw [putAll_mem, m5, mcs0, mcs]
              unfold turnOf
              constructor
              · rintro ((h | ⟨j', p', h1, h2, h3⟩) | ⟨h1, h2⟩)
                · exact .inl h
                · exact .inr ⟨j', p', by omega, h2, h3⟩
                · exact .inr ⟨j, (x, y), by omega, hxy, h1, h2⟩
              · rintro (h | ⟨j', p', h1, h2, h3⟩)
                · exact .inl (.inl h)
                · rcases Nat.lt_succ_iff_lt_or_eq.mp h1 with h | h
                  · exact .inl (.inr ⟨j', p', h, h2, h3⟩)
                  · subst h
                    rw [hxy] at h2
                    have := Option.some.inj h2
                    subst this
                    exact .inr h3
            · rcases (putAll_mem _ _ _).mp h with z | z
              · exact in5 u v z
              · exact incs u v z
      · rintro σ H5 ⟨o4, o5, ks', rfl, kp, e5, nd5, m5, in5⟩
        rw [lds2] at m5
        refine ⟨_, _, _, _, ks', rfl, same_kp s04 kp hdH, e5, nd5, tk.step fun x z => ?_, in5⟩
        rw [m5]
        unfold turnOf
        constructor
        · rintro (h | ⟨j, p', h1, h2, h3, h4⟩)
          · exact .inl h
          · have hm := List.mem_of_getElem? h2
            have h3' : x = p'.1 := h3
            exact .inr ⟨p'.2, by rw [h3']; exact (mds _).mp hm, (mds _).mp h4⟩
        · rintro (h | ⟨y, h1, h2⟩)
          · exact .inl h
          · obtain ⟨j, hj⟩ := List.mem_iff_getElem?.mp ((mds _).mpr h1)
            exact .inr ⟨j, _, (List.getElem?_eq_some_iff.mp hj).1, hj, rfl, (mds _).mpr h2⟩
    · rintro σ H3 ⟨o2, o3, o4, o5, ks, rfl, s3, e3, ndk, tk, ink⟩
      obtain ⟨thru, krk⟩ := tk.thru kr lrow
      refine ⟨_, rfl, ?_⟩
      dsimp (config := { proj := false }) only [tNil]
      refine sorts d ks H3 _ e3 ndk ink fun p us2 ds H4 s4 ep hds ri mds lds => ?_
      refine ⟨p, us2, rfl, .inl ⟨SqL.of ep, fun t ht => ?_⟩⟩
      have s5 : Same H4 (upd H4 t (.tup us2)) := same_new ht
      refine k t us2 ds _ ((s3.trans s4).trans s5) ⟨.inl upd_same, hds.same s5, ri, lds, fun x y h => ?_, fun x y z h1 h2 => ?_⟩ fun x y h => krk x y ((mds _).mp h)
      · have h' := (mds _).mp h
        refine ⟨(ink x y h').1, (ink x y h').2, fun e => ?_⟩
        have := (krk x y h').2.2
        rw [e] at this
        exact Nat.lt_irrefl _ this
      · exact (mds _).mpr (thru x y z ((mds _).mp h1) ((mds _).mp h2))
theorem scLawWeb : FnScope ["pen", "hands"] ["pen", "hands"] (defScope sLawWeb) := ⟨rfl, rfl, rfl, by decide +kernel, rfl, by decide +kernel, by decide +kernel⟩
def spLawWeb : Sp := fun vs H Q _ => ∃ (p c a : Addr) (hs ys : List Str) (n : Nat), vs = [.ref p, .ref a] ∧ H a = some (.lst (hs.map V.str)) ∧ (∀ x ∈ hs, IsHand x) ∧ hs.Nodup ∧ hs.length ≤ 8 ∧ ys.Perm hs ∧ ys.Pairwise sLt ∧ PenAt H p c n ∧ n + 300 < 1000000 ∧
  ∀ (t : Addr) (ws : List V) (ds : List (Str × Str)) (row : List Str) (H' : Hp), WebAt H' t ws hs ds → KeepR row ds → row.Perm hs → PenAt H' p c (n + hs.length + 100) → Kp p H H' → Q (.ref t) H'
theorem ok_lawWeb {f f1 f2 f3 : Addr} {fd fd1 fd2 fd3 : FuncData} (F : Fun K "_law_web" "_law_web" sLawWeb f fd) (D1 : Df P w K mg base CX0 "_law_closed" 1 f1 fd1 ["pairs"] spLawClosed) (D2 : Df P w K mg base CX0 "_law_pairs_of_row" 3 f2 fd2 ["pen", "row"] spPairsRow) (D3 : Df P w K mg base CX0 "_law_row" 3 f3 fd3 ["pen", "hands"] spLawRow) :
    FnOk P w K mg base CX0 4 f fd ["pen", "hands"] spLawWeb := by
  refine F.ok scLawWeb (fun vs H Q E h => ?_) (fun cdv A outer s H vs Q E hr h => ?_)
  · obtain ⟨p, c, a, hs, ys, n, rfl, _⟩ := h
    rfl
  · obtain ⟨p, c, a, hs, ys, n, rfl, ha, hh, ndh, hl, py, srt, hp, hn, k⟩ := h
    have hr1 : Room 1 _ := hr.mono (by decide)
    refine ⟨_, pss_one (ps_ret (pe_call D1.ok hr1 rfl D1.g D1.kp D1.b .nil pass0 (pa_cons (pe_call D2.ok hr rfl D2.g D2.kp D2.b .nil pass0 (pa_cons (pv 0) (pa_cons (pe_call D3.ok hr rfl D3.g D3.kp D3.b .nil pass0 (pa_cons (pv 0) (pa_cons (pv 1) pa_nil))) pa_nil))) pa_nil))), ?_⟩
    refine ⟨_, rfl, _, rfl, _, rfl, p, c, a, hs, n, rfl, .inl ha, hh, by omega, hp, by omega, fun b row H1 pr fr hp1 kp1 => ?_⟩
    have lr := pr.length_eq
    refine ⟨p, c, b, row, _, rfl, fr.rd, by omega, hp1, by omega, fun q us ps H2 eq hps ofp lps hp2 kp2 => ?_⟩
    have ndr := pr.nodup_iff.mpr ndh
    have kr : KeepR row ps := fun x y h => by
      obtain ⟨i, j, hij, hi, hj⟩ := ofp x y h
      have e1 : row.idxOf x = i := by
        have h1 := idx_at (List.mem_of_getElem? hi)
        obtain ⟨a1, a2⟩ := List.getElem?_eq_some_iff.mp hi
        obtain ⟨b1, b2⟩ := List.getElem?_eq_some_iff.mp h1
        exact nd_inj ndr b1 a1 (by rw [a2, b2])
      have e2 : row.idxOf y = j := by
        have h1 := idx_at (List.mem_of_getElem? hj)
        obtain ⟨a1, a2⟩ := List.getElem?_eq_some_iff.mp hj
        obtain ⟨b1, b2⟩ := List.getElem?_eq_some_iff.mp h1
        exact nd_inj ndr b1 a1 (by rw [a2, b2])
      exact ⟨List.mem_of_getElem? hi, List.mem_of_getElem? hj, by omega⟩
    have iny : ∀ x y, (x, y) ∈ ps → x ∈ ys ∧ y ∈ ys := fun x y h => ⟨py.mem_iff.mpr (pr.mem_iff.mp (kr x y h).1), py.mem_iff.mpr (pr.mem_iff.mp (kr x y h).2.1)⟩
    have ly := py.length_eq
    refine ⟨q, us, ps, row, ys, rfl, eq, hps, by omega, kr, by omega, srt, by omega, iny, fun t ws ds H3 s3 hw krd => ?_⟩
    refine k t ws ds row H3 ⟨hw.at', hw.prs, hw.rises, hw.few, fun x y h => ?_, hw.thru⟩ krd pr (hp2.keep s3) ((kp1.trans kp2).trans (Kp.same s3))
    exact ⟨py.mem_iff.mp (hw.mem x y h).1, py.mem_iff.mp (hw.mem x y h).2.1, (hw.mem x y h).2.2⟩
end
end Ah
set_option Elab.async false
set_option linter.all false
set_option maxRecDepth 100000
set_option maxHeartbeats 4000000
namespace Ah
open PySem
/-! ### sums -/
def S {α : Type} (l : List α) (f : α → Nat) : Nat := sumN (l.map f)
theorem S_cons {α : Type} (a : α) (l : List α) (f : α → Nat) : S (a :: l) f = f a + S l f := rfl
theorem S_perm {α : Type} {l l' : List α} (p : l.Perm l') (f : α → Nat) : S l f = S l' f := by
  induction p with
  | nil => rfl
  | cons x _ ih => rw [S_cons, S_cons, ih]
  | swap x y l => rw [S_cons, S_cons, S_cons, S_cons]; omega
  | trans _ _ h1 h2 => rw [h1, h2]
theorem S_congr {α : Type} {l : List α} {f g : α → Nat} (h : ∀ x ∈ l, f x = g x) : S l f = S l g := by
  unfold S
  rw [List.map_congr_left h]
theorem S_append {α : Type} (l l' : List α) (f : α → Nat) : S (l ++ l') f = S l f + S l' f := by
  unfold S
  rw [List.map_append, sumN_append]
theorem S_add {α : Type} (l : List α) (f g : α → Nat) : S l (fun x => f x + g x) = S l f + S l g := by
  induction l with
  | nil => rfl
  | cons a r ih => rw [S_cons, S_cons, S_cons, ih]; omega
theorem S_mul {α : Type} (l : List α) (f : α → Nat) (k : Nat) : S l (fun x => f x * k) = S l f * k := by
  induction l with
  | nil => simp [S, sumN]
  | cons a r ih => rw [S_cons, S_cons, ih, Nat.add_mul]
theorem S_zero {α : Type} (l : List α) : S l (fun _ => 0) = 0 := by
  induction l with
  | nil => rfl
  | cons a r ih => rw [S_cons, ih]
theorem S_filter {α : Type} (l : List α) (p : α → Bool) (f : α → Nat) : S (l.filter p) f = S l fun x => if p x = true then f x else 0 := by
  induction l with
  | nil => rfl
  | cons a r ih =>
    rw [List.filter_cons, S_cons]
    split
    · rw [S_cons, ih]
    · rw [ih, Nat.zero_add]
theorem S_swap {α β : Type} (l : List α) (r : List β) (g : α → β → Nat) : S l (fun x => S r fun y => g x y) = S r fun y => S l fun x => g x y := by
  induction l with
  | nil =>
    rw [show (fun y => S ([] : List α) fun x => g x y) = fun _ => 0 from rfl, S_zero]
    rfl
  | cons a l ih =>
    rw [S_cons, ih, ← S_add]
    rfl
/-! ### a hand left out -/
def rem (ps : List (Str × Str)) (x : Str) : List (Str × Str) := ps.filter fun p => decide (x ≠ p.1 ∧ x ≠ p.2)
def remY (ys : List Str) (x : Str) : List Str := ys.filter fun y => decide (y ≠ x)
theorem rem_mem {ps : List (Str × Str)} {x a b : Str} : (a, b) ∈ rem ps x ↔ (a, b) ∈ ps ∧ x ≠ a ∧ x ≠ b := by
  unfold rem
  rw [List.mem_filter, decide_eq_true_iff]
theorem remY_mem {ys : List Str} {x y : Str} : y ∈ remY ys x ↔ y ∈ ys ∧ y ≠ x := by
  unfold remY
  rw [List.mem_filter, decide_eq_true_iff]
theorem remY_srt {ys : List Str} {x : Str} (h : ys.Pairwise sLt) : (remY ys x).Pairwise sLt := h.sublist List.filter_sublist
theorem cnt_congr {nx nx' : List Str → List Str} (P : List Str → Prop) (h : ∀ m, P m → nx m = nx' m) (st : ∀ m x, P m → x ∈ nx m → P (m ++ [x])) : ∀ (n : Nat) {m : List Str}, P m → cnt nx n m = cnt nx' n m
  | 0, _, _ => rfl
  | n + 1, m, pm => by
    show S (nx m) (fun x => cnt nx n (m ++ [x])) = S (nx' m) fun x => cnt nx' n (m ++ [x])
    rw [← h m pm]
    exact S_congr fun x hx => cnt_congr P h st n (st m x pm hx)
theorem nx_less {ps : List (Str × Str)} {ys : List Str} (srt : ys.Pairwise sLt) (x : Str) (m : List Str) : nxO ps ys (x :: m) = nxO (rem ps x) (remY ys x) m := by
  refine srt_eq (nxO_srt srt) (nxO_srt (remY_srt srt)) fun y => ?_
  rw [nxO_mem, nxO_mem, remY_mem]
  constructor
  · rintro ⟨h1, h2, h3⟩
    have h2' : y ≠ x ∧ y ∉ m := ⟨fun e => h2 (e ▸ List.mem_cons_self ..), fun z => h2 (List.mem_cons_of_mem _ z)⟩
    refine ⟨⟨h1, h2'.1⟩, h2'.2, fun a ha => ?_⟩
    obtain ⟨g1, g2, _⟩ := rem_mem.mp ha
    exact (List.mem_cons.mp (h3 a g1)).resolve_left fun e => g2 e.symm
  · rintro ⟨⟨h1, h2⟩, h3, h4⟩
    refine ⟨h1, fun z => (List.mem_cons.mp z).elim h2 h3, fun a ha => ?_⟩
    by_cases e : x = a
    · rw [e]; exact List.mem_cons_self ..
    · exact List.mem_cons_of_mem _ (h4 a (rem_mem.mpr ⟨ha, e, fun q => h2 q.symm⟩))
theorem cnt_less {ps : List (Str × Str)} {ys : List Str} (srt : ys.Pairwise sLt) (x : Str) : ∀ (n : Nat) (m : List Str), cnt (nxO ps ys) n (x :: m) = cnt (nxO (rem ps x) (remY ys x)) n m
  | 0, _ => rfl
  | n + 1, m => by
    show S (nxO ps ys (x :: m)) (fun y => cnt (nxO ps ys) n (x :: m ++ [y])) = S (nxO (rem ps x) (remY ys x) m) fun y => cnt (nxO (rem ps x) (remY ys x)) n (m ++ [y])
    rw [nx_less srt]
    exact S_congr fun y _ => cnt_less srt x n (m ++ [y])
/-- by the first hands -/
theorem cnt_front {ps : List (Str × Str)} {ys : List Str} (srt : ys.Pairwise sLt) (n : Nat) : cnt (nxO ps ys) (n + 1) [] = S (ys.filter fun x => decide (∀ p ∈ ps, p.2 ≠ x)) fun x => cnt (nxO (rem ps x) (remY ys x)) n [] := by
  have e : nxO ps ys [] = ys.filter fun x => decide (∀ p ∈ ps, p.2 ≠ x) := srt_eq (nxO_srt srt) (srt.sublist List.filter_sublist) fun x => by
    rw [nxO_mem, List.mem_filter, decide_eq_true_iff]
    constructor
    · rintro ⟨h1, _, h3⟩
      exact ⟨h1, fun p hp e => by have := h3 p.1 (by rw [← e]; exact hp); cases this⟩
    · rintro ⟨h1, h2⟩
      exact ⟨h1, List.not_mem_nil, fun a ha => absurd rfl (h2 _ ha)⟩
  show S (nxO ps ys []) (fun x => cnt (nxO ps ys) n ([] ++ [x])) = _
  rw [e]
  exact S_congr fun x _ => cnt_less srt x n []
/-- by the last hands -/
def lasts (ps : List (Str × Str)) (ys m : List Str) : List Str := ys.filter fun x => decide (x ∉ m ∧ ∀ p ∈ ps, p.1 ≠ x)
theorem cnt_back {ps : List (Str × Str)} {ys : List Str} (srt : ys.Pairwise sLt) (iny : ∀ x y, (x, y) ∈ ps → x ∈ ys ∧ y ∈ ys ∧ x ≠ y) : ∀ (n : Nat) {m : List Str}, Lv ys (n + 1) m → Hd ps m →
    cnt (nxO ps ys) (n + 1) m = S (lasts ps ys m) fun x => cnt (nxO (rem ps x) (remY ys x)) n m
  | 0, m, lv, hd => by
    have only : ∀ x y, x ∈ ys → y ∈ ys → x ∉ m → y ∉ m → x = y := fun x y hx hy nx ny => Classical.byContradiction fun ne => by
      have := nodup_sub_le (l := m ++ [x, y]) (m := ys) (by
        rw [List.nodup_append]
        refine ⟨lv.nd, by simp [ne], fun a ha b hb e => ?_⟩
        rcases List.mem_cons.mp hb with z | z
        · exact nx (by rw [← z, ← e]; exact ha)
        · rw [List.mem_singleton] at z
          exact ny (by rw [← z, ← e]; exact ha)) fun z hz => by
        rcases List.mem_append.mp hz with q | q
        · exact lv.sub z q
        · rcases List.mem_cons.mp q with w | w
          · exact w ▸ hx
          · rw [List.mem_singleton.mp w]; exact hy
      have l := lv.len
      rw [List.length_append] at this
      simp at this
      omega
    have e : nxO ps ys m = lasts ps ys m := srt_eq (nxO_srt srt) (srt.sublist List.filter_sublist) fun x => by
      unfold lasts
      rw [nxO_mem, List.mem_filter, decide_eq_true_iff]
      constructor
      · rintro ⟨h1, h2, h3⟩
        refine ⟨h1, h2, fun p hp q => ?_⟩
        obtain ⟨g1, g2, g3⟩ := iny p.1 p.2 hp
        by_cases w : p.2 ∈ m
        · exact h2 (q ▸ hd p hp w)
        · exact g3 (q.trans (only x p.2 h1 g2 h2 w))
      · rintro ⟨h1, h2, h3⟩
        refine ⟨h1, h2, fun a ha => Classical.byContradiction fun w => ?_⟩
        obtain ⟨g1, g2, g3⟩ := iny a x ha
        exact g3 (only a x g1 h1 w h2)
    show S (nxO ps ys m) (fun x => cnt (nxO ps ys) 0 (m ++ [x])) = _
    rw [e]
    rfl
  | n + 1, m, lv, hd => by
    have iny2 : ∀ x y, (x, y) ∈ ps → x ∈ ys ∧ y ∈ ys := fun x y h => ⟨(iny x y h).1, (iny x y h).2.1⟩
    show S (nxO ps ys m) (fun y => cnt (nxO ps ys) (n + 1) (m ++ [y])) = S (lasts ps ys m) fun x => S (nxO (rem ps x) (remY ys x) m) fun y => cnt (nxO (rem ps x) (remY ys x)) n (m ++ [y])
    have e1 : ∀ y ∈ nxO ps ys m, cnt (nxO ps ys) (n + 1) (m ++ [y]) = S (lasts ps ys m) fun x => if decide (x ≠ y) = true then cnt (nxO (rem ps x) (remY ys x)) n (m ++ [y]) else 0 := fun y hy => by
      obtain ⟨h1, h2, h3⟩ := nxO_mem.mp hy
      have lv' : Lv ys (n + 1) (m ++ [y]) := by
        refine ⟨?_, fun z hz => ?_, ?_⟩
        · rw [List.nodup_append]
          exact ⟨lv.nd, List.nodup_cons.mpr ⟨List.not_mem_nil, List.nodup_nil⟩, fun a ha b hb e => h2 (by rw [← List.mem_singleton.mp hb, ← e]; exact ha)⟩
        · rcases List.mem_append.mp hz with q | q
          · exact lv.sub z q
          · rw [List.mem_singleton.mp q]; exact h1
        · have := lv.len
          rw [List.length_append, List.length_singleton]
          omega
      rw [cnt_back srt iny n lv' (head_next hd lv.sub hy (List.Perm.refl _)).1, ← S_filter]
      have el : lasts ps ys (m ++ [y]) = (lasts ps ys m).filter fun x => decide (x ≠ y) := by
        unfold lasts
        rw [List.filter_filter]
        refine List.filter_congr fun x _ => ?_
        rw [Bool.eq_iff_iff, Bool.and_eq_true, decide_eq_true_iff, decide_eq_true_iff, decide_eq_true_iff, List.mem_append, List.mem_singleton]
        constructor
        · rintro ⟨g1, g2⟩
          exact ⟨fun e => g1 (.inr e), fun e => g1 (.inl e), g2⟩
        · rintro ⟨g1, g2, g3⟩
          exact ⟨fun e => e.elim g2 g1, g3⟩
      rw [el]
    have e2 : ∀ x ∈ lasts ps ys m, (S (nxO (rem ps x) (remY ys x) m) fun y => cnt (nxO (rem ps x) (remY ys x)) n (m ++ [y])) = S (nxO ps ys m) fun y => if decide (x ≠ y) = true then cnt (nxO (rem ps x) (remY ys x)) n (m ++ [y]) else 0 := fun x hx => by
      have hx' := (List.mem_filter.mp hx).2
      rw [decide_eq_true_iff] at hx'
      rw [← S_filter]
      have en : nxO (rem ps x) (remY ys x) m = (nxO ps ys m).filter fun y => decide (x ≠ y) := srt_eq (nxO_srt (remY_srt srt)) ((nxO_srt srt).sublist List.filter_sublist) fun y => by
        rw [nxO_mem, List.mem_filter, nxO_mem, remY_mem, decide_eq_true_iff]
        constructor
        · rintro ⟨⟨g1, g2⟩, g3, g4⟩
          exact ⟨⟨g1, g3, fun a ha => g4 a (rem_mem.mpr ⟨ha, fun e => hx'.2 _ ha e.symm, fun e => g2 e.symm⟩)⟩, fun e => g2 e.symm⟩
        · rintro ⟨⟨g1, g2, g3⟩, g4⟩
          exact ⟨⟨g1, fun e => g4 e.symm⟩, g2, fun a ha => g3 a (rem_mem.mp ha).1⟩
      rw [en]
    rw [S_congr e1, S_congr e2]
    exact S_swap _ _ fun y x => if decide (x ≠ y) = true then cnt (nxO (rem ps x) (remY ys x)) n (m ++ [y]) else 0
end Ah
set_option Elab.async false
set_option linter.all false
set_option maxRecDepth 100000
set_option maxHeartbeats 4000000
namespace Ah
open PySem
def ch : Nat → Nat → Nat
  | _, 0 => 1
  | 0, _ + 1 => 0
  | n + 1, k + 1 => ch n k + ch n (k + 1)
theorem ch_zero (n : Nat) : ch n 0 = 1 := by cases n <;> rfl
theorem ch_over : ∀ {n k : Nat}, n < k → ch n k = 0
  | 0, k + 1, _ => rfl
  | n + 1, k + 1, h => by
    show ch n k + ch n (k + 1) = 0
    rw [ch_over (by omega), ch_over (by omega)]
structure Parts (yF yB yU : List Str) : Prop where
  sF : yF.Pairwise sLt
  sB : yB.Pairwise sLt
  sU : yU.Pairwise sLt
  dis : ∀ x ∈ yF, x ∉ yB
  mem : ∀ x, x ∈ yU ↔ x ∈ yF ∨ x ∈ yB
def inY (y m : List Str) : List Str := m.filter fun x => decide (x ∈ y)
theorem inY_mem {y m : List Str} {x : Str} : x ∈ inY y m ↔ x ∈ m ∧ x ∈ y := by
  unfold inY
  rw [List.mem_filter, decide_eq_true_iff]
theorem inY_in {y m : List Str} {x : Str} (h : x ∈ y) : inY y (m ++ [x]) = inY y m ++ [x] := by
  unfold inY
  rw [List.filter_append, List.filter_cons, if_pos (decide_eq_true h)]
  rfl
theorem inY_out {y m : List Str} {x : Str} (h : x ∉ y) : inY y (m ++ [x]) = inY y m := by
  unfold inY
  rw [List.filter_append, List.filter_cons, if_neg (by rw [decide_eq_false h]; exact Bool.false_ne_true), List.filter_nil, List.append_nil]
theorem Lv.all {y m : List Str} (nd : y.Nodup) (h : Lv y 0 m) : ∀ x ∈ y, x ∈ m := fun x hx => Classical.byContradiction fun n => by
  have := nodup_sub_le (l := m ++ [x]) (m := y) (by
    rw [List.nodup_append]
    exact ⟨h.nd, List.nodup_cons.mpr ⟨List.not_mem_nil, List.nodup_nil⟩, fun a ha b hb e => n (by rw [← List.mem_singleton.mp hb, ← e]; exact ha)⟩) fun z hz => by
    rcases List.mem_append.mp hz with q | q
    · exact h.sub z q
    · rw [List.mem_singleton.mp q]; exact hx
  have l := h.len
  rw [List.length_append, List.length_singleton] at this
  omega
theorem Lv.more {y m : List Str} {n : Nat} {x : Str} (h : Lv y (n + 1) m) (hx : x ∈ y) (nx : x ∉ m) : Lv y n (m ++ [x]) := by
  refine ⟨?_, fun z hz => ?_, ?_⟩
  · rw [List.nodup_append]
    exact ⟨h.nd, List.nodup_cons.mpr ⟨List.not_mem_nil, List.nodup_nil⟩, fun a ha b hb e => nx (by rw [← List.mem_singleton.mp hb, ← e]; exact ha)⟩
  · rcases List.mem_append.mp hz with q | q
    · exact h.sub z q
    · rw [List.mem_singleton.mp q]; exact hx
  · have := h.len
    rw [List.length_append, List.length_singleton]
    omega
section
variable {yF yB yU : List Str} {pF pB pU : List (Str × Str)}
theorem par_nx (T : Parts yF yB yU) (iF : ∀ x y, (x, y) ∈ pF → x ∈ yF ∧ y ∈ yF) (iB : ∀ x y, (x, y) ∈ pB → x ∈ yB ∧ y ∈ yB) (eU : ∀ p, p ∈ pU ↔ p ∈ pF ∨ p ∈ pB) (m : List Str) :
    (nxO pU yU m).Perm (nxO pF yF (inY yF m) ++ nxO pB yB (inY yB m)) := by
  have nd1 := srt_nodup (nxO_srt (ps := pU) (m := m) T.sU)
  have nd2 : (nxO pF yF (inY yF m) ++ nxO pB yB (inY yB m)).Nodup := by
    rw [List.nodup_append]
    exact ⟨srt_nodup (nxO_srt T.sF), srt_nodup (nxO_srt T.sB), fun a ha b hb e => T.dis a (nxO_mem.mp ha).1 (e ▸ (nxO_mem.mp hb).1)⟩
  refine (List.perm_ext_iff_of_nodup nd1 nd2).mpr fun x => ?_
  rw [List.mem_append, nxO_mem, nxO_mem, nxO_mem, T.mem]
  constructor
  · rintro ⟨h1 | h1, h2, h3⟩
    · exact .inl ⟨h1, fun z => h2 (inY_mem.mp z).1, fun a ha => inY_mem.mpr ⟨h3 a ((eU _).mpr (.inl ha)), (iF _ _ ha).1⟩⟩
    · exact .inr ⟨h1, fun z => h2 (inY_mem.mp z).1, fun a ha => inY_mem.mpr ⟨h3 a ((eU _).mpr (.inr ha)), (iB _ _ ha).1⟩⟩
  · rintro (⟨h1, h2, h3⟩ | ⟨h1, h2, h3⟩)
    · exact ⟨.inl h1, fun z => h2 (inY_mem.mpr ⟨z, h1⟩), fun a ha => ((eU _).mp ha).elim (fun q => (inY_mem.mp (h3 a q)).1) fun q => absurd (iB _ _ q).2 (T.dis x h1)⟩
    · exact ⟨.inr h1, fun z => h2 (inY_mem.mpr ⟨z, h1⟩), fun a ha => ((eU _).mp ha).elim (fun q => absurd h1 (T.dis x (iF _ _ q).2)) fun q => (inY_mem.mp (h3 a q)).1⟩
theorem cnt_par (T : Parts yF yB yU) (iF : ∀ x y, (x, y) ∈ pF → x ∈ yF ∧ y ∈ yF) (iB : ∀ x y, (x, y) ∈ pB → x ∈ yB ∧ y ∈ yB) (eU : ∀ p, p ∈ pU ↔ p ∈ pF ∨ p ∈ pB) : ∀ (n a b : Nat) (m : List Str), n = a + b → Lv yF a (inY yF m) → Lv yB b (inY yB m) →
    cnt (nxO pU yU) n m = cnt (nxO pF yF) a (inY yF m) * cnt (nxO pB yB) b (inY yB m) * ch n a
  | 0, a, b, m, e, lF, lB => by
    obtain rfl : a = 0 := by omega
    obtain rfl : b = 0 := by omega
    rfl
  | n + 1, a, b, m, e, lF, lB => by
    have ndF := srt_nodup T.sF
    have ndB := srt_nodup T.sB
    show S (nxO pU yU m) (fun x => cnt (nxO pU yU) n (m ++ [x])) = _
    rw [S_perm (par_nx T iF iB eU m), S_append]
    have f1 : ∀ a', a = a' + 1 → (S (nxO pF yF (inY yF m)) fun x => cnt (nxO pU yU) n (m ++ [x])) = cnt (nxO pF yF) a (inY yF m) * (cnt (nxO pB yB) b (inY yB m) * ch n a') := fun a' ea => by
      subst ea
      show _ = S (nxO pF yF (inY yF m)) (fun x => cnt (nxO pF yF) a' (inY yF m ++ [x])) * _
      rw [← S_mul]
      refine S_congr fun x hx => ?_
      obtain ⟨h1, h2, _⟩ := nxO_mem.mp hx
      have eF : inY yF (m ++ [x]) = inY yF m ++ [x] := inY_in h1
      have eB : inY yB (m ++ [x]) = inY yB m := inY_out (T.dis x h1)
      rw [cnt_par T iF iB eU n a' b (m ++ [x]) (by omega) (by rw [eF]; exact lF.more h1 h2) (by rw [eB]; exact lB), eF, eB, Nat.mul_assoc]
    have f2 : ∀ b', b = b' + 1 → (S (nxO pB yB (inY yB m)) fun x => cnt (nxO pU yU) n (m ++ [x])) = cnt (nxO pB yB) b (inY yB m) * (cnt (nxO pF yF) a (inY yF m) * ch n a) := fun b' eb => by
      subst eb
      show _ = S (nxO pB yB (inY yB m)) (fun x => cnt (nxO pB yB) b' (inY yB m ++ [x])) * _
      rw [← S_mul]
      refine S_congr fun x hx => ?_
      obtain ⟨h1, h2, _⟩ := nxO_mem.mp hx
      have nF : x ∉ yF := fun z => T.dis x z h1
      have eB : inY yB (m ++ [x]) = inY yB m ++ [x] := inY_in h1
      have eF : inY yF (m ++ [x]) = inY yF m := inY_out nF
      rw [cnt_par T iF iB eU n a b' (m ++ [x]) (by omega) (by rw [eF]; exact lF) (by rw [eB]; exact lB.more h1 h2), eF, eB, Nat.mul_comm (cnt (nxO pF yF) a (inY yF m)), Nat.mul_assoc]
    have z1 : a = 0 → nxO pF yF (inY yF m) = [] := fun ea => by
      subst ea
      refine List.eq_nil_iff_forall_not_mem.mpr fun x hx => ?_
      obtain ⟨h1, h2, _⟩ := nxO_mem.mp hx
      exact h2 (lF.all ndF x h1)
    have z2 : b = 0 → nxO pB yB (inY yB m) = [] := fun eb => by
      subst eb
      refine List.eq_nil_iff_forall_not_mem.mpr fun x hx => ?_
      obtain ⟨h1, h2, _⟩ := nxO_mem.mp hx
      exact h2 (lB.all ndB x h1)
    generalize hx : cnt (nxO pF yF) a (inY yF m) = X at f1 f2 ⊢
    generalize hy : cnt (nxO pB yB) b (inY yB m) = Y at f1 f2 ⊢
    cases a with
    | zero =>
      rw [z1 rfl, f2 n (by omega), ch_zero, ch_zero]
      show 0 + Y * (X * 1) = X * Y * 1
      rw [Nat.zero_add, Nat.mul_one, Nat.mul_one, Nat.mul_comm]
    | succ a' =>
      rw [f1 a' rfl]
      cases b with
      | zero =>
        rw [z2 rfl]
        show X * (Y * ch n a') + 0 = X * Y * (ch n a' + ch n (a' + 1))
        rw [ch_over (show n < a' + 1 by omega), Nat.add_zero, Nat.add_zero, Nat.mul_assoc]
      | succ b' =>
        rw [f2 b' rfl]
        show X * (Y * ch n a') + Y * (X * ch n (a' + 1)) = X * Y * (ch n a' + ch n (a' + 1))
        rw [Nat.mul_add, Nat.mul_assoc, Nat.mul_assoc, Nat.mul_left_comm Y X]
theorem cnt_ser (T : Parts yF yB yU) (iF : ∀ x y, (x, y) ∈ pF → x ∈ yF ∧ y ∈ yF) (iB : ∀ x y, (x, y) ∈ pB → x ∈ yB ∧ y ∈ yB) (eU : ∀ x y, (x, y) ∈ pU ↔ (x, y) ∈ pF ∨ (x, y) ∈ pB ∨ (x ∈ yF ∧ y ∈ yB)) : ∀ (n a b : Nat) (m : List Str), n = a + b → Lv yF a (inY yF m) → Lv yB b (inY yB m) → (inY yB m = [] ∨ a = 0) →
    cnt (nxO pU yU) n m = cnt (nxO pF yF) a (inY yF m) * cnt (nxO pB yB) b (inY yB m)
  | 0, a, b, m, e, lF, lB, _ => by
    obtain rfl : a = 0 := by omega
    obtain rfl : b = 0 := by omega
    rfl
  | n + 1, a, b, m, e, lF, lB, hm => by
    have ndF := srt_nodup T.sF
    show S (nxO pU yU m) (fun x => cnt (nxO pU yU) n (m ++ [x])) = _
    cases a with
    | zero =>
      obtain rfl : b = n + 1 := by omega
      have allF := lF.all ndF
      have en : nxO pU yU m = nxO pB yB (inY yB m) := srt_eq (nxO_srt T.sU) (nxO_srt T.sB) fun x => by
        rw [nxO_mem, nxO_mem, T.mem]
        constructor
        · rintro ⟨h1 | h1, h2, h3⟩
          · exact absurd (inY_mem.mp (allF x h1)).1 h2
          · exact ⟨h1, fun z => h2 (inY_mem.mp z).1, fun a ha => inY_mem.mpr ⟨h3 a ((eU _ _).mpr (.inr (.inl ha))), (iB _ _ ha).1⟩⟩
        · rintro ⟨h1, h2, h3⟩
          exact ⟨.inr h1, fun z => h2 (inY_mem.mpr ⟨z, h1⟩), fun a ha => ((eU _ _).mp ha).elim (fun q => absurd h1 (T.dis x (iF _ _ q).2)) fun q => q.elim (fun q => (inY_mem.mp (h3 a q)).1) fun q => (inY_mem.mp (allF a q.1)).1⟩
      rw [en]
      show _ = 1 * S (nxO pB yB (inY yB m)) fun x => cnt (nxO pB yB) n (inY yB m ++ [x])
      rw [Nat.one_mul]
      refine S_congr fun x hx => ?_
      obtain ⟨h1, h2, _⟩ := nxO_mem.mp hx
      have nF : x ∉ yF := fun z => T.dis x z h1
      have eB : inY yB (m ++ [x]) = inY yB m ++ [x] := inY_in h1
      have eF : inY yF (m ++ [x]) = inY yF m := inY_out nF
      rw [cnt_ser T iF iB eU n 0 n (m ++ [x]) (by omega) (by rw [eF]; exact lF) (by rw [eB]; exact lB.more h1 h2) (.inr rfl), eB]
      show 1 * _ = _
      rw [Nat.one_mul]
    | succ a' =>
      have hm0 : inY yB m = [] := hm.resolve_right fun z => by omega
      obtain ⟨w, hw, nw⟩ : ∃ w ∈ yF, w ∉ inY yF m := Classical.byContradiction fun z => by
        have := nodup_sub_le (m := inY yF m) ndF fun x hx => Classical.byContradiction fun q => z ⟨x, hx, q⟩
        have := lF.len
        omega
      have nwm : w ∉ m := fun z => nw (inY_mem.mpr ⟨z, hw⟩)
      have en : nxO pU yU m = nxO pF yF (inY yF m) := srt_eq (nxO_srt T.sU) (nxO_srt T.sF) fun x => by
        rw [nxO_mem, nxO_mem, T.mem]
        constructor
        · rintro ⟨h1 | h1, h2, h3⟩
          · exact ⟨h1, fun z => h2 (inY_mem.mp z).1, fun a ha => inY_mem.mpr ⟨h3 a ((eU _ _).mpr (.inl ha)), (iF _ _ ha).1⟩⟩
          · exact absurd (h3 w ((eU _ _).mpr (.inr (.inr ⟨hw, h1⟩)))) nwm
        · rintro ⟨h1, h2, h3⟩
          exact ⟨.inl h1, fun z => h2 (inY_mem.mpr ⟨z, h1⟩), fun a ha => ((eU _ _).mp ha).elim (fun q => (inY_mem.mp (h3 a q)).1) fun q => q.elim (fun q => absurd (iB _ _ q).2 (T.dis x h1)) fun q => absurd q.2 (T.dis x h1)⟩
      rw [en]
      show _ = S (nxO pF yF (inY yF m)) (fun x => cnt (nxO pF yF) a' (inY yF m ++ [x])) * _
      rw [← S_mul]
      refine S_congr fun x hx => ?_
      obtain ⟨h1, h2, _⟩ := nxO_mem.mp hx
      have eF : inY yF (m ++ [x]) = inY yF m ++ [x] := inY_in h1
      have eB : inY yB (m ++ [x]) = inY yB m := inY_out (T.dis x h1)
      rw [cnt_ser T iF iB eU n a' b (m ++ [x]) (by omega) (by rw [eF]; exact lF.more h1 h2) (by rw [eB]; exact lB) (.inl (by rw [eB]; exact hm0)), eF, eB]
end
/-! ### a pair more -/
section
variable {ps : List (Str × Str)} {ys : List Str}
theorem hd_lead {q : List (Str × Str)} {m : List Str} (h : Hd q m) {a b : Str} (l : Lead q a b) : b ∈ m → a ∈ m := by
  induction l with
  | one e => exact h _ e
  | step _ e ih => exact fun z => ih (h _ e z)
theorem nx_lead {q p1 : List (Str × Str)} (srt : ys.Pairwise sLt) (e : ∀ x y, (x, y) ∈ p1 ↔ Lead q x y) {m : List Str} (h : Hd q m) : nxO p1 ys m = nxO q ys m := srt_eq (nxO_srt srt) (nxO_srt srt) fun x => by
  rw [nxO_mem, nxO_mem]
  refine ⟨fun ⟨h1, h2, h3⟩ => ⟨h1, h2, fun a ha => h3 a ((e _ _).mpr (.one ha))⟩, fun ⟨h1, h2, h3⟩ => ⟨h1, h2, fun a ha => ?_⟩⟩
  cases (e _ _).mp ha with
  | one z => exact h3 a z
  | step l z => exact hd_lead h l (h3 _ z)
theorem cnt_lead {q p1 : List (Str × Str)} (srt : ys.Pairwise sLt) (e : ∀ x y, (x, y) ∈ p1 ↔ Lead q x y) (n : Nat) : cnt (nxO p1 ys) n [] = cnt (nxO q ys) n [] :=
  cnt_congr (fun m => Hd q m ∧ ∀ x ∈ m, x ∈ ys) (fun m h => nx_lead srt e h.1) (fun m x h hx => by
    rw [nx_lead srt e h.1] at hx
    obtain ⟨h1, h2, _⟩ := head_next h.1 h.2 hx (List.Perm.refl _)
    exact ⟨h1, h2⟩) n ⟨(fun _ _ h => nomatch h), (fun _ h => nomatch h)⟩
theorem nx_have {a b : Str} (srt : ys.Pairwise sLt) {m : List Str} (h : a ∈ m) : nxO (ps ++ [(a, b)]) ys m = nxO ps ys m := srt_eq (nxO_srt srt) (nxO_srt srt) fun x => by
  rw [nxO_mem, nxO_mem]
  refine ⟨fun ⟨h1, h2, h3⟩ => ⟨h1, h2, fun c hc => h3 c (List.mem_append_left _ hc)⟩, fun ⟨h1, h2, h3⟩ => ⟨h1, h2, fun c hc => ?_⟩⟩
  rcases List.mem_append.mp hc with z | z
  · exact h3 c z
  · rw [List.mem_singleton] at z
    injection z with z1 z2
    rw [z1]
    exact h
theorem cnt_have {a b : Str} (srt : ys.Pairwise sLt) (n : Nat) {m : List Str} (h : a ∈ m) : cnt (nxO (ps ++ [(a, b)]) ys) n m = cnt (nxO ps ys) n m :=
  cnt_congr (fun m => a ∈ m) (fun m h => nx_have srt h) (fun m x h _ => List.mem_append_left _ h) n h
theorem nx_wait {a b : Str} (srt : ys.Pairwise sLt) {m : List Str} (h : a ∉ m) : nxO (ps ++ [(a, b)]) ys m = (nxO ps ys m).filter fun y => decide (y ≠ b) := srt_eq (nxO_srt srt) ((nxO_srt srt).sublist List.filter_sublist) fun x => by
  rw [nxO_mem, List.mem_filter, nxO_mem, decide_eq_true_iff]
  constructor
  · rintro ⟨h1, h2, h3⟩
    exact ⟨⟨h1, h2, fun c hc => h3 c (List.mem_append_left _ hc)⟩, fun e => h (h3 a (by rw [e]; simp))⟩
  · rintro ⟨⟨h1, h2, h3⟩, h4⟩
    refine ⟨h1, h2, fun c hc => ?_⟩
    rcases List.mem_append.mp hc with z | z
    · exact h3 c z
    · rw [List.mem_singleton] at z
      injection z with z1 z2
      exact absurd z2 h4
theorem cnt_sides {a b : Str} (srt : ys.Pairwise sLt) (ha : a ∈ ys) (ne : a ≠ b) : ∀ (n : Nat) {m : List Str}, Lv ys n m → a ∉ m → b ∉ m → cnt (nxO (ps ++ [(a, b)]) ys) n m + cnt (nxO (ps ++ [(b, a)]) ys) n m = cnt (nxO ps ys) n m
  | 0, m, lv, na, _ => absurd (lv.all (srt_nodup srt) a ha) na
  | n + 1, m, lv, na, nb => by
    show (S (nxO (ps ++ [(a, b)]) ys m) fun x => cnt (nxO (ps ++ [(a, b)]) ys) n (m ++ [x])) + (S (nxO (ps ++ [(b, a)]) ys m) fun x => cnt (nxO (ps ++ [(b, a)]) ys) n (m ++ [x])) = S (nxO ps ys m) fun x => cnt (nxO ps ys) n (m ++ [x])
    rw [nx_wait srt na, nx_wait srt nb, S_filter, S_filter, ← S_add]
    refine S_congr fun x hx => ?_
    obtain ⟨h1, h2, _⟩ := nxO_mem.mp hx
    by_cases e1 : x = a
    · subst e1
      rw [if_pos (decide_eq_true ne), if_neg (by simp), cnt_have srt n (List.mem_append_right _ (List.mem_cons_self ..)), Nat.add_zero]
    · by_cases e2 : x = b
      · subst e2
        rw [if_neg (by simp), if_pos (decide_eq_true e1), cnt_have srt n (List.mem_append_right _ (List.mem_cons_self ..)), Nat.zero_add]
      · rw [if_pos (decide_eq_true e2), if_pos (decide_eq_true e1)]
        refine cnt_sides srt ha ne n (lv.more h1 h2) (fun z => ?_) fun z => ?_
        · rcases List.mem_append.mp z with q | q
          · exact na q
          · exact e1 (List.mem_singleton.mp q).symm
        · rcases List.mem_append.mp z with q | q
          · exact nb q
          · exact e2 (List.mem_singleton.mp q).symm
end
/-! ### a hand ahead of another one -/
theorem bef_idx : ∀ {row : List Str} {x y : Str}, row.Nodup → [x, y].Sublist row → x ∈ row ∧ y ∈ row ∧ row.idxOf x < row.idxOf y
  | [], _, _, _, h => by cases h
  | z :: r, x, y, nd, h => by
    obtain ⟨n1, n2⟩ := List.nodup_cons.mp nd
    cases h with
    | cons _ h =>
      obtain ⟨h1, h2, h3⟩ := bef_idx n2 h
      have e1 : (z == x) = false := by simp; exact fun e => n1 (e ▸ h1)
      have e2 : (z == y) = false := by simp; exact fun e => n1 (e ▸ h2)
      refine ⟨List.mem_cons_of_mem _ h1, List.mem_cons_of_mem _ h2, ?_⟩
      rw [List.idxOf_cons, List.idxOf_cons, e1, e2]
      simp
      omega
    | cons_cons _ h =>
      have hy : y ∈ r := h.subset (List.mem_cons_self ..)
      have e2 : (z == y) = false := by simp; exact fun e => n1 (e ▸ hy)
      refine ⟨List.mem_cons_self .., List.mem_cons_of_mem _ hy, ?_⟩
      rw [List.idxOf_cons, List.idxOf_cons, e2]
      simp
theorem idx_bef {row : List Str} {x y : Str} (hx : x ∈ row) (hy : y ∈ row) (h : row.idxOf x < row.idxOf y) : [x, y].Sublist row := by
  have l := List.idxOf_lt_length_of_mem hy
  have e : row = row.take (row.idxOf y) ++ row.drop (row.idxOf y) := (List.take_append_drop _ _).symm
  have h1 : x ∈ row.take (row.idxOf y) := by
    have g := idx_at hx
    refine List.mem_iff_getElem?.mpr ⟨row.idxOf x, ?_⟩
    rw [List.getElem?_take_of_lt h]
    exact g
  have h2 : y ∈ row.drop (row.idxOf y) := by
    have g := idx_at hy
    refine List.mem_iff_getElem?.mpr ⟨0, ?_⟩
    rw [List.getElem?_drop]
    exact g
  rw [e]
  exact (List.singleton_sublist.mpr h1).append (List.singleton_sublist.mpr h2)
end Ah
set_option Elab.async false
set_option linter.all false
set_option maxRecDepth 100000
set_option maxHeartbeats 4000000
namespace Ah
open PySem PySem.Spec PyProof.Rows L2
abbrev sIsNumber : Stmt := topS 32
abbrev sLess : Stmt := topS 36
abbrev sAllLess : Stmt := topS 37
abbrev sPicked : Stmt := topS 38
theorem rem_sub (ps : List (Str × Str)) (x : Str) : (rem ps x).Sublist ps := List.filter_sublist
section
variable {P : Program} {w : World} {K : PySem.W.Frag} {mg : Str → Option Value} {base : Heap}
theorem scIsNumber : FnScope ["thing"] ["thing"] (defScope sIsNumber) := ⟨rfl, rfl, rfl, by decide +kernel, rfl, by decide +kernel, by decide +kernel⟩
def spIsNumber : Sp := fun vs H Q _ => ∃ i : Int, vs = [.int i] ∧ Q (.bl true) H
theorem ok_isNumber {f : Addr} {fd : FuncData} (F : Fun K "_law_is_number" "_law_is_number" sIsNumber f fd) (B : Blt2 mg) (Bi : mg "int" = none) (Bb : mg "bool" = none) : FnOk P w K mg base CX0 1 f fd ["thing"] spIsNumber := by
  refine F.ok scIsNumber (fun vs H Q E h => ?_) (fun cdv A outer s H vs Q E hr h => ?_)
  · obtain ⟨i, rfl, _⟩ := h
    rfl
  · obtain ⟨i, rfl, k⟩ := h
    refine ⟨_, pss_one (ps_ret (pe_and (pe_callB call_isi (by rfl) B.isinstance (by decide +kernel) (pa_cons (pv 0) (pa_cons (pe_bltn (v := .ty "int") (by rfl) Bi (by decide +kernel) rfl) pa_nil)))
      (pe_one (pe_not (pe_callB call_isi (by rfl) B.isinstance (by decide +kernel) (pa_cons (pv 0) (pa_cons (pe_bltn (v := .ty "bool") (by rfl) Bb (by decide +kernel) rfl) pa_nil))))))), ?_⟩
    exact ⟨_, rfl, .int i, .ty "int", _, _, true, rfl, .ty "int", .base (.int i), kit_ty (by decide +kernel), _, rfl, iteT ⟨_, rfl, .int i, .ty "bool", _, _, false, rfl, .ty "bool", .base (.int i), kit_ty (by decide +kernel), _, rfl, k⟩⟩
theorem scLess : FnScope ["web", "hand", "pair"] ["web", "hand"] (defScope sLess) := ⟨rfl, rfl, rfl, by decide +kernel, rfl, by decide +kernel, by decide +kernel⟩
def spLess : Sp := fun vs H Q _ => ∃ (t : Addr) (x : Str) (us : List V) (ps : List (Str × Str)), vs = [.ref t, .str x] ∧ Rd H t (.tup us) ∧ PrsV H us ps ∧ ps.length ≤ 64 ∧ ∀ (q : Addr) (us' : List V) (H' : Hp), Same H H' → H' q = some (.tup us') → PrsV H' us' (rem ps x) → Q (.ref q) H'
theorem ok_less {f : Addr} {fd : FuncData} (F : Fun K "_law_less" "_law_less" sLess f fd) (B : Blt2 mg) : FnOk P w K mg base CX0 1 f fd ["web", "hand"] spLess := by
  refine F.ok scLess (fun vs H Q E h => ?_) (fun cdv A outer s H vs Q E hr h => ?_)
  · obtain ⟨t, x, us, ps, rfl, _⟩ := h
    rfl
  · obtain ⟨t, x, us, ps, rfl, ht, hps, hl, k⟩ := h
    have nd := scLess.nd
    have lu := hps.len
    refine ⟨_, pss_one (ps_ret (pe_callTy call_tuple_of (by rfl) B.tuple (by decide +kernel) (pa_cons (pe_lc (own := [("pair", 2)]) (g := gName 2) (tt := tTest (tOp (rIn K true) (tVar 1) (tVar 2))) (te := tVar 2) rfl nd (pi_tup (pv 0))
          (blkOk_by (N := ["web", "hand", "pair"]) (sc := defScope sLess) (by decide +kernel)) (fun _ _ _ _ _ => pg_name (i := 2) nd rfl (Or.inl rfl))
          (fun _ _ _ _ _ => pts_one (pt_cmpR (r := rIn K true) op_notIn_seq (pv 1) (pv 2) (by rfl)))
          (fun _ _ _ _ _ => pv 2)) pa_nil))), ?_⟩
    refine ⟨_, rfl, t, rfl, ⟨_, .inl ht⟩, fun D hD => ?_⟩
    refine lc_tup (K := K) (a := t) (xs := us) (fun i H2 => Same H H2 ∧ ∃ ws, H2 D = some (.lst ws) ∧ PrsV H2 ws (rem (ps.take i) x)) ⟨same_new hD, [], upd_same, trivial⟩ (fun i H2 _ q => .inl (rd_same q.1 ht)) ?_ ?_
    · rintro i v H2 hv ⟨s2, ws, e2, hws⟩
      obtain ⟨p, hp, vp⟩ := hps.get hv
      have vp2 := vp.same s2
      obtain ⟨T, rfl, hT⟩ := vp2
      have hil := (List.getElem?_eq_some_iff.mp hv).1
      have et : ps.take (i + 1) = ps.take i ++ [p] := by rw [List.take_succ, hp]; rfl
      have lw := hws.len
      have lw2 : ws.length ≤ 64 := by
        rw [lw]
        exact Nat.le_trans (rem_sub _ _).length_le (by rw [List.length_take]; omega)
      refine ⟨rfl, _, rfl, _, rfl, T, _, rfl, .inr (.inl (.inl hT)), rfl, flat_strs [p.1, p.2], _, rfl, ?_⟩
      rw [if_pos rfl, show ([V.str p.1, V.str p.2] : List V) = [p.1, p.2].map V.str from rfl, inV_txts]
      have split : rem (ps.take (i + 1)) x = rem (ps.take i) x ++ (if x ∈ [p.1, p.2] then [] else [p]) := by
        rw [et]
        unfold rem
        rw [List.filter_append, List.filter_cons]
        by_cases c : x ∈ [p.1, p.2]
        · rw [if_pos c, if_neg (by
            rw [decide_eq_true_iff]
            rintro ⟨h1, h2⟩
            simp at c
            exact c.elim h1 h2)]
          rfl
        · rw [if_neg c, if_pos (decide_eq_true (by simp at c; exact c))]
          rfl
      rw [split]
      by_cases c : x ∈ [p.1, p.2]
      · rw [decide_eq_true c, if_pos c, List.append_nil]
        exact iteF ⟨s2, ws, e2, hws⟩
      · rw [decide_eq_false c, if_neg c]
        refine iteT ⟨_, rfl, ws, e2, small1000 (by omega), same_mut s2 hD, _, upd_same, ?_⟩
        exact PrsV.append (hws.mut e2) ⟨PrV.mut e2 ⟨T, rfl, hT⟩, trivial⟩
    · rintro H2 ⟨s2, ws, e2, hws⟩
      rw [lu, List.take_length] at hws
      refine ⟨D, ws, rfl, .inl ⟨SqL.of e2, fun q hq => ?_⟩⟩
      have s3 : Same H2 (upd H2 q (.tup ws)) := same_new hq
      exact k q ws _ (s2.trans s3) upd_same (hws.same s3)
theorem remY_perm {ys hs : List Str} {x : Str} (py : ys.Perm hs) : (remY ys x).Perm (hs.filter fun y => decide (y ≠ x)) := py.filter _
theorem web_rem {H H' : Hp} {t q : Addr} {us us' : List V} {hs : List Str} {ps : List (Str × Str)} (h : WebAt H t us hs ps) (x : Str) (eq : H' q = some (.tup us')) (hus : PrsV H' us' (rem ps x)) : WebAt H' q us' (hs.filter fun y => decide (y ≠ x)) (rem ps x) :=
  ⟨.inl eq, hus, h.rises.sublist (rem_sub _ _), Nat.le_trans (rem_sub _ _).length_le h.few, fun a b m => by
    obtain ⟨h1, h2, h3⟩ := rem_mem.mp m
    obtain ⟨g1, g2, g3⟩ := h.mem a b h1
    exact ⟨List.mem_filter.mpr ⟨g1, decide_eq_true fun e => h2 e.symm⟩, List.mem_filter.mpr ⟨g2, decide_eq_true fun e => h3 e.symm⟩, g3⟩,
   fun a b c m1 m2 => by
    obtain ⟨h1, h2, _⟩ := rem_mem.mp m1
    obtain ⟨g1, _, g3⟩ := rem_mem.mp m2
    exact rem_mem.mpr ⟨h.thru a b c h1 g1, h2, g3⟩⟩
def selP (side : Nat) (p : Str × Str) : Str := if side = 0 then p.1 else p.2
/-- with no pair at this side -/
def endsAt (ps : List (Str × Str)) (side : Nat) (x : Str) : Bool := (ps.filter fun p => decide (selP side p = x)).isEmpty
theorem scAllLess : FnScope ["hands", "web", "side", "count", "hand", "pair", "other"] ["hands", "web", "side"] (defScope sAllLess) := ⟨rfl, rfl, rfl, by decide +kernel, rfl, by decide +kernel, by decide +kernel⟩
def spAllLess : Sp := fun vs H Q _ => ∃ (a t : Addr) (side : Nat) (us : List V) (hs ys row : List Str) (ps : List (Str × Str)), vs = [.ref a, .ref t, .int (side : Int)] ∧ side < 2 ∧ H a = some (.lst (hs.map V.str)) ∧ WebAt H t us hs ps ∧ PrsOk ps ∧ ys.Perm hs ∧ ys.Pairwise sLt ∧ hs.length ≤ 8 ∧ KeepR row ps ∧
  ∀ (H' : Hp), Same H H' → Q (.int ((S (hs.filter (endsAt ps side)) (fun x => cnt (nxO (rem ps x) (remY ys x)) (remY ys x).length []) : Nat) : Int)) H'
theorem ok_allLess {f f1 f2 : Addr} {fd fd1 fd2 : FuncData} (F : Fun K "_law_all_less" "_law_all_less" sAllLess f fd) (D1 : Df P w K mg base CX0 "count_rows" 6 f1 fd1 ["hands", "web"] spCount) (D2 : Df P w K mg base CX0 "_law_less" 1 f2 fd2 ["web", "hand"] spLess) :
    FnOk P w K mg base CX0 7 f fd ["hands", "web", "side"] spAllLess := by
  refine F.ok scAllLess (fun vs H Q E h => ?_) (fun cdv A outer s H vs Q E hr h => ?_)
  · obtain ⟨a, t, side, us, hs, ys, row, ps, rfl, _⟩ := h
    rfl
  · obtain ⟨a, t, side, us, hs, ys, row, ps, rfl, hs2, ha, hw, okp, py, srt, hl, kr, k⟩ := h
    have nd := scAllLess.nd
    have hr1 : Room 1 _ := hr.mono (by decide)
    have hu64 : (A.deeper (envOfC "_law_all_less" (defScope sAllLess) s.heap.objs.size f cdv)).units + 64 < cLine := by
      have := hr.units
      omega
    refine ⟨_, pss_cons (ps_set (i := 3) nd rfl (.inl rfl) pe_int)
      (pss_cons (ps_for PassesOwn.never rfl (pi_list (pv 0)) (pg_name (i := 4) nd rfl (.inr rfl))
        (pss_one (ps_if (pt_cmpR (r := rEqD K) (op_eqD hu64) (pe_lc (own := [("pair", 5)]) (g := gName 5) (tt := tTest (tOp rEq (tOp (rIxT K) (tVar 5) (tVar 2)) (tVar 4))) (te := tVar 5) rfl nd (pi_tup (pv 1))
            (blkOk_by (N := ["hands", "web", "side", "count", "hand", "pair", "other"]) (sc := defScope sAllLess) (by decide +kernel)) (fun _ _ _ _ _ => pg_name (i := 5) nd rfl (Or.inl rfl))
            (fun _ _ _ _ _ => pts_one (pt_cmpR op_eq (pe_ix (r := rIxT K) ix_tup (pv 5) (pv 2) (fun _ _ => rfl)) (pv 4) (nomark _)))
            (fun _ _ _ _ _ => pv 5)) (pe_lst pa_nil) (nomark _))
          (pss_one (ps_set (i := 3) nd rfl (.inl rfl) (pe_op op_add (pv 3) (pe_call D1.ok hr rfl D1.g D1.kp D1.b .nil pass0 (pa_cons (pe_lc (own := [("other", 6)]) (g := gName 6) (tt := tTest (tOp rNe (tVar 6) (tVar 4))) (te := tVar 6) rfl nd (pi_list (pv 0))
            (blkOk_by (N := ["hands", "web", "side", "count", "hand", "pair", "other"]) (sc := defScope sAllLess) (by decide +kernel)) (fun _ _ _ _ _ => pg_name (i := 6) nd rfl (Or.inl rfl))
            (fun _ _ _ _ _ => pts_one (pt_cmpR op_ne (pv 6) (pv 4) (nomark _)))
            (fun _ _ _ _ _ => pv 6)) (pa_cons (pe_call D2.ok hr1 rfl D2.g D2.kp D2.b .nil pass0 (pa_cons (pv 1) (pa_cons (pv 4) pa_nil))) pa_nil)))))) pss_nil)))
      (pss_one (ps_ret (pv 3)))), ?_⟩
    have lu := hw.prs.len
    have lys := py.length_eq
    refine ⟨_, rfl, a, rfl, ⟨_, SqL.of ha⟩, ?_⟩
    refine for_list (K := K) (a := a) (xs := hs.map V.str) (fun i σ H2 => ∃ o4 : Option V, σ = [some (.ref a), some (.ref t), some (.int (side : Int)), some (.int ((S ((hs.take i).filter (endsAt ps side)) (fun x => cnt (nxO (rem ps x) (remY ys x)) (remY ys x).length []) : Nat) : Int)), o4, none, none] ∧ Same H H2)
      ⟨none, rfl, Same.refl _⟩ (fun i σ H2 _ ⟨_, _, s2⟩ => SqL.of (s2 _ _ ha)) ?_ ?_
    · rintro i v σ H2 hv ⟨o4, rfl, s2⟩
      obtain ⟨x, hx, rfl, _⟩ := str_at hv
      have et : hs.take (i + 1) = hs.take i ++ [x] := by rw [List.take_succ, hx]; rfl
      have hw2 := hw.same s2
      refine ⟨_, rfl, t, rfl, ⟨_, .inl hw2.at'⟩, fun D hD => ?_⟩
      refine lc_tup (K := K) (a := t) (xs := us) (fun j H3 => Same H2 H3 ∧ ∃ ws, H3 D = some (.lst ws) ∧ PrsV H3 ws ((ps.take j).filter fun p => decide (selP side p = x))) ⟨same_new hD, [], upd_same, trivial⟩ (fun j H3 _ q => .inl (rd_same q.1 hw2.at')) ?_ ?_
      · rintro j v H3 hv3 ⟨s3, ws, e3, hws⟩
        obtain ⟨p, hp, vp⟩ := hw2.prs.get hv3
        obtain ⟨T, rfl, hT⟩ := vp.same s3
        have hjl := (List.getElem?_eq_some_iff.mp hv3).1
        have lp := hw.few
        have et3 : ps.take (j + 1) = ps.take j ++ [p] := by rw [List.take_succ, hp]; rfl
        have lw := hws.len
        have lw2 : ws.length ≤ 64 := by
          rw [lw]
          exact Nat.le_trans (List.length_filter_le _ _) (by rw [List.length_take]; omega)
        have hsel : atI [V.str p.1, V.str p.2] ((side : Nat) : Int) = some (.str (selP side p)) := by
          unfold selP
          rcases (show side = 0 ∨ side = 1 by omega) with rfl | rfl
          · exact atI_nat (j := 0) rfl
          · exact atI_nat (j := 1) rfl
        rw [et3, List.filter_append, List.filter_cons]
        refine ⟨rfl, _, rfl, _, rfl, T, _, ((side : Nat) : Int), .str (selP side p), rfl, rfl, .inl (.inl hT), hsel, _, rfl, rfl, _, rfl, ?_⟩
        by_cases c : selP side p = x
        · rw [decide_eq_true (congrArg V.str c), if_pos (decide_eq_true c)]
          refine iteT ⟨_, rfl, ws, e3, small1000 (by omega), same_mut s3 hD, _, upd_same, ?_⟩
          exact PrsV.append (hws.mut e3) ⟨PrV.mut e3 ⟨T, rfl, hT⟩, trivial⟩
        · rw [decide_eq_false fun z => c (V.str.inj z), if_neg (by rw [decide_eq_false c]; exact Bool.false_ne_true), List.filter_nil, List.append_nil]
          exact iteF ⟨s3, ws, e3, hws⟩
      · rintro H3 ⟨s3, ws, e3, hws⟩
        rw [lu, List.take_length] at hws
        refine ⟨Nat.zero_le _, fun L hL => ?_⟩
        have sL : Same H3 (upd H3 L (.lst [])) := same_new hL
        have eL : (upd H3 L (.lst [])) L = some (.lst []) := upd_same
        generalize upd H3 L (.lst []) = H4 at sL eL ⊢
        have hws4 := hws.same sL
        refine ⟨.list ((ps.filter fun p => decide (selP side p = x)).map prD), .list [], .lst (SqL.of (sL _ _ e3)) hws4.dp, .lst (SqL.of eL) .nil, shp_l fun d hd => ?_, shp_l (fun e he => (by cases he)), _, rfl, ?_⟩
        · obtain ⟨p, hp, rfl⟩ := List.mem_map.mp hd
          have := okp p (List.mem_filter.mp hp).1
          exact shp_pr this.1 this.2
        rw [eqv_nils, List.isEmpty_map]
        have s24 := (s2.trans s3).trans sL
        rw [et, List.filter_append, List.filter_cons]
        show (if endsAt ps side x = true then _ else _)
        by_cases c : endsAt ps side x = true
        · rw [if_pos c, if_pos c]
          have hw4 := hw.same s24
          refine ⟨_, rfl, _, rfl, a, rfl, ⟨_, SqL.of (s24 _ _ ha)⟩, fun D5 hD5 => ?_⟩
          refine lc_list (K := K) (a := a) (xs := hs.map V.str) (fun j H5 => Same H4 H5 ∧ H5 D5 = some (.lst (((hs.take j).filter fun y => decide (y ≠ x)).map V.str))) ⟨same_new hD5, upd_same⟩ (fun j H5 _ q => SqL.of (q.1 _ _ (s24 _ _ ha))) ?_ ?_
          · rintro j v H5 hv5 ⟨s5, e5⟩
            obtain ⟨y, hy, rfl, _⟩ := str_at hv5
            have hjl := (List.getElem?_eq_some_iff.mp hy).1
            have et5 : hs.take (j + 1) = hs.take j ++ [y] := by rw [List.take_succ, hy]; rfl
            rw [et5, List.filter_append, List.filter_cons]
            refine ⟨rfl, _, rfl, _, rfl, rfl, _, rfl, ?_⟩
            by_cases c2 : y = x
            · rw [decide_eq_true (congrArg V.str c2), if_neg (by rw [decide_eq_false fun z => z c2]; exact Bool.false_ne_true)]
              refine iteF ⟨s5, ?_⟩
              rw [e5]
              simp
            · rw [decide_eq_false fun z => c2 (V.str.inj z), if_pos (decide_eq_true c2)]
              refine iteT ⟨_, rfl, _, e5, ?_, same_mut s5 hD5, ?_⟩
              · rw [List.length_map]
                exact small1000 (Nat.le_trans (List.length_filter_le _ _) (by rw [List.length_take]; omega))
              · rw [upd_same, List.map_append]
                rfl
          · rintro H5 ⟨s5, e5⟩
            rw [List.length_map, List.take_length] at e5
            have s25 := s24.trans s5
            have hw5 := hw.same s25
            refine ⟨_, rfl, _, rfl, t, x, us, ps, rfl, hw5.at', hw5.prs, hw5.few, fun q us' H6 s6 eq6 hus => ?_⟩
            have hw6 := web_rem (hw5.same s6) x eq6 hus
            refine ⟨D5, q, us', hs.filter (fun y => decide (y ≠ x)), remY ys x, row, rem ps x, rfl, .inl (s6 _ _ e5), hw6, remY_perm py, remY_srt srt, Nat.le_trans (List.length_filter_le _ _) hl, fun a b m => kr a b (rem_mem.mp m).1, fun H7 s7 => ?_⟩
            refine ⟨_, _, rfl, rfl, some (.str x), ?_, (s25.trans s6).trans s7⟩
            have e9 : S ((hs.take i).filter (endsAt ps side) ++ x :: List.filter (endsAt ps side) []) (fun x => cnt (nxO (rem ps x) (remY ys x)) (remY ys x).length []) = S ((hs.take i).filter (endsAt ps side)) (fun x => cnt (nxO (rem ps x) (remY ys x)) (remY ys x).length []) + cnt (nxO (rem ps x) (remY ys x)) (remY ys x).length [] := by
              rw [S_append]
              exact congrArg (_ + ·) (Nat.add_zero _)
            rw [e9, Int.natCast_add]
            rfl
        · have c' : endsAt ps side x = false := by simpa using c
          rw [if_neg c, c']
          refine ⟨some (.str x), ?_, s24⟩
          rw [List.filter_nil, if_neg Bool.false_ne_true, List.append_nil]
          rfl
    · rintro σ H2 ⟨o4, rfl, s2⟩
      rw [List.length_map, List.take_length]
      exact ⟨_, rfl, k H2 s2⟩
end
end Ah
set_option Elab.async false
set_option linter.all false
set_option maxRecDepth 100000
set_option maxHeartbeats 4000000
namespace Ah
open PySem PySem.Spec PyProof.Rows L2
open PySem.W (EachIs AllAlike Sortable dataLe)
theorem prsv_sorted {H : Hp} {us : List V} {ps ds : List (Str × Str)} {zs : List (V × PyData)} (h : PrsV H us ps) (pm : zs.Perm (us.zip (ps.map prD))) (e : zs.map (·.2) = ds.map prD) : PrsV H (zs.map (·.1)) ds := by
  have inj : ∀ p q : Str × Str, prD p = prD q → p = q := fun p q h => by
    unfold prD at h
    injection h with h
    injection h with h1 h2
    injection h2 with h2 _
    injection h1 with h1
    injection h2 with h2
    exact Prod.ext h1 h2
  have all : ∀ {us : List V} {ps : List (Str × Str)}, PrsV H us ps → ∀ z ∈ us.zip (ps.map prD), ∃ p, z.2 = prD p ∧ PrV H z.1 p := by
    intro us
    induction us with
    | nil => intro ps _ z hz; simp at hz
    | cons u r ih =>
      intro ps h z hz
      cases ps with
      | nil => simp at hz
      | cons p t =>
        rcases List.mem_cons.mp hz with e | hz
        · subst e
          exact ⟨p, rfl, h.1⟩
        · exact ih h.2 z hz
  have all2 : ∀ z ∈ zs, ∃ p, z.2 = prD p ∧ PrV H z.1 p := fun z hz => all h z (pm.mem_iff.mp hz)
  clear pm all h
  induction zs generalizing ds with
  | nil =>
    cases ds with
    | nil => trivial
    | cons d r => cases e
  | cons z zs ih =>
    cases ds with
    | nil => cases e
    | cons d r =>
      rw [List.map_cons, List.map_cons] at e
      injection e with e1 e2
      obtain ⟨p, h1, h2⟩ := all2 z (List.mem_cons_self ..)
      have : p = d := inj _ _ (h1.symm.trans e1)
      subst this
      exact ⟨h2, ih e2 fun y hy => all2 y (List.mem_cons_of_mem _ hy)⟩
def rSortedP (K : PySem.W.Frag) : List V → Hp → VK → Prop := fun vs H Q => ∃ (a : Addr) (us : List V) (ps ds : List (Str × Str)), vs = [V.ref a] ∧ (SqL K H a us ∨ SqT K H a us) ∧ PrsV H us ps ∧ ps.Nodup ∧ (∀ p, p ∈ ps ↔ p ∈ ds) ∧ ds.Pairwise pLt ∧
  ∀ (p : Addr) (ws : List V), PrsV H ws ds → H p = none → Q (.ref p) (upd H p (.lst ws))
section
variable {X : Cx}
theorem cr_sortedP (hu : X.A.units + 64 < cLine) : CallR X (.builtin "sorted") (rSortedP X.K) := by
  intro pins s σ H vs us0 Q I r h
  obtain ⟨a, us, ps, ds, rfl, hs, hps, ndp, mem, ri, q⟩ := h
  rw [Vals.ref1 r]
  obtain ⟨its, rv, o, T, n, hT, ho, hc, hdat, hz⟩ : ∃ (its : List Value), Vals us its ∧ ∃ (o : Obj) (T : String) (n : Nat), (T = "list" ∨ T = "tuple") ∧ s.heap.get? a = some o ∧ o.cls = .type T ∧ o.data = .seq its.toArray n ∧ us.length ≤ sizeLine := by
    rcases hs with hs | hs
    · obtain ⟨its, rv, pl, hz⟩ := I.list hs
      obtain ⟨o, n, ho, hc, hd, hdat⟩ := pl
      exact ⟨its, rv, o, "list", n, .inl rfl, ho, hc, hdat, hz⟩
    · obtain ⟨its, rv, ⟨o, ho, hc, n, hdat⟩, hz⟩ := I.tuple hs
      exact ⟨its, rv, o, "tuple", n, .inr rfl, ho, hc, hdat, hz⟩
  have lits := rv.length
  refine Calls.call_function_entry kind_sorted plain_sorted entry_sorted (args_sorted1 _) ?_
  unfold Builtin.«sorted»
  refine wpAny_bind (m := checkCount "sorted" 1 1 _) (wpAny_pure ?_)
  refine wpAny_bind (PySem.collect_at a hT ho hc hdat (fun h1 k1 big => ?_) (by rw [List.size_toArray]; omega))
  have dp := hps.dp (K := X.K)
  obtain ⟨z1, z2, z3⟩ := dpAll_zip2 dp
  have e := each_of rv dp
  have hal := prs_alike ps
  have hk := prs_sortable ps
  have hdep := prs_depth ps
  have eit : its.toArray.toList = its := List.toList_toArray ..
  refine wpAny_bind (wpAny_newList ?_ (by rw [eit]; omega))
  rw [eit]
  have hoL : (h1.push (seqObj "list" its.toArray 0)).get? h1.objs.size = some (seqObj "list" its.toArray 0) := Heap.get?_push_size _ rfl
  have old : ∀ b u, s.heap.get? b = some u → (PySem.W.sortingHeap (h1.push (seqObj "list" its.toArray 0)) h1.objs.size its).get? b = some u := fun b u hb =>
    PySem.W.sortingHeap_old (Nat.ne_of_lt (Heap.lt_size (k1 b u hb))) (Heap.get?_push_of_some _ (k1 b u hb))
  have er : EachIs (fun (v : Value) (b : V × PyData) => ∃ as, Reads (PySem.W.sortingHeap (h1.push (seqObj "list" its.toArray 0)) h1.objs.size its) v b.2 as) its (us.zip (ps.map prD)) := e.mono fun v b ⟨r1, r2⟩ =>
    let ⟨as, rr⟩ := Dp.reads I b.2 b.1 v r2 r1
    ⟨as, PyProof.Rows.Reads.keeps old rr⟩
  have bound : ∀ d, d ∈ ps.map prD → X.A.in1.in1.units + d.depth < cLine := fun d hd => by
    have h1 := hdep d hd
    have h2 : X.A.in1.in1.units = X.A.units + 2 := rfl
    omega
  have hal' : AllAlike ((us.zip (ps.map prD)).map fun b => b.2) := by rw [z1]; exact hal
  have eds := PySem.W.each_map (R := fun v d => ∃ as, Reads (PySem.W.sortingHeap (h1.push (seqObj "list" its.toArray 0)) h1.objs.size its) v d as) (fun b : V × PyData => b.2) er
  rw [z1] at eds
  show wpAny _ _ _ _ _ { s with heap := h1.push (seqObj "list" its.toArray 0) }
  refine wpAny_bind (wpAny_holding (wpAny_call_entry slot_list_sort ⟨_, hoL, rfl⟩ entry_list_sort (PySem.W.list_sort_vals (s := { s with heap := h1.push (seqObj "list" its.toArray 0) }) (κ := PySem.W.dataKind (PySem.W.sortingHeap (h1.push (seqObj "list" its.toArray 0)) h1.objs.size its) (ps.map prD)) hoL
    (PySem.W.SortsAt.data (s := { s with heap := PySem.W.sortingHeap (h1.push (seqObj "list" its.toArray 0)) h1.objs.size its }) eds hal hk bound) (by omega) ⟨.none, rfl, ?_⟩) (args_list_sort _)))
  refine wpAny_pure ⟨_, rfl, ?_⟩
  have eo := PySem.W.sortVals_data (enc := fun b : V × PyData => b.2) (R := fun (v : Value) (b : V × PyData) => RelV b.1 v ∧ Dp X.K H b.1 b.2) false e er hal'
  rw [z1] at eo
  generalize PySem.W.sortVals (PySem.W.dataKind (PySem.W.sortingHeap (h1.push (seqObj "list" its.toArray 0)) h1.objs.size its) (ps.map prD)) false its its = out at eo ⊢
  obtain ⟨v1, v2⟩ := each_vals eo
  have pm : ((us.zip (ps.map prD)).mergeSort (dataLe false fun b : V × PyData => b.2)).Perm (us.zip (ps.map prD)) := List.mergeSort_perm _ _
  have p2 : ((us.zip (ps.map prD)).mergeSort (dataLe false fun b : V × PyData => b.2)).map (·.2) = sortD (ps.map prD) := by
    have := PySem.W.sort_maps (r := dataLe false fun b : V × PyData => b.2) (s := dataLe false fun d : PyData => d) (fun b : V × PyData => b.2) (l := us.zip (ps.map prD)) (fun a _ b _ => rfl)
    rw [z1] at this
    exact this
  rw [sort_due ndp mem ri] at p2
  have due := prsv_sorted hps pm p2
  have p1 : (((us.zip (ps.map prD)).mergeSort (dataLe false fun b : V × PyData => b.2)).map (·.1)).length = us.length := by
    have := (pm.map (·.1)).length_eq
    rw [z2] at this
    exact this
  have I1 : Inv X pins σ H { s with heap := h1 } := I.kept (t' := s.toks) k1
  obtain ⟨ep2, at2⟩ := sortedHeap_at (vs := its) (out := out.toArray) hoL
  refine ⟨.ref _, upd H h1.objs.size (.lst _), I1.laid (t' := s.toks) (fun b u hb1 => ?_) (Nat.le_refl _) ⟨?_, out, ep2, v1, at2⟩, rfl, q _ _ due (I1.hok.fresh (Nat.le_refl _))⟩
  · have hlt := Heap.lt_size hb1
    show (sortedHeap (h1.push (seqObj "list" its.toArray 0)) h1.objs.size its out.toArray).get? b = some u
    rw [sortedHeap_old (Nat.ne_of_lt hlt) (by rw [size_push']; exact Nat.lt_succ_of_lt hlt)]
    exact Heap.get?_push_of_some _ hb1
  · rw [p1]
    exact hz
end
/-! ### a row of numbers -/
def chRow (k : Nat) : List Nat := (List.range (k + 1)).map (ch k)
theorem chRow_next (k : Nat) : chRow (k + 1) = [1] ++ ((List.range k).map fun j => ch k j + ch k (j + 1)) ++ [1] := by
  unfold chRow
  rw [List.range_succ, List.map_append, List.range_succ_eq_map, List.map_cons, List.map_map]
  have e1 : ch (k + 1) 0 = 1 := rfl
  have e2 : ∀ n, ch n n = 1 := fun n => by
    induction n with
    | zero => rfl
    | succ n ih =>
      show ch n n + ch n (n + 1) = 1
      rw [ih, ch_over (by omega)]
  have e3 : ch (k + 1) (k + 1) = 1 := e2 _
  simp only [List.map_cons, List.map_nil, e1, e3]
  rfl
section
variable {P : Program} {w : World} {K : PySem.W.Frag} {mg : Str → Option Value} {base : Heap}
theorem scPicked : FnScope ["many", "part", "row", "k", "spot"] ["many", "part"] (defScope sPicked) := ⟨rfl, rfl, rfl, by decide +kernel, rfl, by decide +kernel, by decide +kernel⟩
def spPicked : Sp := fun vs H Q _ => ∃ (many part : Nat), vs = [.int (many : Int), .int (part : Int)] ∧ part ≤ many ∧ many ≤ 100 ∧ ∀ (H' : Hp), Same H H' → Q (.int ((ch many part : Nat) : Int)) H'
theorem ok_picked {f : Addr} {fd : FuncData} (F : Fun K "_law_picked" "_law_picked" sPicked f fd) (B : Blt2 mg) : FnOk P w K mg base CX0 1 f fd ["many", "part"] spPicked := by
  refine F.ok scPicked (fun vs H Q E h => ?_) (fun cdv A outer s H vs Q E hr h => ?_)
  · obtain ⟨many, part, rfl, _⟩ := h
    rfl
  · obtain ⟨many, part, rfl, hp, hm, k⟩ := h
    have nd := scPicked.nd
    refine ⟨_, pss_cons (ps_set (i := 2) nd rfl (.inr rfl) (pe_lst (pa_cons pe_int pa_nil)))
      (pss_cons (ps_for PassesOwn.never rfl (pi_range1 rfl B.range (pa_cons (pv 0) pa_nil)) (pg_name (i := 3) nd rfl (.inl rfl))
        (pss_one (ps_set (i := 2) nd rfl (.inr rfl) (pe_op op_cat (pe_op op_cat (pe_lst (pa_cons pe_int pa_nil)) (pe_lc (own := [("spot", 4)]) (g := gName 4) (tt := tYes) (te := tOp (rI0 fun i j => .int (i + j)) (tOp (rIxL K) (tVar 2) (tVar 4)) (tOp (rIxL K) (tVar 2) (tOp (rI0 fun i j => .int (i + j)) (tVar 4) (tC (.int 1))))) rfl nd
            (pi_range1 rfl B.range (pa_cons (pe_op op_sub (pe_callB call_len_seq (by rfl) B.len PySem.boot_len (pa_cons (pv 2) pa_nil)) pe_int) pa_nil))
            (blkOk_by (N := ["many", "part", "row", "k", "spot"]) (sc := defScope sPicked) (by decide +kernel)) (fun _ _ _ _ _ => pg_name (i := 4) nd rfl (Or.inl rfl)) (fun _ _ _ _ _ => pts_nil)
            (fun _ _ _ _ _ => pe_op op_add (pe_ix (r := rIxL K) ix_list (pv 2) (pv 4) (fun _ _ => rfl)) (pe_ix (r := rIxL K) ix_list (pv 2) (pe_op op_add (pv 4) pe_int) (fun _ _ => rfl))))) (pe_lst (pa_cons pe_int pa_nil))))))
      (pss_one (ps_ret (pe_ix (r := rIxL K) ix_list (pv 2) (pv 1) (fun _ _ => rfl))))), ?_⟩
    refine ⟨by show 1 ≤ sizeLine; decide, fun L hL => ?_⟩
    refine ⟨_, rfl, _, rfl, by omega, by omega, ?_⟩
    rw [show (((many : Nat) : Int)).toNat = many from Int.toNat_natCast _]
    refine for_range (lo := 0) (n := many) (fun i σ H2 => ∃ (o3 : Option V) (r : Addr), σ = [some (.int (many : Int)), some (.int (part : Int)), some (.ref r), o3, none] ∧ Same H H2 ∧ H2 r = some (.lst ((chRow i).map fun c => V.int ((c : Nat) : Int))))
      ⟨none, L, rfl, same_new hL, upd_same⟩ ?_ ?_
    · rintro i σ H2 hi ⟨o3, r, rfl, s2, e2⟩
      have lr : (chRow i).length = i + 1 := by unfold chRow; rw [List.length_map, List.length_range]
      refine ⟨by show 1 ≤ sizeLine; decide, fun L1 hL1 => ?_⟩
      have s3 : Same H2 (upd H2 L1 (.lst [.int 1])) := same_new hL1
      have e3 : (upd H2 L1 (.lst [.int 1])) L1 = some (.lst [.int 1]) := upd_same
      generalize upd H2 L1 (.lst [.int 1]) = H3 at s3 e3 ⊢
      have er3 := s3 _ _ e2
      refine ⟨_, rfl, r, _, rfl, .inl (SqL.of er3), _, _, rfl, rfl, ?_⟩
      refine ⟨_, rfl, ?_⟩
      have hN : (((((chRow i).map fun c => V.int ((c : Nat) : Int)).length : Nat) : Int) - 1) = ((i : Nat) : Int) := by rw [List.length_map, lr]; omega
      have hN' : ((fun i j => i - j) ((((chRow i).map fun c => V.int ((c : Nat) : Int)).length : Nat) : Int) 1) = ((i : Nat) : Int) := hN
      refine ⟨by show -(2 ^ 62) ≤ (((((chRow i).map fun c => V.int ((c : Nat) : Int)).length : Nat) : Int) - 1); omega, by show (((((chRow i).map fun c => V.int ((c : Nat) : Int)).length : Nat) : Int) - 1) < 2 ^ 62; omega, fun D hD => ?_⟩
      rw [show ((((((chRow i).map fun c => V.int ((c : Nat) : Int)).length : Nat) : Int) - 1).toNat) = i by omega]
      refine lc_range (lo := 0) (n := i) (fun j H4 => Same H3 H4 ∧ H4 D = some (.lst (((List.range j).map fun j => ch i j + ch i (j + 1)).map fun c => V.int ((c : Nat) : Int)))) ⟨same_new hD, upd_same⟩ ?_ ?_
      · rintro j H4 hj ⟨s4, e4⟩
        have e0 : (0 : Int) + (j : Int) = ((j : Nat) : Int) := by omega
        have er4 := s4 _ _ er3
        have g : ∀ q, q ≤ i → ((chRow i).map fun c => V.int ((c : Nat) : Int))[q]? = some (V.int ((ch i q : Nat) : Int)) := fun q hq => by
          unfold chRow
          rw [List.getElem?_map, List.getElem?_map, List.getElem?_range (by omega)]
          rfl
        rw [e0]
        refine ⟨rfl, _, rfl, _, rfl, r, _, ((j : Nat) : Int), .int ((ch i j : Nat) : Int), rfl, rfl, SqL.of er4, atI_nat (g j (by omega)), ?_⟩
        refine ⟨_, rfl, _, rfl, _, _, rfl, rfl, r, _, ((j + 1 : Nat) : Int), .int ((ch i (j + 1) : Nat) : Int), rfl, ?_, SqL.of er4, atI_nat (g (j + 1) (by omega)), _, _, rfl, rfl, _, e4, ?_, same_mut s4 hD, ?_⟩
        · exact congrArg V.int (by omega)
        · rw [List.length_map, List.length_map, List.length_range]
          exact small1000 (by omega)
        · rw [upd_same, List.range_succ, List.map_append, List.map_append]
          rfl
      · rintro H4 ⟨s4, e4⟩
        refine ⟨L1, D, _, _, rfl, rfl, s4 _ _ e3, e4, ?_, fun p hp => ?_⟩
        · rw [List.length_map, List.length_map, List.length_range]
          exact Nat.le_of_lt (small1000 (by show 1 + i ≤ 1000; omega))
        have s5 : Same H4 (upd H4 p (.lst ([.int 1] ++ (((List.range i).map fun j => ch i j + ch i (j + 1)).map fun c => V.int ((c : Nat) : Int))))) := same_new hp
        have e5 : (upd H4 p (.lst ([.int 1] ++ (((List.range i).map fun j => ch i j + ch i (j + 1)).map fun c => V.int ((c : Nat) : Int))))) p = _ := upd_same
        generalize upd H4 p (.lst ([.int 1] ++ (((List.range i).map fun j => ch i j + ch i (j + 1)).map fun c => V.int ((c : Nat) : Int)))) = H5 at s5 e5 ⊢
        refine ⟨by show 1 ≤ sizeLine; decide, fun L6 hL6 => ?_⟩
        have s6 : Same H5 (upd H5 L6 (.lst [.int 1])) := same_new hL6
        have e6 : (upd H5 L6 (.lst [.int 1])) L6 = some (.lst [.int 1]) := upd_same
        generalize upd H5 L6 (.lst [.int 1]) = H6 at s6 e6 ⊢
        refine ⟨p, L6, _, _, rfl, rfl, s6 _ _ e5, e6, ?_, fun q hq => ?_⟩
        · rw [List.length_append, List.length_map, List.length_map, List.length_range]
          exact Nat.le_of_lt (small1000 (by show 1 + i + 1 ≤ 1000; omega))
        have s7 : Same H6 (upd H6 q (.lst ([.int 1] ++ (((List.range i).map fun j => ch i j + ch i (j + 1)).map fun c => V.int ((c : Nat) : Int)) ++ [.int 1]))) := same_new hq
        refine ⟨_, q, rfl, s2.trans (s3.trans (s4.trans (s5.trans (s6.trans s7)))), ?_⟩
        rw [upd_same, chRow_next, List.map_append, List.map_append]
        rfl
    · rintro σ H2 ⟨o3, r, rfl, s2, e2⟩
      refine ⟨_, rfl, _, rfl, r, _, ((part : Nat) : Int), .int ((ch many part : Nat) : Int), rfl, rfl, SqL.of e2, atI_nat ?_, k H2 s2⟩
      unfold chRow
      rw [List.getElem?_map, List.getElem?_map, List.getElem?_range (by omega)]
      rfl
end
end Ah
set_option Elab.async false
set_option linter.all false
set_option maxRecDepth 100000
set_option maxHeartbeats 8000000
namespace Ah
open PySem PySem.Spec PyProof.Rows L2
abbrev sSides : Stmt := topS 40
theorem keepR_bef {row : List Str} {ps : List (Str × Str)} (nd : row.Nodup) (h : ∀ x y, (x, y) ∈ ps → [x, y].Sublist row) : KeepR row ps := fun x y m => bef_idx nd (h x y m)
theorem two_filter {row : List Str} {x y : Str} (p : Str → Bool) (h : [x, y].Sublist row) (hx : p x = true) (hy : p y = true) : [x, y].Sublist (row.filter p) := by
  have := h.filter p
  rwa [List.filter_cons, if_pos hx, List.filter_cons, if_pos hy, List.filter_nil] at this
/-- a row that keeps one pair more -/
theorem more_row {ps : List (Str × Str)} {ys row : List Str} {u v : Str} (thru : ∀ x y z, (x, y) ∈ ps → (y, z) ∈ ps → (x, z) ∈ ps) (pr : row.Perm ys) (ndy : ys.Nodup) (kr : KeepR row ps) (iny : ∀ x y, (x, y) ∈ ps → x ∈ ys ∧ y ∈ ys) (ne : u ≠ v) (no : (v, u) ∉ ps) (hu : u ∈ ys) (hv : v ∈ ys) : ∃ row', KeepR row' (ps ++ [(u, v)]) := by
  have ndr := pr.nodup_iff.mpr ndy
  let p : Str → Bool := fun z => decide (z = u ∨ (z, u) ∈ ps)
  have pu : p u = true := decide_eq_true (.inl rfl)
  have pv : p v = false := decide_eq_false fun z => z.elim (fun e => ne e.symm) no
  have nd : (row.filter p ++ row.filter fun z => !p z).Nodup := by
    rw [List.nodup_append]
    refine ⟨ndr.sublist List.filter_sublist, ndr.sublist List.filter_sublist, fun a ha b hb e => ?_⟩
    have h1 := (List.mem_filter.mp ha).2
    have h2 := (List.mem_filter.mp hb).2
    rw [← e, h1] at h2
    cases h2
  refine ⟨_, keepR_bef nd fun x y m => ?_⟩
  have one : ∀ {z : Str} {q : Str → Bool}, z ∈ row → q z = true → [z].Sublist (row.filter q) := fun {z q} h1 h2 => List.singleton_sublist.mpr (List.mem_filter.mpr ⟨h1, h2⟩)
  rcases List.mem_append.mp m with z | z
  · obtain ⟨h1, h2, h3⟩ := kr x y z
    have bf := idx_bef h1 h2 h3
    by_cases cy : p y = true
    · have cx : p x = true := decide_eq_true (.inr ((of_decide_eq_true cy).elim (fun e => e ▸ z) fun w => thru x y u z w))
      exact (two_filter p bf cx cy).trans (List.sublist_append_left _ _)
    · have cy' : (!p y) = true := by simpa using cy
      by_cases cx : p x = true
      · exact (one h1 cx).append (one h2 cy')
      · exact (two_filter (fun z => !p z) bf (by simpa using cx) cy').trans (List.sublist_append_right _ _)
  · rw [List.mem_singleton] at z
    injection z with z1 z2
    subst z1 z2
    exact (one (pr.mem_iff.mpr hu) pu).append (one (pr.mem_iff.mpr hv) (by rw [pv]; rfl))
section
variable {P : Program} {w : World} {K : PySem.W.Frag} {mg : Str → Option Value} {base : Heap}
theorem scSides : FnScope ["hands", "web", "one", "other", "left", "right"] ["hands", "web", "one", "other"] (defScope sSides) := ⟨rfl, rfl, rfl, by decide +kernel, rfl, by decide +kernel, by decide +kernel⟩
def spSides : Sp := fun vs H Q _ => ∃ (a t : Addr) (one other : Str) (us : List V) (hs ys row : List Str) (ps : List (Str × Str)), vs = [.ref a, .ref t, .str one, .str other] ∧ H a = some (.lst (hs.map V.str)) ∧ WebAt H t us hs ps ∧ (∀ x ∈ ys, PyData.strOk x = true) ∧ ys.Perm hs ∧ ys.Pairwise sLt ∧ hs.length ≤ 8 ∧ KeepR row ps ∧ row.Perm ys ∧
  one ∈ ys ∧ other ∈ ys ∧ one ≠ other ∧ (one, other) ∉ ps ∧ (other, one) ∉ ps ∧ ∀ (H' : Hp), Same H H' → Q (.bl true) H'
theorem ok_sides {f f1 f2 : Addr} {fd fd1 fd2 : FuncData} (F : Fun K "_law_sides_right" "_law_sides_right" sSides f fd) (D1 : Df P w K mg base CX0 "count_rows" 6 f1 fd1 ["hands", "web"] spCount) (D2 : Df P w K mg base CX0 "closed" 3 f2 fd2 ["hands", "pairs"] spClosed) :
    FnOk P w K mg base CX0 7 f fd ["hands", "web", "one", "other"] spSides := by
  refine F.ok scSides (fun vs H Q E h => ?_) (fun cdv A outer s H vs Q E hr h => ?_)
  · obtain ⟨a, t, one, other, us, hs, ys, row, ps, rfl, _⟩ := h
    rfl
  · obtain ⟨a, t, one, other, us, hs, ys, row, ps, rfl, ha, hw, okh, py, srt, hl, kr, prow, inone, inother, hne, hno1, hno2, k⟩ := h
    have nd := scSides.nd
    have hr3 : Room 3 _ := hr.mono (by decide)
    refine ⟨_, pss_cons (ps_set (i := 4) nd rfl (.inl rfl) (pe_call D1.ok hr rfl D1.g D1.kp D1.b .nil pass0 (pa_cons (pv 0) (pa_cons (pe_call D2.ok hr3 rfl D2.g D2.kp D2.b .nil pass0 (pa_cons (pv 0) (pa_cons (pe_op (r := rCatA K) op_catA (pv 1) (pe_tup (pa_cons (pe_tup (pa_cons (pv 2) (pa_cons (pv 3) pa_nil))) pa_nil))) pa_nil))) pa_nil))))
      (pss_cons (ps_set (i := 5) nd rfl (.inl rfl) (pe_call D1.ok hr rfl D1.g D1.kp D1.b .nil pass0 (pa_cons (pv 0) (pa_cons (pe_call D2.ok hr3 rfl D2.g D2.kp D2.b .nil pass0 (pa_cons (pv 0) (pa_cons (pe_op (r := rCatA K) op_catA (pv 1) (pe_tup (pa_cons (pe_tup (pa_cons (pv 3) (pa_cons (pv 2) pa_nil))) pa_nil))) pa_nil))) pa_nil))))
      (pss_one (ps_ret (pe_cmpR op_eq (pe_op op_add (pv 4) (pv 5)) (pe_call D1.ok hr rfl D1.g D1.kp D1.b .nil pass0 (pa_cons (pv 0) (pa_cons (pv 1) pa_nil))) (nomark _))))), ?_⟩
    have lys := py.length_eq
    have ndy := srt_nodup srt
    have iny : ∀ x y, (x, y) ∈ ps → x ∈ ys ∧ y ∈ ys := fun x y h => ⟨py.mem_iff.mpr (hw.mem x y h).1, py.mem_iff.mpr (hw.mem x y h).2.1⟩
    generalize hA0 : H = AH0 at ha hw k
    have Az0 : Same AH0 AH0 := Same.refl _
    refine ⟨_, rfl, _, rfl, _, rfl, _, rfl, _, rfl, by show 2 ≤ sizeLine; decide, fun AT1 hAT1 => ⟨by show 1 ≤ sizeLine; decide, fun AT2 hAT2 => ?_⟩⟩
    have As1 : Same AH0 (upd AH0 AT1 (.tup [.str one, .str other])) := same_new hAT1
    have Ae1 : (upd AH0 AT1 (.tup [.str one, .str other])) AT1 = some (.tup [.str one, .str other]) := upd_same
    generalize upd AH0 AT1 (.tup [.str one, .str other]) = AH1 at As1 Ae1 hAT2 ⊢
    have As2 : Same AH1 (upd AH1 AT2 (.tup [.ref AT1])) := same_new hAT2
    have Ae2 : (upd AH1 AT2 (.tup [.ref AT1])) AT2 = some (.tup [.ref AT1]) := upd_same
    have Ae12 := As2 _ _ Ae1
    generalize upd AH1 AT2 (.tup [.ref AT1]) = AH2 at As2 Ae2 Ae12 ⊢
    have Aw2 := hw.same (Az0.trans (As1.trans As2))
    refine catA (K := K) Aw2.at' (.inl Ae2) (by have := Aw2.few; have := Aw2.prs.len; show us.length + 1 ≤ 1000; omega) fun Ac AH3 As3 Ae3 => ?_
    have Az3 := Az0.trans (As1.trans (As2.trans As3))
    have Aw3 := hw.same Az3
    obtain ⟨Arow, Akr⟩ := more_row hw.thru prow ndy kr iny hne hno2 inone inother
    obtain ⟨AR, AhR⟩ : ∃ R : Str → Str → Bool, ∀ x y, R x y = true ↔ Lead (ps ++ [(one, other)]) x y := ⟨fun x y => @decide (Lead (ps ++ [(one, other)]) x y) (Classical.propDecidable _), fun x y => @decide_eq_true_iff _ (Classical.propDecidable _)⟩
    have Ain : ∀ x y, (x, y) ∈ ps ++ [(one, other)] → x ∈ ys ∧ y ∈ ys := fun x y h => by
      rcases List.mem_append.mp h with z | z
      · exact iny x y z
      · rw [List.mem_singleton] at z
        injection z with z1 z2
        exact ⟨z1 ▸ inone, z2 ▸ inother⟩
    refine ⟨a, Ac, hs, us ++ [.ref AT1], ps ++ [(one, other)], Arow, ys, AR, rfl, .inl (Az3 _ _ ha), .inr Ae3, PrsV.append Aw3.prs ⟨⟨AT1, rfl, As3 _ _ Ae12⟩, trivial⟩, fun x hx => okh x (py.mem_iff.mpr hx), fun p hp => ⟨okh _ (Ain p.1 p.2 hp).1, okh _ (Ain p.1 p.2 hp).2⟩, hl, by rw [List.length_append]; have := hw.few; show ps.length + 1 ≤ 100; omega, Akr, fun x y h => ⟨py.mem_iff.mp (Ain x y h).1, py.mem_iff.mp (Ain x y h).2⟩, py.symm, srt, AhR, fun At Aws AH4 As4 Af4 Ap4 => ?_⟩
    have Az4 := Az3.trans As4
    have Aweb : WebAt AH4 At Aws hs (dueOf AR ys) := by
      refine ⟨Af4.rd, Ap4, dueOf_rises srt, ?_, fun x y h => ?_, due_thru AhR⟩
      · have h2 := dueOf_len (R := AR) (hs := ys)
        have h3 : ys.length * ys.length ≤ 8 * 8 := Nat.mul_le_mul (by omega) (by omega)
        omega
      · obtain ⟨h1, h2, h3⟩ := dueOf_mem.mp h
        exact ⟨py.mem_iff.mp h1, py.mem_iff.mp h2, due_irr AhR Akr h⟩
    refine ⟨a, At, Aws, hs, ys, Arow, dueOf AR ys, rfl, .inl (Az4 _ _ ha), Aweb, py, srt, hl, fun x y h => Akr.lead ((AhR x y).mp (dueOf_mem.mp h).2.2), fun AH5 As5 => ?_⟩
    have Az5 := Az4.trans As5
    rw [cnt_lead srt (q := ps ++ [(one, other)]) (fun x y => ⟨fun h => (AhR x y).mp (dueOf_mem.mp h).2.2, fun h => dueOf_mem.mpr ⟨(h.left Ain).1, (h.left Ain).2, (AhR x y).mpr h⟩⟩)]
    generalize hB0 : AH5 = BH0 at Az5
    have Bz0 := Az5
    refine ⟨_, rfl, _, rfl, _, rfl, _, rfl, _, rfl, by show 2 ≤ sizeLine; decide, fun BT1 hBT1 => ⟨by show 1 ≤ sizeLine; decide, fun BT2 hBT2 => ?_⟩⟩
    have Bs1 : Same BH0 (upd BH0 BT1 (.tup [.str other, .str one])) := same_new hBT1
    have Be1 : (upd BH0 BT1 (.tup [.str other, .str one])) BT1 = some (.tup [.str other, .str one]) := upd_same
    generalize upd BH0 BT1 (.tup [.str other, .str one]) = BH1 at Bs1 Be1 hBT2 ⊢
    have Bs2 : Same BH1 (upd BH1 BT2 (.tup [.ref BT1])) := same_new hBT2
    have Be2 : (upd BH1 BT2 (.tup [.ref BT1])) BT2 = some (.tup [.ref BT1]) := upd_same
    have Be12 := Bs2 _ _ Be1
    generalize upd BH1 BT2 (.tup [.ref BT1]) = BH2 at Bs2 Be2 Be12 ⊢
    have Bw2 := hw.same (Bz0.trans (Bs1.trans Bs2))
    refine catA (K := K) Bw2.at' (.inl Be2) (by have := Bw2.few; have := Bw2.prs.len; show us.length + 1 ≤ 1000; omega) fun Bc BH3 Bs3 Be3 => ?_
    have Bz3 := Bz0.trans (Bs1.trans (Bs2.trans Bs3))
    have Bw3 := hw.same Bz3
    obtain ⟨Brow, Bkr⟩ := more_row hw.thru prow ndy kr iny (fun e => hne e.symm) hno1 inother inone
    obtain ⟨BR, BhR⟩ : ∃ R : Str → Str → Bool, ∀ x y, R x y = true ↔ Lead (ps ++ [(other, one)]) x y := ⟨fun x y => @decide (Lead (ps ++ [(other, one)]) x y) (Classical.propDecidable _), fun x y => @decide_eq_true_iff _ (Classical.propDecidable _)⟩
    have Bin : ∀ x y, (x, y) ∈ ps ++ [(other, one)] → x ∈ ys ∧ y ∈ ys := fun x y h => by
      rcases List.mem_append.mp h with z | z
      · exact iny x y z
      · rw [List.mem_singleton] at z
        injection z with z1 z2
        exact ⟨z1 ▸ inother, z2 ▸ inone⟩
    refine ⟨a, Bc, hs, us ++ [.ref BT1], ps ++ [(other, one)], Brow, ys, BR, rfl, .inl (Bz3 _ _ ha), .inr Be3, PrsV.append Bw3.prs ⟨⟨BT1, rfl, Bs3 _ _ Be12⟩, trivial⟩, fun x hx => okh x (py.mem_iff.mpr hx), fun p hp => ⟨okh _ (Bin p.1 p.2 hp).1, okh _ (Bin p.1 p.2 hp).2⟩, hl, by rw [List.length_append]; have := hw.few; show ps.length + 1 ≤ 100; omega, Bkr, fun x y h => ⟨py.mem_iff.mp (Bin x y h).1, py.mem_iff.mp (Bin x y h).2⟩, py.symm, srt, BhR, fun Bt Bws BH4 Bs4 Bf4 Bp4 => ?_⟩
    have Bz4 := Bz3.trans Bs4
    have Bweb : WebAt BH4 Bt Bws hs (dueOf BR ys) := by
      refine ⟨Bf4.rd, Bp4, dueOf_rises srt, ?_, fun x y h => ?_, due_thru BhR⟩
      · have h2 := dueOf_len (R := BR) (hs := ys)
        have h3 : ys.length * ys.length ≤ 8 * 8 := Nat.mul_le_mul (by omega) (by omega)
        omega
      · obtain ⟨h1, h2, h3⟩ := dueOf_mem.mp h
        exact ⟨py.mem_iff.mp h1, py.mem_iff.mp h2, due_irr BhR Bkr h⟩
    refine ⟨a, Bt, Bws, hs, ys, Brow, dueOf BR ys, rfl, .inl (Bz4 _ _ ha), Bweb, py, srt, hl, fun x y h => Bkr.lead ((BhR x y).mp (dueOf_mem.mp h).2.2), fun BH5 Bs5 => ?_⟩
    have Bz5 := Bz4.trans Bs5
    rw [cnt_lead srt (q := ps ++ [(other, one)]) (fun x y => ⟨fun h => (BhR x y).mp (dueOf_mem.mp h).2.2, fun h => dueOf_mem.mpr ⟨(h.left Bin).1, (h.left Bin).2, (BhR x y).mpr h⟩⟩)]
    have w5 := hw.same Bz5
    refine ⟨_, rfl, _, rfl, _, _, rfl, rfl, _, rfl, _, rfl, a, t, us, hs, ys, row, ps, rfl, .inl (Bz5 _ _ ha), w5, py, srt, hl, kr, fun H6 s6 => ⟨rfl, ?_⟩⟩
    have e := cnt_sides (ps := ps) srt inone hne ys.length Lv.nil List.not_mem_nil List.not_mem_nil
    have e2 : decide (V.int (((cnt (nxO (ps ++ [(one, other)]) ys) ys.length [] : Nat) : Int) + ((cnt (nxO (ps ++ [(other, one)]) ys) ys.length [] : Nat) : Int)) = V.int ((cnt (nxO ps ys) ys.length [] : Nat) : Int)) = true := decide_eq_true (congrArg V.int (by omega))
    have := k H6 (Bz5.trans s6)
    rw [← e2] at this
    exact this
end
end Ah
set_option Elab.async false
set_option linter.all false
set_option maxRecDepth 100000
set_option maxHeartbeats 8000000
namespace Ah
open PySem PySem.Spec PyProof.Rows L2
abbrev sParts : Stmt := topS 39
def crossOf (f b : List Str) : List (Str × Str) := f.flatMap fun x => b.map fun y => (x, y)
theorem cross_mem {f b : List Str} {x y : Str} : (x, y) ∈ crossOf f b ↔ x ∈ f ∧ y ∈ b := by
  unfold crossOf
  rw [List.mem_flatMap]
  constructor
  · rintro ⟨z, hz, h⟩
    obtain ⟨w, hw, e⟩ := List.mem_map.mp h
    injection e with e1 e2
    exact ⟨e1 ▸ hz, e2 ▸ hw⟩
  · rintro ⟨h1, h2⟩
    exact ⟨x, h1, List.mem_map.mpr ⟨y, h2, rfl⟩⟩
theorem cross_nodup : ∀ {f b : List Str}, f.Nodup → b.Nodup → (crossOf f b).Nodup
  | [], _, _, _ => List.nodup_nil
  | x :: r, b, hf, hb => by
    obtain ⟨h1, h2⟩ := List.nodup_cons.mp hf
    show (b.map (fun y => (x, y)) ++ crossOf r b).Nodup
    rw [List.nodup_append]
    refine ⟨List.Pairwise.map _ (fun a c n e => n (Prod.mk.inj e).2) hb, cross_nodup h2 hb, fun p hp q hq e => ?_⟩
    obtain ⟨y, _, rfl⟩ := List.mem_map.mp hp
    rw [← e] at hq
    exact h1 (cross_mem.mp hq).1
theorem cross_snoc (f b : List Str) (x : Str) : crossOf (f ++ [x]) b = crossOf f b ++ b.map fun y => (x, y) := by
  unfold crossOf
  rw [List.flatMap_append]
  simp
theorem cross_len (f b : List Str) : (crossOf f b).length = f.length * b.length := by
  unfold crossOf
  induction f with
  | nil => simp
  | cons x r ih =>
    rw [List.flatMap_cons, List.length_append, ih, List.length_map, List.length_cons, Nat.add_mul]
    omega
def dueP (ps : List (Str × Str)) (ys : List Str) : List (Str × Str) := dueOf (fun x y => decide ((x, y) ∈ ps)) ys
theorem dueP_mem {ps : List (Str × Str)} {ys : List Str} (h : ∀ x y, (x, y) ∈ ps → x ∈ ys ∧ y ∈ ys) (p : Str × Str) : p ∈ dueP ps ys ↔ p ∈ ps := by
  unfold dueP
  rw [dueOf_mem, decide_eq_true_iff]
  exact ⟨fun z => z.2.2, fun z => ⟨(h p.1 p.2 z).1, (h p.1 p.2 z).2, z⟩⟩
theorem dueP_few {ps : List (Str × Str)} {ys : List Str} (l : ys.length ≤ 8) : (dueP ps ys).length ≤ 64 := by
  have h2 := dueOf_len (R := fun x y => decide ((x, y) ∈ ps)) (hs := ys)
  have h3 : ys.length * ys.length ≤ 8 * 8 := Nat.mul_le_mul l l
  unfold dueP
  omega
section
variable {P : Program} {w : World} {K : PySem.W.Frag} {mg : Str → Option Value} {base : Heap}
theorem scParts : FnScope ["pen", "hands", "part", "front", "back", "web", "other", "product", "cross", "hand", "late"] ["pen", "hands", "part"] (defScope sParts) := ⟨rfl, rfl, rfl, by decide +kernel, rfl, by decide +kernel, by decide +kernel⟩
def spParts : Sp := fun vs H Q _ => ∃ (p c a : Addr) (part n : Nat) (hs ys : List Str), vs = [.ref p, .ref a, .int (part : Int)] ∧ H a = some (.lst (hs.map V.str)) ∧ (∀ x ∈ hs, IsHand x) ∧ ys.Perm hs ∧ ys.Pairwise sLt ∧ hs.length ≤ 8 ∧ 1 ≤ part ∧ part < hs.length ∧ PenAt H p c n ∧ n + 600 < 1000000 ∧ ∀ (H' : Hp), Q (.bl true) H'
theorem srt_ex {hs : List Str} (nd : hs.Nodup) : ∃ S : List Str, S.Perm hs ∧ S.Pairwise sLt := by
  have tot : ∀ x y : Str, (!decide (sLt y x) || !decide (sLt x y)) = true := fun x y => by
    by_cases z : sLt y x
    · have : ¬ sLt x y := fun w => sLt_irr _ (sLt_trans z w)
      simp [this]
    · simp [z]
  refine ⟨hs.mergeSort (fun x y => !decide (sLt y x)), List.mergeSort_perm _ _, ?_⟩
  have pw := List.pairwise_mergeSort (le := fun x y : Str => !decide (sLt y x)) (fun x y z h k => by
    have h' : ¬ sLt y x := by simpa using h
    have k' : ¬ sLt z y := by simpa using k
    have : ¬ sLt z x := fun w => by
      by_cases v : sLt x y
      · exact k' (sLt_trans w v)
      · have := sLt_tri v h'
        subst this
        exact k' w
    simpa using this) tot hs
  have ndS : (hs.mergeSort (fun x y => !decide (sLt y x))).Nodup := (List.mergeSort_perm _ _).nodup_iff.mpr nd
  unfold List.Nodup at ndS
  refine (pw.and ndS).imp fun {x y} h => ?_
  have h1 : ¬ sLt y x := by simpa using h.1
  by_cases z : sLt x y
  · exact z
  · exact absurd (sLt_tri z h1) h.2
theorem ok_parts {f f1 f2 f3 : Addr} {fd fd1 fd2 fd3 : FuncData} (F : Fun K "_law_parts_right" "_law_parts_right" sParts f fd) (B : Blt2 mg) (D1 : Df P w K mg base CX0 "_law_web" 4 f1 fd1 ["pen", "hands"] spLawWeb) (D2 : Df P w K mg base CX0 "count_rows" 6 f2 fd2 ["hands", "web"] spCount) (D3 : Df P w K mg base CX0 "_law_picked" 1 f3 fd3 ["many", "part"] spPicked) :
    FnOk P w K mg base CX0 7 f fd ["pen", "hands", "part"] spParts := by
  refine F.ok scParts (fun vs H Q E h => ?_) (fun cdv A outer s H vs Q E hr h => ?_)
  · obtain ⟨p, c, a, part, n, hs, ys, rfl, _⟩ := h
    rfl
  · obtain ⟨p, c, a, part, n, hs, ys, rfl, ha, hh, py, srt, hl, hp1, hp2, hpen, hn, k⟩ := h
    have nd := scParts.nd
    have hr1 : Room 1 _ := hr.mono (by decide)
    have hr4 : Room 4 _ := hr.mono (by decide)
    have hu64 : (A.deeper (envOfC "_law_parts_right" (defScope sParts) s.heap.objs.size f cdv)).units + 64 < cLine := by
      have := hr.units
      omega
    refine ⟨_, pss_cons (ps_par (i := 3) (j := 4) rfl nd rfl rfl (by decide) rfl rfl (pa_cons (pe_slice (r := rSlL K) sl_list (pv 1) po_none (po_some (pv 2))) (pa_cons (pe_slice (r := rSlL K) sl_list (pv 1) (po_some (pv 2)) po_none) pa_nil)) (by rfl))
      (pss_cons (ps_par (i := 5) (j := 6) rfl nd rfl rfl (by decide) rfl rfl (pa_cons (pe_call D1.ok hr4 rfl D1.g D1.kp D1.b .nil pass0 (pa_cons (pv 0) (pa_cons (pv 3) pa_nil))) (pa_cons (pe_call D1.ok hr4 rfl D1.g D1.kp D1.b .nil pass0 (pa_cons (pv 0) (pa_cons (pv 4) pa_nil))) pa_nil)) (by rfl))
      (pss_cons (ps_set (i := 7) nd rfl (.inl rfl) (pe_op op_mul (pe_call D2.ok hr rfl D2.g D2.kp D2.b .nil pass0 (pa_cons (pv 3) (pa_cons (pv 5) pa_nil))) (pe_call D2.ok hr rfl D2.g D2.kp D2.b .nil pass0 (pa_cons (pe_callTy call_tuple_of (by rfl) B.tuple (by decide +kernel) (pa_cons (pv 4) pa_nil)) (pa_cons (pv 6) pa_nil)))))
      (pss_cons (ps_set (i := 8) nd rfl (.inl rfl) (pe_lst pa_nil))
      (pss_cons (ps_for PassesOwn.never rfl (pi_list (pv 3)) (pg_name (i := 9) nd rfl (.inr rfl))
        (pss_one (ps_expr (pe_bm PySem.F.plainAttrs_list PySem.F.slot_list_extend PySem.F.type_list_extend mt_extend (pv 8) (pa_cons (pe_lc (own := [("late", 10)]) (g := gName 10) (tt := tYes) (te := tTup (tCons (tVar 9) (tCons (tVar 10) tNil))) rfl nd (pi_list (pv 4))
          (blkOk_by (N := ["pen", "hands", "part", "front", "back", "web", "other", "product", "cross", "hand", "late"]) (sc := defScope sParts) (by decide +kernel)) (fun _ _ _ _ _ => pg_name (i := 10) nd rfl (Or.inl rfl))
          (fun _ _ _ _ _ => pts_nil) (fun _ _ _ _ _ => pe_tup (pa_cons (pv 9) (pa_cons (pv 10) pa_nil)))) pa_nil)))))
      (pss_cons (ps_if (pt_cmpR op_ne (pe_call D2.ok hr rfl D2.g D2.kp D2.b .nil pass0 (pa_cons (pv 1) (pa_cons (pe_callTy call_tuple_of (by rfl) B.tuple (by decide +kernel) (pa_cons (pe_callB (cr_sortedP hu64) (by rfl) B.sorted (by decide +kernel) (pa_cons (pe_op (r := rCatA K) op_catA (pe_op (r := rCatA K) op_catA (pv 5) (pv 6)) (pe_callTy call_tuple_of (by rfl) B.tuple (by decide +kernel) (pa_cons (pv 8) pa_nil))) pa_nil)) pa_nil)) pa_nil))) (pv 7) (nomark _)) (pss_one (ps_ret pe_bl)) pss_nil)
      (pss_one (ps_ret (pe_cmpR op_eq (pe_call D2.ok hr rfl D2.g D2.kp D2.b .nil pass0 (pa_cons (pv 1) (pa_cons (pe_callTy call_tuple_of (by rfl) B.tuple (by decide +kernel) (pa_cons (pe_callB (cr_sortedP hu64) (by rfl) B.sorted (by decide +kernel) (pa_cons (pe_op (r := rCatA K) op_catA (pv 5) (pv 6)) pa_nil)) pa_nil)) pa_nil))) (pe_op op_mul (pv 7) (pe_call D3.ok hr1 rfl D3.g D3.kp D3.b .nil pass0 (pa_cons (pe_callB call_len_seq (by rfl) B.len PySem.boot_len (pa_cons (pv 1) pa_nil)) (pa_cons (pv 2) pa_nil)))) (nomark _))))))))), ?_⟩
    have ndy := srt_nodup srt
    have ndh : hs.Nodup := py.nodup_iff.mp ndy
    have lys := py.length_eq
    have lmh : (hs.map V.str).length = hs.length := List.length_map ..
    have efb : hs = hs.take part ++ hs.drop part := (List.take_append_drop _ _).symm
    generalize hfr : hs.take part = fr at efb
    generalize hbk : hs.drop part = bk at efb
    have lfr : fr.length = part := by rw [← hfr, List.length_take]; omega
    have lbk : bk.length = hs.length - part := by rw [← hbk, List.length_drop]
    have nfb := ndh
    rw [efb, List.nodup_append] at nfb
    obtain ⟨ndf, ndb, dis⟩ := nfb
    obtain ⟨yF, pyF, sF⟩ := srt_ex ndf
    obtain ⟨yB, pyB, sB⟩ := srt_ex ndb
    have memh : ∀ x, x ∈ hs ↔ x ∈ fr ∨ x ∈ bk := fun x => by rw [efb, List.mem_append]
    have T : Parts yF yB ys := ⟨sF, sB, srt, fun x h1 h2 => dis x (pyF.mem_iff.mp h1) x (pyB.mem_iff.mp h2) rfl, fun x => by rw [py.mem_iff, memh, pyF.mem_iff, pyB.mem_iff]⟩
    have hhf : ∀ x ∈ fr, IsHand x := fun x h => hh x ((memh x).mpr (.inl h))
    have hhb : ∀ x ∈ bk, IsHand x := fun x h => hh x ((memh x).mpr (.inr h))
    refine ⟨_, rfl, ?_⟩
    dsimp only [tNoPart]
    refine ⟨_, rfl, _, rfl, a, _, rfl, SqL.of ha, fun FA hFA => ?_⟩
    have s1 : Same H (upd H FA (.lst (cutV (hs.map V.str) none (some (part : Int))))) := same_new hFA
    have e1 : (upd H FA (.lst (cutV (hs.map V.str) none (some (part : Int))))) FA = some (.lst (fr.map V.str)) := by
      rw [upd_same, cutV_to (by omega), ← List.map_take, hfr]
    generalize upd H FA (.lst (cutV (hs.map V.str) none (some (part : Int)))) = H1 at s1 e1 ⊢
    refine ⟨_, rfl, _, rfl, _, rfl, ?_⟩
    dsimp only [tNoPart]
    refine ⟨a, _, rfl, SqL.of (s1 _ _ ha), fun BA hBA => ?_⟩
    have s2 : Same H1 (upd H1 BA (.lst (cutV (hs.map V.str) (some (part : Int)) none))) := same_new hBA
    have e2 : (upd H1 BA (.lst (cutV (hs.map V.str) (some (part : Int)) none))) BA = some (.lst (bk.map V.str)) := by
      rw [upd_same, cutV_from (by omega), ← List.map_drop, hbk]
    have e12 := s2 _ _ e1
    have z2 := s1.trans s2
    generalize upd H1 BA (.lst (cutV (hs.map V.str) (some (part : Int)) none)) = H2 at s2 e2 e12 z2 ⊢
    have hp2' := hpen.keep z2
    obtain ⟨kv2, hk2⟩ := hp2'.dk
    refine ⟨_, _, rfl, _, rfl, _, rfl, p, c, FA, fr, yF, _, rfl, e12, hhf, ndf, by omega, pyF, sF, hp2', by omega, fun t1 ws1 ds1 row1 H3 hw1 kr1 pr1 hp3 kp3 => ?_⟩
    obtain ⟨kv3, hk3⟩ := hp3.dk
    have eB3 := lk_kp kp3 hk2 (fun _ z => by cases z) e2
    refine ⟨_, rfl, _, rfl, p, c, BA, bk, yB, _, rfl, eB3, hhb, ndb, by omega, pyB, sB, hp3, by omega, fun t2 ws2 ds2 row2 H4 hw2 kr2 pr2 hp4 kp4 => ?_⟩
    have hw1' : WebAt H4 t1 ws1 fr ds1 := ⟨rd_kp kp4 hk3 (fun _ z => by cases z) hw1.at', hw1.prs.kp kp4 hk3, hw1.rises, hw1.few, hw1.mem, hw1.thru⟩
    have eF4 := lk_kp kp4 hk3 (fun _ z => by cases z) (lk_kp kp3 hk2 (fun _ z => by cases z) e12)
    have eB4 := lk_kp kp4 hk3 (fun _ z => by cases z) eB3
    have ea4 := lk_kp kp4 hk3 (fun _ z => by cases z) (lk_kp kp3 hk2 (fun _ z => by cases z) (z2 _ _ ha))
    have iF : ∀ x y, (x, y) ∈ ds1 → x ∈ yF ∧ y ∈ yF := fun x y h => ⟨pyF.mem_iff.mpr (hw1.mem x y h).1, pyF.mem_iff.mpr (hw1.mem x y h).2.1⟩
    have iB : ∀ x y, (x, y) ∈ ds2 → x ∈ yB ∧ y ∈ yB := fun x y h => ⟨pyB.mem_iff.mpr (hw2.mem x y h).1, pyB.mem_iff.mpr (hw2.mem x y h).2.1⟩
    refine ⟨_, _, rfl, _, rfl, _, rfl, FA, t1, ws1, fr, yF, row1, ds1, rfl, .inl eF4, hw1', pyF, sF, by omega, kr1, fun H5 s5 => ?_⟩
    refine ⟨_, rfl, BA, _, rfl, .inl ⟨SqL.of (s5 _ _ eB4), fun TB hTB => ?_⟩⟩
    have s6 : Same H5 (upd H5 TB (.tup (bk.map V.str))) := same_new hTB
    have eTB : (upd H5 TB (.tup (bk.map V.str))) TB = some (.tup (bk.map V.str)) := upd_same
    generalize upd H5 TB (.tup (bk.map V.str)) = H6 at s6 eTB ⊢
    have z46 := s5.trans s6
    refine ⟨_, rfl, TB, t2, ws2, bk, yB, row2, ds2, rfl, .inr (.inl eTB), hw2.same z46, pyB, sB, by omega, kr2, fun H7 s7 => ?_⟩
    have pow8 : (8 : Nat) ^ 8 = 16777216 := by decide
    have bX : cnt (nxO ds1 yF) yF.length [] ≤ 16777216 := by
      have h1 := cnt_le (nx_ok (srt_nodup sF) kr1 iF (by rw [pyF.length_eq]; omega)) yF.length []
      have h2 : 8 ^ yF.length ≤ 8 ^ 8 := Nat.pow_le_pow_right (by decide) (by rw [pyF.length_eq]; omega)
      omega
    have bY : cnt (nxO ds2 yB) yB.length [] ≤ 16777216 := by
      have h1 := cnt_le (nx_ok (srt_nodup sB) kr2 iB (by rw [pyB.length_eq]; omega)) yB.length []
      have h2 : 8 ^ yB.length ≤ 8 ^ 8 := Nat.pow_le_pow_right (by decide) (by rw [pyB.length_eq]; omega)
      omega
    refine ⟨_, _, rfl, rfl, .inl ⟨by omega, by omega⟩, Nat.zero_le _, fun CA hCA => ?_⟩
    have z47 := z46.trans s7
    have s8 : Same H7 (upd H7 CA (.lst [])) := same_new hCA
    have e8 : (upd H7 CA (.lst [])) CA = some (.lst []) := upd_same
    generalize upd H7 CA (.lst []) = H8 at s8 e8 ⊢
    have eF7 := z47 _ _ eF4
    have eB7 := z47 _ _ eB4
    refine ⟨_, rfl, FA, rfl, ⟨_, SqL.of (s8 _ _ eF7)⟩, ?_⟩
    generalize hX : cnt (nxO ds1 yF) yF.length [] = X at bX ⊢
    generalize hY : cnt (nxO ds2 yB) yB.length [] = Y at bY ⊢
    have bXY : X * Y ≤ 16777216 * 16777216 := Nat.mul_le_mul bX bY
    refine for_list (K := K) (a := FA) (xs := fr.map V.str) (fun i σ H9 => ∃ (o9 : Option V) (ws : List V), σ = [some (.ref p), some (.ref a), some (.int (part : Int)), some (.ref FA), some (.ref BA), some (.ref t1), some (.ref t2), some (.int ((X : Int) * (Y : Int))), some (.ref CA), o9, none] ∧ Same H7 H9 ∧ H9 CA = some (.lst ws) ∧ PrsV H9 ws (crossOf (fr.take i) bk))
      ⟨none, [], rfl, s8, e8, trivial⟩ (fun i σ H9 _ ⟨_, _, _, s9, _⟩ => SqL.of (s9 _ _ eF7)) ?_ ?_
    · rintro i v σ H9 hv ⟨o9, ws, rfl, s9, e9, hws⟩
      obtain ⟨x, hx, rfl, _⟩ := str_at hv
      have hil := (List.getElem?_eq_some_iff.mp hx).1
      have et : fr.take (i + 1) = fr.take i ++ [x] := by rw [List.take_succ, hx]; rfl
      have eB9 := s9 _ _ eB7
      refine ⟨_, rfl, .inl ⟨rfl, _, SqL.of e9⟩, _, rfl, BA, rfl, ⟨_, SqL.of eB9⟩, fun D hD => ?_⟩
      refine lc_list (K := K) (a := BA) (xs := bk.map V.str) (fun j H10 => Same H9 H10 ∧ ∃ vs, H10 D = some (.lst vs) ∧ PrsV H10 vs ((bk.take j).map fun y => (x, y))) ⟨same_new hD, [], upd_same, trivial⟩ (fun j H10 _ z => SqL.of (z.1 _ _ eB9)) ?_ ?_
      · rintro j v H10 hv2 ⟨s10, vs, e10, hvs⟩
        obtain ⟨y, hy, rfl, _⟩ := str_at hv2
        have hjl := (List.getElem?_eq_some_iff.mp hy).1
        have et2 : bk.take (j + 1) = bk.take j ++ [y] := by rw [List.take_succ, hy]; rfl
        have lv := hvs.len
        rw [List.length_map, List.length_take] at lv
        refine ⟨rfl, _, rfl, _, rfl, by show 2 ≤ sizeLine; decide, fun T3 hT3 => ?_⟩
        have s11 : Same H10 (upd H10 T3 (.tup [.str x, .str y])) := same_new hT3
        have e11 := s11 _ _ e10
        refine ⟨vs, e11, small1000 (by omega), same_mut (s10.trans s11) hD, _, upd_same, ?_⟩
        rw [et2, List.map_append]
        exact PrsV.append ((hvs.same s11).mut e11) ⟨PrV.mut e11 ⟨T3, rfl, upd_same⟩, trivial⟩
      · rintro H10 ⟨s10, vs, e10, hvs⟩
        rw [List.length_map, List.take_length] at hvs
        have e9' := s10 _ _ e9
        have l1 := hws.len
        have l2 := hvs.len
        rw [cross_len, List.length_take] at l1
        rw [List.length_map] at l2
        have l3 : min i fr.length * bk.length ≤ 8 * 8 := Nat.mul_le_mul (by omega) (by omega)
        refine ⟨CA, D, ws, vs, rfl, rfl, e9', e10, by rw [sizeLine_eq]; omega, ?_⟩
        refine ⟨_, _, rfl, same_mut (s9.trans s10) hCA, upd_same, ?_⟩
        rw [et, cross_snoc]
        exact PrsV.append ((hws.same s10).mut e9') (hvs.mut e9')
    · rintro σ H9 ⟨o9, ws, rfl, s9, e9, hws⟩
      rw [List.length_map, List.take_length] at hws
      have z49 := z47.trans s9
      have w1 := hw1'.same z49
      have w2 := hw2.same z49
      have ea9 := z49 _ _ ea4
      have l1 := w1.prs.len
      have l2 := w2.prs.len
      have l1' := w1.few
      have l2' := w2.few
      have l3 := hws.len
      have l3' : fr.length * bk.length ≤ 8 * 8 := Nat.mul_le_mul (by omega) (by omega)
      rw [cross_len] at l3
      have nd12 : (ds1 ++ ds2).Nodup := by
        rw [List.nodup_append]
        exact ⟨pLt_nodup w1.rises, pLt_nodup w2.rises, fun p hp q hq e => T.dis p.1 (iF p.1 p.2 hp).1 (by rw [e]; exact (iB q.1 q.2 hq).1)⟩
      have nd123 : (ds1 ++ ds2 ++ crossOf fr bk).Nodup := by
        rw [List.nodup_append]
        refine ⟨nd12, cross_nodup ndf ndb, fun p hp q hq e => ?_⟩
        subst e
        obtain ⟨h1, h2⟩ := cross_mem (x := p.1) (y := p.2).mp hq
        rcases List.mem_append.mp hp with z | z
        · exact dis p.2 (hw1.mem p.1 p.2 z).2.1 p.2 h2 rfl
        · exact dis p.1 h1 p.1 (hw2.mem p.1 p.2 z).1 rfl
      have in12 : ∀ x y, (x, y) ∈ ds1 ++ ds2 → x ∈ ys ∧ y ∈ ys := fun x y h => (List.mem_append.mp h).elim (fun z => ⟨(T.mem x).mpr (.inl (iF x y z).1), (T.mem y).mpr (.inl (iF x y z).2)⟩) fun z => ⟨(T.mem x).mpr (.inr (iB x y z).1), (T.mem y).mpr (.inr (iB x y z).2)⟩
      have in123 : ∀ x y, (x, y) ∈ ds1 ++ ds2 ++ crossOf fr bk → x ∈ ys ∧ y ∈ ys := fun x y h => (List.mem_append.mp h).elim (in12 x y) fun z => ⟨(T.mem x).mpr (.inl (pyF.mem_iff.mpr (cross_mem.mp z).1)), (T.mem y).mpr (.inr (pyB.mem_iff.mpr (cross_mem.mp z).2))⟩
      have ndr : (row1 ++ row2).Nodup := by
        rw [List.nodup_append]
        exact ⟨pr1.nodup_iff.mpr ndf, pr2.nodup_iff.mpr ndb, fun x hx y hy e => dis x (pr1.mem_iff.mp hx) y (pr2.mem_iff.mp hy) e⟩
      have bf1 : ∀ x y, (x, y) ∈ ds1 → [x, y].Sublist (row1 ++ row2) := fun x y h => (idx_bef (kr1 x y h).1 (kr1 x y h).2.1 (kr1 x y h).2.2).trans (List.sublist_append_left _ _)
      have bf2 : ∀ x y, (x, y) ∈ ds2 → [x, y].Sublist (row1 ++ row2) := fun x y h => (idx_bef (kr2 x y h).1 (kr2 x y h).2.1 (kr2 x y h).2.2).trans (List.sublist_append_right _ _)
      have krS : KeepR (row1 ++ row2) (ds1 ++ ds2 ++ crossOf fr bk) := keepR_bef ndr fun x y h => (List.mem_append.mp h).elim (fun z => (List.mem_append.mp z).elim (bf1 x y) (bf2 x y)) fun z => (List.singleton_sublist.mpr (pr1.mem_iff.mpr (cross_mem.mp z).1)).append (List.singleton_sublist.mpr (pr2.mem_iff.mpr (cross_mem.mp z).2))
      have kr12 : KeepR (row1 ++ row2) (ds1 ++ ds2) := fun x y h => krS x y (List.mem_append_left _ h)
      -- the webs of both
      have webU : ∀ (all : List (Str × Str)) (H' : Hp) (q : Addr) (us : List V), (∀ x y, (x, y) ∈ all → x ∈ ys ∧ y ∈ ys) → KeepR (row1 ++ row2) all → (∀ x y z, (x, y) ∈ all → (y, z) ∈ all → (x, z) ∈ all) → Rd H' q (.tup us) → PrsV H' us (dueP all ys) → WebAt H' q us hs (dueP all ys) := fun all H' q us ina kra thr rd pv => by
        refine ⟨rd, pv, dueOf_rises srt, dueP_few (by omega), fun x y h => ?_, fun x y z h1 h2 => (dueP_mem ina _).mpr (thr x y z ((dueP_mem ina _).mp h1) ((dueP_mem ina _).mp h2))⟩
        have h' := (dueP_mem ina _).mp h
        refine ⟨py.mem_iff.mp (ina x y h').1, py.mem_iff.mp (ina x y h').2, fun e => ?_⟩
        have := (kra x y h').2.2
        rw [e] at this
        exact Nat.lt_irrefl _ this
      have thr12 : ∀ x y z, (x, y) ∈ ds1 ++ ds2 → (y, z) ∈ ds1 ++ ds2 → (x, z) ∈ ds1 ++ ds2 := fun x y z h1 h2 => by
        rcases List.mem_append.mp h1 with a1 | a1 <;> rcases List.mem_append.mp h2 with a2 | a2
        · exact List.mem_append_left _ (w1.thru x y z a1 a2)
        · exact absurd (iB y z a2).1 (T.dis y (iF x y a1).2)
        · exact absurd (iB x y a1).2 (T.dis y (iF y z a2).1)
        · exact List.mem_append_right _ (w2.thru x y z a1 a2)
      have thrS : ∀ x y z, (x, y) ∈ ds1 ++ ds2 ++ crossOf fr bk → (y, z) ∈ ds1 ++ ds2 ++ crossOf fr bk → (x, z) ∈ ds1 ++ ds2 ++ crossOf fr bk := fun x y z h1 h2 => by
        rcases List.mem_append.mp h1 with a1 | a1 <;> rcases List.mem_append.mp h2 with a2 | a2
        · exact List.mem_append_left _ (thr12 x y z a1 a2)
        · obtain ⟨b1, b2⟩ := cross_mem.mp a2
          rcases List.mem_append.mp a1 with c1 | c1
          · exact List.mem_append_right _ (cross_mem.mpr ⟨(hw1.mem x y c1).1, b2⟩)
          · exact absurd rfl (dis y b1 y (hw2.mem x y c1).2.1)
        · obtain ⟨b1, b2⟩ := cross_mem.mp a1
          rcases List.mem_append.mp a2 with c1 | c1
          · exact absurd rfl (dis y (hw1.mem y z c1).1 y b2)
          · exact List.mem_append_right _ (cross_mem.mpr ⟨b1, (hw2.mem y z c1).2.1⟩)
        · obtain ⟨b1, b2⟩ := cross_mem.mp a1
          obtain ⟨d1, d2⟩ := cross_mem.mp a2
          exact absurd rfl (dis y d1 y b2)
      have lyF := pyF.length_eq
      have lyB := pyB.length_eq
      have eS := cnt_ser (pU := dueP (ds1 ++ ds2 ++ crossOf fr bk) ys) T iF iB (fun x y => by
        rw [dueP_mem in123, List.mem_append, List.mem_append, cross_mem, pyF.mem_iff, pyB.mem_iff, or_assoc]) ys.length yF.length yB.length [] (by omega) Lv.nil Lv.nil (.inl rfl)
      have eP := cnt_par (pU := dueP (ds1 ++ ds2) ys) T iF iB (fun q => by rw [dueP_mem in12, List.mem_append]) ys.length yF.length yB.length [] (by omega) Lv.nil Lv.nil
      rw [show inY yF [] = [] from rfl, show inY yB [] = [] from rfl, hX, hY] at eS eP
      rw [lyF, lfr, show ch ys.length part = ch hs.length part by rw [lys]] at eP
      -- all three
      refine ⟨_, rfl, _, rfl, _, rfl, ?_⟩
      refine catA (K := K) w1.at' w2.at' (by omega) fun c1 H10 s10 e10 => ?_
      have e9' := s10 _ _ e9
      refine ⟨_, rfl, CA, ws, rfl, .inl ⟨SqL.of e9', fun TC hTC => ?_⟩⟩
      have s11 : Same H10 (upd H10 TC (.tup ws)) := same_new hTC
      have e11 : (upd H10 TC (.tup ws)) TC = some (.tup ws) := upd_same
      generalize upd H10 TC (.tup ws) = H11 at s11 e11 ⊢
      refine catA (K := K) (rd_same s11 e10) (.inl e11) (by rw [List.length_append]; omega) fun c2 H12 s12 e12 => ?_
      have z912 := s10.trans (s11.trans s12)
      refine ⟨c2, _, ds1 ++ ds2 ++ crossOf fr bk, dueP (ds1 ++ ds2 ++ crossOf fr bk) ys, rfl, .inr (.inl e12), PrsV.append (PrsV.append (w1.prs.same z912) (w2.prs.same z912)) (hws.same z912), nd123, fun q => (dueP_mem in123 q).symm, dueOf_rises srt, fun q wq pq hq => ⟨q, wq, rfl, .inl ⟨SqL.of upd_same, fun l hl0 => ?_⟩⟩⟩
      have s13 : Same H12 (upd (upd H12 q (.lst wq)) l (.tup wq)) := (same_new hq).trans (same_new hl0)
      have e13 : (upd (upd H12 q (.lst wq)) l (.tup wq)) l = some (.tup wq) := upd_same
      generalize upd (upd H12 q (.lst wq)) l (.tup wq) = H13 at s13 e13 ⊢
      have z913 := z912.trans s13
      refine ⟨a, l, wq, hs, ys, row1 ++ row2, dueP (ds1 ++ ds2 ++ crossOf fr bk) ys, rfl, .inl (z913 _ _ ea9), webU _ _ _ _ in123 krS thrS (.inl e13) (pq.same s13), py, srt, hl, fun x y h => krS x y ((dueP_mem in123 _).mp h), fun H14 s14 => ?_⟩
      have z914 := z913.trans s14
      rw [eS]
      refine ⟨_, rfl, rfl, _, rfl, ?_⟩
      rw [show (!decide (V.int ((X * Y : Nat) : Int) = V.int ((X : Int) * (Y : Int)))) = false by rw [decide_eq_true (congrArg V.int (Int.natCast_mul X Y))]; rfl]
      have v1 := w1.same z914
      have v2 := w2.same z914
      refine iteF ⟨_, rfl, _, rfl, _, rfl, ?_⟩
      refine catA (K := K) v1.at' v2.at' (by omega) fun c3 H15 s15 e15 => ?_
      refine ⟨c3, _, ds1 ++ ds2, dueP (ds1 ++ ds2) ys, rfl, .inr (.inl e15), PrsV.append (v1.prs.same s15) (v2.prs.same s15), nd12, fun q => (dueP_mem in12 q).symm, dueOf_rises srt, fun q2 wq2 pq2 hq2 => ⟨q2, wq2, rfl, .inl ⟨SqL.of upd_same, fun l2 hl2 => ?_⟩⟩⟩
      have s16 : Same H15 (upd (upd H15 q2 (.lst wq2)) l2 (.tup wq2)) := (same_new hq2).trans (same_new hl2)
      have e16 : (upd (upd H15 q2 (.lst wq2)) l2 (.tup wq2)) l2 = some (.tup wq2) := upd_same
      generalize upd (upd H15 q2 (.lst wq2)) l2 (.tup wq2) = H16 at s16 e16 ⊢
      have z916 := z914.trans (s15.trans s16)
      refine ⟨a, l2, wq2, hs, ys, row1 ++ row2, dueP (ds1 ++ ds2) ys, rfl, .inl (z916 _ _ ea9), webU _ _ _ _ in12 kr12 thr12 (.inl e16) (pq2.same s16), py, srt, hl, fun x y h => kr12 x y ((dueP_mem in12 _).mp h), fun H17 s17 => ?_⟩
      have z917 := z916.trans s17
      rw [eP]
      refine ⟨_, rfl, _, rfl, a, _, rfl, .inl (SqL.of (z917 _ _ ea9)), _, rfl, hs.length, part, by rw [lmh]; rfl, by omega, by omega, fun H18 s18 => ⟨_, _, rfl, rfl, .inl (by rw [← Int.natCast_mul]; exact ⟨by omega, by omega⟩), rfl, ?_⟩⟩
      have ef : decide (V.int ((X * Y * ch hs.length part : Nat) : Int) = V.int ((X : Int) * (Y : Int) * ((ch hs.length part : Nat) : Int))) = true := decide_eq_true (congrArg V.int (by rw [Int.natCast_mul, Int.natCast_mul]))
      have := k H18
      rw [← ef] at this
      exact this
end
end Ah
set_option Elab.async false
set_option linter.all false
set_option maxRecDepth 100000
set_option maxHeartbeats 4000000
namespace Ah
open PySem
def chainTo (row : List Str) (n : Nat) : List (Str × Str) := (List.range n).flatMap fun k => (row.drop (k + 1)).map fun h => (row.getD k default, h)
theorem chain_snoc (row : List Str) (n : Nat) : chainTo row (n + 1) = chainTo row n ++ (row.drop (n + 1)).map fun h => (row.getD n default, h) := by
  unfold chainTo
  rw [List.range_succ, List.flatMap_append]
  simp
theorem chain_mem0 {row : List Str} {n : Nat} {x y : Str} : (x, y) ∈ chainTo row n ↔ ∃ k, k < n ∧ x = row.getD k default ∧ y ∈ row.drop (k + 1) := by
  unfold chainTo
  rw [List.mem_flatMap]
  constructor
  · rintro ⟨k, hk, h⟩
    obtain ⟨z, hz, e⟩ := List.mem_map.mp h
    injection e with e1 e2
    exact ⟨k, List.mem_range.mp hk, e1.symm, e2 ▸ hz⟩
  · rintro ⟨k, hk, e, h⟩
    exact ⟨k, List.mem_range.mpr hk, List.mem_map.mpr ⟨y, h, by rw [e]⟩⟩
theorem chain_mem {row : List Str} (nd : row.Nodup) {x y : Str} : (x, y) ∈ chainTo row row.length ↔ [x, y].Sublist row := by
  rw [chain_mem0]
  constructor
  · rintro ⟨k, hk, e, h⟩
    have g := getD_at (xs := row) hk
    have e2 : row = row.take k ++ (x :: row.drop (k + 1)) := by
      obtain ⟨h1, h2⟩ := List.getElem?_eq_some_iff.mp g
      rw [e, ← h2, ← List.drop_eq_getElem_cons h1, List.take_append_drop]
    rw [e2]
    exact ((List.singleton_sublist.mpr h).cons_cons x).trans (List.sublist_append_right _ _)
  · intro h
    obtain ⟨h1, h2, h3⟩ := bef_idx nd h
    have l := List.idxOf_lt_length_of_mem h1
    refine ⟨row.idxOf x, l, ?_, ?_⟩
    · have g := idx_at h1
      rw [List.getD_eq_getElem?_getD, g]
      rfl
    · have g := idx_at h2
      refine List.mem_iff_getElem?.mpr ⟨row.idxOf y - (row.idxOf x + 1), ?_⟩
      rw [List.getElem?_drop, show row.idxOf x + 1 + (row.idxOf y - (row.idxOf x + 1)) = row.idxOf y by omega]
      exact g
theorem chain_nodup {row : List Str} (nd : row.Nodup) : ∀ n, n ≤ row.length → (chainTo row n).Nodup
  | 0, _ => List.nodup_nil
  | n + 1, h => by
    rw [chain_snoc, List.nodup_append]
    refine ⟨chain_nodup nd n (by omega), List.Pairwise.map _ (fun a c q e => q (Prod.mk.inj e).2) (nd.sublist (List.drop_sublist _ _)), fun p hp q hq e => ?_⟩
    obtain ⟨y, _, rfl⟩ := List.mem_map.mp hq
    subst e
    obtain ⟨k, hk, e1, _⟩ := chain_mem0.mp hp
    have g1 := getD_at (xs := row) (show n < row.length by omega)
    have g2 := getD_at (xs := row) (show k < row.length by omega)
    obtain ⟨a1, a2⟩ := List.getElem?_eq_some_iff.mp g1
    obtain ⟨b1, b2⟩ := List.getElem?_eq_some_iff.mp g2
    have := nd_inj nd a1 b1 (by rw [a2, b2, e1])
    omega
theorem chain_len (row : List Str) (h : row.length ≤ 8) : ∀ n, (chainTo row n).length ≤ 8 * n
  | 0 => Nat.le_refl _
  | n + 1 => by
    have := chain_len row h n
    rw [chain_snoc, List.length_append, List.length_map, List.length_drop]
    omega
theorem cnt_chain {row ys : List Str} {ps : List (Str × Str)} (srt : ys.Pairwise sLt) (pr : row.Perm ys) (e : ∀ x y, (x, y) ∈ ps ↔ [x, y].Sublist row) : ∀ (n : Nat) (m : List Str), n ≤ ys.length → (∀ x, x ∈ m ↔ x ∈ row.take (ys.length - n)) → cnt (nxO ps ys) n m = 1
  | 0, _, _, _ => rfl
  | n + 1, m, hn, hm => by
    have lr := pr.length_eq
    have ndr := pr.nodup_iff.mpr (srt_nodup srt)
    obtain ⟨i, hi⟩ : ∃ i, i = ys.length - (n + 1) := ⟨_, rfl⟩
    rw [← hi] at hm
    have hil : i < row.length := by omega
    obtain ⟨z, hz⟩ : ∃ z, row[i]? = some z := ⟨_, List.getElem?_eq_getElem hil⟩
    have zr : z ∈ row := List.mem_of_getElem? hz
    have iz : row.idxOf z = i := by
      have h1 := idx_at zr
      obtain ⟨a1, a2⟩ := List.getElem?_eq_some_iff.mp hz
      obtain ⟨b1, b2⟩ := List.getElem?_eq_some_iff.mp h1
      exact nd_inj ndr b1 a1 (by rw [a2, b2])
    have tk : ∀ x, x ∈ row → (x ∈ row.take i ↔ row.idxOf x < i) := fun x hx => by
      constructor
      · intro h
        obtain ⟨j, hj⟩ := List.mem_iff_getElem?.mp h
        have hji : j < i := by
          have := (List.getElem?_eq_some_iff.mp hj).1
          rw [List.length_take] at this
          omega
        rw [List.getElem?_take_of_lt hji] at hj
        have h1 := idx_at hx
        obtain ⟨a1, a2⟩ := List.getElem?_eq_some_iff.mp hj
        obtain ⟨b1, b2⟩ := List.getElem?_eq_some_iff.mp h1
        have := nd_inj ndr b1 a1 (by rw [a2, b2])
        omega
      · intro h
        refine List.mem_iff_getElem?.mpr ⟨row.idxOf x, ?_⟩
        rw [List.getElem?_take_of_lt h]
        exact idx_at hx
    have en : nxO ps ys m = [z] := srt_eq (nxO_srt srt) (List.pairwise_singleton _ _) fun x => by
      rw [nxO_mem, List.mem_singleton]
      constructor
      · rintro ⟨h1, h2, h3⟩
        have xr := pr.mem_iff.mpr h1
        rw [hm, tk x xr] at h2
        by_cases q : row.idxOf x = i
        · have g := idx_at xr
          rw [q, hz] at g
          exact (Option.some.inj g).symm
        · have := h3 z ((e _ _).mpr (idx_bef zr xr (by omega)))
          rw [hm, tk z zr, iz] at this
          omega
      · rintro rfl
        refine ⟨pr.mem_iff.mp zr, fun q => ?_, fun a ha => ?_⟩
        · rw [hm, tk _ zr, iz] at q
          omega
        · obtain ⟨h1, _, h3⟩ := bef_idx ndr ((e _ _).mp ha)
          rw [hm, tk a h1]
          omega
    show S (nxO ps ys m) (fun x => cnt (nxO ps ys) n (m ++ [x])) = 1
    rw [en, S_cons]
    have := cnt_chain srt pr e n (m ++ [z]) (by omega) fun x => by
      rw [show ys.length - n = i + 1 by omega, List.take_succ, hz, List.mem_append, List.mem_append, hm]
      rfl
    rw [this]
    rfl
theorem cnt_one {ps : List (Str × Str)} {x : Str} (h : ∀ p ∈ ps, p.1 ∈ [x] ∧ p.2 ∈ [x] ∧ p.1 ≠ p.2) : cnt (nxO ps [x]) 1 [] = 1 := by
  have e : ps = [] := by
    cases ps with
    | nil => rfl
    | cons p r =>
      obtain ⟨h1, h2, h3⟩ := h p (List.mem_cons_self ..)
      rw [List.mem_singleton] at h1 h2
      exact absurd (h1.trans h2.symm) h3
  subst e
  have en : nxO ([] : List (Str × Str)) [x] [] = [x] := srt_eq (nxO_srt (List.pairwise_singleton _ _)) (List.pairwise_singleton _ _) fun y => by
    rw [nxO_mem]
    exact ⟨fun h => h.1, fun h => ⟨h, List.not_mem_nil, fun _ z => nomatch z⟩⟩
  show S (nxO [] [x] []) (fun y => cnt (nxO [] [x]) 0 ([] ++ [y])) = 1
  rw [en]
  rfl
theorem len_one {ys : List Str} (h : ys.length = 1) : ∃ x, ys = [x] := by
  match ys, h with
  | [x], _ => exact ⟨x, rfl⟩
/-- by the first hands and by the last ones -/
theorem all_front {ps : List (Str × Str)} {hs ys : List Str} (srt : ys.Pairwise sLt) (py : ys.Perm hs) (h1 : 1 ≤ ys.length) : S (hs.filter (endsAt ps 1)) (fun x => cnt (nxO (rem ps x) (remY ys x)) (remY ys x).length []) = cnt (nxO ps ys) ys.length [] := by
  obtain ⟨n, hn⟩ : ∃ n, ys.length = n + 1 := ⟨ys.length - 1, by omega⟩
  rw [hn, cnt_front srt n, S_perm ((py.symm).filter _)]
  have e : (ys.filter fun x => decide (∀ p ∈ ps, p.2 ≠ x)) = ys.filter (endsAt ps 1) := List.filter_congr fun x _ => by
    rw [Bool.eq_iff_iff, decide_eq_true_iff]
    unfold endsAt
    rw [List.isEmpty_iff, List.filter_eq_nil_iff]
    constructor
    · exact fun h p hp z => h p hp (of_decide_eq_true z)
    · exact fun h p hp z => h p hp (decide_eq_true z)
  rw [e]
  refine S_congr fun x hx => ?_
  have hm := (List.mem_filter.mp hx).1
  have : (remY ys x).length = n := by
    have h2 := (List.perm_cons_erase hm).length_eq
    have h3 : (remY ys x).Perm (ys.erase x) := by
      refine (List.perm_ext_iff_of_nodup ((srt_nodup srt).sublist List.filter_sublist) ((srt_nodup srt).sublist (List.erase_sublist ..))).mpr fun y => ?_
      show y ∈ remY ys x ↔ _
      rw [remY_mem, (srt_nodup srt).mem_erase_iff]
      exact And.comm
    have h4 := h3.length_eq
    rw [List.length_cons] at h2
    omega
  rw [this]
theorem all_back {ps : List (Str × Str)} {hs ys : List Str} (srt : ys.Pairwise sLt) (py : ys.Perm hs) (iny : ∀ x y, (x, y) ∈ ps → x ∈ ys ∧ y ∈ ys ∧ x ≠ y) (h1 : 1 ≤ ys.length) : S (hs.filter (endsAt ps 0)) (fun x => cnt (nxO (rem ps x) (remY ys x)) (remY ys x).length []) = cnt (nxO ps ys) ys.length [] := by
  obtain ⟨n, hn⟩ : ∃ n, ys.length = n + 1 := ⟨ys.length - 1, by omega⟩
  have lv : Lv ys (n + 1) [] := by rw [← hn]; exact Lv.nil
  rw [hn, cnt_back srt iny n lv (fun _ _ h => nomatch h), S_perm ((py.symm).filter _)]
  have e : lasts ps ys [] = ys.filter (endsAt ps 0) := by
    unfold lasts
    refine List.filter_congr fun x _ => ?_
    rw [Bool.eq_iff_iff, decide_eq_true_iff]
    unfold endsAt
    rw [List.isEmpty_iff, List.filter_eq_nil_iff]
    constructor
    · exact fun h p hp z => h.2 p hp (of_decide_eq_true z)
    · exact fun h => ⟨List.not_mem_nil, fun p hp z => h p hp (decide_eq_true z)⟩
  rw [e]
  refine S_congr fun x hx => ?_
  have hm := (List.mem_filter.mp hx).1
  have : (remY ys x).length = n := by
    have h2 := (List.perm_cons_erase hm).length_eq
    have h3 : (remY ys x).Perm (ys.erase x) := by
      refine (List.perm_ext_iff_of_nodup ((srt_nodup srt).sublist List.filter_sublist) ((srt_nodup srt).sublist (List.erase_sublist ..))).mpr fun y => ?_
      show y ∈ remY ys x ↔ _
      rw [remY_mem, (srt_nodup srt).mem_erase_iff]
      exact And.comm
    have h4 := h3.length_eq
    rw [List.length_cons] at h2
    omega
  rw [this]
end Ah
set_option Elab.async false
set_option linter.all false
set_option maxRecDepth 100000
set_option maxHeartbeats 8000000
namespace Ah
open PySem PySem.Spec PyProof.Rows L2
abbrev sLaw : Stmt := topS 41
theorem webKp {p : Addr} {H H' : Hp} (k : Kp p H H') {kvs : List (Key × V)} (hp : H p = some (.dK kvs)) {t : Addr} {us : List V} {hs : List Str} {ps : List (Str × Str)} (h : WebAt H t us hs ps) : WebAt H' t us hs ps :=
  ⟨rd_kp k hp (fun _ z => by cases z) h.at', h.prs.kp k hp, h.rises, h.few, h.mem, h.thru⟩
theorem ltuKp {p a : Addr} {xs : List V} {H H' : Hp} (k : Kp p H H') {kvs : List (Key × V)} (hp : H p = some (.dK kvs)) (h : LTu H a xs) : LTu H' a xs := by
  rcases h with h | h
  · exact .inl (lk_kp k hp (fun _ z => by cases z) h)
  · exact .inr (rd_kp k hp (fun _ z => by cases z) h)
def rNotD (K : PySem.W.Frag) : R2 := fun x y H Q => ∃ d ds, Dp K H x d ∧ Dp K H y (.tuple ds) ∧ SeqAt.shaped d = true ∧ SeqAt.shaped (.tuple ds) = true ∧ Q (.bl (!(ds.any fun z => PyData.eqv z d))) H
theorem op_notD {X : Cx} (hu : X.A.units + 65 < cLine) : OpR X (compareOp .NotIn) (rNotD X.K) := by
  intro pins s σ H x y v u Q I rx ry h
  obtain ⟨d, ds, hd, he, sd, st, q⟩ := h
  obtain ⟨as, r1⟩ := Dp.reads I d x v hd rx
  obtain ⟨bs, r2⟩ := Dp.reads I (.tuple ds) y u he ry
  exact SeqAt.notIn_tuple_reads r2 r1 (SeqAt.canLay_of_shaped st) (SeqAt.canLay_of_shaped sd) (room_in_shaped sd hu) ⟨.bl _, H, I, rfl, q⟩
section
variable {P : Program} {w : World} {K : PySem.W.Frag} {mg : Str → Option Value} {base : Heap}
theorem scLaw : FnScope ["script", "pen", "hands", "web", "folk", "row", "told", "pairs", "k", "pair", "free", "hand"] ["script"] (defScope sLaw) := ⟨rfl, rfl, rfl, by decide +kernel, rfl, by decide +kernel, by decide +kernel⟩
def spLaw (K : PySem.W.Frag) : Sp := fun vs H Q _ => ∃ (a : Addr) (ns : List Int), vs = [.ref a] ∧ SqL K H a (ns.map V.int) ∧ ns.length ≤ 63 ∧ ∀ H', Q (.bl true) H'
structure Defs (P : Program) (w : World) (K : PySem.W.Frag) (mg : Str → Option Value) (base : Heap) (g1 g2 g3 g4 g5 g6 g7 g8 g9 g10 g11 : Addr) (h1 h2 h3 h4 h5 h6 h7 h8 h9 h10 h11 : FuncData) : Prop where
  pen : Df P w K mg base CX0 "_law_pen" 1 g1 h1 ["script"] (spPen K)
  draw : Df P w K mg base CX0 "_law_draw" 1 g2 h2 ["pen", "many"] spDraw
  hands : Df P w K mg base CX0 "_law_hands" 3 g3 h3 ["pen", "many"] (spHands K)
  web : Df P w K mg base CX0 "_law_web" 4 g4 h4 ["pen", "hands"] spLawWeb
  listed : Df P w K mg base CX0 "_law_listed" 3 g5 h5 ["pen", "hands"] spListed
  row : Df P w K mg base CX0 "_law_row" 3 g6 h6 ["pen", "hands"] spLawRow
  count : Df P w K mg base CX0 "count_rows" 6 g7 h7 ["hands", "web"] spCount
  num : Df P w K mg base CX0 "_law_is_number" 1 g8 h8 ["thing"] spIsNumber
  allLess : Df P w K mg base CX0 "_law_all_less" 7 g9 h9 ["hands", "web", "side"] spAllLess
  sides : Df P w K mg base CX0 "_law_sides_right" 7 g10 h10 ["hands", "web", "one", "other"] spSides
  parts : Df P w K mg base CX0 "_law_parts_right" 7 g11 h11 ["pen", "hands", "part"] spParts
theorem ok_law {f g1 g2 g3 g4 g5 g6 g7 g8 g9 g10 g11 : Addr} {fd h1 h2 h3 h4 h5 h6 h7 h8 h9 h10 h11 : FuncData} (F : Fun K "law" "law" sLaw f fd) (B : Blt2 mg) (D : Defs P w K mg base g1 g2 g3 g4 g5 g6 g7 g8 g9 g10 g11 h1 h2 h3 h4 h5 h6 h7 h8 h9 h10 h11) : FnOk P w K mg base CX0 8 f fd ["script"] (spLaw K) := by
  refine F.ok scLaw (fun vs H Q E h => ?_) (fun cdv A outer s H vs Q E hr h => ?_)
  · obtain ⟨a, ns, rfl, _⟩ := h
    rfl
  · obtain ⟨a, ns, rfl, ha, hl, k⟩ := h
    have nd := scLaw.nd
    have r1 : Room 1 _ := hr.mono (by decide)
    have r3 : Room 3 _ := hr.mono (by decide)
    have r4 : Room 4 _ := hr.mono (by decide)
    have r6 : Room 6 _ := hr.mono (by decide)
    have hu64 : (A.deeper (envOfC "law" (defScope sLaw) s.heap.objs.size f cdv)).units + 64 < cLine := by
      have := hr.units
      omega
    have hu65 : (A.deeper (envOfC "law" (defScope sLaw) s.heap.objs.size f cdv)).units + 65 < cLine := by
      have := hr.un
      omega
    refine ⟨_, pss_cons (ps_set (i := 1) nd rfl (.inl rfl) (pe_call D.pen.ok r1 rfl D.pen.g D.pen.kp D.pen.b .nil pass0 (pa_cons (pv 0) pa_nil)))
      (pss_cons (ps_set (i := 2) nd rfl (.inl rfl) (pe_call D.hands.ok r3 rfl D.hands.g D.hands.kp D.hands.b .nil pass0 (pa_cons (pv 1) (pa_cons (pe_op op_add pe_int (pe_call D.draw.ok r1 rfl D.draw.g D.draw.kp D.draw.b .nil pass0 (pa_cons (pv 1) (pa_cons pe_int pa_nil)))) pa_nil))))
      (pss_cons (ps_asg (pe_tup (pa_cons (pe_call D.web.ok r4 rfl D.web.g D.web.kp D.web.b .nil pass0 (pa_cons (pv 1) (pa_cons (pv 2) pa_nil))) (pa_cons (pe_call D.listed.ok r3 rfl D.listed.g D.listed.kp D.listed.b .nil pass0 (pa_cons (pv 1) (pa_cons (pv 2) pa_nil))) (pa_cons (pe_call D.row.ok r3 rfl D.row.g D.row.kp D.row.b .nil pass0 (pa_cons (pv 1) (pa_cons (pv 2) pa_nil))) pa_nil))))
          (pg_tup rfl (pgs_cons (pg_name (i := 3) nd rfl (.inr rfl)) (pgs_cons (pg_name (i := 4) nd rfl (.inl rfl)) (pgs_cons (pg_name (i := 5) nd rfl (.inr rfl)) pgs_nil)))))
      (pss_cons (ps_set (i := 6) nd rfl (.inl rfl) (pe_call D.count.ok r6 rfl D.count.g D.count.kp D.count.b .nil pass0 (pa_cons (pv 4) (pa_cons (pv 3) pa_nil))))
      (pss_cons (ps_if (PW.pt (pw_or (pt_not (pt_val (pe_call D.num.ok r1 rfl D.num.g D.num.kp D.num.b .nil pass0 (pa_cons (pv 6) pa_nil)))) (pw_or1 (pt_cmpR op_ne (pe_call D.count.ok r6 rfl D.count.g D.count.kp D.count.b .nil pass0 (pa_cons (pe_slice (r := rSlL K) sl_list (pv 2) po_none (po_some pe_int)) (pa_cons (pe_tup pa_nil) pa_nil))) pe_int (nomark _))))) (pss_one (ps_ret pe_bl)) pss_nil)
      (pss_cons (ps_set (i := 7) nd rfl (.inl rfl) (pe_lst pa_nil))
      (pss_cons (ps_for PassesOwn.never rfl (pi_range1 rfl B.range (pa_cons (pe_callB call_len_seq (by rfl) B.len PySem.boot_len (pa_cons (pv 5) pa_nil)) pa_nil)) (pg_name (i := 8) nd rfl (.inr rfl))
        (pss_one (ps_expr (pe_bm PySem.F.plainAttrs_list PySem.F.slot_list_extend PySem.F.type_list_extend mt_extend (pv 7) (pa_cons (pe_lc (own := [("hand", 11)]) (g := gName 11) (tt := tYes) (te := tTup (tCons (tOp (rIxT K) (tVar 5) (tVar 8)) (tCons (tVar 11) tNil))) rfl nd (pi_tup (pe_slice (r := rSlA K) sl_tupA (pv 5) (po_some (pe_op op_add (pv 8) pe_int)) po_none))
          (blkOk_by (N := ["script", "pen", "hands", "web", "folk", "row", "told", "pairs", "k", "pair", "free", "hand"]) (sc := defScope sLaw) (by decide +kernel)) (fun _ _ _ _ _ => pg_name (i := 11) nd rfl (Or.inl rfl))
          (fun _ _ _ _ _ => pts_nil) (fun _ _ _ _ _ => pe_tup (pa_cons (pe_ix (r := rIxT K) ix_tup (pv 5) (pv 8) (fun _ _ => rfl)) (pa_cons (pv 11) pa_nil)))) pa_nil)))))
      (pss_cons (ps_if (pt_cmpR op_ne (pe_call D.count.ok r6 rfl D.count.g D.count.kp D.count.b .nil pass0 (pa_cons (pv 4) (pa_cons (pe_callTy call_tuple_of (by rfl) B.tuple (by decide +kernel) (pa_cons (pe_callB (cr_sortedP hu64) (by rfl) B.sorted (by decide +kernel) (pa_cons (pv 7) pa_nil)) pa_nil)) pa_nil))) pe_int (nomark _)) (pss_one (ps_ret pe_bl)) pss_nil)
      (pss_cons (ps_if (pt_cmpR op_eq (pe_callB call_len_seq (by rfl) B.len PySem.boot_len (pa_cons (pv 2) pa_nil)) pe_int (nomark _)) (pss_one (ps_ret (pe_cmpR op_eq (pv 6) pe_int (nomark _)))) pss_nil)
      (pss_cons (ps_if (PW.pt (pw_or (pt_cmpR op_ne (pe_call D.allLess.ok hr rfl D.allLess.g D.allLess.kp D.allLess.b .nil pass0 (pa_cons (pv 2) (pa_cons (pv 3) (pa_cons pe_int pa_nil)))) (pv 6) (nomark _)) (pw_or1 (pt_cmpR op_ne (pe_call D.allLess.ok hr rfl D.allLess.g D.allLess.kp D.allLess.b .nil pass0 (pa_cons (pv 2) (pa_cons (pv 3) (pa_cons pe_int pa_nil)))) (pv 6) (nomark _))))) (pss_one (ps_ret pe_bl)) pss_nil)
      (pss_cons (ps_setLc (i := 10) (own := [("pair", 9)]) (g := gName 9) (tt := tAnd (tTest (tOp (rNotD K) (tVar 9) (tVar 3))) (tTest (tOp (rNotD K) (tTup (tCons (tOp (rIxT K) (tVar 9) (tC (.int 1))) (tCons (tOp (rIxT K) (tVar 9) (tC (.int 0))) tNil))) (tVar 3)))) (te := tVar 9) rfl nd rfl rfl (by rfl) (pi_list (pv 7))
          (blkOk_by (N := ["script", "pen", "hands", "web", "folk", "row", "told", "pairs", "k", "pair", "free", "hand"]) (sc := defScope sLaw) (by decide +kernel)) (fun _ _ _ _ _ => pg_name (i := 9) nd rfl (Or.inl rfl))
          (fun _ _ _ _ _ => pts_one (PW.pt (pw_and (pt_cmpR (r := rNotD K) (op_notD hu65) (pv 9) (pv 3) (by rfl)) (pw_and1 (pt_cmpR (r := rNotD K) (op_notD hu65) (pe_tup (pa_cons (pe_ix (r := rIxT K) ix_tup (pv 9) pe_int (fun _ _ => rfl)) (pa_cons (pe_ix (r := rIxT K) ix_tup (pv 9) pe_int (fun _ _ => rfl)) pa_nil))) (pv 3) (by rfl))))))
          (fun _ _ _ _ _ => pv 9))
      (pss_cons (ps_for PassesOwn.never rfl (pi_list (pe_slice (r := rSlL K) sl_list (pv 10) po_none (po_some pe_int))) (pg_name (i := 9) nd rfl (.inl rfl))
        (pss_one (ps_if (pt_not (pt_val (pe_call D.sides.ok hr rfl D.sides.g D.sides.kp D.sides.b .nil pass0 (pa_cons (pv 2) (pa_cons (pv 3) (pa_cons (pe_ix (r := rIxT K) ix_tup (pv 9) pe_int (fun _ _ => rfl)) (pa_cons (pe_ix (r := rIxT K) ix_tup (pv 9) pe_int (fun _ _ => rfl)) pa_nil))))))) (pss_one (ps_ret pe_bl)) pss_nil)))
      (pss_one (ps_ret (pe_call D.parts.ok hr rfl D.parts.g D.parts.kp D.parts.b .nil pass0 (pa_cons (pv 1) (pa_cons (pv 2) (pa_cons (pe_op op_add pe_int (pe_call D.draw.ok r1 rfl D.draw.g D.draw.kp D.draw.b .nil pass0 (pa_cons (pv 1) (pa_cons (pe_op op_sub (pe_callB call_len_seq (by rfl) B.len PySem.boot_len (pa_cons (pv 2) pa_nil)) pe_int) pa_nil)))) pa_nil))))))))))))))))), ?_⟩
    refine ⟨_, rfl, a, ns, rfl, ha, fun p c H1 hp1 => ?_⟩
    refine ⟨_, rfl, _, rfl, p, c, 8, _, rfl, hp1, by omega, by decide, by decide, fun d H3 d0 d8 hp3 kp3 => ?_⟩
    obtain ⟨j, rfl⟩ : ∃ j : Nat, d = j := ⟨d.toNat, by omega⟩
    refine ⟨_, _, rfl, rfl, p, c, j + 1, _, by show [V.ref p, V.int ((1 : Int) + (j : Int))] = _; rw [show (1 : Int) + (j : Int) = ((j + 1 : Nat) : Int) by omega], by omega, by omega, hp3, by omega, fun q hs H4 hl4 nd4 hh4 hq4 e4 hp4 kp4 => ?_⟩
    obtain ⟨kv4, hk4⟩ := hp4.dk
    have nqp : q ≠ p := fun e => by rw [e, hk4] at e4; cases e4
    have l8 : hs.length ≤ 8 := by omega
    obtain ⟨ys, py, srt⟩ := srt_ex nd4
    have lys := py.length_eq
    have ndy := srt_nodup srt
    refine ⟨_, rfl, _, rfl, p, c, q, hs, ys, _, rfl, e4, hh4, nd4, l8, py, srt, hp4, by omega, fun t us ps rw0 H5 hw5 kr pr0 hp5 kp5 => ?_⟩
    obtain ⟨kv5, hk5⟩ := hp5.dk
    have eq5 := kp5 q _ nqp e4
    refine ⟨_, rfl, _, rfl, p, c, q, hs, _, rfl, eq5, hh4, by omega, hp5, by omega, fun b folk H6 pf6 f6 hp6 kp6 => ?_⟩
    obtain ⟨kv6, hk6⟩ := hp6.dk
    have eq6 := kp6 q _ nqp eq5
    refine ⟨_, rfl, _, rfl, p, c, q, hs, _, rfl, .inl eq6, hh4, by omega, hp6, by omega, fun rr row H7 prr frr hp7 kp7 => ?_⟩
    have eq7 := kp7 q _ nqp eq6
    have f7 := ltuKp kp7 hk6 f6
    have hw7 := webKp kp7 hk6 (webKp kp6 hk5 hw5)
    refine ⟨by show 3 ≤ sizeLine; decide, fun T hT => ?_⟩
    have s8 : Same H7 (upd H7 T (.tup [.ref t, .ref b, .ref rr])) := same_new hT
    have e8 : (upd H7 T (.tup [.ref t, .ref b, .ref rr])) T = some (.tup [.ref t, .ref b, .ref rr]) := upd_same
    generalize upd H7 T (.tup [.ref t, .ref b, .ref rr]) = H8 at s8 e8 ⊢
    have eq8 := s8 _ _ eq7
    have f8 := f7.same s8
    have hw8 := hw7.same s8
    have fr8 := (frr.same s8).rd
    have hp8 := hp7.keep s8
    have lr := prr.length_eq
    have prow : row.Perm ys := prr.trans py.symm
    have prw : rw0.Perm ys := pr0.trans py.symm
    have ndr := prr.nodup_iff.mpr nd4
    have iny3 : ∀ x y, (x, y) ∈ ps → x ∈ ys ∧ y ∈ ys ∧ x ≠ y := fun x y h => ⟨py.mem_iff.mpr (hw8.mem x y h).1, py.mem_iff.mpr (hw8.mem x y h).2.1, (hw8.mem x y h).2.2⟩
    have oky : ∀ x ∈ ys, PyData.strOk x = true := fun x hx => (hh4 x (py.mem_iff.mp hx)).ok
    have okp : PrsOk ps := fun x hx => ⟨oky _ (iny3 x.1 x.2 hx).1, oky _ (iny3 x.1 x.2 hx).2.1⟩
    have webF : ∀ {H : Hp} {t : Addr} {us : List V} {ps : List (Str × Str)}, WebAt H t us hs ps → WebAt H t us folk ps := fun {H t us ps} h => ⟨h.at', h.prs, h.rises, h.few, fun x y m => ⟨pf6.mem_iff.mpr (h.mem x y m).1, pf6.mem_iff.mpr (h.mem x y m).2.1, (h.mem x y m).2.2⟩, h.thru⟩
    have pyf : ys.Perm folk := py.trans pf6.symm
    have lf := pf6.length_eq
    refine ⟨T, _, rfl, .inl (.inl e8), rfl, _, _, rfl, _, _, rfl, _, _, rfl, rfl, ?_⟩
    refine ⟨_, rfl, _, rfl, b, t, us, folk, ys, rw0, ps, rfl, f8, webF hw8, pyf, srt, by omega, kr, fun H9 s9 => ?_⟩
    generalize hC : cnt (nxO ps ys) ys.length [] = C
    have eq9 := s9 _ _ eq8
    refine ⟨_, rfl, _, rfl, ⟨_, rfl, ?_⟩⟩
    obtain ⟨h0, hr0, ehs⟩ : ∃ h0 hr0, hs = h0 :: hr0 := by
      cases hs with
      | nil => simp at hl4
      | cons x r => exact ⟨x, r, rfl⟩
    refine iteF ⟨_, rfl, ?_⟩
    dsimp (config := { proj := false }) only [tNoPart]
    refine ⟨1, rfl, q, _, rfl, SqL.of eq9, fun L1 hL1 => ?_⟩
    have s10 : Same H9 (upd H9 L1 (.lst (cutV (hs.map V.str) none (some 1)))) := same_new hL1
    have e10 : (upd H9 L1 (.lst (cutV (hs.map V.str) none (some 1)))) L1 = some (.lst (([h0] : List Str).map V.str)) := by
      rw [upd_same, show (1 : Int) = ((1 : Nat) : Int) from rfl, cutV_to (by rw [List.length_map]; omega), ehs]
      rfl
    generalize upd H9 L1 (.lst (cutV (hs.map V.str) none (some 1))) = H10 at s10 e10 ⊢
    refine ⟨by show 0 ≤ sizeLine; decide, fun T0 hT0 => ?_⟩
    have s11 : Same H10 (upd H10 T0 (.tup [])) := same_new hT0
    have e11 : (upd H10 T0 (.tup [])) T0 = some (.tup []) := upd_same
    generalize upd H10 T0 (.tup []) = H11 at s11 e11 ⊢
    refine ⟨L1, T0, [], [h0], [h0], [h0], [], rfl, .inl (s11 _ _ e10), ⟨.inl e11, trivial, List.Pairwise.nil, by decide, (fun _ _ h => nomatch h), (fun _ _ _ h _ => nomatch h)⟩, List.Perm.refl _, List.pairwise_singleton _ _, (by show 1 ≤ 8; decide), (fun _ _ h => nomatch h), fun H12 s12 => ?_⟩
    rw [show cnt (nxO [] [h0]) [h0].length [] = 1 from cnt_one fun _ h => nomatch h]
    refine ⟨rfl, false, rfl, ?_⟩
    refine iteF ⟨Nat.zero_le _, fun PA hPA => ?_⟩
    have z12 := ((s9.trans s10).trans s11).trans s12
    have s13 : Same H12 (upd H12 PA (.lst [])) := same_new hPA
    have e13 : (upd H12 PA (.lst [])) PA = some (.lst []) := upd_same
    generalize upd H12 PA (.lst []) = H13 at s13 e13 ⊢
    have fr12 := rd_same z12 fr8
    have lrm : (row.map V.str).length = row.length := List.length_map ..
    refine ⟨_, rfl, rr, _, rfl, .inr (.inl (rd_same s13 fr12)), ?_⟩
    rw [lrm]
    refine ⟨_, rfl, by omega, by omega, ?_⟩
    rw [show (((row.length : Nat) : Int)).toNat = row.length from Int.toNat_natCast _]
    refine for_range (lo := 0) (n := row.length) (fun i σ H2 => ∃ (o8 : Option V) (ws : List V), σ = [some (.ref a), some (.ref p), some (.ref q), some (.ref t), some (.ref b), some (.ref rr), some (.int (C : Int)), some (.ref PA), o8, none, none, none] ∧ Same H12 H2 ∧ H2 PA = some (.lst ws) ∧ PrsV H2 ws (chainTo row i))
      ⟨none, [], rfl, s13, e13, trivial⟩ ?_ ?_
    · rintro i σ H2 hi ⟨o8, ws, rfl, s2, e2, hws⟩
      have g0 : row[i]? = some (row.getD i default) := getD_at hi
      have e0 : (0 : Int) + (i : Int) = ((i : Nat) : Int) := by omega
      rw [e0]
      have fr2 := rd_same s2 fr12
      refine ⟨_, rfl, .inl ⟨rfl, _, SqL.of e2⟩, _, rfl, _, rfl, _, _, rfl, rfl, _, rfl, ?_⟩
      dsimp (config := { proj := false }) only [tNoPart]
      refine slA fr2 fun b4 H4' s4 e4' => ?_
      rw [show ((i : Nat) : Int) + 1 = ((i + 1 : Nat) : Int) by omega, cutV_from (by rw [List.length_map]; omega), ← List.map_drop] at e4'
      refine ⟨b4, rfl, ⟨_, .inl e4'⟩, fun D hD => ?_⟩
      refine lc_tup (K := K) (a := b4) (xs := (row.drop (i + 1)).map V.str) (fun l H5' => Same H4' H5' ∧ ∃ vs, H5' D = some (.lst vs) ∧ PrsV H5' vs (((row.drop (i + 1)).take l).map fun h => (row.getD i default, h))) ⟨same_new hD, [], upd_same, trivial⟩ (fun l H5' _ z => .inl (rd_same z.1 e4')) ?_ ?_
      · rintro l v H5' hv ⟨s5, vs, e5, hvs⟩
        obtain ⟨y, hy, rfl, _⟩ := str_at hv
        have hll := (List.getElem?_eq_some_iff.mp hy).1
        rw [List.length_drop] at hll
        have et : (row.drop (i + 1)).take (l + 1) = (row.drop (i + 1)).take l ++ [y] := by rw [List.take_succ, hy]; rfl
        have lv := hvs.len
        rw [List.length_map, List.length_take, List.length_drop] at lv
        refine ⟨rfl, _, rfl, _, rfl, rr, _, ((i : Nat) : Int), .str (row.getD i default), rfl, rfl, .inl (rd_same (s4.trans s5) fr2), atI_nat (by rw [List.getElem?_map, g0]; rfl), _, rfl, by show 2 ≤ sizeLine; decide, fun T3 hT3 => ?_⟩
        have s6 : Same H5' (upd H5' T3 (.tup [.str (row.getD i default), .str y])) := same_new hT3
        have e6 := s6 _ _ e5
        refine ⟨vs, e6, small1000 (by omega), same_mut (s5.trans s6) hD, _, upd_same, ?_⟩
        rw [et, List.map_append]
        exact PrsV.append ((hvs.same s6).mut e6) ⟨PrV.mut e6 ⟨T3, rfl, upd_same⟩, trivial⟩
      · rintro H5' ⟨s5, vs, e5, hvs⟩
        rw [List.length_map, List.take_length] at hvs
        have z25 := s4.trans s5
        have e2' := z25 _ _ e2
        have lw := hws.len
        have lv := hvs.len
        have lc := chain_len row (by omega) i
        rw [List.length_map, List.length_drop] at lv
        refine ⟨PA, D, ws, vs, rfl, rfl, e2', e5, by rw [sizeLine_eq]; omega, ?_⟩
        refine ⟨_, _, rfl, same_mut (s2.trans z25) hPA, upd_same, ?_⟩
        rw [chain_snoc]
        exact PrsV.append ((hws.same z25).mut e2') (hvs.mut e2')
    · rintro σ H2 ⟨o8, ws, rfl, s2, e2, hws⟩
      have z2 := z12.trans s2
      have hw2 := hw8.same z2
      have eq2 := z2 _ _ eq8
      have hp2 := hp8.keep z2
      have inc : ∀ x y, (x, y) ∈ chainTo row row.length → x ∈ ys ∧ y ∈ ys := fun x y h => by
        have := bef_idx ndr ((chain_mem ndr).mp h)
        exact ⟨prow.mem_iff.mp this.1, prow.mem_iff.mp this.2.1⟩
      have krc : KeepR row (chainTo row row.length) := keepR_bef ndr fun x y h => (chain_mem ndr).mp h
      have lc := chain_len row (by omega) row.length
      refine ⟨_, rfl, _, rfl, PA, ws, chainTo row row.length, dueP (chainTo row row.length) ys, rfl, .inl (SqL.of e2), hws, chain_nodup ndr _ (Nat.le_refl _), fun q => (dueP_mem inc q).symm, dueOf_rises srt, fun q3 wq pq hq3 => ⟨q3, wq, rfl, .inl ⟨SqL.of upd_same, fun l3 hl3 => ?_⟩⟩⟩
      have s14 : Same H2 (upd (upd H2 q3 (.lst wq)) l3 (.tup wq)) := (same_new hq3).trans (same_new hl3)
      have e14 : (upd (upd H2 q3 (.lst wq)) l3 (.tup wq)) l3 = some (.tup wq) := upd_same
      generalize upd (upd H2 q3 (.lst wq)) l3 (.tup wq) = H14 at s14 e14 ⊢
      have f14 := f8.same (z2.trans s14)
      have wc : WebAt H14 l3 wq hs (dueP (chainTo row row.length) ys) := by
        refine ⟨.inl e14, pq.same s14, dueOf_rises srt, dueP_few (by omega), fun x y h => ?_, fun x y z h1 h2 => ?_⟩
        · have h' := (dueP_mem inc _).mp h
          refine ⟨py.mem_iff.mp (inc x y h').1, py.mem_iff.mp (inc x y h').2, fun e => ?_⟩
          have := (krc x y h').2.2
          rw [e] at this
          exact Nat.lt_irrefl _ this
        · have a1 := krc x y ((dueP_mem inc _).mp h1)
          have a2 := krc y z ((dueP_mem inc _).mp h2)
          exact (dueP_mem inc _).mpr ((chain_mem ndr).mpr (idx_bef a1.1 a2.2.1 (by omega)))
      refine ⟨b, l3, wq, folk, ys, row, dueP (chainTo row row.length) ys, rfl, f14, webF wc, pyf, srt, by omega, fun x y h => krc x y ((dueP_mem inc _).mp h), fun H15 s15 => ?_⟩
      rw [cnt_chain srt prow (fun x y => by rw [dueP_mem inc, chain_mem ndr]) ys.length [] (Nat.le_refl _) (fun x => by rw [Nat.sub_self]; simp)]
      have z15 := (z2.trans s14).trans s15
      have eq15 := z15 _ _ eq8
      have hw15 := hw8.same z15
      refine ⟨rfl, false, rfl, ?_⟩
      have lhm : (hs.map V.str).length = hs.length := List.length_map ..
      refine iteF ⟨_, rfl, q, _, rfl, .inl (SqL.of eq15), rfl, _, rfl, ?_⟩
      rw [lhm]
      by_cases c1 : hs.length = 1
      · rw [decide_eq_true (congrArg V.int (show ((hs.length : Nat) : Int) = 1 by omega))]
        refine iteT ⟨_, rfl, rfl, ?_⟩
        have : C = 1 := by
          obtain ⟨x, ex⟩ := len_one (lys.trans c1)
          rw [← hC, ex]
          exact cnt_one fun p hp => by rw [← ex]; exact iny3 p.1 p.2 hp
        rw [this]
        exact k _
      · rw [decide_eq_false fun z => c1 (by have := V.int.inj z; omega)]
        refine iteF ⟨_, rfl, _, rfl, q, t, 1, us, hs, ys, rw0, ps, rfl, by decide, eq15, hw15, okp, py, srt, l8, kr, fun H16 s16 => ?_⟩
        rw [all_front srt py (by omega), hC]
        refine ⟨_, rfl, rfl, _, rfl, ?_⟩
        rw [decide_eq_true rfl]
        have z16 := z15.trans s16
        refine iteF ⟨_, rfl, _, rfl, q, t, 0, us, hs, ys, rw0, ps, rfl, by decide, z16 _ _ eq8, hw8.same z16, okp, py, srt, l8, kr, fun H17 s17 => ?_⟩
        rw [all_back srt py iny3 (by omega), hC]
        refine ⟨_, rfl, rfl, _, rfl, ?_⟩
        rw [decide_eq_true rfl]
        have z17 := z16.trans s17
        have z217 := ((s14.trans s15).trans s16).trans s17
        have ePA := z217 _ _ e2
        have hw17 := hw8.same z17
        have hws17 := hws.same z217
        have shT : SeqAt.shaped (.tuple (ps.map prD)) = true := shp_t fun d hd => by
          obtain ⟨p', hp', rfl⟩ := List.mem_map.mp hd
          exact shp_pr (okp p' hp').1 (okp p' hp').2
        refine iteF ⟨_, rfl, PA, rfl, ⟨_, SqL.of ePA⟩, fun D hD => ?_⟩
        have lws := hws17.len
        refine lc_list (K := K) (a := PA) (xs := ws) (fun i H18 => Same H17 H18 ∧ ∃ vs fl, H18 D = some (.lst vs) ∧ PrsV H18 vs fl ∧ fl.length ≤ i ∧ ∀ p' ∈ fl, p' ∈ chainTo row row.length ∧ p' ∉ ps ∧ (p'.2, p'.1) ∉ ps) ⟨same_new hD, [], [], upd_same, trivial, Nat.le_refl _, fun _ h => nomatch h⟩ (fun i H18 _ z => SqL.of (z.1 _ _ ePA)) ?_ ?_
        · rintro i v H18 hv ⟨s18, vs, fl, e18, hvs, lfl, hfl⟩
          obtain ⟨p', hp', vp⟩ := hws17.get hv
          obtain ⟨T', rfl, hT'⟩ := vp.same s18
          have hil := (List.getElem?_eq_some_iff.mp hv).1
          have hw18 := hw17.same s18
          have inp := inc p'.1 p'.2 (List.mem_of_getElem? hp')
          have lvs := hvs.len
          have pc : p' ∈ chainTo row row.length := List.mem_of_getElem? hp'
          refine ⟨rfl, _, rfl, _, rfl, prD p', ps.map prD, .tup (.inl (.inl hT')) (.cons (.str _) (.cons (.str _) .nil)), .tup (.inl hw18.at') hw18.prs.dp, shp_sh (shp_pr (oky _ inp.1) (oky _ inp.2)), shT, _, rfl, ?_⟩
          rw [any_pr]
          have keep : Same H17 H18 ∧ ∃ vs fl, H18 D = some (.lst vs) ∧ PrsV H18 vs fl ∧ fl.length ≤ i + 1 ∧ ∀ p' ∈ fl, p' ∈ chainTo row row.length ∧ p' ∉ ps ∧ (p'.2, p'.1) ∉ ps := ⟨s18, vs, fl, e18, hvs, by omega, hfl⟩
          by_cases c1 : p' ∈ ps
          · rw [show ps.contains p' = true from List.contains_iff_mem.mpr c1]
            exact iteF (iteF keep)
          · rw [show ps.contains p' = false by rw [Bool.eq_false_iff]; exact fun z => c1 (List.contains_iff_mem.mp z)]
            refine iteT ⟨_, rfl, T', _, (1 : Nat), .str p'.2, rfl, rfl, .inl (.inl hT'), atI_nat rfl, _, rfl, T', _, (0 : Nat), .str p'.1, rfl, rfl, .inl (.inl hT'), atI_nat rfl, by show 2 ≤ sizeLine; decide, fun T4 hT4 => ?_⟩
            have s19 : Same H18 (upd H18 T4 (.tup [.str p'.2, .str p'.1])) := same_new hT4
            have e19 : (upd H18 T4 (.tup [.str p'.2, .str p'.1])) T4 = some (.tup [.str p'.2, .str p'.1]) := upd_same
            generalize upd H18 T4 (.tup [.str p'.2, .str p'.1]) = H19 at s19 e19 ⊢
            have hw19 := hw18.same s19
            refine ⟨_, rfl, prD (p'.2, p'.1), ps.map prD, .tup (.inl (.inl e19)) (.cons (.str _) (.cons (.str _) .nil)), .tup (.inl hw19.at') hw19.prs.dp, shp_sh (shp_pr (oky _ inp.2) (oky _ inp.1)), shT, _, rfl, ?_⟩
            rw [any_pr]
            by_cases c2 : (p'.2, p'.1) ∈ ps
            · rw [show ps.contains (p'.2, p'.1) = true from List.contains_iff_mem.mpr c2]
              exact iteF ⟨s18.trans s19, vs, fl, s19 _ _ e18, hvs.same s19, by omega, hfl⟩
            · rw [show ps.contains (p'.2, p'.1) = false by rw [Bool.eq_false_iff]; exact fun z => c2 (List.contains_iff_mem.mp z)]
              have e18' := s19 _ _ e18
              refine iteT ⟨_, rfl, vs, e18', small1000 (by omega), same_mut (s18.trans s19) hD, _, fl ++ [p'], upd_same, ?_, by rw [List.length_append, List.length_singleton]; omega, fun p2 h2 => ?_⟩
              · exact PrsV.append ((hvs.same s19).mut e18') ⟨PrV.mut e18' ⟨T', rfl, s19 _ _ hT'⟩, trivial⟩
              · rcases List.mem_append.mp h2 with z | z
                · exact hfl p2 z
                · rw [List.mem_singleton.mp z]
                  exact ⟨pc, c1, c2⟩
        · rintro H18 ⟨s18, vs, fl, e18, hvs, lfl, hfl⟩
          have z18 := z17.trans s18
          refine ⟨_, rfl, ?_⟩
          dsimp (config := { proj := false }) only [tNoPart]
          refine ⟨1, rfl, D, _, rfl, SqL.of e18, fun FL hFL => ?_⟩
          have s20 : Same H18 (upd H18 FL (.lst (cutV vs none (some 1)))) := same_new hFL
          have e20 : (upd H18 FL (.lst (cutV vs none (some 1)))) FL = some (.lst (cutV vs none (some 1))) := upd_same
          generalize upd H18 FL (.lst (cutV vs none (some 1))) = H20 at s20 e20 ⊢
          refine ⟨FL, rfl, ⟨_, SqL.of e20⟩, ?_⟩
          refine for_list (K := K) (a := FL) (xs := cutV vs none (some 1)) (fun i σ H21 => ∃ o9 : Option V, σ = [some (.ref a), some (.ref p), some (.ref q), some (.ref t), some (.ref b), some (.ref rr), some (.int (C : Int)), some (.ref PA), o8, o9, some (.ref D), none] ∧ Same H20 H21)
            ⟨_, rfl, Same.refl _⟩ (fun i σ H21 _ ⟨_, _, z⟩ => SqL.of (z _ _ e20)) ?_ ?_
          · rintro i v σ H21 hv ⟨o9, rfl, s21⟩
            have hvm : v ∈ vs := by
              have := List.mem_of_getElem? hv
              unfold cutV at this
              exact List.mem_of_mem_drop (List.mem_of_mem_take this)
            obtain ⟨n', hn'⟩ := List.mem_iff_getElem?.mp hvm
            obtain ⟨p', hp', vp⟩ := hvs.get hn'
            obtain ⟨T', rfl, hT'⟩ := vp.same (s20.trans s21)
            obtain ⟨f1, f2, f3⟩ := hfl p' (List.mem_of_getElem? hp')
            have inp := inc p'.1 p'.2 f1
            have ne : p'.1 ≠ p'.2 := fun e => by
              have := (krc p'.1 p'.2 f1).2.2
              rw [e] at this
              exact Nat.lt_irrefl _ this
            have z21 := (z18.trans s20).trans s21
            refine ⟨_, rfl, _, rfl, _, rfl, T', _, (0 : Nat), .str p'.1, rfl, rfl, .inl (.inl hT'), atI_nat rfl, _, rfl, T', _, (1 : Nat), .str p'.2, rfl, rfl, .inl (.inl hT'), atI_nat rfl, ?_⟩
            refine ⟨q, t, p'.1, p'.2, us, hs, ys, rw0, ps, rfl, z21 _ _ eq8, hw8.same z21, oky, py, srt, l8, kr, prw, inp.1, inp.2, ne, f2, f3, fun H22 s22 => ⟨true, rfl, ?_⟩⟩
            exact iteF ⟨_, rfl, s21.trans s22⟩
          · rintro σ H21 ⟨o9, rfl, s21⟩
            have z21 := (z18.trans s20).trans s21
            have eq21 := z21 _ _ eq8
            refine ⟨_, rfl, _, rfl, _, rfl, _, rfl, q, _, rfl, .inl (SqL.of eq21), _, _, rfl, rfl, p, c, ((hs.length - 1 : Nat) : Int), _, by show [V.ref p, V.int ((((hs.map V.str).length : Nat) : Int) - 1)] = _; rw [lhm, show ((hs.length : Nat) : Int) - 1 = ((hs.length - 1 : Nat) : Int) by omega], hp8.keep z21, by omega, by omega, by omega, fun d2 H22 dd0 dd1 hp22 kp22 => ?_⟩
            obtain ⟨j2, rfl⟩ : ∃ j : Nat, d2 = j := ⟨d2.toNat, by omega⟩
            refine ⟨_, _, rfl, rfl, p, c, q, j2 + 1, _, hs, ys, by show [V.ref p, V.ref q, V.int ((1 : Int) + (j2 : Int))] = _; rw [show (1 : Int) + (j2 : Int) = ((j2 + 1 : Nat) : Int) by omega], kp22 q _ nqp eq21, hh4, py, srt, l8, by omega, by omega, hp22, by omega, fun H23 => k H23⟩
end
end Ah
set_option Elab.async false
set_option linter.all false
set_option maxRecDepth 100000
set_option maxHeartbeats 8000000
namespace Ah
open PySem PySem.Spec PyProof.Rows L2

theorem all_mk {l : PySem.W.OpenLaw} {w : World} {K : PySem.W.Frag} {h : Heap} {mg : Str → Option Value} {fa f1 f2 f3 f4 f5 f6 f7 f8 f9 f10 f11 f12 f13 f14 f15 f16 f17 f18 f19 f20 f21 f22 f23 f24 f25 f26 f27 f28 f29 f30 f31 f32 : Addr} (X : K.In h) (G : h.Ns mainGlobals mg) (hfa : mg "law" = some (.ref fa))
    {od1 an1 od2 an2 od3 an3 od4 an4 od5 an5 od6 an6 od7 an7 od8 an8 od9 an9 od10 an10 od11 an11 od12 an12 od13 an13 od14 an14 od15 an15 od16 an16 od17 an17 od18 an18 od19 an19 od20 an20 od21 an21 od22 an22 od23 an23 od24 an24 od25 an25 od26 an26 od27 an27 od28 an28 od29 an29 od30 an30 od31 an31 od32 an32 : Option Addr} {sl1 sl2 sl3 sl4 sl5 sl6 sl7 sl8 sl9 sl10 sl11 sl12 sl13 sl14 sl15 sl16 sl17 sl18 sl19 sl20 sl21 sl22 sl23 sl24 sl25 sl26 sl27 sl28 sl29 sl30 sl31 sl32 : Array (Option Value)} {oc1 kV1 dc1 pm1 cd1 ct1 oc2 kV2 dc2 pm2 cd2 ct2 oc3 kV3 dc3 pm3 cd3 ct3 oc4 kV4 dc4 pm4 cd4 ct4 oc5 kV5 dc5 pm5 cd5 ct5 oc6 kV6 dc6 pm6 cd6 ct6 oc7 kV7 dc7 pm7 cd7 ct7 oc8 kV8 dc8 pm8 cd8 ct8 oc9 kV9 dc9 pm9 cd9 ct9 oc10 kV10 dc10 pm10 cd10 ct10 oc11 kV11 dc11 pm11 cd11 ct11 oc12 kV12 dc12 pm12 cd12 ct12 oc13 kV13 dc13 pm13 cd13 ct13 oc14 kV14 dc14 pm14 cd14 ct14 oc15 kV15 dc15 pm15 cd15 ct15 oc16 kV16 dc16 pm16 cd16 ct16 oc17 kV17 dc17 pm17 cd17 ct17 oc18 kV18 dc18 pm18 cd18 ct18 oc19 kV19 dc19 pm19 cd19 ct19 oc20 kV20 dc20 pm20 cd20 ct20 oc21 kV21 dc21 pm21 cd21 ct21 oc22 kV22 dc22 pm22 cd22 ct22 oc23 kV23 dc23 pm23 cd23 ct23 oc24 kV24 dc24 pm24 cd24 ct24 oc25 kV25 dc25 pm25 cd25 ct25 oc26 kV26 dc26 pm26 cd26 ct26 oc27 kV27 dc27 pm27 cd27 ct27 oc28 kV28 dc28 pm28 cd28 ct28 oc29 kV29 dc29 pm29 cd29 ct29 oc30 kV30 dc30 pm30 cd30 ct30 oc31 kV31 dc31 pm31 cd31 ct31 oc32 kV32 dc32 pm32 cd32 ct32 : Value}
    (a1 : PySem.W.nsIn K mainGlobals "is_rising" = some (some (.ref f1)))
    (l1 : K.lookup f1 = some ⟨oc1, od1, .func (PySem.W.fnOf "is_rising" "is_rising" (defArgs sRising) (defBody sRising) (defScope sRising) .none kV1 dc1 pm1 an1 cd1 ct1), sl1⟩)
    (c1 : PySem.W.codeIn K cd1 "is_rising" = true)
    (k1 : PySem.W.keepIn K (.ref f1) = true)
    (a2 : PySem.W.nsIn K mainGlobals "sets_of" = some (some (.ref f2)))
    (l2 : K.lookup f2 = some ⟨oc2, od2, .func (PySem.W.fnOf "sets_of" "sets_of" (defArgs sSets) (defBody sSets) (defScope sSets) .none kV2 dc2 pm2 an2 cd2 ct2), sl2⟩)
    (c2 : PySem.W.codeIn K cd2 "sets_of" = true)
    (k2 : PySem.W.keepIn K (.ref f2) = true)
    (a3 : PySem.W.nsIn K mainGlobals "sets_at" = some (some (.ref f3)))
    (l3 : K.lookup f3 = some ⟨oc3, od3, .func (PySem.W.fnOf "sets_at" "sets_at" (defArgs sSetsAt) (defBody sSetsAt) (defScope sSetsAt) .none kV3 dc3 pm3 an3 cd3 ct3), sl3⟩)
    (c3 : PySem.W.codeIn K cd3 "sets_at" = true)
    (k3 : PySem.W.keepIn K (.ref f3) = true)
    (a4 : PySem.W.nsIn K mainGlobals "united" = some (some (.ref f4)))
    (l4 : K.lookup f4 = some ⟨oc4, od4, .func (PySem.W.fnOf "united" "united" (defArgs sUnited) (defBody sUnited) (defScope sUnited) .none kV4 dc4 pm4 an4 cd4 ct4), sl4⟩)
    (c4 : PySem.W.codeIn K cd4 "united" = true)
    (k4 : PySem.W.keepIn K (.ref f4) = true)
    (a5 : PySem.W.nsIn K mainGlobals "is_web" = some (some (.ref f5)))
    (l5 : K.lookup f5 = some ⟨oc5, od5, .func (PySem.W.fnOf "is_web" "is_web" (defArgs sIsWeb) (defBody sIsWeb) (defScope sIsWeb) .none kV5 dc5 pm5 an5 cd5 ct5), sl5⟩)
    (c5 : PySem.W.codeIn K cd5 "is_web" = true)
    (k5 : PySem.W.keepIn K (.ref f5) = true)
    (a6 : PySem.W.nsIn K mainGlobals "is_pair" = some (some (.ref f6)))
    (l6 : K.lookup f6 = some ⟨oc6, od6, .func (PySem.W.fnOf "is_pair" "is_pair" (defArgs sIsPair) (defBody sIsPair) (defScope sIsPair) .none kV6 dc6 pm6 an6 cd6 ct6), sl6⟩)
    (c6 : PySem.W.codeIn K cd6 "is_pair" = true)
    (k6 : PySem.W.keepIn K (.ref f6) = true)
    (a7 : PySem.W.nsIn K mainGlobals "check_web" = some (some (.ref f7)))
    (l7 : K.lookup f7 = some ⟨oc7, od7, .func (PySem.W.fnOf "check_web" "check_web" (defArgs sCheckWeb) (defBody sCheckWeb) (defScope sCheckWeb) .none kV7 dc7 pm7 an7 cd7 ct7), sl7⟩)
    (c7 : PySem.W.codeIn K cd7 "check_web" = true)
    (k7 : PySem.W.keepIn K (.ref f7) = true)
    (a8 : PySem.W.nsIn K mainGlobals "closed" = some (some (.ref f8)))
    (l8 : K.lookup f8 = some ⟨oc8, od8, .func (PySem.W.fnOf "closed" "closed" (defArgs sClosed) (defBody sClosed) (defScope sClosed) .none kV8 dc8 pm8 an8 cd8 ct8), sl8⟩)
    (c8 : PySem.W.codeIn K cd8 "closed" = true)
    (k8 : PySem.W.keepIn K (.ref f8) = true)
    (a9 : PySem.W.nsIn K mainGlobals "knotted_hands" = some (some (.ref f9)))
    (l9 : K.lookup f9 = some ⟨oc9, od9, .func (PySem.W.fnOf "knotted_hands" "knotted_hands" (defArgs sKnotted) (defBody sKnotted) (defScope sKnotted) .none kV9 dc9 pm9 an9 cd9 ct9), sl9⟩)
    (c9 : PySem.W.codeIn K cd9 "knotted_hands" = true)
    (k9 : PySem.W.keepIn K (.ref f9) = true)
    (a10 : PySem.W.nsIn K mainGlobals "told_ahead" = some (some (.ref f10)))
    (l10 : K.lookup f10 = some ⟨oc10, od10, .func (PySem.W.fnOf "told_ahead" "told_ahead" (defArgs sAhead) (defBody sAhead) (defScope sAhead) .none kV10 dc10 pm10 an10 cd10 ct10), sl10⟩)
    (c10 : PySem.W.codeIn K cd10 "told_ahead" = true)
    (k10 : PySem.W.keepIn K (.ref f10) = true)
    (a11 : PySem.W.nsIn K mainGlobals "heads" = some (some (.ref f11)))
    (l11 : K.lookup f11 = some ⟨oc11, od11, .func (PySem.W.fnOf "heads" "heads" (defArgs sHeads) (defBody sHeads) (defScope sHeads) .none kV11 dc11 pm11 an11 cd11 ct11), sl11⟩)
    (c11 : PySem.W.codeIn K cd11 "heads" = true)
    (k11 : PySem.W.keepIn K (.ref f11) = true)
    (a12 : PySem.W.nsIn K mainGlobals "has_all_ahead" = some (some (.ref f12)))
    (l12 : K.lookup f12 = some ⟨oc12, od12, .func (PySem.W.fnOf "has_all_ahead" "has_all_ahead" (defArgs sAllAhead) (defBody sAllAhead) (defScope sAllAhead) .none kV12 dc12 pm12 an12 cd12 ct12), sl12⟩)
    (c12 : PySem.W.codeIn K cd12 "has_all_ahead" = true)
    (k12 : PySem.W.keepIn K (.ref f12) = true)
    (a13 : PySem.W.nsIn K mainGlobals "free_behind" = some (some (.ref f13)))
    (l13 : K.lookup f13 = some ⟨oc13, od13, .func (PySem.W.fnOf "free_behind" "free_behind" (defArgs sFree) (defBody sFree) (defScope sFree) .none kV13 dc13 pm13 an13 cd13 ct13), sl13⟩)
    (c13 : PySem.W.codeIn K cd13 "free_behind" = true)
    (k13 : PySem.W.keepIn K (.ref f13) = true)
    (a14 : PySem.W.nsIn K mainGlobals "count_rows" = some (some (.ref f14)))
    (l14 : K.lookup f14 = some ⟨oc14, od14, .func (PySem.W.fnOf "count_rows" "count_rows" (defArgs sCount) (defBody sCount) (defScope sCount) .none kV14 dc14 pm14 an14 cd14 ct14), sl14⟩)
    (c14 : PySem.W.codeIn K cd14 "count_rows" = true)
    (k14 : PySem.W.keepIn K (.ref f14) = true)
    (a15 : PySem.W.nsIn K mainGlobals "orders_behind" = some (some (.ref f15)))
    (l15 : K.lookup f15 = some ⟨oc15, od15, .func (PySem.W.fnOf "orders_behind" "orders_behind" (defArgs sOrders) (defBody sOrders) (defScope sOrders) .none kV15 dc15 pm15 an15 cd15 ct15), sl15⟩)
    (c15 : PySem.W.codeIn K cd15 "orders_behind" = true)
    (k15 : PySem.W.keepIn K (.ref f15) = true)
    (a16 : PySem.W.nsIn K mainGlobals "_law_pen" = some (some (.ref f16)))
    (l16 : K.lookup f16 = some ⟨oc16, od16, .func (PySem.W.fnOf "_law_pen" "_law_pen" (defArgs sPen) (defBody sPen) (defScope sPen) .none kV16 dc16 pm16 an16 cd16 ct16), sl16⟩)
    (c16 : PySem.W.codeIn K cd16 "_law_pen" = true)
    (k16 : PySem.W.keepIn K (.ref f16) = true)
    (a17 : PySem.W.nsIn K mainGlobals "_law_draw" = some (some (.ref f17)))
    (l17 : K.lookup f17 = some ⟨oc17, od17, .func (PySem.W.fnOf "_law_draw" "_law_draw" (defArgs sDraw) (defBody sDraw) (defScope sDraw) .none kV17 dc17 pm17 an17 cd17 ct17), sl17⟩)
    (c17 : PySem.W.codeIn K cd17 "_law_draw" = true)
    (k17 : PySem.W.keepIn K (.ref f17) = true)
    (a18 : PySem.W.nsIn K mainGlobals "_law_pick" = some (some (.ref f18)))
    (l18 : K.lookup f18 = some ⟨oc18, od18, .func (PySem.W.fnOf "_law_pick" "_law_pick" (defArgs sPick) (defBody sPick) (defScope sPick) .none kV18 dc18 pm18 an18 cd18 ct18), sl18⟩)
    (c18 : PySem.W.codeIn K cd18 "_law_pick" = true)
    (k18 : PySem.W.keepIn K (.ref f18) = true)
    (a19 : PySem.W.nsIn K mainGlobals "_law_shuffled" = some (some (.ref f19)))
    (l19 : K.lookup f19 = some ⟨oc19, od19, .func (PySem.W.fnOf "_law_shuffled" "_law_shuffled" (defArgs sShuf) (defBody sShuf) (defScope sShuf) .none kV19 dc19 pm19 an19 cd19 ct19), sl19⟩)
    (c19 : PySem.W.codeIn K cd19 "_law_shuffled" = true)
    (k19 : PySem.W.keepIn K (.ref f19) = true)
    (a20 : PySem.W.nsIn K mainGlobals "_law_hands" = some (some (.ref f20)))
    (l20 : K.lookup f20 = some ⟨oc20, od20, .func (PySem.W.fnOf "_law_hands" "_law_hands" (defArgs sHands) (defBody sHands) (defScope sHands) .none kV20 dc20 pm20 an20 cd20 ct20), sl20⟩)
    (c20 : PySem.W.codeIn K cd20 "_law_hands" = true)
    (k20 : PySem.W.keepIn K (.ref f20) = true)
    (a21 : PySem.W.nsIn K mainGlobals "_law_row" = some (some (.ref f21)))
    (l21 : K.lookup f21 = some ⟨oc21, od21, .func (PySem.W.fnOf "_law_row" "_law_row" (defArgs sLawRow) (defBody sLawRow) (defScope sLawRow) .none kV21 dc21 pm21 an21 cd21 ct21), sl21⟩)
    (c21 : PySem.W.codeIn K cd21 "_law_row" = true)
    (k21 : PySem.W.keepIn K (.ref f21) = true)
    (a22 : PySem.W.nsIn K mainGlobals "_law_listed" = some (some (.ref f22)))
    (l22 : K.lookup f22 = some ⟨oc22, od22, .func (PySem.W.fnOf "_law_listed" "_law_listed" (defArgs sListed) (defBody sListed) (defScope sListed) .none kV22 dc22 pm22 an22 cd22 ct22), sl22⟩)
    (c22 : PySem.W.codeIn K cd22 "_law_listed" = true)
    (k22 : PySem.W.keepIn K (.ref f22) = true)
    (a23 : PySem.W.nsIn K mainGlobals "_law_is_number" = some (some (.ref f23)))
    (l23 : K.lookup f23 = some ⟨oc23, od23, .func (PySem.W.fnOf "_law_is_number" "_law_is_number" (defArgs sIsNumber) (defBody sIsNumber) (defScope sIsNumber) .none kV23 dc23 pm23 an23 cd23 ct23), sl23⟩)
    (c23 : PySem.W.codeIn K cd23 "_law_is_number" = true)
    (k23 : PySem.W.keepIn K (.ref f23) = true)
    (a24 : PySem.W.nsIn K mainGlobals "_law_pairs_of_row" = some (some (.ref f24)))
    (l24 : K.lookup f24 = some ⟨oc24, od24, .func (PySem.W.fnOf "_law_pairs_of_row" "_law_pairs_of_row" (defArgs sPairsRow) (defBody sPairsRow) (defScope sPairsRow) .none kV24 dc24 pm24 an24 cd24 ct24), sl24⟩)
    (c24 : PySem.W.codeIn K cd24 "_law_pairs_of_row" = true)
    (k24 : PySem.W.keepIn K (.ref f24) = true)
    (a25 : PySem.W.nsIn K mainGlobals "_law_closed" = some (some (.ref f25)))
    (l25 : K.lookup f25 = some ⟨oc25, od25, .func (PySem.W.fnOf "_law_closed" "_law_closed" (defArgs sLawClosed) (defBody sLawClosed) (defScope sLawClosed) .none kV25 dc25 pm25 an25 cd25 ct25), sl25⟩)
    (c25 : PySem.W.codeIn K cd25 "_law_closed" = true)
    (k25 : PySem.W.keepIn K (.ref f25) = true)
    (a26 : PySem.W.nsIn K mainGlobals "_law_web" = some (some (.ref f26)))
    (l26 : K.lookup f26 = some ⟨oc26, od26, .func (PySem.W.fnOf "_law_web" "_law_web" (defArgs sLawWeb) (defBody sLawWeb) (defScope sLawWeb) .none kV26 dc26 pm26 an26 cd26 ct26), sl26⟩)
    (c26 : PySem.W.codeIn K cd26 "_law_web" = true)
    (k26 : PySem.W.keepIn K (.ref f26) = true)
    (a27 : PySem.W.nsIn K mainGlobals "_law_less" = some (some (.ref f27)))
    (l27 : K.lookup f27 = some ⟨oc27, od27, .func (PySem.W.fnOf "_law_less" "_law_less" (defArgs sLess) (defBody sLess) (defScope sLess) .none kV27 dc27 pm27 an27 cd27 ct27), sl27⟩)
    (c27 : PySem.W.codeIn K cd27 "_law_less" = true)
    (k27 : PySem.W.keepIn K (.ref f27) = true)
    (a28 : PySem.W.nsIn K mainGlobals "_law_all_less" = some (some (.ref f28)))
    (l28 : K.lookup f28 = some ⟨oc28, od28, .func (PySem.W.fnOf "_law_all_less" "_law_all_less" (defArgs sAllLess) (defBody sAllLess) (defScope sAllLess) .none kV28 dc28 pm28 an28 cd28 ct28), sl28⟩)
    (c28 : PySem.W.codeIn K cd28 "_law_all_less" = true)
    (k28 : PySem.W.keepIn K (.ref f28) = true)
    (a29 : PySem.W.nsIn K mainGlobals "_law_picked" = some (some (.ref f29)))
    (l29 : K.lookup f29 = some ⟨oc29, od29, .func (PySem.W.fnOf "_law_picked" "_law_picked" (defArgs sPicked) (defBody sPicked) (defScope sPicked) .none kV29 dc29 pm29 an29 cd29 ct29), sl29⟩)
    (c29 : PySem.W.codeIn K cd29 "_law_picked" = true)
    (k29 : PySem.W.keepIn K (.ref f29) = true)
    (a30 : PySem.W.nsIn K mainGlobals "_law_parts_right" = some (some (.ref f30)))
    (l30 : K.lookup f30 = some ⟨oc30, od30, .func (PySem.W.fnOf "_law_parts_right" "_law_parts_right" (defArgs sParts) (defBody sParts) (defScope sParts) .none kV30 dc30 pm30 an30 cd30 ct30), sl30⟩)
    (c30 : PySem.W.codeIn K cd30 "_law_parts_right" = true)
    (k30 : PySem.W.keepIn K (.ref f30) = true)
    (a31 : PySem.W.nsIn K mainGlobals "_law_sides_right" = some (some (.ref f31)))
    (l31 : K.lookup f31 = some ⟨oc31, od31, .func (PySem.W.fnOf "_law_sides_right" "_law_sides_right" (defArgs sSides) (defBody sSides) (defScope sSides) .none kV31 dc31 pm31 an31 cd31 ct31), sl31⟩)
    (c31 : PySem.W.codeIn K cd31 "_law_sides_right" = true)
    (k31 : PySem.W.keepIn K (.ref f31) = true)
    (a32 : PySem.W.nsIn K mainGlobals "law" = some (some (.ref f32)))
    (l32 : K.lookup f32 = some ⟨oc32, od32, .func (PySem.W.fnOf "law" "law" (defArgs sLaw) (defBody sLaw) (defScope sLaw) .none kV32 dc32 pm32 an32 cd32 ct32), sl32⟩)
    (c32 : PySem.W.codeIn K cd32 "law" = true)
    (k32 : PySem.W.keepIn K (.ref f32) = true)
    (z_len : PySem.W.nsIn K mainGlobals "len" = some none)
    (z_abs : PySem.W.nsIn K mainGlobals "abs" = some none)
    (z_list : PySem.W.nsIn K mainGlobals "list" = some none)
    (z_isinstance : PySem.W.nsIn K mainGlobals "isinstance" = some none)
    (z_str : PySem.W.nsIn K mainGlobals "str" = some none)
    (z_tuple : PySem.W.nsIn K mainGlobals "tuple" = some none)
    (z_dict : PySem.W.nsIn K mainGlobals "dict" = some none)
    (z_all : PySem.W.nsIn K mainGlobals "all" = some none)
    (z_set : PySem.W.nsIn K mainGlobals "set" = some none)
    (z_enumerate : PySem.W.nsIn K mainGlobals "enumerate" = some none)
    (z_sorted : PySem.W.nsIn K mainGlobals "sorted" = some none)
    (z_range : PySem.W.nsIn K mainGlobals "range" = some none)
    (z_sum : PySem.W.nsIn K mainGlobals "sum" = some none)
    (z_int : PySem.W.nsIn K mainGlobals "int" = some none)
    (z_bool : PySem.W.nsIn K mainGlobals "bool" = some none) :
    ∃ fd : FuncData, (∀ (s : Shared) (v : Value), BindsTo s fd ⟨[v], []⟩ [("script", v)]) ∧ ∀ base : Heap, K.In base → base.Ns mainGlobals mg → FnOk l.prog w K mg base CX0 8 fa fd ["script"] (spLaw K) := by
  have e := hfa.symm.trans (PySem.W.mg_of X G a32)
  cases e
  have B1 : Blt mg := ⟨PySem.W.mg_none_of X G z_len, PySem.W.mg_none_of X G z_abs, PySem.W.mg_none_of X G z_list⟩
  have B2 : Blt2 mg := ⟨PySem.W.mg_none_of X G z_isinstance, PySem.W.mg_none_of X G z_str, PySem.W.mg_none_of X G z_list, PySem.W.mg_none_of X G z_tuple, PySem.W.mg_none_of X G z_dict, PySem.W.mg_none_of X G z_all, PySem.W.mg_none_of X G z_set, PySem.W.mg_none_of X G z_len, PySem.W.mg_none_of X G z_enumerate, PySem.W.mg_none_of X G z_sorted, PySem.W.mg_none_of X G z_range⟩
  have F1 := fun_mk (st := sRising) l1 c1 k1
  have b1 := F1.binds (ps := ["things"]) fun _ _ _ _ _ _ us hl => match us, hl with | [_], _ => rfl
  have F2 := fun_mk (st := sSets) l2 c2 k2
  have b2 := F2.binds (ps := ["hands"]) fun _ _ _ _ _ _ us hl => match us, hl with | [_], _ => rfl
  have F3 := fun_mk (st := sSetsAt) l3 c3 k3
  have b3 := F3.binds (ps := ["hands"]) fun _ _ _ _ _ _ us hl => match us, hl with | [_], _ => rfl
  have F4 := fun_mk (st := sUnited) l4 c4 k4
  have b4 := F4.binds (ps := ["one", "other"]) fun _ _ _ _ _ _ us hl => match us, hl with | [_, _], _ => rfl
  have F5 := fun_mk (st := sIsWeb) l5 c5 k5
  have b5 := F5.binds (ps := ["hands", "thing"]) fun _ _ _ _ _ _ us hl => match us, hl with | [_, _], _ => rfl
  have F6 := fun_mk (st := sIsPair) l6 c6 k6
  have b6 := F6.binds (ps := ["hands", "thing"]) fun _ _ _ _ _ _ us hl => match us, hl with | [_, _], _ => rfl
  have F7 := fun_mk (st := sCheckWeb) l7 c7 k7
  have b7 := F7.binds (ps := ["hands", "web"]) fun _ _ _ _ _ _ us hl => match us, hl with | [_, _], _ => rfl
  have F8 := fun_mk (st := sClosed) l8 c8 k8
  have b8 := F8.binds (ps := ["hands", "pairs"]) fun _ _ _ _ _ _ us hl => match us, hl with | [_, _], _ => rfl
  have F9 := fun_mk (st := sKnotted) l9 c9 k9
  have b9 := F9.binds (ps := ["hands", "pairs"]) fun _ _ _ _ _ _ us hl => match us, hl with | [_, _], _ => rfl
  have F10 := fun_mk (st := sAhead) l10 c10 k10
  have b10 := F10.binds (ps := ["hands", "pairs", "hand"]) fun _ _ _ _ _ _ us hl => match us, hl with | [_, _, _], _ => rfl
  have F11 := fun_mk (st := sHeads) l11 c11 k11
  have b11 := F11.binds (ps := ["hands", "web"]) fun _ _ _ _ _ _ us hl => match us, hl with | [_, _], _ => rfl
  have F12 := fun_mk (st := sAllAhead) l12 c12 k12
  have b12 := F12.binds (ps := ["web", "members"]) fun _ _ _ _ _ _ us hl => match us, hl with | [_, _], _ => rfl
  have F13 := fun_mk (st := sFree) l13 c13 k13
  have b13 := F13.binds (ps := ["hands", "web", "head"]) fun _ _ _ _ _ _ us hl => match us, hl with | [_, _, _], _ => rfl
  have F14 := fun_mk (st := sCount) l14 c14 k14
  have b14 := F14.binds (ps := ["hands", "web"]) fun _ _ _ _ _ _ us hl => match us, hl with | [_, _], _ => rfl
  have F15 := fun_mk (st := sOrders) l15 c15 k15
  have b15 := F15.binds (ps := ["hands", "web"]) fun _ _ _ _ _ _ us hl => match us, hl with | [_, _], _ => rfl
  have F16 := fun_mk (st := sPen) l16 c16 k16
  have b16 := F16.binds (ps := ["script"]) fun _ _ _ _ _ _ us hl => match us, hl with | [_], _ => rfl
  have F17 := fun_mk (st := sDraw) l17 c17 k17
  have b17 := F17.binds (ps := ["pen", "many"]) fun _ _ _ _ _ _ us hl => match us, hl with | [_, _], _ => rfl
  have F18 := fun_mk (st := sPick) l18 c18 k18
  have b18 := F18.binds (ps := ["pen", "some"]) fun _ _ _ _ _ _ us hl => match us, hl with | [_, _], _ => rfl
  have F19 := fun_mk (st := sShuf) l19 c19 k19
  have b19 := F19.binds (ps := ["pen", "some"]) fun _ _ _ _ _ _ us hl => match us, hl with | [_, _], _ => rfl
  have F20 := fun_mk (st := sHands) l20 c20 k20
  have b20 := F20.binds (ps := ["pen", "many"]) fun _ _ _ _ _ _ us hl => match us, hl with | [_, _], _ => rfl
  have F21 := fun_mk (st := sLawRow) l21 c21 k21
  have b21 := F21.binds (ps := ["pen", "hands"]) fun _ _ _ _ _ _ us hl => match us, hl with | [_, _], _ => rfl
  have F22 := fun_mk (st := sListed) l22 c22 k22
  have b22 := F22.binds (ps := ["pen", "hands"]) fun _ _ _ _ _ _ us hl => match us, hl with | [_, _], _ => rfl
  have F23 := fun_mk (st := sIsNumber) l23 c23 k23
  have b23 := F23.binds (ps := ["thing"]) fun _ _ _ _ _ _ us hl => match us, hl with | [_], _ => rfl
  have F24 := fun_mk (st := sPairsRow) l24 c24 k24
  have b24 := F24.binds (ps := ["pen", "row"]) fun _ _ _ _ _ _ us hl => match us, hl with | [_, _], _ => rfl
  have F25 := fun_mk (st := sLawClosed) l25 c25 k25
  have b25 := F25.binds (ps := ["pairs"]) fun _ _ _ _ _ _ us hl => match us, hl with | [_], _ => rfl
  have F26 := fun_mk (st := sLawWeb) l26 c26 k26
  have b26 := F26.binds (ps := ["pen", "hands"]) fun _ _ _ _ _ _ us hl => match us, hl with | [_, _], _ => rfl
  have F27 := fun_mk (st := sLess) l27 c27 k27
  have b27 := F27.binds (ps := ["web", "hand"]) fun _ _ _ _ _ _ us hl => match us, hl with | [_, _], _ => rfl
  have F28 := fun_mk (st := sAllLess) l28 c28 k28
  have b28 := F28.binds (ps := ["hands", "web", "side"]) fun _ _ _ _ _ _ us hl => match us, hl with | [_, _, _], _ => rfl
  have F29 := fun_mk (st := sPicked) l29 c29 k29
  have b29 := F29.binds (ps := ["many", "part"]) fun _ _ _ _ _ _ us hl => match us, hl with | [_, _], _ => rfl
  have F30 := fun_mk (st := sParts) l30 c30 k30
  have b30 := F30.binds (ps := ["pen", "hands", "part"]) fun _ _ _ _ _ _ us hl => match us, hl with | [_, _, _], _ => rfl
  have F31 := fun_mk (st := sSides) l31 c31 k31
  have b31 := F31.binds (ps := ["hands", "web", "one", "other"]) fun _ _ _ _ _ _ us hl => match us, hl with | [_, _, _, _], _ => rfl
  have F32 := fun_mk (st := sLaw) l32 c32 k32
  have b32 := F32.binds (ps := ["script"]) fun _ _ _ _ _ _ us hl => match us, hl with | [_], _ => rfl
  refine ⟨PySem.W.fnOf "law" "law" (defArgs sLaw) (defBody sLaw) (defScope sLaw) .none kV32 dc32 pm32 an32 cd32 ct32, fun s v => .of_eq rfl, fun base _ _ => ?_⟩
  have dNum : Df l.prog w K mg base CX0 "_law_is_number" 1 f23 _ ["thing"] spIsNumber := ⟨ok_isNumber F23 B2 (PySem.W.mg_none_of X G z_int) (PySem.W.mg_none_of X G z_bool), PySem.W.mg_of X G a23, k23, b23⟩
  have dRis : Df l.prog w K mg base CX0 "is_rising" 1 f1 _ ["things"] spRising := ⟨ok_rising F1 B2, PySem.W.mg_of X G a1, k1, b1⟩
  have dSetsAt : Df l.prog w K mg base CX0 "sets_at" 1 f3 _ ["hands"] spSetsAt := ⟨ok_setsAt F3 B2, PySem.W.mg_of X G a3, k3, b3⟩
  have dSets : Df l.prog w K mg base CX0 "sets_of" 2 f2 _ ["hands"] spSets := ⟨ok_sets F2 B2 dSetsAt, PySem.W.mg_of X G a2, k2, b2⟩
  have dUn : Df l.prog w K mg base CX0 "united" 1 f4 _ ["one", "other"] spUnited := ⟨ok_united F4 B2, PySem.W.mg_of X G a4, k4, b4⟩
  have dPair : Df l.prog w K mg base CX0 "is_pair" 1 f6 _ ["hands", "thing"] spIsPair := ⟨ok_isPair F6 B2, PySem.W.mg_of X G a6, k6, b6⟩
  have dWeb : Df l.prog w K mg base CX0 "is_web" 2 f5 _ ["hands", "thing"] spIsWeb := ⟨ok_isWeb F5 B2 dPair dRis, PySem.W.mg_of X G a5, k5, b5⟩
  have dCW : Df l.prog w K mg base CX0 "check_web" 3 f7 _ ["hands", "web"] spCheckWeb := ⟨ok_checkWeb F7 dWeb, PySem.W.mg_of X G a7, k7, b7⟩
  have dAhead : Df l.prog w K mg base CX0 "told_ahead" 1 f10 _ ["hands", "pairs", "hand"] spAhead := ⟨ok_ahead F10, PySem.W.mg_of X G a10, k10, b10⟩
  have dKn : Df l.prog w K mg base CX0 "knotted_hands" 2 f9 _ ["hands", "pairs"] spKnotted := ⟨ok_knotted F9 B2 dAhead, PySem.W.mg_of X G a9, k9, b9⟩
  have dCl : Df l.prog w K mg base CX0 "closed" 3 f8 _ ["hands", "pairs"] spClosed := ⟨ok_closed F8 B2 dKn, PySem.W.mg_of X G a8, k8, b8⟩
  have dAA : Df l.prog w K mg base CX0 "has_all_ahead" 1 f12 _ ["web", "members"] spAllAhead := ⟨ok_allAhead F12 B2, PySem.W.mg_of X G a12, k12, b12⟩
  have dHeads : Df l.prog w K mg base CX0 "heads" 4 f11 _ ["hands", "web"] spHeads := ⟨ok_heads F11 dCW dSets dAA, PySem.W.mg_of X G a11, k11, b11⟩
  have dFree : Df l.prog w K mg base CX0 "free_behind" 1 f13 _ ["hands", "web", "head"] spFree := ⟨ok_free F13 B2, PySem.W.mg_of X G a13, k13, b13⟩
  have dOrd : Df l.prog w K mg base CX0 "orders_behind" 5 f15 _ ["hands", "web"] spOrders := ⟨ok_orders F15 B2 (PySem.W.mg_none_of X G z_sum) dHeads dFree dUn, PySem.W.mg_of X G a15, k15, b15⟩
  have dCount : Df l.prog w K mg base CX0 "count_rows" 6 f14 _ ["hands", "web"] spCount := ⟨ok_count F14 dOrd, PySem.W.mg_of X G a14, k14, b14⟩
  have dPen : Df l.prog w K mg base CX0 "_law_pen" 1 f16 _ ["script"] (spPen K) := ⟨ok_pen F16 B2, PySem.W.mg_of X G a16, k16, b16⟩
  have dDraw : Df l.prog w K mg base CX0 "_law_draw" 1 f17 _ ["pen", "many"] spDraw := ⟨ok_draw F17 B1, PySem.W.mg_of X G a17, k17, b17⟩
  have dPick : Df l.prog w K mg base CX0 "_law_pick" 2 f18 _ ["pen", "some"] (spPick K) := ⟨ok_pick F18 B1 dDraw, PySem.W.mg_of X G a18, k18, b18⟩
  have dShuf : Df l.prog w K mg base CX0 "_law_shuffled" 2 f19 _ ["pen", "some"] (spShuf K) := ⟨ok_shuf F19 B1 dDraw, PySem.W.mg_of X G a19, k19, b19⟩
  have dHands : Df l.prog w K mg base CX0 "_law_hands" 3 f20 _ ["pen", "many"] (spHands K) := ⟨ok_hands F20 B1 B2.range dDraw dPick, PySem.W.mg_of X G a20, k20, b20⟩
  have dRow : Df l.prog w K mg base CX0 "_law_row" 3 f21 _ ["pen", "hands"] spLawRow := ⟨ok_lawRow F21 B2 dShuf, PySem.W.mg_of X G a21, k21, b21⟩
  have dList : Df l.prog w K mg base CX0 "_law_listed" 3 f22 _ ["pen", "hands"] spListed := ⟨ok_listed F22 B2 dDraw dShuf, PySem.W.mg_of X G a22, k22, b22⟩
  have dPR : Df l.prog w K mg base CX0 "_law_pairs_of_row" 3 f24 _ ["pen", "row"] spPairsRow := ⟨ok_pairsRow F24 B2 dDraw dPick, PySem.W.mg_of X G a24, k24, b24⟩
  have dLC : Df l.prog w K mg base CX0 "_law_closed" 1 f25 _ ["pairs"] spLawClosed := ⟨ok_lawClosed F25 B2, PySem.W.mg_of X G a25, k25, b25⟩
  have dLW : Df l.prog w K mg base CX0 "_law_web" 4 f26 _ ["pen", "hands"] spLawWeb := ⟨ok_lawWeb F26 dLC dPR dRow, PySem.W.mg_of X G a26, k26, b26⟩
  have dLess : Df l.prog w K mg base CX0 "_law_less" 1 f27 _ ["web", "hand"] spLess := ⟨ok_less F27 B2, PySem.W.mg_of X G a27, k27, b27⟩
  have dAL : Df l.prog w K mg base CX0 "_law_all_less" 7 f28 _ ["hands", "web", "side"] spAllLess := ⟨ok_allLess F28 dCount dLess, PySem.W.mg_of X G a28, k28, b28⟩
  have dPk : Df l.prog w K mg base CX0 "_law_picked" 1 f29 _ ["many", "part"] spPicked := ⟨ok_picked F29 B2, PySem.W.mg_of X G a29, k29, b29⟩
  have dParts : Df l.prog w K mg base CX0 "_law_parts_right" 7 f30 _ ["pen", "hands", "part"] spParts := ⟨ok_parts F30 B2 dLW dCount dPk, PySem.W.mg_of X G a30, k30, b30⟩
  have dSides : Df l.prog w K mg base CX0 "_law_sides_right" 7 f31 _ ["hands", "web", "one", "other"] spSides := ⟨ok_sides F31 dCount dCl, PySem.W.mg_of X G a31, k31, b31⟩
  exact ok_law F32 B2 ⟨dPen, dDraw, dHands, dLW, dList, dRow, dCount, dNum, dAL, dSides, dParts⟩
theorem walk {l : PySem.W.OpenLaw} {q : Program} {loose : List Str} {XP : (Str → Option Value) → Heap → Prop} {YP : World → Heap → Prop} {d : DefRec} {K : Params → PySem.W.Frag} (hn : l.most = some 63) (hdf : d.params.defaults = [])
    (hY : ∀ (w : World) (h : Heap), YP w h → (K w.params).In h)
    (F : ∀ (w : World) (mg : Str → Option Value) (fa : Addr) (h : Heap), (K w.params).In h → h.Ns mainGlobals mg → mg d.name = some (.ref fa) →
      ∃ fd : FuncData, (∀ (s : Shared) (u : Value), BindsTo s fd ⟨[u], []⟩ [("script", u)]) ∧ ∀ base : Heap, (K w.params).In base → base.Ns mainGlobals mg → FnOk l.prog w (K w.params) mg base CX0 8 fa fd ["script"] (spLaw (K w.params))) :
    PySem.W.WalkO q loose XP YP l.row.toRowW d [] (fun f vs => PySem.call f vs) :=
  L2.walk_of (n := 63) (k := 8) (x := "script") (CX := fun _ => CX0) (sp := fun w => spLaw (K w.params)) hn (by decide) hdf ⟨rfl, by decide, by decide⟩ hY F (fun _ _ a ns hl _ hS => ⟨a, ns, rfl, hS, hl, fun _ => rfl⟩) fun _ _ _ _ _ z => z
end Ah
open PySem PySem.W PyProof.Rows in
set_option maxRecDepth 100000 in
set_option maxHeartbeats 0 in
theorem PySem.Challenge.cw_aheadbook_k39_whole_rows_counted_at_any_holds : PySem.Challenge.rw_aheadbook_k39_whole_rows_counted_at_any.Holds := by
  w_on; o_law; k_head; (case hw => w_witness2)
  k_fill
  refine Ah.walk (l := PySem.Challenge.rw_aheadbook_k39_whole_rows_counted_at_any) rfl rfl (fun w h Y => PySem.W.kIn_of Y) ?F
  case F =>
    intro w mg fa h KX G hmg
    refine' Ah.all_mk KX G hmg ?a1 ?l1 ?c1 ?k1 ?a2 ?l2 ?c2 ?k2 ?a3 ?l3 ?c3 ?k3 ?a4 ?l4 ?c4 ?k4 ?a5 ?l5 ?c5 ?k5 ?a6 ?l6 ?c6 ?k6 ?a7 ?l7 ?c7 ?k7 ?a8 ?l8 ?c8 ?k8 ?a9 ?l9 ?c9 ?k9 ?a10 ?l10 ?c10 ?k10 ?a11 ?l11 ?c11 ?k11 ?a12 ?l12 ?c12 ?k12 ?a13 ?l13 ?c13 ?k13 ?a14 ?l14 ?c14 ?k14 ?a15 ?l15 ?c15 ?k15 ?a16 ?l16 ?c16 ?k16 ?a17 ?l17 ?c17 ?k17 ?a18 ?l18 ?c18 ?k18 ?a19 ?l19 ?c19 ?k19 ?a20 ?l20 ?c20 ?k20 ?a21 ?l21 ?c21 ?k21 ?a22 ?l22 ?c22 ?k22 ?a23 ?l23 ?c23 ?k23 ?a24 ?l24 ?c24 ?k24 ?a25 ?l25 ?c25 ?k25 ?a26 ?l26 ?c26 ?k26 ?a27 ?l27 ?c27 ?k27 ?a28 ?l28 ?c28 ?k28 ?a29 ?l29 ?c29 ?k29 ?a30 ?l30 ?c30 ?k30 ?a31 ?l31 ?c31 ?k31 ?a32 ?l32 ?c32 ?k32 ?z_len ?z_abs ?z_list ?z_isinstance ?z_str ?z_tuple ?z_dict ?z_all ?z_set ?z_enumerate ?z_sorted ?z_range ?z_sum ?z_int ?z_bool
    (case a1 => k_is)
    (case l1 => k_is)
    (case c1 => k_is)
    (case k1 => k_is)
    (case a2 => k_is)
    (case l2 => k_is)
    (case c2 => k_is)
    (case k2 => k_is)
    (case a3 => k_is)
    (case l3 => k_is)
    (case c3 => k_is)
    (case k3 => k_is)
    (case a4 => k_is)
    (case l4 => k_is)
    (case c4 => k_is)
    (case k4 => k_is)
    (case a5 => k_is)
    (case l5 => k_is)
    (case c5 => k_is)
    (case k5 => k_is)
    (case a6 => k_is)
    (case l6 => k_is)
    (case c6 => k_is)
    (case k6 => k_is)
    (case a7 => k_is)
    (case l7 => k_is)
    (case c7 => k_is)
    (case k7 => k_is)
    (case a8 => k_is)
    (case l8 => k_is)
    (case c8 => k_is)
    (case k8 => k_is)
    (case a9 => k_is)
    (case l9 => k_is)
    (case c9 => k_is)
    (case k9 => k_is)
    (case a10 => k_is)
    (case l10 => k_is)
    (case c10 => k_is)
    (case k10 => k_is)
    (case a11 => k_is)
    (case l11 => k_is)
    (case c11 => k_is)
    (case k11 => k_is)
    (case a12 => k_is)
    (case l12 => k_is)
    (case c12 => k_is)
    (case k12 => k_is)
    (case a13 => k_is)
    (case l13 => k_is)
    (case c13 => k_is)
    (case k13 => k_is)
    (case a14 => k_is)
    (case l14 => k_is)
    (case c14 => k_is)
    (case k14 => k_is)
    (case a15 => k_is)
    (case l15 => k_is)
    (case c15 => k_is)
    (case k15 => k_is)
    (case a16 => k_is)
    (case l16 => k_is)
    (case c16 => k_is)
    (case k16 => k_is)
    (case a17 => k_is)
    (case l17 => k_is)
    (case c17 => k_is)
    (case k17 => k_is)
    (case a18 => k_is)
    (case l18 => k_is)
    (case c18 => k_is)
    (case k18 => k_is)
    (case a19 => k_is)
    (case l19 => k_is)
    (case c19 => k_is)
    (case k19 => k_is)
    (case a20 => k_is)
    (case l20 => k_is)
    (case c20 => k_is)
    (case k20 => k_is)
    (case a21 => k_is)
    (case l21 => k_is)
    (case c21 => k_is)
    (case k21 => k_is)
    (case a22 => k_is)
    (case l22 => k_is)
    (case c22 => k_is)
    (case k22 => k_is)
    (case a23 => k_is)
    (case l23 => k_is)
    (case c23 => k_is)
    (case k23 => k_is)
    (case a24 => k_is)
    (case l24 => k_is)
    (case c24 => k_is)
    (case k24 => k_is)
    (case a25 => k_is)
    (case l25 => k_is)
    (case c25 => k_is)
    (case k25 => k_is)
    (case a26 => k_is)
    (case l26 => k_is)
    (case c26 => k_is)
    (case k26 => k_is)
    (case a27 => k_is)
    (case l27 => k_is)
    (case c27 => k_is)
    (case k27 => k_is)
    (case a28 => k_is)
    (case l28 => k_is)
    (case c28 => k_is)
    (case k28 => k_is)
    (case a29 => k_is)
    (case l29 => k_is)
    (case c29 => k_is)
    (case k29 => k_is)
    (case a30 => k_is)
    (case l30 => k_is)
    (case c30 => k_is)
    (case k30 => k_is)
    (case a31 => k_is)
    (case l31 => k_is)
    (case c31 => k_is)
    (case k31 => k_is)
    (case a32 => k_is)
    (case l32 => k_is)
    (case c32 => k_is)
    (case k32 => k_is)
    (case z_len => k_is)
    (case z_abs => k_is)
    (case z_list => k_is)
    (case z_isinstance => k_is)
    (case z_str => k_is)
    (case z_tuple => k_is)
    (case z_dict => k_is)
    (case z_all => k_is)
    (case z_set => k_is)
    (case z_enumerate => k_is)
    (case z_sorted => k_is)
    (case z_range => k_is)
    (case z_sum => k_is)
    (case z_int => k_is)
    (case z_bool => k_is)
