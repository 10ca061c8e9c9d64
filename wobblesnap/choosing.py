"""The cheapest changes of a book and a plan by which all wishes are sure."""

from wobblesnap.books import Book
from wobblesnap.errors import BadBook, BadOffers, BadPlan, TooMany
from wobblesnap.forms import is_integer, is_just
from wobblesnap.judging import are_sure_trees, is_failing_one, trees_or_failing
from wobblesnap.plans import Plan
from wobblesnap.wishes import check_free_wishes, is_wish

MOST_OFFERS = 4
GREATEST_PRICE = 9


def cheapest(book, plan, offers, wishes):
    """("choice", price, choice, trees, reasons) by which all wishes are sure, or ("none", reasons)."""
    check_offers(book, plan, offers)
    check_free_wishes(wishes)
    reasons = []
    for choice in choices_of(offers):
        judged = judged_by(book, plan, choice, wishes)
        if judged is None:
            continue
        trees, number, hands = judged
        if trees is not None:
            return "choice", price_of(choice), choice, trees, tuple(reasons)
        reasons.append((choice, number, hands))
    return "none", tuple(reasons)


def shows_cheapest(book, plan, offers, wishes, value):
    """Whether any value is a right answer of cheapest."""
    told = cheapest(book, plan, offers, wishes)
    if not isinstance(value, tuple) or len(value) != len(told) or not is_just(value[0], told[0]):
        return False
    if not are_reasons(book, plan, wishes, told[-1], value[-1]):
        return False
    if told[0] == "none":
        return True
    _, price, choice, _, _ = told
    if not is_just(value[1:3], (price, choice)):
        return False
    other, changed = changed_by(book, plan, choice)
    return are_sure_trees(other, changed, wishes, value[3])


def check_offers(book, plan, value):
    """Refuse any value that is no ascending tuple of one to four offers."""
    if not isinstance(value, tuple) or not 1 <= len(value) <= MOST_OFFERS:
        raise BadOffers(value)
    if not all([is_offer(book, plan, offer) for offer in value]):
        raise BadOffers(value)
    if not all([elder < offer for elder, offer in zip(value, value[1:])]):
        raise BadOffers(value)


def is_offer(book, plan, value):
    """Whether any value is an offer for this book and this plan."""
    if not isinstance(value, tuple) or len(value) != 4:
        return False
    what, line, text, price = value
    if not isinstance(what, str) or not is_integer(line) or not isinstance(text, str) or not is_integer(price):
        return False
    if not 1 <= price <= GREATEST_PRICE:
        return False
    if what == "book":
        return 1 <= line <= count_lines(book.text)
    return what == "plan" and 1 <= line <= count_lines(plan.text)


def count_lines(text):
    """How many lines a text has."""
    return text.count("\n") + 1


def choices_of(offers):
    """The list of all choices, in sequence."""
    found = [()]
    for offer in offers:
        # Offers for one line of one text differ only in what stands behind its number.
        free = [choice for choice in found if offer[:2] not in [elder[:2] for elder in choice]]
        found = found + [choice + (offer,) for choice in free]
    ranks = sorted([(price_of(choice), len(choice), choice) for choice in found])
    return [choice for _, _, choice in ranks]


def price_of(choice):
    """The price of all offers of a choice."""
    return sum([offer[3] for offer in choice])


def judged_by(book, plan, choice, wishes):
    """(trees, None, None), or (None, number, hands) of the first wish that fails; None if the choice does not count."""
    changed = changed_by(book, plan, choice)
    if changed is None or not all([is_wish(changed[1].points, wish) for wish in wishes]):
        return None
    try:
        return trees_or_failing(changed[0], changed[1], wishes)
    except TooMany:
        return None


def changed_by(book, plan, choice):
    """The (book, plan) that a choice makes of these, or None if there is no such book or no such plan."""
    try:
        return Book(changed_text("book", book.text, choice)), Plan(changed_text("plan", plan.text, choice))
    except (BadBook, BadPlan):
        return None


def changed_text(what, text, choice):
    """The text of a book, or of a plan, with the lines of a choice in place of its own ones."""
    lines = text.split("\n")
    for kind, line, other, _ in choice:
        if kind == what:
            lines[line - 1] = other
    # No line of a book or of a plan is empty: so these are the ones that are left out.
    return "\n".join([line for line in lines if line != ""])


def are_reasons(book, plan, wishes, told, value):
    """Whether any value tells of each of the told choices a wish that fails, and hands by which it does."""
    if not isinstance(value, tuple) or len(value) != len(told):
        return False
    return all([is_reason(book, plan, wishes, choice, reason) for (choice, _, _), reason in zip(told, value)])


def is_reason(book, plan, wishes, choice, value):
    """Whether any value tells of this choice the number of a wish that fails, and hands by which it does."""
    if not isinstance(value, tuple) or len(value) != 3 or not is_just(value[0], choice):
        return False
    other, changed = changed_by(book, plan, choice)
    return is_failing_one(other, changed, wishes, value[1], value[2])
