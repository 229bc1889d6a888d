"""Calls of joins, posts, and of each method of a session and a desk that takes something."""

from straightleast import joins, posts
from straightleast.desk import Desk
from straightleast.errors import (
    BadCommand, BadHouses, BadIndex, BadIndexes, BadNumber, BadPosts, BadSizes, BadSquare, BadTable, BadTree,
    NotStraight,
)
from straightleast.session import Session

from tests.calls import ALONE, CROSSED, LEFT_OVER, STRAIGHT, TALL_STRAIGHT, arg, call, index, number, straight
from tests.samples import FAR, Q, spoiled

JOINED = ((9, 5, 3, 8), (7, 9, 2, 6), (1, 0, 9, 4), (2, 2, 2, 9))
HOUSES = (0, 1, 5, 6)


def places():
    """A square table of two places or more, straight or not."""
    faults = [(BadTable, (JOINED[0],) * 9), (BadSquare, TALL_STRAIGHT), (BadSquare, LEFT_OVER), ALONE]
    return arg(JOINED, BadTable, *faults)


def tree(right, error, *more):
    """A join tree; what is wrong of it is a tree no longer, not one of other things."""
    wrong = [thing for thing in spoiled(right) if not isinstance(thing, int) or isinstance(thing, bool)]
    return (right, [(error, thing) for thing in wrong] + [(error, thing) for thing in more])


def houses():
    faults = [(BadHouses, ()), (BadHouses, (0,) * 8), (BadHouses, (1, 0)), (BadHouses, (0, 10 ** 12 + 1))]
    return arg(HOUSES, BadHouses, *faults, (BadHouses, (0, FAR)), (BadHouses, (-FAR, 0)))


def chosen(right):
    return arg(right, BadPosts, (BadPosts, ()), (BadPosts, (1, 1)), (BadPosts, (2, 1)), (BadPosts, (0, 4)))


WRONG_TREES = (3, -1, FAR, (1, 0), (0, 0), (0, 2), (2, 3), (0, (1, 3)), (0, 1, 2), (0,), ())

STAGE_5 = [
    call(joins.join_cost, 11, table=places(), tree=tree(((0, 1), 2), BadTree, *WRONG_TREES)),
    call(
        joins.is_join_tree, True, table=places(),
        thing=tree(((0, 1), 2), None, *WRONG_TREES, 0, 2, (0, 1), (1, 2)),
    ),
    call(joins.join_trees, [(0, (1, 2)), ((0, 1), 2)], count=number(3, 1, 7)),
    call(joins.grows, False, table=places()),
    call(joins.least_joins, [[0, 3, 11], [0, 6], [0]], table=places()),
    call(joins.splits, [[None, 1, 2], [None, 2], [None]], table=places()),
    call(joins.last_splits, [[None, 1, 2], [None, 2], [None]], table=places()),
    call(joins.best_joins, (11, ((0, 1), 2)), table=places()),
    call(joins.count_best_joins, 1, table=places()),
    call(posts.posts_cost, 2, houses=houses(), posts=chosen((1, 2))),
    call(posts.post_stretches, [(0, 2), (2, 4)], houses=houses(), posts=chosen((1, 2))),
    call(posts.stretch_cost, (5, 1), houses=houses(), first=index(0, 0, 3), end=index(3, 1, 4)),
    call(posts.best_posts, (2, (0, 2)), houses=houses(), count=number(2, 1, 4)),
    call(posts.post_sums, [10, 2, 1, 0], houses=houses()),
    call(posts.posts_at_price, (2, 8), houses=houses(), price=arg(3, BadNumber)),
    call(
        posts.stretch_table,
        ((0, 0, 1, 5, 10), (0, 0, 0, 4, 5), (0, 0, 0, 0, 1), (0, 0, 0, 0, 0), (0, 0, 0, 0, 0)), houses=houses(),
    ),
]


def on_session(name):
    """The method of a session of its own, which tells the table behind it too."""
    def told_session(*told, **by_name):
        held = Session(STRAIGHT)
        found = getattr(held, name)(*told, **by_name)
        return (found, held.table())
    return told_session


def begun(*told, **by_name):
    return Session(*told, **by_name).table()


def said(*told, **by_name):
    return Desk().say(*told, **by_name)


def indexes(right):
    return arg(right, BadIndexes, (BadIndexes, ()), (BadIndexes, right[::-1] + right), (BadIndexes, (FAR,)))


def any_number(right, *more):
    return arg(right, BadNumber, *more)


# The session holds STRAIGHT, ((0, 2, 5), (1, 1, 3)).
METHODS = [
    call(begun, STRAIGHT, table=straight()),
    call(
        on_session("lift_row"), (None, ((0, 2, 5), (8, 8, 10))), row=index(1, 0, 1), number=any_number(7),
    ),
    call(
        on_session("lift_column"), (None, ((0, 2, 2), (1, 1, 0))), column=index(2, 0, 2), number=any_number(-3),
    ),
    call(
        on_session("change"), (None, ((0, 2, 5), (1, 1, 4))), row=index(1, 0, 1), column=index(2, 0, 2),
        number=any_number(4, (NotStraight, 5), (NotStraight, FAR)),
    ),
    call(on_session("thin"), (None, ((0, 5), (1, 3))), rows=indexes((0, 1)), columns=indexes((0, 2))),
    call(
        on_session("add"), (None, ((0, 4, 10), (2, 2, 6))),
        table=arg(
            STRAIGHT, BadTable, (BadTable, (STRAIGHT[0],) * 9), (NotStraight, CROSSED), (NotStraight, LEFT_OVER),
            (BadSizes, TALL_STRAIGHT), (BadSizes, Q), (BadSizes, ((0,),)),
        ),
    ),
    call(on_session("pairs"), ((1, (0, 1), (0, 1)), STRAIGHT), count=number(2, 0, 2)),
    call(on_session("room"), ((1, None), STRAIGHT), row=index(0, 0, 1), column=index(2, 0, 2)),
    call(
        said, "1 0 1 4",
        row=("row 1", [(BadCommand, wrong) for wrong in (
            None, True, 1, "", "row", "row 1 ", " row 1", ["row 1"], ("row 1",), {"row 1": 1}, b"row 1",
        )] + [(BadIndex, "row 4")]),
    ),
]
