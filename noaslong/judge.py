"""The judge, who takes a paper just where it is right, and knows nothing of how it was found."""

from noaslong.carrying import carries
from noaslong.errors import NoTold
from noaslong.heaps import but, common, is_heap
from noaslong.rings import is_fence


def is_right(yard, told, paper):
    """Whether this, of anything, is a right paper for the last answer of what was told; NoTold, of nothing too."""
    check_told(yard, told)
    if not told:
        raise NoTold("nothing was told")
    return is_paper(yard, paper) and is_right_for_last(yard, told, paper)


def are_right(yard, told, papers):
    """Whether this, of anything, is a list of as many papers as answers, each right for its answer; NoTold."""
    check_told(yard, told)
    if not isinstance(papers, list) or len(papers) != len(told):
        return False
    return all([is_right(yard, told[:at + 1], paper) for at, paper in enumerate(papers)])


def check_told(yard, told):
    """NoTold, where this, of anything, is no list of answers, each thing at most once."""
    if not isinstance(told, list) or not all([is_answer(answer) for answer in told]):
        raise NoTold("no list of things and answers")
    if not is_heap([thing for thing, answer in told], yard.many()):
        raise NoTold("no things of the yard, each at most once")


def is_answer(answer):
    """Whether this, of anything, is a tuple of two, the second one a truth."""
    return isinstance(answer, tuple) and len(answer) == 2 and isinstance(answer[1], bool)


def is_paper(yard, paper):
    """Whether this, of anything, is a tuple of one of the two words and a heap."""
    if not isinstance(paper, tuple) or len(paper) != 2:
        return False
    word, heap = paper
    return isinstance(word, str) and word in ("fence", "ring") and is_heap(heap, yard.many())


def is_right_for_last(yard, told, paper):
    """Whether the paper is right for the last one of the answers told."""
    thing, answer = told[-1]
    word, heap = paper
    # The word for the other answer is wrong, whatever the heap.
    if thing not in heap or answer != (word == "fence"):
        return False
    others = but(heap, [thing])
    told_no = [one for one, truth in told if not truth]
    if answer:
        return is_fence(yard, heap) and but(others, told_no) == []
    return carries(yard, others, thing) and common(others, told_no) == []
