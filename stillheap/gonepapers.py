"""Papers of what went in a great round: what was reached or read back, and all other things."""

from stillheap.cuts import paper_judged, reach_paper


def round_paper(view, read):
    rooted = rooted_view(view, read)
    triples = reach_paper(rooted)
    return (triples, things_without(view, triples))


def round_judged(view, read, paper):
    rooted = rooted_view(view, read)
    return paper_judged(rooted, paper[0]) and list(paper[1]) == things_without(view, paper[0])


# The view with the things read back, each once, as roots behind its own. It is
# a view just where the one handed in is one and has them all: so it alone is
# looked at, by whoever takes it.
def rooted_view(view, read):
    given_back = {}
    for thing in read:
        given_back[thing] = True
    return (view[0] + sorted(given_back), view[1])


def things_without(view, triples):
    kept = {}
    for triple in triples:
        kept[triple[0]] = True
    return [t for t in sorted(view[1]) if t not in kept]
