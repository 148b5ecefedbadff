"""The links that a machine's hall keeps of chains, to find their ends without going over all of them each time.

A link is one handing on, told as the number of the giver that hands on, and how often it had done so then.
"""


def is_standing(givers, link):
    """Whether the handing on is still there: the giver may have gone on since, and handed on anew."""
    giver = givers[link[0]]
    return giver.inner is not None and giver.handed == link[1]


def mend_links(givers, k):
    """Mends giver k's row of links, so that it leads to the end of its chain; tells how many went off or on."""
    giver = givers[k]
    links = list(giver.links)
    changes = 0
    # No link can be gone ahead of one that stands: who goes on does so behind one that has ended.
    while len(links) > 0 and not is_standing(givers, links[-1]):
        links.pop()
        changes += 1
    last = k if len(links) == 0 else givers[links[-1][0]].inner
    while givers[last].inner is not None:
        links.append((last, givers[last].handed))
        changes += 1
        last = givers[last].inner
    giver.links = tuple(links)
    return changes


def chain_linked(givers, k):
    """The chain of giver k, whose links all stand."""
    return [k] + [givers[link[0]].inner for link in givers[k].links]
