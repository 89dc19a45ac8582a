"""Heaps: lists in which no item is less than the one at half its place, so the first one is the least."""


def push(heap, item):
    heap.append(item)
    at = len(heap) - 1
    while at > 0 and item < heap[(at - 1) // 2]:
        heap[at] = heap[(at - 1) // 2]
        at = (at - 1) // 2
    heap[at] = item


def take_least(heap):
    """Take the least item out of a heap that has one."""
    least = heap[0]
    item = heap[-1]
    del heap[-1]
    if len(heap) > 0:
        sink(heap, item)
    return least


def sink(heap, item):
    """Put the item into the heap in place of its first one."""
    at = 0
    below = 1
    while below < len(heap):
        if below + 1 < len(heap) and heap[below + 1] < heap[below]:
            below = below + 1
        if not heap[below] < item:
            break
        heap[at] = heap[below]
        at = below
        below = 2 * at + 1
    heap[at] = item
