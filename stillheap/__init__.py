"""Stillheap: programs that see nothing of their collectors."""
