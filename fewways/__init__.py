"""Fewways: webs parted to fewest ways."""
